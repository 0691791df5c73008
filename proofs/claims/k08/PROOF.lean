import PyProof.Rows.All
import Wide.All
import OpenK.AllK
import Wide.FinOn
import HandS.ForMost
import HandS.Exc
import HandS.WordsExc
import HandS.TupAny
import HandS.Flow
import HandS.Wide
import HandS.IsInst
import HandS.Lambda
import HandS.CallSlots
import HandS.Deep
import HandS.Style
import HandS.RaiseMore
import HandS.Property
import HandS.ClsMeth
import HandS.Star
import HandS.Dict
import HandS.Small
import HandS.TupLen
import HandS.SortRule
import HandS.SortOrd
import HandS.Sort
import HandS.NoneIn
import KE.DataMinMax
import KE.DataEq
import HandS.SortInts
import HandS.Iter
import KE.GoesEnum
import HandS.Comp
import HandS.List
import KE.KTupSum
import HandS.FStr
import KE.KFmtOwn
import PySem.Challenge.RW_bondfloors_k08_whole_remainders_of_cross
set_option Elab.async false
set_option linter.all false
set_option maxRecDepth 100000
/-! The third layer: values as data, a store of one's own, a meaning for each construct as a function; each is sound over the hand layer. -/
namespace L3
open PySem PySem.Spec PyProof.Rows L2

inductive D where
  | non | bl (b : Bool) | int (i : Int) | str (x : Str)
  | tup (xs : List D) | frz (xs : List D) | loc (n : Nat) | cls (a : Addr)
  | lam (f c : Addr) (q : Str) | fn (x : Str) (a : Addr) | fdk (ks : List Key) (ds : List D)

inductive O where
  | lst (xs : List D)
  | dK (kvs : List (Key × D))
  | dT (kvs : List (List Key × D))
  | ins (c : Str) (fs : List (Str × D))
  | tb (P : Addr) (q : Str)

abbrev Sto := List O
structure XN where
  cls : Str
  fs : List (Str × D)

inductive R (α : Type) where
  | ok (a : α) (st : Sto) | exn (x : XN) (st : Sto) | bad

def R.bind {α β : Type} (m : R α) (f : α → Sto → R β) : R β := match m with
  | .ok a st => f a st
  | .exn x st => .exn x st
  | .bad => .bad
@[simp] theorem R.bind_ok {α β : Type} (a : α) (st : Sto) (f : α → Sto → R β) : (R.ok a st).bind f = f a st := rfl
@[simp] theorem R.bind_exn {α β : Type} (x : XN) (st : Sto) (f : α → Sto → R β) : (R.exn x st : R α).bind f = .exn x st := rfl
@[simp] theorem R.bind_bad {α β : Type} (f : α → Sto → R β) : (R.bad : R α).bind f = .bad := rfl

/-! ### the relation to the hand layer's heap -/
/-- a list that never changes -/
def FzL (K : PySem.W.Frag) (H : Hp) (a : Addr) (xs : List V) : Prop :=
  (∃ o, H a = some (.frz o (.lst xs))) ∨
    ∃ (o : Obj) (its : Array Value) (n : Nat), K.lookup a = some o ∧ o.cls = .type "list" ∧ o.dict = none ∧ o.data = .seq its n ∧ its.size ≤ sizeLine ∧ Vals xs its.toList
theorem FzL.sq {K : PySem.W.Frag} {H : Hp} {a : Addr} {xs : List V} (h : FzL K H a xs) : SqL K H a xs := by
  rcases h with h | h
  · exact .inl (.inr h)
  · exact .inr h

mutual
def VR (K : PySem.W.Frag) (β : List Addr) (H : Hp) : D → V → Prop
  | .non, v => v = .non
  | .bl b, v => v = .bl b
  | .int i, v => v = .int i
  | .str x, v => v = .str x
  | .tup xs, v => ∃ a vs, v = .ref a ∧ H a = some (.tup vs) ∧ VRs K β H xs vs
  | .frz xs, v => ∃ a vs, v = .ref a ∧ FzL K H a vs ∧ VRs K β H xs vs
  | .loc n, v => ∃ a, β[n]? = some a ∧ v = .ref a
  | .cls a, v => v = .ref a
  | .lam f c q, v => v = .ref f ∧ H c = some (LamX.CodeO c q)
  | .fn _ a, v => v = .ref a
  | .fdk ks ds, v => ∃ a o vs, v = .ref a ∧ H a = some (.frz o (.dK (ks.zip vs))) ∧ ks.length = vs.length ∧ VRs K β H ds vs
def VRs (K : PySem.W.Frag) (β : List Addr) (H : Hp) : List D → List V → Prop
  | [], vs => vs = []
  | d :: ds, vs => ∃ v r, vs = v :: r ∧ VR K β H d v ∧ VRs K β H ds r
end

theorem lst_code {xs : List V} {a : Addr} {q : Str} (z : HO.lst xs = LamX.CodeO a q) : False := by unfold LamX.CodeO at z; cases z
/-- what stays -/
structure Ext0 (β : List Addr) (H : Hp) (β' : List Addr) (H' : Hp) : Prop where
  pre : ∃ t, β' = β ++ t
  tups : ∀ a xs, H a = some (.tup xs) → H' a = some (.tup xs)
  frzs : ∀ a o u, H a = some (.frz o u) → H' a = some (.frz o u)
  exts : ∀ a q, H a = some (LamX.CodeO a q) → H' a = some (LamX.CodeO a q)
structure Ext (β : List Addr) (H : Hp) (β' : List Addr) (H' : Hp) : Prop extends Ext0 β H β' H' where
  keep : ∀ a u, H a = some u → a ∉ β → (∀ ps, u ≠ .tbl ps) → H' a = some u
  new : ∀ a, a ∈ β' → a ∈ β ∨ H a = none ∨ ∃ ps, H a = some (.tbl ps)
theorem Ext.refl (β : List Addr) (H : Hp) : Ext β H β H := ⟨⟨⟨[], by simp⟩, fun _ _ h => h, fun _ _ _ h => h, fun _ _ h => h⟩, fun _ _ h _ _ => h, fun _ h => .inl h⟩
theorem Ext.trans {β β1 β2 : List Addr} {H H1 H2 : Hp} (a : Ext β H β1 H1) (b : Ext β1 H1 β2 H2) : Ext β H β2 H2 := by
  obtain ⟨t, et⟩ := a.pre
  obtain ⟨u, eu⟩ := b.pre
  refine ⟨⟨⟨t ++ u, by rw [eu, et]; simp⟩, fun c xs h => b.tups c xs (a.tups c xs h), fun c o u h => b.frzs c o u (a.frzs c o u h), fun c u h => b.exts c u (a.exts c u h)⟩, fun c w h hn ht => b.keep c w (a.keep c w h hn ht) (fun z => ?_) ht, fun c h => ?_⟩
  · rcases a.new c z with z | z | ⟨ps, z⟩
    · exact hn z
    · rw [h] at z; cases z
    · rw [h] at z; exact ht ps (Option.some.inj z)
  · rcases b.new c h with z | z
    · exact a.new c z
    · cases q : H c with
      | none => exact .inr (.inl rfl)
      | some w =>
        by_cases hc : c ∈ β
        · exact .inl hc
        · by_cases hw : ∃ ps, w = .tbl ps
          · obtain ⟨ps, rfl⟩ := hw
            exact .inr (.inr ⟨ps, rfl⟩)
          · have k := a.keep c w q hc fun ps e => hw ⟨ps, e⟩
            rcases z with z | ⟨ps, z⟩
            · rw [z] at k; cases k
            · rw [z] at k; exact (hw ⟨ps, (Option.some.inj k).symm⟩).elim
theorem Ext0.get {β β' : List Addr} {H H' : Hp} (e : Ext0 β H β' H') {n : Nat} {a : Addr} (h : β[n]? = some a) : β'[n]? = some a := by
  obtain ⟨t, rfl⟩ := e.pre
  have hl : n < β.length := (List.getElem?_eq_some_iff.mp h).1
  rw [List.getElem?_append_left hl]; exact h
theorem Ext0.sqT {K : PySem.W.Frag} {β β' : List Addr} {H H' : Hp} (e : Ext0 β H β' H') {a : Addr} {xs : List V} (h : SqT K H a xs) : SqT K H' a xs := by
  rcases h with (h | ⟨o, h⟩) | h
  · exact .inl (.inl (e.tups _ _ h))
  · exact .inl (.inr ⟨o, e.frzs _ _ _ h⟩)
  · exact .inr h
theorem Ext0.fzL {K : PySem.W.Frag} {β β' : List Addr} {H H' : Hp} (e : Ext0 β H β' H') {a : Addr} {xs : List V} (h : FzL K H a xs) : FzL K H' a xs := by
  rcases h with ⟨o, h⟩ | h
  · exact .inl ⟨o, e.frzs _ _ _ h⟩
  · exact .inr h
mutual
theorem VR.mono0 {K : PySem.W.Frag} {β β' : List Addr} {H H' : Hp} (e : Ext0 β H β' H') : ∀ (d : D) (v : V), VR K β H d v → VR K β' H' d v
  | .non, _, h => by unfold VR at h ⊢; exact h
  | .bl b, _, h => by unfold VR at h ⊢; exact h
  | .int i, _, h => by unfold VR at h ⊢; exact h
  | .str x, _, h => by unfold VR at h ⊢; exact h
  | .tup xs, v, h => by
    unfold VR at h ⊢
    obtain ⟨a, vs, e1, h1, h2⟩ := h
    exact ⟨a, vs, e1, e.tups _ _ h1, VRs.mono0 e xs vs h2⟩
  | .frz xs, v, h => by
    unfold VR at h ⊢
    obtain ⟨a, vs, e1, h1, h2⟩ := h
    exact ⟨a, vs, e1, e.fzL h1, VRs.mono0 e xs vs h2⟩
  | .loc n, v, h => by
    unfold VR at h ⊢
    obtain ⟨a, h1, h2⟩ := h
    exact ⟨a, e.get h1, h2⟩
  | .cls a, _, h => by unfold VR at h ⊢; exact h
  | .lam f c q, _, h => by unfold VR at h ⊢; exact ⟨h.1, e.exts _ _ h.2⟩
  | .fn _ a, _, h => by unfold VR at h ⊢; exact h
  | .fdk ks ds, v, h => by
    unfold VR at h ⊢
    obtain ⟨a, o, vs, e1, h1, h2, h3⟩ := h
    exact ⟨a, o, vs, e1, e.frzs _ _ _ h1, h2, VRs.mono0 e ds vs h3⟩
theorem VRs.mono0 {K : PySem.W.Frag} {β β' : List Addr} {H H' : Hp} (e : Ext0 β H β' H') : ∀ (ds : List D) (vs : List V), VRs K β H ds vs → VRs K β' H' ds vs
  | [], _, h => by unfold VRs at h ⊢; exact h
  | d :: ds, vs, h => by
    unfold VRs at h ⊢
    obtain ⟨v, r, e1, h1, h2⟩ := h
    exact ⟨v, r, e1, VR.mono0 e d v h1, VRs.mono0 e ds r h2⟩
end
theorem VR.mono {K : PySem.W.Frag} {β β' : List Addr} {H H' : Hp} (e : Ext β H β' H') (d : D) (v : V) (h : VR K β H d v) : VR K β' H' d v := VR.mono0 e.toExt0 d v h
theorem VRs.mono {K : PySem.W.Frag} {β β' : List Addr} {H H' : Hp} (e : Ext β H β' H') (ds : List D) (vs : List V) (h : VRs K β H ds vs) : VRs K β' H' ds vs := VRs.mono0 e.toExt0 ds vs h
section
variable {K : PySem.W.Frag} {β : List Addr} {H : Hp}
theorem VR.non {v} : VR K β H .non v ↔ v = .non := by unfold VR; exact Iff.rfl
theorem VR.bl {b v} : VR K β H (.bl b) v ↔ v = .bl b := by unfold VR; exact Iff.rfl
theorem VR.int {i v} : VR K β H (.int i) v ↔ v = .int i := by unfold VR; exact Iff.rfl
theorem VR.str {x v} : VR K β H (.str x) v ↔ v = .str x := by unfold VR; exact Iff.rfl
theorem VR.tup {xs v} : VR K β H (.tup xs) v ↔ ∃ a vs, v = .ref a ∧ H a = some (.tup vs) ∧ VRs K β H xs vs := by conv => lhs; unfold VR
theorem VR.tupS {xs v} (h : VR K β H (.tup xs) v) : ∃ a vs, v = .ref a ∧ SqT K H a vs ∧ VRs K β H xs vs := let ⟨a, vs, e, h1, h2⟩ := VR.tup.mp h; ⟨a, vs, e, .inl (.inl h1), h2⟩
theorem VR.frz {xs v} : VR K β H (.frz xs) v ↔ ∃ a vs, v = .ref a ∧ FzL K H a vs ∧ VRs K β H xs vs := by conv => lhs; unfold VR
theorem VR.loc {n v} : VR K β H (.loc n) v ↔ ∃ a, β[n]? = some a ∧ v = .ref a := by conv => lhs; unfold VR
theorem VR.cls {a v} : VR K β H (.cls a) v ↔ v = .ref a := by unfold VR; exact Iff.rfl
theorem VR.lam {f c q v} : VR K β H (.lam f c q) v ↔ v = .ref f ∧ H c = some (LamX.CodeO c q) := by conv => lhs; unfold VR
theorem VR.fn {x a v} : VR K β H (.fn x a) v ↔ v = .ref a := by unfold VR; exact Iff.rfl
theorem VR.fdk {ks ds v} : VR K β H (.fdk ks ds) v ↔ ∃ a o vs, v = .ref a ∧ H a = some (.frz o (.dK (ks.zip vs))) ∧ ks.length = vs.length ∧ VRs K β H ds vs := by conv => lhs; unfold VR
theorem VRs.nil {vs} : VRs K β H [] vs ↔ vs = [] := by unfold VRs; exact Iff.rfl
theorem VRs.cons {d ds vs} : VRs K β H (d :: ds) vs ↔ ∃ v r, vs = v :: r ∧ VR K β H d v ∧ VRs K β H ds r := by conv => lhs; unfold VRs
theorem VRs.length : ∀ {ds : List D} {vs : List V}, VRs K β H ds vs → vs.length = ds.length
  | [], vs, h => by rw [VRs.nil.mp h]; rfl
  | d :: ds, vs, h => by
    obtain ⟨v, r, rfl, _, h2⟩ := VRs.cons.mp h
    simp [VRs.length h2]
theorem VRs.get : ∀ {ds : List D} {vs : List V} {i : Nat} {v : V}, VRs K β H ds vs → vs[i]? = some v → ∃ d, ds[i]? = some d ∧ VR K β H d v
  | [], vs, i, v, h, e => by rw [VRs.nil.mp h] at e; simp at e
  | d :: ds, vs, i, v, h, e => by
    obtain ⟨w, r, rfl, h1, h2⟩ := VRs.cons.mp h
    cases i with
    | zero => simp at e; subst e; exact ⟨d, rfl, h1⟩
    | succ i => simpa using VRs.get (i := i) h2 (by simpa using e)
theorem VRs.getD : ∀ {ds : List D} {vs : List V} {i : Nat} {d : D}, VRs K β H ds vs → ds[i]? = some d → ∃ v, vs[i]? = some v ∧ VR K β H d v
  | [], vs, i, d, h, e => by simp at e
  | d' :: ds, vs, i, d, h, e => by
    obtain ⟨w, r, rfl, h1, h2⟩ := VRs.cons.mp h
    cases i with
    | zero => simp at e; subst e; exact ⟨w, rfl, h1⟩
    | succ i => simpa using VRs.getD (i := i) h2 (by simpa using e)
theorem VRs.append : ∀ {ds es : List D} {vs us : List V}, VRs K β H ds vs → VRs K β H es us → VRs K β H (ds ++ es) (vs ++ us)
  | [], es, vs, us, h, g => by rw [VRs.nil.mp h]; exact g
  | d :: ds, es, vs, us, h, g => by
    obtain ⟨w, r, rfl, h1, h2⟩ := VRs.cons.mp h
    exact VRs.cons.mpr ⟨w, r ++ us, rfl, h1, VRs.append h2 g⟩
theorem VRs.take : ∀ {ds : List D} {vs : List V} (n : Nat), VRs K β H ds vs → VRs K β H (ds.take n) (vs.take n)
  | ds, vs, 0, h => VRs.nil.mpr (by simp)
  | [], vs, n + 1, h => by rw [VRs.nil.mp h]; exact VRs.nil.mpr (by simp)
  | d :: ds, vs, n + 1, h => by
    obtain ⟨w, r, rfl, h1, h2⟩ := VRs.cons.mp h
    exact VRs.cons.mpr ⟨w, r.take n, by simp, h1, VRs.take n h2⟩
theorem VRs.drop : ∀ {ds : List D} {vs : List V} (n : Nat), VRs K β H ds vs → VRs K β H (ds.drop n) (vs.drop n)
  | ds, vs, 0, h => by simpa using h
  | [], vs, n + 1, h => by rw [VRs.nil.mp h]; exact VRs.nil.mpr (by simp)
  | d :: ds, vs, n + 1, h => by
    obtain ⟨w, r, rfl, h1, h2⟩ := VRs.cons.mp h
    simpa using VRs.drop n h2
theorem VRs.set : ∀ {ds : List D} {vs : List V} {d : D} {v : V} (i : Nat), VRs K β H ds vs → VR K β H d v → VRs K β H (ds.set i d) (vs.set i v)
  | [], vs, d, v, i, h, g => by rw [VRs.nil.mp h]; exact VRs.nil.mpr (by simp)
  | e :: ds, vs, d, v, i, h, g => by
    obtain ⟨w, r, rfl, h1, h2⟩ := VRs.cons.mp h
    cases i with
    | zero => exact VRs.cons.mpr ⟨v, r, rfl, g, h2⟩
    | succ i => exact VRs.cons.mpr ⟨w, r.set i v, rfl, h1, VRs.set i h2 g⟩
theorem VRs.reverse {ds : List D} {vs : List V} (h : VRs K β H ds vs) : VRs K β H ds.reverse vs.reverse := by
  induction ds generalizing vs with
  | nil => rw [VRs.nil.mp h]; exact VRs.nil.mpr (by simp)
  | cons d ds ih =>
    obtain ⟨w, r, rfl, h1, h2⟩ := VRs.cons.mp h
    rw [List.reverse_cons, List.reverse_cons]
    exact VRs.append (ih h2) (VRs.cons.mpr ⟨w, [], rfl, h1, VRs.nil.mpr rfl⟩)
theorem VRs.eraseIdx : ∀ {ds : List D} {vs : List V} (i : Nat), VRs K β H ds vs → VRs K β H (ds.eraseIdx i) (vs.eraseIdx i)
  | [], vs, i, h => by rw [VRs.nil.mp h]; exact VRs.nil.mpr (by simp)
  | e :: ds, vs, i, h => by
    obtain ⟨w, r, rfl, h1, h2⟩ := VRs.cons.mp h
    cases i with
    | zero => simpa using h2
    | succ i => exact VRs.cons.mpr ⟨w, r.eraseIdx i, rfl, h1, VRs.eraseIdx i h2⟩
end

/-- attributes -/
def FR (K : PySem.W.Frag) (β : List Addr) (H : Hp) : List (Str × D) → List (Str × V) → Prop := Paired fun p q => p.1 = q.1 ∧ VR K β H p.2 q.2
def KR {κ : Type} (K : PySem.W.Frag) (β : List Addr) (H : Hp) : List (κ × D) → List (κ × V) → Prop := Paired fun p q => p.1 = q.1 ∧ VR K β H p.2 q.2
theorem KR.mono0 {κ : Type} {K : PySem.W.Frag} {β β' : List Addr} {H H' : Hp} (e : Ext0 β H β' H') {l : List (κ × D)} {r : List (κ × V)} (h : KR K β H l r) : KR K β' H' l r :=
  Paired.mapP h fun p q z => ⟨z.1, VR.mono0 e _ _ z.2⟩

def OR (K : PySem.W.Frag) (mg : Str → Option Value) (β : List Addr) (H : Hp) : O → Addr → Prop
  | .lst xs, a => ∃ vs, H a = some (.lst vs) ∧ VRs K β H xs vs
  | .dK kvs, a => ∃ ks, H a = some (.dK ks) ∧ KR K β H kvs ks
  | .dT kvs, a => ∃ ks, H a = some (.dT ks) ∧ KR K β H kvs ks
  | .ins c fs, a => ∃ C dx gs, mg c = some (.ref C) ∧ H a = some (.ins C dx gs) ∧ FR K β H fs gs
  | .tb P q, a => a = P ∧ LamX.TabS H a q
theorem OR.mono0 {K : PySem.W.Frag} {mg : Str → Option Value} {β β' : List Addr} {H H' : Hp} (e : Ext0 β H β' H') {a : Addr} (ha : H' a = H a) : ∀ {o : O}, OR K mg β H o a → OR K mg β' H' o a
  | .lst xs, ⟨vs, h1, h2⟩ => ⟨vs, ha.trans h1, VRs.mono0 e _ _ h2⟩
  | .dK _, ⟨vs, h1, h2⟩ => ⟨vs, ha.trans h1, h2.mono0 e⟩
  | .dT _, ⟨vs, h1, h2⟩ => ⟨vs, ha.trans h1, h2.mono0 e⟩
  | .ins _ _, ⟨C, dx, gs, h0, h1, h2⟩ => ⟨C, dx, gs, h0, ha.trans h1, KR.mono0 e h2⟩
  | .tb _ _, ⟨hP, ps, h1, h2, h3⟩ => ⟨hP, ps, ha.trans h1, h2, fun pos cv hc => let ⟨c, e1, e2⟩ := h3 pos cv hc; ⟨c, e1, e.exts _ _ e2⟩⟩
theorem OR.mono {K : PySem.W.Frag} {mg : Str → Option Value} {β β' : List Addr} {H H' : Hp} (e : Ext β H β' H') {a : Addr} (ha : H' a = H a) {o : O} (h : OR K mg β H o a) : OR K mg β' H' o a := h.mono0 e.toExt0 ha
theorem OR.some {K : PySem.W.Frag} {mg : Str → Option Value} {β : List Addr} {H : Hp} {a : Addr} : ∀ {o : O}, OR K mg β H o a → ∃ u, H a = some u ∧ (∀ xs, u ≠ .tup xs) ∧ (∀ ob w, u ≠ .frz ob w) ∧ (∀ φ, u ≠ .ext φ)
  | .lst _, ⟨_, h1, _⟩ => ⟨_, h1, fun _ z => (by cases z), fun _ _ z => (by cases z), fun _ z => (by cases z)⟩
  | .dK _, ⟨_, h1, _⟩ => ⟨_, h1, fun _ z => (by cases z), fun _ _ z => (by cases z), fun _ z => (by cases z)⟩
  | .dT _, ⟨_, h1, _⟩ => ⟨_, h1, fun _ z => (by cases z), fun _ _ z => (by cases z), fun _ z => (by cases z)⟩
  | .ins _ _, ⟨_, _, _, _, h1, _⟩ => ⟨_, h1, fun _ z => (by cases z), fun _ _ z => (by cases z), fun _ z => (by cases z)⟩
  | .tb _ _, ⟨_, _, h1, _⟩ => ⟨_, h1, fun _ z => (by cases z), fun _ _ z => (by cases z), fun _ z => (by cases z)⟩

structure Sim (K : PySem.W.Frag) (mg : Str → Option Value) (β : List Addr) (st : Sto) (H : Hp) : Prop where
  len : β.length = st.length
  inj : ∀ (m n : Nat) (a : Addr), β[m]? = some a → β[n]? = some a → m = n
  ob : ∀ (n : Nat) (o : O) (a : Addr), st[n]? = some o → β[n]? = some a → OR K mg β H o a
section
variable {K : PySem.W.Frag} {mg : Str → Option Value} {β : List Addr} {st : Sto} {H : Hp}
theorem Sim.at (S : Sim K mg β st H) {n : Nat} {a : Addr} (h : β[n]? = some a) : ∃ o, st[n]? = some o ∧ OR K mg β H o a := by
  have hl : n < β.length := (List.getElem?_eq_some_iff.mp h).1
  rw [S.len] at hl
  exact ⟨st[n], List.getElem?_eq_getElem hl, S.ob n _ a (List.getElem?_eq_getElem hl) h⟩
theorem Sim.used (S : Sim K mg β st H) {n : Nat} {a : Addr} (h : β[n]? = some a) : ∃ u, H a = some u := by
  obtain ⟨o, _, r⟩ := S.at h
  obtain ⟨u, e, _⟩ := r.some
  exact ⟨u, e⟩
theorem Sim.fresh (S : Sim K mg β st H) {p : Addr} (hp : H p = none) {n : Nat} (h : β[n]? = some p) : False := by
  obtain ⟨u, e⟩ := S.used h
  rw [hp] at e; cases e
theorem ext_new {p : Addr} {o : HO} (hp : H p = none) : Ext β H (β ++ [p]) (upd H p o) :=
  ⟨⟨⟨[p], rfl⟩, fun a xs h => by rw [upd_ne (ne_of_none h hp)]; exact h, fun a ob u h => by rw [upd_ne (ne_of_none h hp)]; exact h, fun a u h => by rw [upd_ne (ne_of_none h hp)]; exact h⟩, fun a u h _ _ => by rw [upd_ne (ne_of_none h hp)]; exact h, fun a h => by
    rcases List.mem_append.mp h with h | h
    · exact .inl h
    · have e : a = p := by simpa using h
      subst e
      exact .inr (.inl hp)⟩
/-- a new object, not of the store (a tuple) -/
theorem ext_new0 {p : Addr} {o : HO} (hp : H p = none) : Ext β H β (upd H p o) :=
  ⟨⟨⟨[], by simp⟩, fun a xs h => by rw [upd_ne (ne_of_none h hp)]; exact h, fun a ob u h => by rw [upd_ne (ne_of_none h hp)]; exact h, fun a u h => by rw [upd_ne (ne_of_none h hp)]; exact h⟩, fun a u h _ _ => by rw [upd_ne (ne_of_none h hp)]; exact h, fun a h => .inl h⟩
theorem Sim.new0 (S : Sim K mg β st H) {p : Addr} {o : HO} (hp : H p = none) : Sim K mg β st (upd H p o) :=
  ⟨S.len, S.inj, fun n ob a h1 h2 => (S.ob n ob a h1 h2).mono (ext_new0 hp) (upd_ne (by obtain ⟨u, e⟩ := S.used h2; exact ne_of_none e hp))⟩
/-- a new object of the store -/
theorem Sim.push (S : Sim K mg β st H) {p : Addr} {o : HO} {ob : O} (hp : H p = none) (h : OR K mg (β ++ [p]) (upd H p o) ob p) : Sim K mg (β ++ [p]) (st ++ [ob]) (upd H p o) := by
  refine ⟨by simp [S.len], fun m n a h1 h2 => ?_, fun n q a h1 h2 => ?_⟩
  · have lm : m < β.length + 1 := by simpa using (List.getElem?_eq_some_iff.mp h1).1
    have ln : n < β.length + 1 := by simpa using (List.getElem?_eq_some_iff.mp h2).1
    by_cases hm : m < β.length
    · rw [List.getElem?_append_left hm] at h1
      by_cases hn : n < β.length
      · rw [List.getElem?_append_left hn] at h2
        exact S.inj m n a h1 h2
      · have e : n = β.length := by omega
        subst e
        simp at h2
        subst h2
        exact (S.fresh hp h1).elim
    · have e : m = β.length := by omega
      subst e
      simp at h1
      subst h1
      by_cases hn : n < β.length
      · rw [List.getElem?_append_left hn] at h2
        exact (S.fresh hp h2).elim
      · omega
  · have ln : n < β.length + 1 := by simpa using (List.getElem?_eq_some_iff.mp h2).1
    by_cases hn : n < β.length
    · rw [List.getElem?_append_left hn] at h2
      rw [List.getElem?_append_left (by rw [← S.len]; exact hn)] at h1
      obtain ⟨u, e⟩ := S.used h2
      exact (S.ob n q a h1 h2).mono (ext_new hp) (upd_ne (ne_of_none e hp))
    · have e : n = β.length := by omega
      subst e
      simp at h2
      subst h2
      rw [S.len] at h1
      simp at h1
      subst h1
      exact h
/-- an object of the store is changed -/
theorem Sim.ext (S : Sim K mg β st H) {n : Nat} {a : Addr} {o : HO} (h : β[n]? = some a) : Ext β H β (upd H a o) := by
  obtain ⟨ob, _, r⟩ := S.at h
  obtain ⟨u, e, h1, h2, h3⟩ := r.some
  refine ⟨⟨⟨[], by simp⟩, fun b xs q => ?_, fun b ob' w q => ?_, fun b w q => ?_⟩, fun b w q hn _ => ?_, fun b h => .inl h⟩
  · rw [upd_ne (fun z => by subst z; rw [e] at q; exact h1 xs (Option.some.inj q))]; exact q
  · rw [upd_ne (fun z => by subst z; rw [e] at q; exact h2 _ _ (Option.some.inj q))]; exact q
  · rw [upd_ne (fun z => by subst z; rw [e] at q; exact h3 _ (Option.some.inj q))]; exact q
  · rw [upd_ne (fun z => by subst z; exact hn (List.mem_of_getElem? h))]; exact q
theorem Sim.set (S : Sim K mg β st H) {n : Nat} {a : Addr} {o : HO} {ob : O} (h : β[n]? = some a) (hr : OR K mg β (upd H a o) ob a) : Sim K mg β (st.set n ob) (upd H a o) := by
  refine ⟨by simp [S.len], S.inj, fun m q b h1 h2 => ?_⟩
  by_cases hm : m = n
  · subst hm
    rw [h] at h2; cases h2
    have hl : m < st.length := by rw [← S.len]; exact (List.getElem?_eq_some_iff.mp h).1
    rw [List.getElem?_set_self hl] at h1
    cases h1
    exact hr
  · rw [List.getElem?_set_ne (Ne.symm hm)] at h1
    have hb : b ≠ a := fun z => by subst z; exact hm (S.inj _ _ _ h2 h)
    exact (S.ob m q b h1 h2).mono (S.ext h) (upd_ne hb)
end

/-! ### the frame's values -/
abbrev Env3 := List (Option D)
def ER (K : PySem.W.Frag) (β : List Addr) (H : Hp) (ρ : Env3) (σ : L2.St) : Prop := ρ.length = σ.length ∧ ∀ (i : Nat) (d : D), ρ[i]? = some (some d) → ∃ v, σ[i]? = some (some v) ∧ VR K β H d v
theorem ER.mono {K : PySem.W.Frag} {β β' : List Addr} {H H' : Hp} {ρ : Env3} {σ : L2.St} (e : Ext β H β' H') (h : ER K β H ρ σ) : ER K β' H' ρ σ :=
  ⟨h.1, fun i d q => let ⟨v, h1, h2⟩ := h.2 i d q; ⟨v, h1, VR.mono e _ _ h2⟩⟩
theorem ER.set {K : PySem.W.Frag} {β : List Addr} {H : Hp} {ρ : Env3} {σ : L2.St} {d : D} {v : V} (h : ER K β H ρ σ) (i : Nat) (r : VR K β H d v) : ER K β H (ρ.set i (some d)) (σ.set i (some v)) := by
  refine ⟨by simp [h.1], fun j e q => ?_⟩
  by_cases hj : j = i
  · subst hj
    have hl : j < ρ.length := by have := (List.getElem?_eq_some_iff.mp q).1; simpa using this
    rw [List.getElem?_set_self hl] at q
    cases q
    exact ⟨v, by rw [List.getElem?_set_self (by rw [← h.1]; exact hl)], r⟩
  · rw [List.getElem?_set_ne (Ne.symm hj)] at q
    rw [List.getElem?_set_ne (Ne.symm hj)]
    exact h.2 j e q
theorem ER.clear {K : PySem.W.Frag} {β : List Addr} {H : Hp} {ρ : Env3} {σ : L2.St} (h : ER K β H ρ σ) (i : Nat) (o : Option V) : ER K β H (ρ.set i none) (σ.set i o) := by
  refine ⟨by simp [h.1], fun j e q => ?_⟩
  by_cases hj : j = i
  · subst hj
    have hl : j < ρ.length := by have := (List.getElem?_eq_some_iff.mp q).1; simpa using this
    rw [List.getElem?_set_self hl] at q
    cases q
  · rw [List.getElem?_set_ne (Ne.symm hj)] at q
    rw [List.getElem?_set_ne (Ne.symm hj)]
    exact h.2 j e q

/-! ### what is wanted of a meaning -/
/-- an exception and its likeness -/
def XR (K : PySem.W.Frag) (mg : Str → Option Value) (β : List Addr) (H : Hp) (x : XN) (c : Value) (dd : Option Addr) : Prop :=
  mg x.cls = some c ∧ match dd with
    | none => x.fs = []
    | some d => ∃ gs, H d = some (.xd gs) ∧ FR K β H x.fs gs
def PostA {α : Type} (K : PySem.W.Frag) (mg : Str → Option Value) (W : WX) (σ : L2.St) (ok : α → List Addr → Hp → Prop) (β : List Addr) (H : Hp) : R α → Prop
  | .ok a st' => ∀ β' H', Ext β H β' H' → Sim K mg β' st' H' → ok a β' H'
  | .exn x st' => ∀ β' H' c dd, Ext β H β' H' → Sim K mg β' st' H' → XR K mg β' H' x c dd → W c dd σ H'
  | .bad => False
theorem PostA.mono {α : Type} {K : PySem.W.Frag} {mg : Str → Option Value} {W : WX} {σ : L2.St} {ok : α → List Addr → Hp → Prop} {β β1 : List Addr} {H H1 : Hp} (e : Ext β H β1 H1) : ∀ {r : R α}, PostA K mg W σ ok β H r → PostA K mg W σ ok β1 H1 r
  | .ok _ _, h => fun β' H' e' S => h β' H' (e.trans e') S
  | .exn _ _, h => fun β' H' c dd e' S => h β' H' c dd (e.trans e') S
  | .bad, h => h
theorem PostA.imp {α : Type} {K : PySem.W.Frag} {mg : Str → Option Value} {W : WX} {σ : L2.St} {ok ok' : α → List Addr → Hp → Prop} {β : List Addr} {H : Hp} (f : ∀ a β' H', ok a β' H' → ok' a β' H') : ∀ {r : R α}, PostA K mg W σ ok β H r → PostA K mg W σ ok' β H r
  | .ok _ _, h => fun β' H' e' S => f _ _ _ (h β' H' e' S)
  | .exn _ _, h => h
  | .bad, h => h
/-- one after another -/
theorem PostA.bind {α γ : Type} {K : PySem.W.Frag} {mg : Str → Option Value} {W : WX} {σ : L2.St} {ok : γ → List Addr → Hp → Prop} {β : List Addr} {H : Hp} {m : R α} {f : α → Sto → R γ} (h : PostA K mg W σ ok β H (m.bind f)) :
    PostA K mg W σ (fun a β' H' => ∃ st', Sim K mg β' st' H' ∧ PostA K mg W σ ok β' H' (f a st')) β H m := by
  cases m with
  | ok a st' => exact fun β' H' e S => ⟨st', S, PostA.mono e h⟩
  | exn x st' => exact h
  | bad => exact h
abbrev okE (K : PySem.W.Frag) (Q : VK) : D → List Addr → Hp → Prop := fun d β' H' => ∀ v, VR K β' H' d v → Q v H'
abbrev okA (K : PySem.W.Frag) (Q : List V → Hp → Prop) : List D → List Addr → Hp → Prop := fun ds β' H' => ∀ vs, VRs K β' H' ds vs → Q vs H'
abbrev okT (Q : Bool → Hp → Prop) : Bool → List Addr → Hp → Prop := fun b _ H' => Q b H'

abbrev KE := Env3 → Sto → R D
abbrev KA := Env3 → Sto → R (List D)
abbrev KT := Env3 → Sto → R Bool
def lift (K : PySem.W.Frag) (mg : Str → Option Value) (W : WX) (k : KE) : TE := fun σ H Q => ∃ β ρ st, Sim K mg β st H ∧ ER K β H ρ σ ∧ PostA K mg W σ (okE K Q) β H (k ρ st)
def liftA (K : PySem.W.Frag) (mg : Str → Option Value) (W : WX) (k : KA) : TA := fun σ H Q => ∃ β ρ st, Sim K mg β st H ∧ ER K β H ρ σ ∧ PostA K mg W σ (okA K Q) β H (k ρ st)
def liftT (K : PySem.W.Frag) (mg : Str → Option Value) (W : WX) (k : KT) : TT := fun σ H Q => ∃ β ρ st, Sim K mg β st H ∧ ER K β H ρ σ ∧ PostA K mg W σ (okT Q) β H (k ρ st)

theorem PE.imp {X : Cx} {e : Expr} {t t' : TE} (h : PE X e t) (i : ∀ σ H Q, t' σ H Q → t σ H Q) : PE X e t' := ⟨fun pins s σ H Q I q => h.run pins s σ H Q I (i σ H Q q)⟩
theorem PT.imp {X : Cx} {e : Expr} {t t' : TT} (h : PT X e t) (i : ∀ σ H Q, t' σ H Q → t σ H Q) : PT X e t' := ⟨fun pins s σ H Q I q => h.run pins s σ H Q I (i σ H Q q)⟩
theorem PW.imp {X : Cx} {e : Expr} {t t' : TT} (h : PW X e t) (i : ∀ σ H Q, t' σ H Q → t σ H Q) : PW X e t' := ⟨fun wh pins s σ H Q I q => h.run wh pins s σ H Q I (i σ H Q q)⟩
theorem PA.imp {X : Cx} {es : List Expr} {t t' : TA} (h : PA X es t) (i : ∀ σ H Q, t' σ H Q → t σ H Q) : PA X es t' := ⟨fun pos pins s σ H Q I q => h.run pos pins s σ H Q I (i σ H Q q)⟩
theorem PS.imp {X : Cx} {e : Stmt} {t t' : TS} (h : PS X e t) (i : ∀ D σ H, t' D σ H → t D σ H) : PS X e t' := ⟨fun pins s σ H D I q => h.run pins s σ H D I (i D σ H q)⟩
theorem PSs.imp {X : Cx} {e : List Stmt} {t t' : TS} (h : PSs X e t) (i : ∀ D σ H, t' D σ H → t D σ H) : PSs X e t' := ⟨fun pins s σ H D I q => h.run pins s σ H D I (i D σ H q)⟩

/-- a meaning's step: from (a and then f) to a's own wish -/
theorem lift.bind {α : Type} {X : Cx} {W : WX} {σ : L2.St} {ok : α → List Addr → Hp → Prop} {β : List Addr} {H : Hp} {ρ : Env3} {st : Sto} {k : KE} {f : D → Sto → R α} {Q : VK} (S : Sim X.K X.mg β st H) (E : ER X.K β H ρ σ)
    (h : PostA X.K X.mg W σ ok β H ((k ρ st).bind f))
    (hq : ∀ d v β' H' st', Ext β H β' H' → Sim X.K X.mg β' st' H' → ER X.K β' H' ρ σ → VR X.K β' H' d v → PostA X.K X.mg W σ ok β' H' (f d st') → Q v H') : lift X.K X.mg W k σ H Q := by
  refine ⟨β, ρ, st, S, E, ?_⟩
  cases hm : k ρ st with
  | ok a st' =>
    rw [hm] at h
    exact fun β' H' e S' v r => hq a v β' H' st' e S' (E.mono e) r (PostA.mono e h)
  | exn x st' => rw [hm] at h; exact h
  | bad => rw [hm] at h; exact h
theorem liftT.bind {α : Type} {X : Cx} {W : WX} {σ : L2.St} {ok : α → List Addr → Hp → Prop} {β : List Addr} {H : Hp} {ρ : Env3} {st : Sto} {k : KT} {f : Bool → Sto → R α} {Q : Bool → Hp → Prop} (S : Sim X.K X.mg β st H) (E : ER X.K β H ρ σ)
    (h : PostA X.K X.mg W σ ok β H ((k ρ st).bind f))
    (hq : ∀ b β' H' st', Ext β H β' H' → Sim X.K X.mg β' st' H' → ER X.K β' H' ρ σ → PostA X.K X.mg W σ ok β' H' (f b st') → Q b H') : liftT X.K X.mg W k σ H Q := by
  refine ⟨β, ρ, st, S, E, ?_⟩
  cases hm : k ρ st with
  | ok a st' =>
    rw [hm] at h
    exact fun β' H' e S' => hq a β' H' st' e S' (E.mono e) (PostA.mono e h)
  | exn x st' => rw [hm] at h; exact h
  | bad => rw [hm] at h; exact h
theorem liftA.bind {α : Type} {X : Cx} {W : WX} {σ : L2.St} {ok : α → List Addr → Hp → Prop} {β : List Addr} {H : Hp} {ρ : Env3} {st : Sto} {k : KA} {f : List D → Sto → R α} {Q : List V → Hp → Prop} (S : Sim X.K X.mg β st H) (E : ER X.K β H ρ σ)
    (h : PostA X.K X.mg W σ ok β H ((k ρ st).bind f))
    (hq : ∀ ds vs β' H' st', Ext β H β' H' → Sim X.K X.mg β' st' H' → ER X.K β' H' ρ σ → VRs X.K β' H' ds vs → PostA X.K X.mg W σ ok β' H' (f ds st') → Q vs H') : liftA X.K X.mg W k σ H Q := by
  refine ⟨β, ρ, st, S, E, ?_⟩
  cases hm : k ρ st with
  | ok a st' =>
    rw [hm] at h
    exact fun β' H' e S' v r => hq a v β' H' st' e S' (E.mono e) r (PostA.mono e h)
  | exn x st' => rw [hm] at h; exact h
  | bad => rw [hm] at h; exact h
end L3

namespace L3
open PySem PySem.Spec PyProof.Rows L2

/-! ### the combinators: what an expression means -/
def kv (i : Nat) : KE := fun ρ st => match ρ[i]? with
  | some (some d) => .ok d st
  | _ => .bad
def kc (d : D) : KE := fun _ st => .ok d st
def k1 (f : D → Sto → R D) (a : KE) : KE := fun ρ st => (a ρ st).bind f
def k2 (f : D → D → Sto → R D) (a b : KE) : KE := fun ρ st => (a ρ st).bind fun x st1 => (b ρ st1).bind fun y st2 => f x y st2
def kA0 : KA := fun _ st => .ok [] st
def kA1 (a : KE) (r : KA) : KA := fun ρ st => (a ρ st).bind fun x st1 => (r ρ st1).bind fun xs st2 => .ok (x :: xs) st2
def kF (f : List D → Sto → R D) (a : KA) : KE := fun ρ st => (a ρ st).bind f
def tupF (xs : List D) (st : Sto) : R D := if xs.length ≤ 16777216 then .ok (.tup xs) st else .bad
def lstF (xs : List D) (st : Sto) : R D := if xs.length ≤ 16777216 then .ok (.loc st.length) (st ++ [.lst xs]) else .bad
def kM (ty : D → Sto → Bool) (f : D → List D → Sto → R D) (o : KE) (a : KA) : KE := fun ρ st => (o ρ st).bind fun x st1 => if ty x st1 = true then (a ρ st1).bind fun xs st2 => f x xs st2 else .bad
/-- tests -/
def truD (d : D) (st : Sto) : Option Bool := match d with
  | .non => some false
  | .bl b => some b
  | .int i => some (i != 0)
  | .str x => if x.length ≤ 16777216 then some ((x.length : Int) != 0) else none
  | .tup xs => some (!xs.isEmpty)
  | .frz xs => some (!xs.isEmpty)
  | .loc n => match st[n]? with
    | some (.lst xs) => some (!xs.isEmpty)
    | some (.dK xs) => some (!xs.isEmpty)
    | _ => none
  | _ => none
def kTr (a : KE) : KT := fun ρ st => (a ρ st).bind fun d st1 => match truD d st1 with
  | some b => .ok b st1
  | none => .bad
def kTb (a : KE) : KT := fun ρ st => (a ρ st).bind fun d st1 => match d with
  | .bl b => .ok b st1
  | _ => .bad
def tAnd3 (a b : KT) : KT := fun ρ st => (a ρ st).bind fun c st1 => if c = true then b ρ st1 else .ok false st1
def tOr3 (a b : KT) : KT := fun ρ st => (a ρ st).bind fun c st1 => if c = true then .ok true st1 else b ρ st1
def tNot3 (a : KT) : KT := fun ρ st => (a ρ st).bind fun c st1 => .ok (!c) st1
def kIf (c : KT) (a b : KE) : KE := fun ρ st => (c ρ st).bind fun k st1 => if k = true then a ρ st1 else b ρ st1
def kAndV (a b : KE) : KE := fun ρ st => (a ρ st).bind fun d st1 => match truD d st1 with
  | some true => b ρ st1
  | some false => .ok d st1
  | none => .bad
def kOrV (a b : KE) : KE := fun ρ st => (a ρ st).bind fun d st1 => match truD d st1 with
  | some true => .ok d st1
  | some false => b ρ st1
  | none => .bad
def kNotV (a : KE) : KE := fun ρ st => (a ρ st).bind fun d st1 => match truD d st1 with
  | some k => .ok (.bl (!k)) st1
  | none => .bad
def kChain (f g : D → D → Sto → R D) (a b c : KE) : KE := fun ρ st => (a ρ st).bind fun x st1 => (b ρ st1).bind fun y st2 => (f x y st2).bind fun z st3 => match z with
  | .bl true => (c ρ st3).bind fun w st4 => g y w st4
  | .bl false => .ok (.bl false) st3
  | _ => .bad

/-! ### soundness of the parts -/
section
variable {X : Cx} {W : WX}

/-- an operation on two values -/
def OpS (X : Cx) (W : WX) (F : Value → Value → Sem Value) (f : D → D → Sto → R D) : Prop :=
  ∀ (pins : List (Addr × Obj)) (s : Shared) (σ : L2.St) (H : Hp) (x y : V) (v u : Value) (Q : VK) (β : List Addr) (st : Sto) (dx dy : D), Inv X pins σ H s → RelV x v → RelV y u → Sim X.K X.mg β st H → VR X.K β H dx x → VR X.K β H dy y →
    PostA X.K X.mg W σ (okE X.K Q) β H (f dx dy st) → wpAny (model X.prog X.w) X.A (F v u) (EP X pins σ Q) X.xe s
theorem OpS.of {F : Value → Value → Sem Value} {r : R2} {f : D → D → Sto → R D} (h : OpR X F r)
    (i : ∀ (σ : L2.St) (H : Hp) (x y : V) (Q : VK) (β : List Addr) (st : Sto) (dx dy : D), Sim X.K X.mg β st H → VR X.K β H dx x → VR X.K β H dy y → PostA X.K X.mg W σ (okE X.K Q) β H (f dx dy st) → r x y H Q) : OpS X W F f :=
  fun pins s σ H x y v u Q β st dx dy I rx ry S vx vy p => h pins s σ H x y v u Q I rx ry (i σ H x y Q β st dx dy S vx vy p)
def UnS (X : Cx) (W : WX) (F : Value → Sem Value) (f : D → Sto → R D) : Prop :=
  ∀ (pins : List (Addr × Obj)) (s : Shared) (σ : L2.St) (H : Hp) (x : V) (v : Value) (Q : VK) (β : List Addr) (st : Sto) (dx : D), Inv X pins σ H s → RelV x v → Sim X.K X.mg β st H → VR X.K β H dx x →
    PostA X.K X.mg W σ (okE X.K Q) β H (f dx st) → wpAny (model X.prog X.w) X.A (F v) (EP X pins σ Q) X.xe s
def CallS (X : Cx) (W : WX) (F : Value) (f : List D → Sto → R D) : Prop :=
  ∀ (pins : List (Addr × Obj)) (s : Shared) (σ : L2.St) (H : Hp) (xs : List V) (us : List Value) (Q : VK) (β : List Addr) (st : Sto) (ds : List D), Inv X pins σ H s → Vals xs us → Sim X.K X.mg β st H → VRs X.K β H ds xs →
    PostA X.K X.mg W σ (okE X.K Q) β H (f ds st) → wpAny (model X.prog X.w) X.A (call F us) (EP X pins σ Q) X.xe s
theorem CallS.of {F : Value} {r : List V → Hp → VK → Prop} {f : List D → Sto → R D} (h : CallR X F r)
    (i : ∀ (σ : L2.St) (H : Hp) (xs : List V) (Q : VK) (β : List Addr) (st : Sto) (ds : List D), Sim X.K X.mg β st H → VRs X.K β H ds xs → PostA X.K X.mg W σ (okE X.K Q) β H (f ds st) → r xs H Q) : CallS X W F f :=
  fun pins s σ H xs us Q β st ds I rx S vx p => h pins s σ H xs us Q I rx (i σ H xs Q β st ds S vx p)
def MtS3 (X : Cx) (W : WX) (id : String) (f : D → List D → Sto → R D) : Prop :=
  ∀ (pins : List (Addr × Obj)) (s : Shared) (σ : L2.St) (H : Hp) (x : V) (xs : List V) (v : Value) (us : List Value) (Q : VK) (β : List Addr) (st : Sto) (d : D) (ds : List D), Inv X pins σ H s → RelV x v → Vals xs us → Sim X.K X.mg β st H → VR X.K β H d x → VRs X.K β H ds xs →
    PostA X.K X.mg W σ (okE X.K Q) β H (f d ds st) → wpAny (model X.prog X.w) X.A (call (.builtin id) (v :: us)) (EP X pins σ Q) X.xe s
theorem MtS3.of {id : String} {r : V → List V → Hp → VK → Prop} {f : D → List D → Sto → R D} (h : MtR X id r)
    (i : ∀ (σ : L2.St) (H : Hp) (x : V) (xs : List V) (Q : VK) (β : List Addr) (st : Sto) (d : D) (ds : List D), Sim X.K X.mg β st H → VR X.K β H d x → VRs X.K β H ds xs → PostA X.K X.mg W σ (okE X.K Q) β H (f d ds st) → r x xs H Q) : MtS3 X W id f :=
  fun pins s σ H x xs v us Q β st d ds I rv rx S vd vx p => h pins s σ H x xs v us Q I rv rx (i σ H x xs Q β st d ds S vd vx p)

variable {e a b c : Expr} {es rest : List Expr} {pos : Pos} {ka kb kcc : KE} {kt kt' : KT} {kas : KA}
theorem q_v {i : Nat} {x : Str} (hN : X.N[i]? = some x := by rfl) (hv : Vis X.env.scope x := by first | exact Or.inl rfl | exact Or.inr (Or.inl rfl) | exact Or.inr (Or.inr rfl)) (hd : (x == ("__debug__" : Str)) = false := by decide)
    (hcd : (x == ("__classdict__" : Str)) = false := by decide) : PE X (.Name x pos) (lift X.K X.mg W (kv i)) :=
  PE.imp (pe_var (i := i) hN hv hd hcd) fun σ H Q ⟨β, ρ, st, S, E, p⟩ => by
    unfold kv at p
    split at p
    · rename_i d hd
      obtain ⟨v, h1, h2⟩ := E.2 i d hd
      exact ⟨v, h1, p β H (Ext.refl β H) S v h2⟩
    · exact p.elim
theorem q_c {t : TE} {d : D} {v : V} (h : PE X e (tC v)) (r : ∀ β H, VR X.K β H d v) : PE X e (lift X.K X.mg W (kc d)) :=
  PE.imp h fun σ H Q ⟨β, ρ, st, S, E, p⟩ => p β H (Ext.refl β H) S v (r β H)
theorem q_int {i j} : PE X (.Constant (.int i) j pos) (lift X.K X.mg W (kc (.int i))) := q_c (t := tC (.int i)) pe_int fun _ _ => VR.int.mpr rfl
theorem q_bl {i j} : PE X (.Constant (.bool i) j pos) (lift X.K X.mg W (kc (.bl i))) := q_c (t := tC (.bl i)) pe_bl fun _ _ => VR.bl.mpr rfl
theorem q_str {i j} : PE X (.Constant (.str i) j pos) (lift X.K X.mg W (kc (.str i))) := q_c (t := tC (.str i)) pe_str fun _ _ => VR.str.mpr rfl
theorem q_non {j} : PE X (.Constant .none j pos) (lift X.K X.mg W (kc .non)) := q_c (t := tC .non) pe_non fun _ _ => VR.non.mpr rfl
/-- a module's constant -/
theorem q_gint {x : Str} {i : Int} {t : Tok} (hg : Gl X x) (hm : X.mg x = some (.int i t)) (hd : (x == ("__debug__" : Str)) = false := by decide) : PE X (.Name x pos) (lift X.K X.mg W (kc (.int i))) := q_c (t := tC (.int i)) (pe_glob (v := .int i) hg hm ⟨t, rfl⟩ hd) fun _ _ => VR.int.mpr rfl
theorem q_gstr {x : Str} {i : Str} {t : Tok} (hg : Gl X x) (hm : X.mg x = some (.str i t)) (hd : (x == ("__debug__" : Str)) = false := by decide) : PE X (.Name x pos) (lift X.K X.mg W (kc (.str i))) := q_c (t := tC (.str i)) (pe_glob (v := .str i) hg hm ⟨t, rfl⟩ hd) fun _ _ => VR.str.mpr rfl

/-- two in a row -/
theorem run2 {α : Type} {pins : List (Addr × Obj)} {s : Shared} {σ : L2.St} {H : Hp} {β : List Addr} {ρ : Env3} {st : Sto} {ok : α → List Addr → Hp → Prop} {f : D → D → Sto → R α} (ha : PE X a (lift X.K X.mg W ka)) (hb : PE X b (lift X.K X.mg W kb)) (I : Inv X pins σ H s)
    (S : Sim X.K X.mg β st H) (E : ER X.K β H ρ σ) (p : PostA X.K X.mg W σ ok β H ((ka ρ st).bind fun x st1 => (kb ρ st1).bind fun y st2 => f x y st2)) {Z : Value → Value → Shared → Prop}
    (hf : ∀ v u s2 x y H2 β2 st2 dx dy, Inv X pins σ H2 s2 → RelV x v → RelV y u → Sim X.K X.mg β2 st2 H2 → ER X.K β2 H2 ρ σ → VR X.K β2 H2 dx x → VR X.K β2 H2 dy y → PostA X.K X.mg W σ ok β2 H2 (f dx dy st2) → Z v u s2) :
    wpAny (model X.prog X.w) X.A (eval a X.env) (fun v s₁ => wpAny (model X.prog X.w) X.A (eval b X.env) (fun u s₂ => Z v u s₂) X.xe s₁) X.xe s := by
  refine thn (ha.run pins s σ H (fun x H1 => ∃ β1 st1 dx, Sim X.K X.mg β1 st1 H1 ∧ ER X.K β1 H1 ρ σ ∧ VR X.K β1 H1 dx x ∧ PostA X.K X.mg W σ ok β1 H1 ((kb ρ st1).bind fun y st2 => f dx y st2)) I
    (lift.bind S E p fun d v β' H' st' e' S' E' r' p' => ⟨β', st', d, S', E', r', p'⟩)) fun v s1 ⟨x, H1, I1, r1, β1, st1, dx, S1, E1, v1, p1⟩ => ?_
  refine thn (hb.run pins s1 σ H1 (fun y H2 => ∃ β2 st2 dy, Ext β1 H1 β2 H2 ∧ Sim X.K X.mg β2 st2 H2 ∧ ER X.K β2 H2 ρ σ ∧ VR X.K β2 H2 dy y ∧ PostA X.K X.mg W σ ok β2 H2 (f dx dy st2)) I1
    (lift.bind S1 E1 p1 fun d v β' H' st' e' S' E' r' p' => ⟨β', st', d, e', S', E', r', p'⟩)) fun u s2 ⟨y, H2, I2, r2, β2, st2, dy, e2, S2, E2, v2, p2⟩ => ?_
  exact hf v u s2 x y H2 β2 st2 dx dy I2 r1 r2 S2 E2 (VR.mono e2 _ _ v1) v2 p2

theorem q_op {op : Operator} {f : D → D → Sto → R D} (ho : OpS X W (binaryOp op) f) (ha : PE X a (lift X.K X.mg W ka)) (hb : PE X b (lift X.K X.mg W kb)) : PE X (.BinOp a op b pos) (lift X.K X.mg W (k2 f ka kb)) := by
  refine ⟨fun pins s σ H Q I ⟨β, ρ, st, S, E, p⟩ => ?_⟩
  exact wpAny_BinOp (run2 ha hb I S E p fun v u s2 x y H2 β2 st2 dx dy I2 r1 r2 S2 E2 v1 v2 p2 => ho pins s2 σ H2 x y v u Q β2 st2 dx dy I2 r1 r2 S2 v1 v2 p2)
theorem q_cmp {op : CmpOp} {f : D → D → Sto → R D} (ho : OpS X W (compareOp op) f) (ha : PE X a (lift X.K X.mg W ka)) (hb : PE X b (lift X.K X.mg W kb)) (hm : behindInMarks op b = false) : PE X (.Compare a [op] [b] pos) (lift X.K X.mg W (k2 f ka kb)) := by
  refine ⟨fun pins s σ H Q I ⟨β, ρ, st, S, E, p⟩ => ?_⟩
  exact wpAny_Compare1 (run2 ha hb I S E p fun v u s2 x y H2 β2 st2 dx dy I2 r1 r2 S2 E2 v1 v2 p2 => ho pins s2 σ H2 x y v u Q β2 st2 dx dy I2 r1 r2 S2 v1 v2 p2) hm
theorem q_un {op : UnaryOp} {f : D → Sto → R D} (ho : UnS X W (unaryOp op) f) (ha : PE X a (lift X.K X.mg W ka)) : PE X (.UnaryOp op a pos) (lift X.K X.mg W (k1 f ka)) := by
  refine ⟨fun pins s σ H Q I ⟨β, ρ, st, S, E, p⟩ => ?_⟩
  refine UnaryOp_ (thn (ha.run pins s σ H (fun x H1 => ∃ β1 st1 dx, Sim X.K X.mg β1 st1 H1 ∧ VR X.K β1 H1 dx x ∧ PostA X.K X.mg W σ (okE X.K Q) β1 H1 (f dx st1)) I
    (lift.bind S E p fun d v β' H' st' e' S' E' r' p' => ⟨β', st', d, S', r', p'⟩)) fun v s1 ⟨x, H1, I1, r1, β1, st1, dx, S1, v1, p1⟩ => ?_)
  exact ho pins s1 σ H1 x v Q β1 st1 dx I1 r1 S1 v1 p1
/-- a subscript by values -/
def IxS (X : Cx) (W : WX) (f : D → D → Sto → R D) : Prop :=
  ∀ (value slice : Expr) (pins : List (Addr × Obj)) (s : Shared) (σ : L2.St) (H : Hp) (x y : V) (v u : Value) (Q : VK) (β : List Addr) (st : Sto) (dx dy : D), Inv X pins σ H s → RelV x v → RelV y u → Sim X.K X.mg β st H → VR X.K β H dx x → VR X.K β H dy y →
    PostA X.K X.mg W σ (okE X.K Q) β H (f dx dy st) → subscripted slice false v u = operate [v, u] (getItem v u) → wpAny (model X.prog X.w) X.A (subscriptTail value slice v u) (EP X pins σ Q) X.xe s
theorem q_ix {f : D → D → Sto → R D} (ho : IxS X W f) (ha : PE X a (lift X.K X.mg W ka)) (hb : PE X b (lift X.K X.mg W kb)) (hs : PlainIx b) : PE X (.Subscript a b pos) (lift X.K X.mg W (k2 f ka kb)) := by
  refine ⟨fun pins s σ H Q I ⟨β, ρ, st, S, E, p⟩ => ?_⟩
  exact Subscript_ (run2 ha hb I S E p fun v u s2 x y H2 β2 st2 dx dy I2 r1 r2 S2 E2 v1 v2 p2 => ho a b pins s2 σ H2 x y v u Q β2 st2 dx dy I2 r1 r2 S2 v1 v2 p2 (hs _ _))

/-! ### arguments and displays -/
theorem q_nil : PA X [] (liftA X.K X.mg W kA0) := PA.imp pa_nil fun σ H Q ⟨β, ρ, st, S, E, p⟩ => p β H (Ext.refl β H) S [] (VRs.nil.mpr rfl)
theorem q_cons (ha : PE X a (lift X.K X.mg W ka)) (hr : PA X es (liftA X.K X.mg W kas)) (hs : starEach (a :: es) X.env = (false, eval a X.env) :: starEach es X.env := by rfl) : PA X (a :: es) (liftA X.K X.mg W (kA1 ka kas)) :=
  PA.imp (pa_cons ha hr hs) fun σ H Q ⟨β, ρ, st, S, E, p⟩ => lift.bind S E p fun d v β1 H1 st1 e1 S1 E1 r1 p1 =>
    liftA.bind S1 E1 p1 fun ds vs β2 H2 st2 e2 S2 E2 r2 p2 => p2 β2 H2 (Ext.refl _ _) S2 (v :: vs) (VRs.cons.mpr ⟨v, vs, rfl, VR.mono e2 _ _ r1, r2⟩)
theorem szl {n : Nat} (h : n ≤ 16777216) : n ≤ sizeLine := by rw [sizeLine_eq]; exact h
theorem q_tup {x1} (h : PA X es (liftA X.K X.mg W kas)) : PE X (.Tuple es x1 pos) (lift X.K X.mg W (kF tupF kas)) :=
  PE.imp (pe_tup h) fun σ H Q ⟨β, ρ, st, S, E, p⟩ => liftA.bind S E p fun ds vs β1 H1 st1 e1 S1 E1 r1 p1 => by
    unfold tupF at p1
    split at p1
    · rename_i hz
      refine ⟨by rw [r1.length]; exact szl hz, fun q hq => p1 β1 _ (ext_new0 hq) (S1.new0 hq) _ (VR.tup.mpr ⟨q, vs, rfl, upd_same, VRs.mono (ext_new0 hq) _ _ r1⟩)⟩
    · exact p1.elim
theorem newLst {K : PySem.W.Frag} {mg : Str → Option Value} {β : List Addr} {st : Sto} {H : Hp} {ds : List D} {vs : List V} {q : Addr} (S : Sim K mg β st H) (r : VRs K β H ds vs) (hq : H q = none) :
    Ext β H (β ++ [q]) (upd H q (.lst vs)) ∧ Sim K mg (β ++ [q]) (st ++ [.lst ds]) (upd H q (.lst vs)) ∧ VR K (β ++ [q]) (upd H q (.lst vs)) (.loc st.length) (.ref q) :=
  ⟨ext_new hq, S.push hq ⟨vs, upd_same, VRs.mono (ext_new hq) _ _ r⟩, VR.loc.mpr ⟨q, by rw [← S.len]; simp, rfl⟩⟩
theorem q_lst (h : PA X es (liftA X.K X.mg W kas)) : PE X (.List es pos) (lift X.K X.mg W (kF lstF kas)) :=
  PE.imp (pe_lst h) fun σ H Q ⟨β, ρ, st, S, E, p⟩ => liftA.bind S E p fun ds vs β1 H1 st1 e1 S1 E1 r1 p1 => by
    unfold lstF at p1
    split at p1
    · rename_i hz
      refine ⟨by rw [r1.length]; exact szl hz, fun q hq => ?_⟩
      obtain ⟨x1, x2, x3⟩ := newLst S1 r1 hq
      exact p1 _ _ x1 x2 _ x3
    · exact p1.elim

/-! ### calls of built-ins -/
theorem q_callB {x : Str} {p : Pos} {id : String} {f : List D → Sto → R D} (hc : CallS X W (.builtin id) f) (hg : Gl X x) (hm : X.mg x = none) (hv : bootBuiltins x = some (.builtin id)) (ha : PA X (a :: es) (liftA X.K X.mg W kas)) (hn : x ≠ "__name__" := by decide) (hdb : (x == ("__debug__" : Str)) = false := by decide)
    (he : starEach (a :: es) X.env = (false, eval a X.env) :: starEach es X.env := by rfl) (hpl : (backTo pos (starEach es X.env)).any (·.1) = false := by rfl) : PE X (.Call (.Name x p) (a :: es) [] pos) (lift X.K X.mg W (kF f kas)) := by
  refine ⟨fun pins s σ H Q I ⟨β, ρ, st, S, E, q⟩ => ?_⟩
  refine wpAny_Call_Name_kw (ld_blt I hg hm hv ?_ hn hdb)
  refine PyProof.Rows.callWith_builtin1 (thn (ha.run pos pins s σ H (fun xs H1 => ∃ β1 st1 ds, Sim X.K X.mg β1 st1 H1 ∧ VRs X.K β1 H1 ds xs ∧ PostA X.K X.mg W σ (okE X.K Q) β1 H1 (f ds st1)) I
    (liftA.bind S E q fun d v β' H' st' e' S' E' r' p' => ⟨β', st', d, S', r', p'⟩)) fun us s1 ⟨vs, H1, I1, r1, β1, st1, ds, S1, v1, p1⟩ => ?_) he hpl
  exact hc pins s1 σ H1 vs us Q β1 st1 ds I1 r1 S1 v1 p1
theorem q_callTy {x : Str} {p : Pos} {T : String} {f : List D → Sto → R D} (hc : CallS X W (.type T) f) (hg : Gl X x) (hm : X.mg x = none) (hv : bootBuiltins x = some (.type T)) (ha : PA X (a :: es) (liftA X.K X.mg W kas)) (hn : x ≠ "__name__" := by decide) (hdb : (x == ("__debug__" : Str)) = false := by decide)
    (he : starEach (a :: es) X.env = (false, eval a X.env) :: starEach es X.env := by rfl) (hpl : (backTo pos (starEach es X.env)).any (·.1) = false := by rfl) : PE X (.Call (.Name x p) (a :: es) [] pos) (lift X.K X.mg W (kF f kas)) := by
  refine ⟨fun pins s σ H Q I ⟨β, ρ, st, S, E, q⟩ => ?_⟩
  refine wpAny_Call_Name_kw (ld_blt I hg hm hv ?_ hn hdb)
  refine PyProof.Rows.callWith_type1 (thn (ha.run pos pins s σ H (fun xs H1 => ∃ β1 st1 ds, Sim X.K X.mg β1 st1 H1 ∧ VRs X.K β1 H1 ds xs ∧ PostA X.K X.mg W σ (okE X.K Q) β1 H1 (f ds st1)) I
    (liftA.bind S E q fun d v β' H' st' e' S' E' r' p' => ⟨β', st', d, S', r', p'⟩)) fun us s1 ⟨vs, H1, I1, r1, β1, st1, ds, S1, v1, p1⟩ => ?_) he hpl
  exact hc pins s1 σ H1 vs us Q β1 st1 ds I1 r1 S1 v1 p1

/-! ### tests -/
theorem lineI {n : Nat} (h : n ≤ 16777216) : n ≤ sizeLine := szl h
theorem tru_rel {K : PySem.W.Frag} {mg : Str → Option Value} {β : List Addr} {st : Sto} {H : Hp} {d : D} {v : V} {k : Bool} (S : Sim K mg β st H) (r : VR K β H d v) (h : truD d st = some k) : TruV K v H k := by
  cases d with
  | non => cases VR.non.mp r; cases h; rfl
  | bl b => cases VR.bl.mp r; cases h; rfl
  | int i => cases VR.int.mp r; cases h; rfl
  | str x =>
    cases VR.str.mp r
    simp only [truD] at h
    split at h
    · rename_i hz; cases h; exact ⟨szl hz, rfl⟩
    · cases h
  | tup xs =>
    obtain ⟨a, vs, rfl, h1, h2⟩ := VR.tupS r
    cases h
    refine .inr (.inl ⟨vs, h1, ?_⟩)
    have hl := h2.length
    cases xs <;> cases vs <;> simp_all
  | cls _ => cases h
  | lam _ _ _ => cases h
  | fn _ _ => cases h
  | fdk _ _ => cases h
  | frz xs =>
    obtain ⟨a, vs, rfl, h1, h2⟩ := VR.frz.mp r
    cases h
    refine .inl ⟨vs, h1.sq, ?_⟩
    have hl := h2.length
    cases xs <;> cases vs <;> simp_all
  | loc n =>
    obtain ⟨a, h1, rfl⟩ := VR.loc.mp r
    obtain ⟨o, h2, h3⟩ := S.at h1
    simp only [truD, h2] at h
    cases o with
    | lst xs =>
      cases h
      obtain ⟨vs, h4, h5⟩ := h3
      refine .inl ⟨vs, SqL.of h4, ?_⟩
      have hl := h5.length
      cases xs <;> cases vs <;> simp_all
    | dK xs =>
      cases h
      obtain ⟨vs, h4, h5⟩ := h3
      refine .inr (.inr ⟨vs, h4, ?_⟩)
      cases h5 <;> rfl
    | dT _ => cases h
    | ins _ _ => cases h
    | tb _ _ => cases h
/-- a test of any value, by its truth -/
theorem q_tr (ha : PE X a (lift X.K X.mg W ka)) (he : ∀ whole, isTrue a X.env whole = (do let v ← whole; standAt a.pos; holding [v] (truthy v)) := by intro _; rfl) : PT X a (liftT X.K X.mg W (kTr ka)) :=
  PT.imp (pt_truth ha he) fun σ H Q ⟨β, ρ, st, S, E, p⟩ => lift.bind S E p fun d v β1 H1 st1 e1 S1 E1 r1 p1 => by
    split at p1
    · rename_i k hk
      exact ⟨k, tru_rel S1 r1 hk, p1 β1 H1 (Ext.refl _ _) S1⟩
    · exact p1.elim
/-- a comparison as a test -/
theorem q_tcmp {op : CmpOp} {f : D → D → Sto → R D} (ho : OpS X W (compareOp op) f) (ha : PE X a (lift X.K X.mg W ka)) (hb : PE X b (lift X.K X.mg W kb)) (hm : behindInMarks op b = false) : PT X (.Compare a [op] [b] pos) (liftT X.K X.mg W (kTb (k2 f ka kb))) := by
  refine ⟨fun pins s σ H Q I ⟨β, ρ, st, S, E, p⟩ => ?_⟩
  have p' : PostA X.K X.mg W σ (okT Q) β H ((ka ρ st).bind fun x st1 => (kb ρ st1).bind fun y st2 => (f x y st2).bind fun d st3 => match d with | .bl b => R.ok b st3 | _ => R.bad) := by
    unfold kTb k2 at p
    cases h1 : ka ρ st with
    | ok x st1 =>
      rw [h1] at p
      simp only [R.bind_ok] at p ⊢
      cases h2 : kb ρ st1 with
      | ok y st2 => rw [h2] at p; simpa only [R.bind_ok] using p
      | exn z st2 => rw [h2] at p; exact p
      | bad => rw [h2] at p; exact p
    | exn z st2 => rw [h1] at p; exact p
    | bad => rw [h1] at p; exact p
  refine wpAny_isTrue_Compare1 (run2 ha hb I S E p' fun v u s2 x y H2 β2 st2 dx dy I2 r1 r2 S2 E2 v1 v2 p2 => ?_) hm
  refine thn (ho pins s2 σ H2 x y v u (fun z H3 => ∃ k, z = .bl k ∧ Q k H3) β2 st2 dx dy I2 r1 r2 S2 v1 v2 ?_) fun c s3 ⟨z, H3, I3, r3, k, e, q3⟩ => ?_
  · exact PostA.imp (fun d β3 H3 ⟨st3, S3, p3⟩ v3 r3 => by
      cases d with
      | bl k => exact ⟨k, VR.bl.mp r3, p3 β3 H3 (Ext.refl _ _) S3⟩
      | _ => exact p3.elim) (PostA.bind p2)
  · subst e
    cases r3
    exact wpAny_truthy_bool ⟨H3, I3, q3⟩
end
end L3

namespace L3
open PySem PySem.Spec PyProof.Rows L2
section
variable {X : Cx} {W : WX} {e a b c : Expr} {es rest : List Expr} {pos : Pos} {ka kb kcc : KE} {kt kt' : KT} {kas : KA}

/-! ### chains, and, or, not, if -/
theorem q_chain {op op' : CmpOp} {f g : D → D → Sto → R D} (ho : OpS X W (compareOp op) f) (ho' : OpS X W (compareOp op') g) (ha : PE X a (lift X.K X.mg W ka)) (hb : PE X b (lift X.K X.mg W kb)) (hc : PE X c (lift X.K X.mg W kcc))
    (hm : lastMarks [op, op'] [b, c] = false := by with_unfolding_all rfl) : PE X (.Compare a [op, op'] [b, c] pos) (lift X.K X.mg W (kChain f g ka kb kcc)) := by
  refine ⟨fun pins s σ H Q I ⟨β, ρ, st, S, E, p⟩ => ?_⟩
  refine Compare_chain ?_ hm
  refine thn (ha.run pins s σ H (fun x H1 => ∃ β1 st1 dx, Sim X.K X.mg β1 st1 H1 ∧ ER X.K β1 H1 ρ σ ∧ VR X.K β1 H1 dx x ∧ PostA X.K X.mg W σ (okE X.K Q) β1 H1 ((kb ρ st1).bind fun y st2 => (f dx y st2).bind fun z st3 => match z with | .bl true => (kcc ρ st3).bind fun w st4 => g y w st4 | .bl false => .ok (.bl false) st3 | _ => .bad)) I
    (lift.bind S E p fun d v β' H' st' e' S' E' r' p' => ⟨β', st', d, S', E', r', p'⟩)) fun v s1 ⟨x, H1, I1, r1, β1, st1, dx, S1, E1, v1, p1⟩ => ?_
  refine chain_link (thn (hb.run pins s1 σ H1 (fun y H2 => ∃ β2 st2 dy, Ext β1 H1 β2 H2 ∧ Sim X.K X.mg β2 st2 H2 ∧ ER X.K β2 H2 ρ σ ∧ VR X.K β2 H2 dy y ∧ PostA X.K X.mg W σ (okE X.K Q) β2 H2 ((f dx dy st2).bind fun z st3 => match z with | .bl true => (kcc ρ st3).bind fun w st4 => g dy w st4 | .bl false => .ok (.bl false) st3 | _ => .bad)) I1
    (lift.bind S1 E1 p1 fun d v β' H' st' e' S' E' r' p' => ⟨β', st', d, e', S', E', r', p'⟩)) fun u s2 ⟨y, H2, I2, r2, β2, st2, dy, e2, S2, E2, v2, p2⟩ => ?_)
  refine thn (ho pins s2 σ H2 x y v u (fun z H3 => ∃ k β3 st3, z = .bl k ∧ Ext β2 H2 β3 H3 ∧ Sim X.K X.mg β3 st3 H3 ∧ PostA X.K X.mg W σ (okE X.K Q) β3 H3 (if k = true then (kcc ρ st3).bind fun w st4 => g dy w st4 else .ok (.bl false) st3)) β2 st2 dx dy I2 r1 r2 S2 (VR.mono e2 _ _ v1) v2 ?_) fun d s3 ⟨z, H3, I3, r3, k, β3, st3, e, e3, S3, p3⟩ => ?_
  · cases hf : f dx dy st2 with
    | ok z st3 =>
      rw [hf] at p2
      intro β3 H3 e3 S3 v3 r3
      cases z with
      | bl k =>
        refine ⟨k, β3, st3, VR.bl.mp r3, e3, S3, ?_⟩
        have p2' := PostA.mono e3 p2
        cases k <;> exact p2'
      | _ => exact p2.elim
    | exn z st3 => rw [hf] at p2; exact p2
    | bad => rw [hf] at p2; exact p2
  · subst e
    cases r3
    refine wpAny_truthy_bool ?_
    cases k with
    | false => exact ite_ff ⟨.bl false, H3, I3, rfl, p3 β3 H3 (Ext.refl _ _) S3 _ (VR.bl.mpr rfl)⟩
    | true =>
      refine ite_tt (chain_last (thn (hc.run pins s3 σ H3 (fun w H4 => ∃ β4 st4 dw, Ext β3 H3 β4 H4 ∧ Sim X.K X.mg β4 st4 H4 ∧ VR X.K β4 H4 dw w ∧ PostA X.K X.mg W σ (okE X.K Q) β4 H4 (g dy dw st4)) I3
        (lift.bind S3 (E2.mono e3) p3 fun d v β' H' st' e' S' E' r' p' => ⟨β', st', d, e', S', r', p'⟩)) fun w' s4 ⟨z', H4, I4, r4, β4, st4, dw, e4, S4, v4, p4⟩ => ?_))
      exact ho' pins s4 σ H4 y z' u w' Q β4 st4 dy dw I4 r2 r4 S4 (VR.mono (e3.trans e4) _ _ v2) v4 p4
/-- such a comparison as a test -/
theorem q_tchain {op op' : CmpOp} {f g : D → D → Sto → R D} (ho : OpS X W (compareOp op) f) (ho' : OpS X W (compareOp op') g) (ha : PE X a (lift X.K X.mg W ka)) (hb : PE X b (lift X.K X.mg W kb)) (hc : PE X c (lift X.K X.mg W kcc))
    (hm : lastMarks [op, op'] [b, c] = false := by with_unfolding_all rfl) : PT X (.Compare a [op, op'] [b, c] pos) (liftT X.K X.mg W (kTb (kChain f g ka kb kcc))) := by
  refine ⟨fun pins s σ H Q I ⟨β, ρ, st, S, E, p⟩ => ?_⟩
  have p0 : PostA X.K X.mg W σ (okT Q) β H ((ka ρ st).bind fun x st1 => (kb ρ st1).bind fun y st2 => (f x y st2).bind fun z st3 => match z with
    | .bl true => (kcc ρ st3).bind fun w st4 => (g y w st4).bind fun q st5 => match q with | .bl b => R.ok b st5 | _ => .bad
    | .bl false => .ok false st3
    | _ => .bad) := by
    unfold kTb kChain at p
    cases h1 : ka ρ st with
    | ok x st1 =>
      rw [h1] at p; simp only [R.bind_ok] at p ⊢
      cases h2 : kb ρ st1 with
      | ok y st2 =>
        rw [h2] at p; simp only [R.bind_ok] at p ⊢
        cases h3 : f x y st2 with
        | ok z st3 =>
          rw [h3] at p; simp only [R.bind_ok] at p ⊢
          cases z with
          | bl k =>
            cases k with
            | true =>
              cases h4 : kcc ρ st3 with
              | ok w st4 => simp only [h4, R.bind_ok] at p ⊢; exact p
              | exn _ _ => simp only [h4, R.bind_exn] at p ⊢; exact p
              | bad => simp only [h4, R.bind_bad] at p ⊢; exact p
            | false => exact p
          | _ => exact p
        | exn _ _ => rw [h3] at p; exact p
        | bad => rw [h3] at p; exact p
      | exn _ _ => rw [h2] at p; exact p
      | bad => rw [h2] at p; exact p
    | exn _ _ => rw [h1] at p; exact p
    | bad => rw [h1] at p; exact p
  refine isTrue_chain ?_ hm
  refine thn (ha.run pins s σ H (fun x H1 => ∃ β1 st1 dx, Sim X.K X.mg β1 st1 H1 ∧ ER X.K β1 H1 ρ σ ∧ VR X.K β1 H1 dx x ∧ PostA X.K X.mg W σ (okT Q) β1 H1 ((kb ρ st1).bind fun y st2 => (f dx y st2).bind fun z st3 => match z with
    | .bl true => (kcc ρ st3).bind fun w st4 => (g y w st4).bind fun q st5 => match q with | .bl b => R.ok b st5 | _ => .bad
    | .bl false => .ok false st3
    | _ => .bad)) I
    (lift.bind S E p0 fun d v β' H' st' e' S' E' r' p' => ⟨β', st', d, S', E', r', p'⟩)) fun v s1 ⟨x, H1, I1, r1, β1, st1, dx, S1, E1, v1, p1⟩ => ?_
  refine test_link (thn (hb.run pins s1 σ H1 (fun y H2 => ∃ β2 st2 dy, Ext β1 H1 β2 H2 ∧ Sim X.K X.mg β2 st2 H2 ∧ ER X.K β2 H2 ρ σ ∧ VR X.K β2 H2 dy y ∧ PostA X.K X.mg W σ (okT Q) β2 H2 ((f dx dy st2).bind fun z st3 => match z with
    | .bl true => (kcc ρ st3).bind fun w st4 => (g dy w st4).bind fun q st5 => match q with | .bl b => R.ok b st5 | _ => .bad
    | .bl false => .ok false st3
    | _ => .bad)) I1
    (lift.bind S1 E1 p1 fun d v β' H' st' e' S' E' r' p' => ⟨β', st', d, e', S', E', r', p'⟩)) fun u s2 ⟨y, H2, I2, r2, β2, st2, dy, e2, S2, E2, v2, p2⟩ => ?_)
  refine thn (ho pins s2 σ H2 x y v u (fun z H3 => ∃ k β3 st3, z = .bl k ∧ Ext β2 H2 β3 H3 ∧ Sim X.K X.mg β3 st3 H3 ∧ PostA X.K X.mg W σ (okT Q) β3 H3 (if k = true then (kcc ρ st3).bind fun w st4 => (g dy w st4).bind fun q st5 => match q with | .bl b => R.ok b st5 | _ => .bad else .ok false st3)) β2 st2 dx dy I2 r1 r2 S2 (VR.mono e2 _ _ v1) v2 ?_) fun d s3 ⟨z, H3, I3, r3, k, β3, st3, e, e3, S3, p3⟩ => ?_
  · cases hf : f dx dy st2 with
    | ok z st3 =>
      rw [hf] at p2
      intro β3 H3 e3 S3 v3 r3
      cases z with
      | bl k =>
        refine ⟨k, β3, st3, VR.bl.mp r3, e3, S3, ?_⟩
        have p2' := PostA.mono e3 p2
        cases k <;> exact p2'
      | _ => exact p2.elim
    | exn z st3 => rw [hf] at p2; exact p2
    | bad => rw [hf] at p2; exact p2
  · subst e
    cases r3
    refine wpAny_truthy_bool ?_
    cases k with
    | false => exact ite_ff ⟨H3, I3, p3 β3 H3 (Ext.refl _ _) S3⟩
    | true =>
      refine ite_tt (test_last (thn (hc.run pins s3 σ H3 (fun w H4 => ∃ β4 st4 dw, Ext β3 H3 β4 H4 ∧ Sim X.K X.mg β4 st4 H4 ∧ VR X.K β4 H4 dw w ∧ PostA X.K X.mg W σ (okT Q) β4 H4 ((g dy dw st4).bind fun q st5 => match q with | .bl b => R.ok b st5 | _ => .bad)) I3
        (lift.bind S3 (E2.mono e3) p3 fun d v β' H' st' e' S' E' r' p' => ⟨β', st', d, e', S', r', p'⟩)) fun w' s4 ⟨z', H4, I4, r4, β4, st4, dw, e4, S4, v4, p4⟩ => ?_))
      refine thn (ho' pins s4 σ H4 y z' u w' (fun z H5 => ∃ k, z = .bl k ∧ Q k H5) β4 st4 dy dw I4 r2 r4 S4 (VR.mono (e3.trans e4) _ _ v2) v4 ?_) fun d' s5 ⟨z2, H5, I5, r5, k2, e5, q5⟩ => ?_
      · exact PostA.imp (fun d β5 H5 ⟨st5, S5, p5⟩ v5 r5 => by
          cases d with
          | bl k => exact ⟨k, VR.bl.mp r5, p5 β5 H5 (Ext.refl _ _) S5⟩
          | _ => exact p5.elim) (PostA.bind p4)
      · subst e5
        cases r5
        exact wpAny_truthy_bool ⟨H5, I5, q5⟩

theorem q_tval (ha : PE X a (lift X.K X.mg W ka)) (he : ∀ whole, isTrue a X.env whole = (do let v ← whole; standAt a.pos; holding [v] (truthy v)) := by intro _; rfl) : PT X a (liftT X.K X.mg W (kTb ka)) :=
  PT.imp (pt_val ha he) fun σ H Q ⟨β, ρ, st, S, E, p⟩ => lift.bind S E p fun d v β1 H1 st1 e1 S1 E1 r1 p1 => by
    cases d with
    | bl k => exact ⟨k, VR.bl.mp r1, p1 β1 H1 (Ext.refl _ _) S1⟩
    | _ => exact p1.elim
theorem w_and1 (ha : PT X a (liftT X.K X.mg W kt)) : PW X (.BoolOp .And [a] pos) (liftT X.K X.mg W kt) := pw_and1 ha
theorem w_or1 (ha : PT X a (liftT X.K X.mg W kt)) : PW X (.BoolOp .Or [a] pos) (liftT X.K X.mg W kt) := pw_or1 ha
theorem w_and (ha : PT X a (liftT X.K X.mg W kt)) (hb : PW X (.BoolOp .And (b :: rest) pos) (liftT X.K X.mg W kt')) : PW X (.BoolOp .And (a :: b :: rest) pos) (liftT X.K X.mg W (tAnd3 kt kt')) :=
  PW.imp (pw_and ha hb) fun σ H Q ⟨β, ρ, st, S, E, p⟩ => liftT.bind S E p fun k β1 H1 st1 e1 S1 E1 p1 => by
    cases k with
    | true => exact iteT ⟨β1, ρ, st1, S1, E1, p1⟩
    | false => exact iteF (p1 β1 H1 (Ext.refl _ _) S1)
theorem w_or (ha : PT X a (liftT X.K X.mg W kt)) (hb : PW X (.BoolOp .Or (b :: rest) pos) (liftT X.K X.mg W kt')) : PW X (.BoolOp .Or (a :: b :: rest) pos) (liftT X.K X.mg W (tOr3 kt kt')) :=
  PW.imp (pw_or ha hb) fun σ H Q ⟨β, ρ, st, S, E, p⟩ => liftT.bind S E p fun k β1 H1 st1 e1 S1 E1 p1 => by
    cases k with
    | true => exact iteT (p1 β1 H1 (Ext.refl _ _) S1)
    | false => exact iteF ⟨β1, ρ, st1, S1, E1, p1⟩
theorem q_tnot (ha : PT X a (liftT X.K X.mg W kt)) : PT X (.UnaryOp .Not a pos) (liftT X.K X.mg W (tNot3 kt)) :=
  PT.imp (pt_not ha) fun σ H Q ⟨β, ρ, st, S, E, p⟩ => liftT.bind S E p fun k β1 H1 st1 e1 S1 E1 p1 => p1 β1 H1 (Ext.refl _ _) S1
theorem q_if (hc : PT X c (liftT X.K X.mg W kt)) (ha : PE X a (lift X.K X.mg W ka)) (hb : PE X b (lift X.K X.mg W kb)) : PE X (.IfExp c a b pos) (lift X.K X.mg W (kIf kt ka kb)) :=
  PE.imp (pe_ifExp hc ha hb) fun σ H Q ⟨β, ρ, st, S, E, p⟩ => liftT.bind S E p fun k β1 H1 st1 e1 S1 E1 p1 => by
    cases k with
    | true => exact iteT ⟨β1, ρ, st1, S1, E1, p1⟩
    | false => exact iteF ⟨β1, ρ, st1, S1, E1, p1⟩
theorem q_one {op} (h : PE X a (lift X.K X.mg W ka)) : PE X (.BoolOp op [a] pos) (lift X.K X.mg W ka) := pe_one h
theorem q_andV (ha : PE X a (lift X.K X.mg W ka)) (hb : PE X (.BoolOp .And (b :: rest) pos) (lift X.K X.mg W kb)) : PE X (.BoolOp .And (a :: b :: rest) pos) (lift X.K X.mg W (kAndV ka kb)) :=
  PE.imp (pe_andT ha hb) fun σ H Q ⟨β, ρ, st, S, E, p⟩ => lift.bind S E p fun d v β1 H1 st1 e1 S1 E1 r1 p1 => by
    split at p1
    · rename_i hk; exact ⟨true, tru_rel S1 r1 hk, iteT ⟨β1, ρ, st1, S1, E1, p1⟩⟩
    · rename_i hk; exact ⟨false, tru_rel S1 r1 hk, iteF (p1 β1 H1 (Ext.refl _ _) S1 v r1)⟩
    · exact p1.elim
theorem q_orV (ha : PE X a (lift X.K X.mg W ka)) (hb : PE X (.BoolOp .Or (b :: rest) pos) (lift X.K X.mg W kb)) : PE X (.BoolOp .Or (a :: b :: rest) pos) (lift X.K X.mg W (kOrV ka kb)) :=
  PE.imp (pe_orT ha hb) fun σ H Q ⟨β, ρ, st, S, E, p⟩ => lift.bind S E p fun d v β1 H1 st1 e1 S1 E1 r1 p1 => by
    split at p1
    · rename_i hk; exact ⟨true, tru_rel S1 r1 hk, iteT (p1 β1 H1 (Ext.refl _ _) S1 v r1)⟩
    · rename_i hk; exact ⟨false, tru_rel S1 r1 hk, iteF ⟨β1, ρ, st1, S1, E1, p1⟩⟩
    · exact p1.elim
theorem q_notV (ha : PE X a (lift X.K X.mg W ka)) : PE X (.UnaryOp .Not a pos) (lift X.K X.mg W (kNotV ka)) :=
  PE.imp (pe_notT ha) fun σ H Q ⟨β, ρ, st, S, E, p⟩ => lift.bind S E p fun d v β1 H1 st1 e1 S1 E1 r1 p1 => by
    split at p1
    · rename_i k hk; exact ⟨k, tru_rel S1 r1 hk, p1 β1 H1 (Ext.refl _ _) S1 _ (VR.bl.mpr rfl)⟩
    · exact p1.elim

/-! ### methods of built-in types -/
def tyD (T : String) (d : D) (st : Sto) : Bool := match d with
  | .str _ => T == "str"
  | .int _ => T == "int"
  | .frz _ => T == "list"
  | .loc n => match st[n]? with
    | some (.lst _) => T == "list"
    | some (.dK _) => T == "dict"
    | some (.dT _) => T == "dict"
    | _ => false
  | _ => false
theorem ty_rel {K : PySem.W.Frag} {mg : Str → Option Value} {β : List Addr} {st : Sto} {H : Hp} {d : D} {v : V} {T : String} (S : Sim K mg β st H) (r : VR K β H d v) (h : tyD T d st = true) : tyV K T v H := by
  cases d with
  | str x => cases VR.str.mp r; exact beq_iff_eq.mp h
  | int x => cases VR.int.mp r; exact beq_iff_eq.mp h
  | frz xs =>
    obtain ⟨a, vs, rfl, h1, h2⟩ := VR.frz.mp r
    exact .inl ⟨beq_iff_eq.mp h, vs, h1.sq⟩
  | loc n =>
    obtain ⟨a, h1, rfl⟩ := VR.loc.mp r
    obtain ⟨o, h2, h3⟩ := S.at h1
    simp only [tyD, h2] at h
    cases o with
    | lst xs => obtain ⟨vs, h4, _⟩ := h3; exact .inl ⟨beq_iff_eq.mp h, vs, SqL.of h4⟩
    | dK xs => obtain ⟨vs, h4, _⟩ := h3; exact .inr (.inr (.inl ⟨beq_iff_eq.mp h, .inl ⟨vs, h4⟩⟩))
    | dT xs => obtain ⟨vs, h4, _⟩ := h3; exact .inr (.inr (.inl ⟨beq_iff_eq.mp h, .inr ⟨vs, h4⟩⟩))
    | ins _ _ => cases h
    | tb _ _ => cases h
  | _ => cases h
theorem q_bm {o : Expr} {T id : String} {name : Str} {apos cpos : Pos} {f : D → List D → Sto → R D} (pa : PlainAttrs T) (slot : Slot T name id) (hty : typeOf (.builtin id) = pure (.type "method_descriptor")) (hm : MtS3 X W id f) (ho : PE X o (lift X.K X.mg W ka)) (ha : PA X (a :: es) (liftA X.K X.mg W kas))
    (hbase : attributeBase o name X.env (eval o X.env) = eval o X.env := by rfl)
    (hfew : ((backTo cpos (starEach (a :: es) X.env)).all (fun x => !x.1) && (backToKw cpos (keywordEach [] X.env)).all (fun x => x.1.isSome)
      && decide ((a :: es).length + ([] : List Keyword).length + (if ([] : List Keyword).isEmpty then 0 else 1) < 30)) = true := by rfl)
    (hline : (apos.endLine == cpos.line) = true := by rfl) (hs : starEach (a :: es) X.env = (false, eval a X.env) :: starEach es X.env := by rfl) (hplain : (backTo cpos (starEach es X.env)).any (·.1) = false := by rfl) :
    PE X (.Call (.Attribute o name apos) (a :: es) [] cpos) (lift X.K X.mg W (kM (tyD T) f ka kas)) := by
  refine ⟨fun pins s σ H Q I ⟨β, ρ, st, S, E, p⟩ => ?_⟩
  refine wpAny_Call_method_late hbase hfew hline rfl (thn (ho.run pins s σ H (fun x H1 => ∃ β1 st1 dx, Sim X.K X.mg β1 st1 H1 ∧ ER X.K β1 H1 ρ σ ∧ VR X.K β1 H1 dx x ∧ tyD T dx st1 = true ∧ PostA X.K X.mg W σ (okE X.K Q) β1 H1 ((kas ρ st1).bind fun xs st2 => f dx xs st2)) I
    (lift.bind S E p fun d v β' H' st' e' S' E' r' p' => by
      split at p'
      · rename_i ht; exact ⟨β', st', d, S', E', r', ht, p'⟩
      · exact p'.elim)) fun v s1 ⟨x, H1, I1, r1, β1, st1, dx, S1, E1, v1, ht, p1⟩ => ?_)
  obtain ⟨h1, h2⟩ := tyV_is I1 r1 (ty_rel S1 v1 ht)
  refine ⟨T, id, pa, slot, hty, h1, h2, ?_⟩
  have hA := ha.run cpos pins s1 σ H1 (fun xs H2 => ∃ β2 st2 ds, Ext β1 H1 β2 H2 ∧ Sim X.K X.mg β2 st2 H2 ∧ VRs X.K β2 H2 ds xs ∧ PostA X.K X.mg W σ (okE X.K Q) β2 H2 (f dx ds st2)) I1
    (liftA.bind S1 E1 p1 fun d v β' H' st' e' S' E' r' p' => ⟨β', st', d, e', S', r', p'⟩)
  rw [hs] at hA ⊢
  refine Calls.callWith_builtin (by show (false || (backTo cpos (starEach es X.env)).any (·.1)) = false; rw [hplain] <;> rfl) (Calls.evalArgs_plain ?_)
  exact thn hA fun us s2 ⟨vs, H2, I2, r2, β2, st2, ds, e2, S2, v2, p2⟩ => hm pins s2 σ H2 x vs v us Q β2 st2 dx ds I2 r1 r2 S2 (VR.mono e2 _ _ v1) v2 p2
theorem q_bm0 {o : Expr} {T id : String} {name : Str} {apos cpos : Pos} {f : D → List D → Sto → R D} (pa : PlainAttrs T) (slot : Slot T name id) (hty : typeOf (.builtin id) = pure (.type "method_descriptor")) (hm : MtS3 X W id f) (ho : PE X o (lift X.K X.mg W ka))
    (hbase : attributeBase o name X.env (eval o X.env) = eval o X.env := by rfl) (hline : (apos.endLine == cpos.line) = true := by rfl) :
    PE X (.Call (.Attribute o name apos) [] [] cpos) (lift X.K X.mg W (kM (tyD T) f ka kA0)) := by
  refine ⟨fun pins s σ H Q I ⟨β, ρ, st, S, E, p⟩ => ?_⟩
  refine wpAny_Call_method0_late hbase hline (thn (ho.run pins s σ H (fun x H1 => ∃ β1 st1 dx, Sim X.K X.mg β1 st1 H1 ∧ ER X.K β1 H1 ρ σ ∧ VR X.K β1 H1 dx x ∧ tyD T dx st1 = true ∧ PostA X.K X.mg W σ (okE X.K Q) β1 H1 ((kA0 ρ st1).bind fun xs st2 => f dx xs st2)) I
    (lift.bind S E p fun d v β' H' st' e' S' E' r' p' => by
      split at p'
      · rename_i ht; exact ⟨β', st', d, S', E', r', ht, p'⟩
      · exact p'.elim)) fun v s1 ⟨x, H1, I1, r1, β1, st1, dx, S1, E1, v1, ht, p1⟩ => ?_)
  obtain ⟨h1, h2⟩ := tyV_is I1 r1 (ty_rel S1 v1 ht)
  exact ⟨T, id, pa, slot, hty, h1, h2, Calls.callWith_builtin rfl (PySem.evalArgs_none (hm pins s1 σ H1 x [] v [] Q β1 st1 dx [] I1 r1 .nil S1 v1 (VRs.nil.mpr rfl) p1))⟩

/-! ### slices -/
def kO0 : Env3 → Sto → R (Option Int) := fun _ st => .ok none st
def kO1 (a : KE) : Env3 → Sto → R (Option Int) := fun ρ st => (a ρ st).bind fun d st1 => match d with
  | .int i => .ok (some i) st1
  | _ => .bad
def liftO (K : PySem.W.Frag) (mg : Str → Option Value) (W : WX) (k : Env3 → Sto → R (Option Int)) : TO := fun σ H Q => ∃ β ρ st, Sim K mg β st H ∧ ER K β H ρ σ ∧ PostA K mg W σ (fun o _ H' => Q o H') β H (k ρ st)
theorem o_none : PO X none (liftO X.K X.mg W kO0) := ⟨fun pins s σ H Q I ⟨β, ρ, st, S, E, p⟩ => po_none.run pins s σ H Q I (p β H (Ext.refl _ _) S)⟩
theorem o_some (h : PE X a (lift X.K X.mg W ka)) : PO X (some a) (liftO X.K X.mg W (kO1 ka)) := ⟨fun pins s σ H Q I ⟨β, ρ, st, S, E, p⟩ => (po_some h).run pins s σ H Q I (lift.bind S E p fun d v β1 H1 st1 e1 S1 E1 r1 p1 => by
    cases d with
    | int i => exact ⟨i, VR.int.mp r1, p1 β1 H1 (Ext.refl _ _) S1⟩
    | _ => exact p1.elim)⟩
theorem liftO.bind {α : Type} {σ : L2.St} {ok : α → List Addr → Hp → Prop} {β : List Addr} {H : Hp} {ρ : Env3} {st : Sto} {k : Env3 → Sto → R (Option Int)} {f : Option Int → Sto → R α} {Q : Option Int → Hp → Prop} (S : Sim X.K X.mg β st H) (E : ER X.K β H ρ σ)
    (h : PostA X.K X.mg W σ ok β H ((k ρ st).bind f))
    (hq : ∀ b β' H' st', Ext β H β' H' → Sim X.K X.mg β' st' H' → ER X.K β' H' ρ σ → PostA X.K X.mg W σ ok β' H' (f b st') → Q b H') : liftO X.K X.mg W k σ H Q := by
  refine ⟨β, ρ, st, S, E, ?_⟩
  cases hm : k ρ st with
  | ok a st' =>
    rw [hm] at h
    exact fun β' H' e S' => hq a β' H' st' e S' (E.mono e) (PostA.mono e h)
  | exn x st' => rw [hm] at h; exact h
  | bad => rw [hm] at h; exact h
def cutD (xs : List D) (lo hi : Option Int) : List D := (xs.drop (HT.sIx xs.length 0 lo)).take (HT.sIx xs.length xs.length hi - HT.sIx xs.length 0 lo)
theorem cutD_rel {K : PySem.W.Frag} {β : List Addr} {H : Hp} {ds : List D} {vs : List V} (r : VRs K β H ds vs) (lo hi : Option Int) : VRs K β H (cutD ds lo hi) (cutV vs lo hi) := by
  unfold cutD cutV
  rw [r.length]
  exact (r.drop _).take _
def slD (d : D) (lo hi : Option Int) (st : Sto) : R D := match d with
  | .tup xs => .ok (.tup (cutD xs lo hi)) st
  | .str x => if x.length ≤ 16777216 then .ok (.str (cutS x lo hi)) st else .bad
  | .frz xs => .ok (.loc st.length) (st ++ [.lst (cutD xs lo hi)])
  | .loc n => match st[n]? with
    | some (.lst xs) => .ok (.loc st.length) (st ++ [.lst (cutD xs lo hi)])
    | _ => .bad
  | _ => .bad
def kSl (a : KE) (lo hi : Env3 → Sto → R (Option Int)) : KE := fun ρ st => (a ρ st).bind fun d st1 => (lo ρ st1).bind fun l st2 => (hi ρ st2).bind fun u st3 => slD d l u st3
theorem q_slice {lo hi : Option Expr} {p2 : Pos} {kl kh : Env3 → Sto → R (Option Int)} (he : PE X a (lift X.K X.mg W ka)) (hl : PO X lo (liftO X.K X.mg W kl)) (hu : PO X hi (liftO X.K X.mg W kh)) : PE X (.Subscript a (.Slice lo hi none p2) pos) (lift X.K X.mg W (kSl ka kl kh)) :=
  PE.imp (pe_slice (sl_tupA.or (sl_list.or sl_str)) he hl hu) fun σ H Q ⟨β, ρ, st, S, E, p⟩ => lift.bind S E p fun d v β1 H1 st1 e1 S1 E1 r1 p1 =>
    liftO.bind S1 E1 p1 fun l β2 H2 st2 e2 S2 E2 p2 => liftO.bind S2 E2 p2 fun u β3 H3 st3 e3 S3 E3 p3 => by
      have r3 := VR.mono e3 _ _ (VR.mono e2 _ _ r1)
      cases d with
      | tup xs =>
        obtain ⟨q, vs, rfl, h1, h2⟩ := VR.tup.mp r3
        refine .inl ⟨q, vs, rfl, .inl (.inl h1), fun hw => ?_, fun _ z hz => ?_⟩
        · refine p3 β3 H3 (Ext.refl _ _) S3 _ (VR.tup.mpr ⟨q, vs, rfl, h1, ?_⟩)
          have hc : cutD xs l u = xs := by
            unfold cutD
            rw [← h2.length, hw.1, hw.2, List.drop_zero, Nat.sub_zero, h2.length]
            exact List.take_length
          rw [hc]; exact h2
        · exact p3 β3 _ (ext_new0 hz) (S3.new0 hz) _ (VR.tup.mpr ⟨z, _, rfl, upd_same, VRs.mono (ext_new0 hz) _ _ (cutD_rel h2 l u)⟩)
      | str x =>
        unfold slD at p3
        simp only at p3
        split at p3
        · rename_i hz
          exact .inr (.inr ⟨x, VR.str.mp r3, szl hz, p3 β3 H3 (Ext.refl _ _) S3 _ (VR.str.mpr rfl)⟩)
        · exact p3.elim
      | frz xs =>
        obtain ⟨q, vs, rfl, h1, h2⟩ := VR.frz.mp r3
        refine .inr (.inl ⟨q, vs, rfl, h1.sq, fun z hz => ?_⟩)
        obtain ⟨x1, x2, x3⟩ := newLst S3 (cutD_rel h2 l u) hz
        exact p3 _ _ x1 x2 _ x3
      | loc n =>
        obtain ⟨q, h1, rfl⟩ := VR.loc.mp r3
        obtain ⟨o, h2, h3⟩ := S3.at h1
        unfold slD at p3
        simp only [h2] at p3
        cases o with
        | lst xs =>
          obtain ⟨vs, h4, h5⟩ := h3
          refine .inr (.inl ⟨q, vs, rfl, SqL.of h4, fun z hz => ?_⟩)
          obtain ⟨x1, x2, x3⟩ := newLst S3 (cutD_rel h5 l u) hz
          exact p3 _ _ x1 x2 _ x3
        | _ => exact p3.elim
      | _ => exact p3.elim
end
end L3

namespace L3
open PySem PySem.Spec PyProof.Rows L2

/-! ### defs of the text -/
/-- what a def's call means -/
abbrev Run := List D → Sto → R D
/-- the promise «as run says» of a def of n parameters -/
def spOf (K : PySem.W.Frag) (mg : Str → Option Value) (n : Nat) (run : Run) : Sp := fun vs H Q E => vs.length = n ∧ ∃ β st ds, Sim K mg β st H ∧ VRs K β H ds vs ∧ PostA K mg (fun c dd _ H' => E c dd H') [] (okE K Q) β H (run ds st)
theorem spOf.len {K : PySem.W.Frag} {mg : Str → Option Value} {n : Nat} {run : Run} : ∀ vs H Q E, spOf K mg n run vs H Q E → vs.length = n := fun _ _ _ _ h => h.1

section
variable {X : Cx} {W : WX} {e a b c : Expr} {es rest : List Expr} {pos : Pos} {ka kb kcc : KE} {kt kt' : KT} {kas : KA}
/-- what a callee lets out comes to this context's wish -/
theorem pass3 (tk : Takes X W) (σ : L2.St) : PassesAt (L2.CX X.prog X.w) X σ (fun c dd H' => W c dd σ H') := passAt tk σ
theorem PostA.toσ {α : Type} {K : PySem.W.Frag} {mg : Str → Option Value} {W : WX} {σ : L2.St} {ok : α → List Addr → Hp → Prop} {β : List Addr} {H : Hp} : ∀ {r : R α}, PostA K mg W σ ok β H r → PostA K mg (fun c dd _ H' => W c dd σ H') [] ok β H r
  | .ok _ _, h => h
  | .exn _ _, h => h
  | .bad, h => h
theorem q_call {x : Str} {p : Pos} {k n : Nat} {f : Addr} {fd : FuncData} {ps : List Str} {run : Run} (tk : Takes X W) (F : FnOk X.prog X.w X.K X.mg X.base (L2.CX X.prog X.w) k f fd ps (spOf X.K X.mg n run)) (hr : Room k X.A) (hg : Gl X x) (hm : X.mg x = some (.ref f)) (hk : PySem.W.keepIn X.K (.ref f) = true) (hb : Binds X.K fd ps [])
    (ha : PA X (a :: es) (liftA X.K X.mg W kas)) (hn : (a :: es).length = n := by rfl) (hl : ∀ ρ st ds st', kas ρ st = .ok ds st' → ds.length = n) (hdb : (x == ("__debug__" : Str)) = false := by decide) (he : starEach (a :: es) X.env = (false, eval a X.env) :: starEach es X.env := by rfl) (hpl : (backTo pos (starEach es X.env)).any (·.1) = false := by rfl) :
    PE X (.Call (.Name x p) (a :: es) [] pos) (lift X.K X.mg W (kF run kas)) :=
  PE.imp (pe_callSD F hr hg hm hk hb .nil (fun σ => pass3 tk σ) ha hdb he hpl) fun σ H Q ⟨β, ρ, st, S, E, q⟩ => by
    refine ⟨β, ρ, st, S, E, ?_⟩
    unfold kF at q
    cases hm : kas ρ st with
    | ok ds st' =>
      rw [hm] at q
      intro β1 H1 e1 S1 vs r1
      rw [List.append_nil]
      exact ⟨by rw [r1.length]; exact hl ρ st ds st' hm, β1, st', ds, S1, r1, PostA.toσ (PostA.mono e1 q)⟩
    | exn x st' => rw [hm] at q; exact q
    | bad => rw [hm] at q; exact q
/-- the number of arguments -/
theorem kA0_len : ∀ (ρ : Env3) st ds st', kA0 ρ st = .ok ds st' → ds.length = 0 := fun ρ st ds st' h => by cases h; rfl
theorem kA1_len {ka : KE} {kr : KA} {n : Nat} (h : ∀ (ρ : Env3) st ds st', kr ρ st = .ok ds st' → ds.length = n) : ∀ (ρ : Env3) st ds st', kA1 ka kr ρ st = .ok ds st' → ds.length = n + 1 := fun ρ st ds st' q => by
  unfold kA1 at q
  cases h1 : ka ρ st with
  | ok x st1 =>
    rw [h1] at q
    simp only [R.bind_ok] at q
    cases h2 : kr ρ st1 with
    | ok xs st2 => rw [h2] at q; cases q; rw [List.length_cons, h ρ st1 xs _ h2]
    | exn _ _ => rw [h2] at q; cases q
    | bad => rw [h2] at q; cases q
  | exn _ _ => rw [h1] at q; cases q
  | bad => rw [h1] at q; cases q

/-! ### statements -/
end
inductive RS where
  | nx (ρ : Env3) (st : Sto) | rt (d : D) (st : Sto) | bk (ρ : Env3) (st : Sto) | ct (ρ : Env3) (st : Sto) | exn (x : XN) (ρ : Env3) (st : Sto) | bad
abbrev KS := Env3 → Sto → RS
def PostS (K : PySem.W.Frag) (mg : Str → Option Value) (W : WX) (Dn : Ends) (β : List Addr) (H : Hp) : RS → Prop
  | .nx ρ st => ∀ β' H' σ', Ext β H β' H' → Sim K mg β' st H' → ER K β' H' ρ σ' → Dn.nx σ' H'
  | .bk ρ st => ∀ β' H' σ', Ext β H β' H' → Sim K mg β' st H' → ER K β' H' ρ σ' → Dn.bk σ' H'
  | .ct ρ st => ∀ β' H' σ', Ext β H β' H' → Sim K mg β' st H' → ER K β' H' ρ σ' → Dn.ct σ' H'
  | .rt d st => ∀ β' H' v, Ext β H β' H' → Sim K mg β' st H' → VR K β' H' d v → Dn.rt v H'
  | .exn x ρ st => ∀ β' H' σ' c dd, Ext β H β' H' → Sim K mg β' st H' → ER K β' H' ρ σ' → XR K mg β' H' x c dd → W c dd σ' H'
  | .bad => False
theorem PostS.mono {K : PySem.W.Frag} {mg : Str → Option Value} {W : WX} {Dn : Ends} {β β1 : List Addr} {H H1 : Hp} (e : Ext β H β1 H1) : ∀ {r : RS}, PostS K mg W Dn β H r → PostS K mg W Dn β1 H1 r
  | .nx _ _, h => fun β' H' σ' e' => h β' H' σ' (e.trans e')
  | .bk _ _, h => fun β' H' σ' e' => h β' H' σ' (e.trans e')
  | .ct _ _, h => fun β' H' σ' e' => h β' H' σ' (e.trans e')
  | .rt _ _, h => fun β' H' v e' => h β' H' v (e.trans e')
  | .exn _ _ _, h => fun β' H' σ' c dd e' => h β' H' σ' c dd (e.trans e')
  | .bad, h => h
def R.toS {α : Type} (m : R α) (ρ : Env3) (f : α → Sto → RS) : RS := match m with
  | .ok a st => f a st
  | .exn x st => .exn x ρ st
  | .bad => .bad
@[simp] theorem R.toS_ok {α : Type} (a : α) (st : Sto) (ρ : Env3) (f : α → Sto → RS) : (R.ok a st).toS ρ f = f a st := rfl
@[simp] theorem R.toS_exn {α : Type} (x : XN) (st : Sto) (ρ : Env3) (f : α → Sto → RS) : (R.exn x st : R α).toS ρ f = .exn x ρ st := rfl
@[simp] theorem R.toS_bad {α : Type} (ρ : Env3) (f : α → Sto → RS) : (R.bad : R α).toS ρ f = .bad := rfl
def RS.andThen (r : RS) (f : KS) : RS := match r with
  | .nx ρ st => f ρ st
  | r => r
@[simp] theorem RS.andThen_nx (ρ : Env3) (st : Sto) (f : KS) : (RS.nx ρ st).andThen f = f ρ st := rfl
@[simp] theorem RS.andThen_rt (d : D) (st : Sto) (f : KS) : (RS.rt d st).andThen f = .rt d st := rfl
@[simp] theorem RS.andThen_bk (ρ : Env3) (st : Sto) (f : KS) : (RS.bk ρ st).andThen f = .bk ρ st := rfl
@[simp] theorem RS.andThen_ct (ρ : Env3) (st : Sto) (f : KS) : (RS.ct ρ st).andThen f = .ct ρ st := rfl
@[simp] theorem RS.andThen_exn (x : XN) (ρ : Env3) (st : Sto) (f : KS) : (RS.exn x ρ st).andThen f = .exn x ρ st := rfl
@[simp] theorem RS.andThen_bad (f : KS) : RS.bad.andThen f = .bad := rfl
def liftS (K : PySem.W.Frag) (mg : Str → Option Value) (W : WX) (k : KS) : TS := fun Dn σ H => ∃ β ρ st, Sim K mg β st H ∧ ER K β H ρ σ ∧ PostS K mg W Dn β H (k ρ st)

def sNil : KS := fun ρ st => .nx ρ st
def sSeq (a b : KS) : KS := fun ρ st => (a ρ st).andThen b
def sExpr (a : KE) : KS := fun ρ st => (a ρ st).toS ρ fun _ st1 => .nx ρ st1
def sSet (i : Nat) (a : KE) : KS := fun ρ st => (a ρ st).toS ρ fun d st1 => .nx (ρ.set i (some d)) st1
def sRet (a : KE) : KS := fun ρ st => (a ρ st).toS ρ fun d st1 => .rt d st1
def sRetN : KS := fun ρ st => .rt .non st
def sIf (c : KT) (a b : KS) : KS := fun ρ st => (c ρ st).toS ρ fun k st1 => if k = true then a ρ st1 else b ρ st1
def sBreak : KS := fun ρ st => .bk ρ st
def sCont : KS := fun ρ st => .ct ρ st
def sNever : KS := fun ρ st => .bad
def sPar2 (i j : Nat) (a b : KE) : KS := fun ρ st => (a ρ st).toS ρ fun x st1 => (b ρ st1).toS ρ fun y st2 => .nx ((ρ.set i (some x)).set j (some y)) st2
/-- targets -/
abbrev KG := D → Env3 → Option Env3
def gN (i : Nat) : KG := fun d ρ => some (ρ.set i (some d))
abbrev KGs := List D → Env3 → Option Env3
def gs0 : KGs := fun ds ρ => match ds with
  | [] => some ρ
  | _ => none
def gs1 (g : KG) (r : KGs) : KGs := fun ds ρ => match ds with
  | d :: ds => (g d ρ).bind (r ds)
  | [] => none
def gT (n : Nat) (g : KGs) : KG := fun d ρ => match d with
  | .tup ds => if ds.length = n then g ds ρ else none
  | _ => none
def sAsg (g : KG) (a : KE) : KS := fun ρ st => (a ρ st).toS ρ fun d st1 => match g d ρ with
  | some ρ' => .nx ρ' st1
  | none => .bad
/-- o[i] = e -/
def sSetIx (f : D → D → D → Sto → Option Sto) (o i a : KE) : KS := fun ρ st => (a ρ st).toS ρ fun v st1 => (o ρ st1).toS ρ fun x st2 => (i ρ st2).toS ρ fun y st3 => match f x y v st3 with
  | some st4 => .nx ρ st4
  | none => .bad

section
variable {X : Cx} {W : WX} {e a b c : Expr} {es rest : List Expr} {pos : Pos} {ka kb kcc : KE} {kt kt' : KT} {kas : KA} {st : Stmt} {sts p q : List Stmt} {ks ks' : KS}
theorem lift.toS {σ : L2.St} {Dn : Ends} {β : List Addr} {H : Hp} {ρ : Env3} {st : Sto} {k : KE} {f : D → Sto → RS} {Q : VK} (S : Sim X.K X.mg β st H) (E : ER X.K β H ρ σ) (h : PostS X.K X.mg W Dn β H ((k ρ st).toS ρ f))
    (hq : ∀ d v β' H' st', Ext β H β' H' → Sim X.K X.mg β' st' H' → ER X.K β' H' ρ σ → VR X.K β' H' d v → PostS X.K X.mg W Dn β' H' (f d st') → Q v H') : lift X.K X.mg W k σ H Q := by
  refine ⟨β, ρ, st, S, E, ?_⟩
  cases hm : k ρ st with
  | ok a st' =>
    rw [hm] at h
    exact fun β' H' e S' v r => hq a v β' H' st' e S' (E.mono e) r (PostS.mono e h)
  | exn x st' => rw [hm] at h; exact fun β' H' c dd e S' xr => h β' H' σ c dd e S' (E.mono e) xr
  | bad => rw [hm] at h; exact h
theorem liftT.toS {σ : L2.St} {Dn : Ends} {β : List Addr} {H : Hp} {ρ : Env3} {st : Sto} {k : KT} {f : Bool → Sto → RS} {Q : Bool → Hp → Prop} (S : Sim X.K X.mg β st H) (E : ER X.K β H ρ σ) (h : PostS X.K X.mg W Dn β H ((k ρ st).toS ρ f))
    (hq : ∀ d β' H' st', Ext β H β' H' → Sim X.K X.mg β' st' H' → ER X.K β' H' ρ σ → PostS X.K X.mg W Dn β' H' (f d st') → Q d H') : liftT X.K X.mg W k σ H Q := by
  refine ⟨β, ρ, st, S, E, ?_⟩
  cases hm : k ρ st with
  | ok a st' =>
    rw [hm] at h
    exact fun β' H' e S' => hq a β' H' st' e S' (E.mono e) (PostS.mono e h)
  | exn x st' => rw [hm] at h; exact fun β' H' c dd e S' xr => h β' H' σ c dd e S' (E.mono e) xr
  | bad => rw [hm] at h; exact h
theorem s_nil : PSs X [] (liftS X.K X.mg W sNil) := PSs.imp pss_nil fun Dn σ H ⟨β, ρ, st, S, E, p⟩ => p β H σ (Ext.refl _ _) S E
theorem s_cons (h1 : PS X st (liftS X.K X.mg W ks)) (h2 : PSs X sts (liftS X.K X.mg W ks')) : PSs X (st :: sts) (liftS X.K X.mg W (sSeq ks ks')) :=
  PSs.imp (pss_cons h1 h2) fun Dn σ H ⟨β, ρ, st, S, E, p⟩ => by
    refine ⟨β, ρ, st, S, E, ?_⟩
    unfold sSeq at p
    cases hm : ks ρ st with
    | nx ρ1 st1 => rw [hm] at p; exact fun β' H' σ' e S' E' => ⟨β', ρ1, st1, S', E', PostS.mono e p⟩
    | rt d st1 => rw [hm] at p; exact p
    | bk _ _ => rw [hm] at p; exact p
    | ct _ _ => rw [hm] at p; exact p
    | exn _ _ _ => rw [hm] at p; exact p
    | bad => rw [hm] at p; exact p
theorem s_one (h1 : PS X st (liftS X.K X.mg W ks)) : PSs X [st] (liftS X.K X.mg W ks) := pss_one h1
theorem s_expr (he : PE X e (lift X.K X.mg W ka)) (hs : swapsWith e none pos.line X.env = pure false := by rfl) : PS X (.Expr e pos) (liftS X.K X.mg W (sExpr ka)) :=
  PS.imp (ps_expr he hs) fun Dn σ H ⟨β, ρ, st, S, E, p⟩ => lift.toS S E p fun d v β1 H1 st1 e1 S1 E1 r1 p1 => p1 β1 H1 σ (Ext.refl _ _) S1 E1
theorem s_set {i : Nat} {x : Str} {pos' : Pos} (hN : X.N.Nodup) (hi : X.N[i]? = some x) (hx : Loc X.env.scope x) (he : PE X e (lift X.K X.mg W ka)) (hs : swapsWith e (some (.Name x pos')) pos.line X.env = pure false := by rfl) (hf : X.fn x = true ∨ X.env.scope.names.lookup x = some .local := by first | exact .inl rfl | exact .inr rfl | assumption) :
    PS X (.Assign [.Name x pos'] e pos) (liftS X.K X.mg W (sSet i ka)) :=
  PS.imp (ps_set hN hi hx he hs hf) fun Dn σ H ⟨β, ρ, st, S, E, p⟩ => lift.toS S E p fun d v β1 H1 st1 e1 S1 E1 r1 p1 => p1 β1 H1 _ (Ext.refl _ _) S1 (E1.set i r1)
theorem s_ret (he : PE X e (lift X.K X.mg W ka)) : PS X (.Return (some e) pos) (liftS X.K X.mg W (sRet ka)) :=
  PS.imp (ps_ret he) fun Dn σ H ⟨β, ρ, st, S, E, p⟩ => lift.toS S E p fun d v β1 H1 st1 e1 S1 E1 r1 p1 => p1 β1 H1 _ (Ext.refl _ _) S1 r1
theorem s_retN : PS X (.Return none pos) (liftS X.K X.mg W sRetN) :=
  PS.imp ps_retN fun Dn σ H ⟨β, ρ, st, S, E, p⟩ => p β H _ (Ext.refl _ _) S (VR.non.mpr rfl)
theorem s_if (hc : PT X c (liftT X.K X.mg W kt)) (ha : PSs X p (liftS X.K X.mg W ks)) (hb : PSs X q (liftS X.K X.mg W ks')) : PS X (.If c p q pos) (liftS X.K X.mg W (sIf kt ks ks')) :=
  PS.imp (ps_if hc ha hb) fun Dn σ H ⟨β, ρ, st, S, E, p⟩ => liftT.toS S E p fun d β1 H1 st1 e1 S1 E1 p1 => by
    cases d with
    | true => exact iteT ⟨β1, ρ, st1, S1, E1, p1⟩
    | false => exact iteF ⟨β1, ρ, st1, S1, E1, p1⟩
theorem s_pass : PS X (.Pass pos) (liftS X.K X.mg W sNil) := PS.imp ps_pass fun Dn σ H ⟨β, ρ, st, S, E, p⟩ => p β H σ (Ext.refl _ _) S E
theorem s_break : PS X (.Break pos) (liftS X.K X.mg W sBreak) := PS.imp ps_break fun Dn σ H ⟨β, ρ, st, S, E, p⟩ => p β H σ (Ext.refl _ _) S E
theorem s_cont : PS X (.Continue pos) (liftS X.K X.mg W sCont) := PS.imp ps_continue fun Dn σ H ⟨β, ρ, st, S, E, p⟩ => p β H σ (Ext.refl _ _) S E
theorem s_doc {x j pos'} : PS X (.Expr (.Constant (.str x) j pos') pos) (liftS X.K X.mg W sNil) := PS.imp ps_doc fun Dn σ H ⟨β, ρ, st, S, E, p⟩ => p β H σ (Ext.refl _ _) S E
theorem s_never : PS X st (liftS X.K X.mg W sNever) := PS.imp ps_never fun Dn σ H ⟨β, ρ, st, S, E, p⟩ => p.elim
theorem s_par2 {i j : Nat} {x y : Str} {px py pt : Pos} {kt k2 pt2} (hc : X.calm = true) (hN : X.N.Nodup) (hi : X.N[i]? = some x) (hj : X.N[j]? = some y) (hij : i ≠ j)
    (hx : X.env.scope.names.lookup x = some .local) (hy : X.env.scope.names.lookup y = some .local) (ha : PE X a (lift X.K X.mg W ka)) (hb : PE X b (lift X.K X.mg W kb)) (hst : starEach [a, b] X.env = (false, eval a X.env) :: starEach [b] X.env := by rfl) (hst2 : starEach [b] X.env = (false, eval b X.env) :: starEach [] X.env := by rfl)
    (hw : swappedStores [.Tuple [.Name x px, .Name y py] kt pt] (.Tuple [a, b] k2 pt2) X.env = pure (some [x, y]) := by rfl)
    (hs : swapsWithSole [.Tuple [.Name x px, .Name y py] kt pt] (.Tuple [a, b] k2 pt2) pos.line X.env = pure false := by rfl) :
    PS X (.Assign [.Tuple [.Name x px, .Name y py] kt pt] (.Tuple [a, b] k2 pt2) pos) (liftS X.K X.mg W (sPar2 i j ka kb)) :=
  PS.imp (ps_par hc hN hi hj hij hx hy (pa_cons ha (pa_cons hb pa_nil hst2) hst) hw hs) fun Dn σ H ⟨β, ρ, st, S, E, p⟩ => lift.toS S E p fun d v β1 H1 st1 e1 S1 E1 r1 p1 => lift.toS S1 E1 p1 fun d2 v2 β2 H2 st2 e2 S2 E2 r2 p2 =>
    ⟨v, v2, rfl, p2 β2 H2 _ (Ext.refl _ _) S2 ((E2.set i (VR.mono e2 _ _ r1)).set j r2)⟩

/-! ### targets -/
theorem wipe_set {σ : L2.St} {i : Nat} {o : Option V} : ∀ {us : List Nat}, i ∈ us → wipe (σ.set i o) us = wipe σ us
  | u :: us, h => by
    unfold wipe
    by_cases hi : i ∈ us
    · rw [wipe_set hi]
    · have e : i = u := by
        rcases List.mem_cons.mp h with h | h
        · exact h
        · exact absurd h hi
      subst e
      have : wipe (σ.set i o) us = (wipe σ us).set i o := by
        clear h
        induction us with
        | nil => rfl
        | cons v vs ih =>
          have hv : i ≠ v := fun z => hi (by rw [z]; exact List.mem_cons_self)
          have hvs : i ∉ vs := fun z => hi (List.mem_cons_of_mem _ z)
          show (wipe (σ.set i o) vs).set v none = ((wipe σ vs).set v none).set i o
          rw [ih hvs, List.set_comm _ _ hv]
      rw [this, List.set_set]
def Wip (vs : List Nat) (σ σ' : L2.St) : Prop := ∀ us, (∀ i ∈ vs, i ∈ us) → wipe σ' us = wipe σ us
def PGK (X : Cx) (vs : List Nat) (g : KG) (t : TG) : Prop := ∀ d v σ H ρ β Q ρ', VR X.K β H d v → ER X.K β H ρ σ → g d ρ = some ρ' → (∀ σ', ER X.K β H ρ' σ' → Wip vs σ σ' → Q σ' H) → t v σ H Q
def PGKs (X : Cx) (is : List Nat) (g : KGs) (t : TGs) : Prop := ∀ ds vs σ H ρ β Q ρ', VRs X.K β H ds vs → ER X.K β H ρ σ → g ds ρ = some ρ' → (∀ σ', ER X.K β H ρ' σ' → Wip is σ σ' → Q σ' H) → t vs σ H Q
structure TGt (X : Cx) (tg : Expr) (vs : List Nat) (g : KG) : Prop where
  ex : ∃ t, PG X tg t ∧ PGK X vs g t
structure TGts (X : Cx) (tgs : List Expr) (vs : List Nat) (g : KGs) : Prop where
  ex : ∃ t, PGs X tgs t ∧ PGKs X vs g t
theorem t_name {i : Nat} {x : Str} (hN : X.N.Nodup) (hi : X.N[i]? = some x) (hx : Loc X.env.scope x) (hf : X.fn x = true ∨ X.env.scope.names.lookup x = some .local := by first | exact .inl rfl | exact .inr rfl | assumption) : TGt X (.Name x pos) [i] (gN i) :=
  ⟨_, pg_name hN hi hx hf, fun d v σ H ρ β Q ρ' r E h k => by cases h; exact k _ (E.set i r) fun us hu => wipe_set (hu i List.mem_cons_self)⟩
theorem ts_nil : TGts X [] [] gs0 := ⟨_, pgs_nil, fun ds vs σ H ρ β Q ρ' r E h k => by
  cases ds with
  | nil => cases h; exact ⟨VRs.nil.mp r, k _ E fun _ _ => rfl⟩
  | cons _ _ => cases h⟩
theorem ts_cons {e : Expr} {es : List Expr} {is js : List Nat} {g : KG} {gs : KGs} (h1 : TGt X e is g) (h2 : TGts X es js gs) (hs : (assignEach (e :: es) X.env).map (·.2) = assign e X.env :: (assignEach es X.env).map (·.2) := by rfl) : TGts X (e :: es) (is ++ js) (gs1 g gs) := by
  obtain ⟨t, p, k⟩ := h1.ex
  obtain ⟨ts, ps, kks⟩ := h2.ex
  refine ⟨_, pgs_cons p ps hs, fun ds vs σ H ρ β Q ρ' r E h kq => ?_⟩
  cases ds with
  | nil => cases h
  | cons d ds =>
    obtain ⟨v, vr, rfl, r1, r2⟩ := VRs.cons.mp r
    obtain ⟨ρ1, h1, h2⟩ := Option.bind_eq_some_iff.mp (show (g d ρ).bind (gs ds) = some ρ' from h)
    exact ⟨v, vr, rfl, k d v σ H ρ β _ ρ1 r1 E h1 fun σ1 E1 w1 => kks ds vr σ1 H ρ1 β Q ρ' r2 E1 h2 fun σ2 E2 w2 => kq σ2 E2 fun us hu =>
      (w2 us fun i hi => hu i (List.mem_append_right _ hi)).trans (w1 us fun i hi => hu i (List.mem_append_left _ hi))⟩
theorem t_tup {es : List Expr} {is : List Nat} {k n : Nat} {gs : KGs} (hc : X.calm = true) (h : TGts X es is gs) (hn : (assignEach es X.env).length = n := by rfl) (hst : (assignEach es X.env).findIdx? (·.1) = none := by rfl) : TGt X (.Tuple es k pos) is (gT n gs) := by
  obtain ⟨ts, ps, kks⟩ := h.ex
  refine ⟨_, pg_tup hc ps hn hst, fun d v σ H ρ β Q ρ' r E h kq => ?_⟩
  cases d with
  | tup ds =>
    obtain ⟨q, vs, rfl, h1, h2⟩ := VR.tupS r
    unfold gT at h
    simp only at h
    split at h
    · rename_i hl
      exact ⟨q, vs, rfl, h1, by rw [h2.length]; exact hl, kks ds vs σ H ρ β Q ρ' h2 E h kq⟩
    · cases h
  | _ => cases h
theorem s_asg {tg : Expr} {is : List Nat} {g : KG} (hg : TGt X tg is g) (he : PE X e (lift X.K X.mg W ka)) (hs : swapsWithSole [tg] e pos.line X.env = pure false := by rfl) (hw : swappedStores [tg] e X.env = pure none := by rfl)
    (h1 : (assignEach [tg] X.env).map (·.2) = [assign tg X.env] := by rfl) : PS X (.Assign [tg] e pos) (liftS X.K X.mg W (sAsg g ka)) := by
  obtain ⟨t, p, k⟩ := hg.ex
  exact PS.imp (ps_asg he p hs hw h1) fun Dn σ H ⟨β, ρ, st, S, E, p⟩ => lift.toS S E p fun d v β1 H1 st1 e1 S1 E1 r1 p1 => by
    split at p1
    · rename_i ρ' hg
      exact k d v σ H1 ρ β1 _ ρ' r1 E1 hg fun σ' E' _ => p1 β1 H1 σ' (Ext.refl _ _) S1 E'
    · exact p1.elim

/-! ### o[i] = e -/
def SetS (X : Cx) (t : TSet) (f : D → D → D → Sto → Option Sto) : Prop :=
  ∀ H o i v β st dx di dv st' (Q : Hp → Prop), Sim X.K X.mg β st H → VR X.K β H dx o → VR X.K β H di i → VR X.K β H dv v → f dx di dv st = some st' → (∀ H', Ext β H β H' → Sim X.K X.mg β st' H' → Q H') → t o i v H Q
theorem s_setix {o i : Expr} {ko ki : KE} {t : TSet} {f : D → D → D → Sto → Option Sto} {tpos : Pos} (hs : PSet X t) (hf : SetS X t f) (ho : PE X o (lift X.K X.mg W ko)) (hi : PE X i (lift X.K X.mg W ki)) (he : PE X e (lift X.K X.mg W ka))
    (ha : ∀ v, assign (.Subscript o i tpos) X.env v = (do
      let ov ← holding [v] (eval o X.env)
      let iv ← holding [v, ov] (eval i X.env)
      standAt tpos
      holding [v, ov, iv] (setItem ov iv v)
      release [v, ov, iv] []) := by intro _; rfl) (hsw : swapsWithSole [.Subscript o i tpos] e pos.line X.env = pure false := by rfl) (hw : swappedStores [.Subscript o i tpos] e X.env = pure none := by rfl)
    (h1 : (assignEach [.Subscript o i tpos] X.env).map (·.2) = [assign (.Subscript o i tpos) X.env] := by rfl) : PS X (.Assign [.Subscript o i tpos] e pos) (liftS X.K X.mg W (sSetIx f ko ki ka)) :=
  PS.imp (ps_asg he (pg_sub ho hi hs ha) hsw hw h1) fun Dn σ H ⟨β, ρ, st, S, E, p⟩ => lift.toS S E p fun d v β1 H1 st1 e1 S1 E1 r1 p1 => lift.toS S1 E1 p1 fun dx x β2 H2 st2 e2 S2 E2 r2 p2 => lift.toS S2 E2 p2 fun dy y β3 H3 st3 e3 S3 E3 r3 p3 => by
    split at p3
    · rename_i st4 hg
      exact hf H3 x y v β3 st3 dx dy d st4 _ S3 (VR.mono e3 _ _ r2) r3 (VR.mono e3 _ _ (VR.mono e2 _ _ r1)) hg fun H' e' S' => p3 β3 H' σ e' S' (E3.mono e')
    · exact p3.elim
def setL (o i v : D) (st : Sto) : Option Sto := match o, i with
  | .loc n, .int k => match st[n]? with
    | some (.lst xs) => match ixN xs.length k with
      | some j => some (st.set n (.lst (xs.set j v)))
      | none => none
    | _ => none
  | _, _ => none
theorem setL_ok : SetS X rSetL setL := by
  intro H o i v β st dx di dv st' Q S r1 r2 r3 h k
  cases dx with
  | loc n =>
    cases di with
    | int j =>
      obtain ⟨a, h1, rfl⟩ := VR.loc.mp r1
      cases VR.int.mp r2
      obtain ⟨ob, h2, h3⟩ := S.at h1
      simp only [setL, h2] at h
      cases ob with
      | lst xs =>
        simp only at h
        split at h
        · rename_i m hm
          cases h
          obtain ⟨vs, h4, h5⟩ := h3
          refine ⟨a, vs, j, m, rfl, rfl, h4, by rw [h5.length]; exact hm, k _ (S.ext h1) (S.set h1 ⟨_, upd_same, VRs.mono (S.ext h1) _ _ (h5.set m r3)⟩)⟩
        · cases h
      | _ => cases h
    | _ => cases h
  | _ => cases h
end
end L3

namespace L3
open PySem PySem.Spec PyProof.Rows L2
/-! ### what is walked -/
inductive Src where
  | its (xs : List D) | lv (n : Nat)
def Src.at (s : Src) (st : Sto) (i : Nat) : Option (Option D) := match s with
  | .its xs => some xs[i]?
  | .lv n => match st[n]? with
    | some (.lst xs) => some xs[i]?
    | _ => none
def Src.fuel (s : Src) (st : Sto) : Nat := match s with
  | .its xs => xs.length + 1
  | .lv n => match st[n]? with
    | some (.lst xs) => xs.length + 1
    | _ => 0
abbrev KI := Env3 → Sto → R Src
def ItOk (K : PySem.W.Frag) (mg : Str → Option Value) (β₀ : List Addr) (H₀ : Hp) (src : Src) (J : It) : Prop :=
  ∀ i β H st, Ext β₀ H₀ β H → Sim K mg β st H →
    (∀ d, src.at st i = some (some d) → J.go i H ∧ ∀ x H', J.yld i H x H' → ∃ β', Ext β H β' H' ∧ Sim K mg β' st H' ∧ VR K β' H' d x) ∧ (src.at st i = some none → J.stop i H)
def liftI (K : PySem.W.Frag) (mg : Str → Option Value) (W : WX) (k : KI) : TI := fun σ H R => ∃ β ρ st, Sim K mg β st H ∧ ER K β H ρ σ ∧ PostA K mg W σ (fun src β' H' => ∀ J, ItOk K mg β' H' src J → R J H') β H (k ρ st)
theorem PI.imp {X : Cx} {tg e : Expr} {t t' : TI} (h : PI X tg e t) (i : ∀ σ H R, t' σ H R → t σ H R) : PI X tg e t' := ⟨fun pins s σ H R I q => h.run pins s σ H R I (i σ H R q)⟩

def iL (a : KE) : KI := fun ρ st => (a ρ st).bind fun d st1 => match d with
  | .frz xs => .ok (.its xs) st1
  | .loc n => match st1[n]? with
    | some (.lst _) => .ok (.lv n) st1
    | _ => .bad
  | _ => .bad
def iT (a : KE) : KI := fun ρ st => (a ρ st).bind fun d st1 => match d with
  | .tup xs => .ok (.its xs) st1
  | _ => .bad
def strIts (x : Str) : List D := x.cps.toList.map fun c => .str ⟨#[c]⟩
def iS (a : KE) : KI := fun ρ st => (a ρ st).bind fun d st1 => match d with
  | .str x => if x.length ≤ 16777216 then .ok (.its (strIts x)) st1 else .bad
  | _ => .bad
def rngIts (lo : Int) (n : Nat) : List D := (List.range n).map fun (i : Nat) => .int (lo + (i : Int))
def rngF1 (ds : List D) (st : Sto) : R Src := match ds with
  | [.int j] => if -(2 ^ 62) ≤ j ∧ j < 2 ^ 62 then .ok (.its (rngIts 0 j.toNat)) st else .bad
  | _ => .bad
def rngF2 (ds : List D) (st : Sto) : R Src := match ds with
  | [.int i, .int j] => if -(2 ^ 62) ≤ i ∧ i < 2 ^ 62 ∧ -(2 ^ 62) ≤ j ∧ j < 2 ^ 62 then .ok (.its (rngIts i (j - i).toNat)) st else .bad
  | _ => .bad
def iR1 (a : KA) : KI := fun ρ st => (a ρ st).bind rngF1
def iR2 (a : KA) : KI := fun ρ st => (a ρ st).bind rngF2

section
variable {X : Cx} {W : WX} {tg e a b c : Expr} {es rest : List Expr} {pos p : Pos} {ka kb kcc : KE} {kt kt' : KT} {kas : KA}
theorem i_list (h : PE X a (lift X.K X.mg W ka)) : PI X tg a (liftI X.K X.mg W (iL ka)) :=
  PI.imp (pi_list h) fun σ H R ⟨β, ρ, st, S, E, p⟩ => lift.bind S E p fun d v β1 H1 st1 e1 S1 E1 r1 p1 => by
    cases d with
    | frz xs =>
      obtain ⟨q, vs, rfl, h1, h2⟩ := VR.frz.mp r1
      refine ⟨q, rfl, ⟨vs, h1.sq⟩, p1 β1 H1 (Ext.refl _ _) S1 _ fun i β2 H2 st2 e2 S2 => ⟨fun d hd => ?_, fun hd => ?_⟩⟩
      · have h3 := e2.fzL h1
        have h4 := VRs.mono e2 _ _ h2
        obtain ⟨v, hv, rv⟩ := h4.getD (Option.some.inj hd)
        exact ⟨⟨vs, v, h3.sq, hv⟩, fun x H' ⟨eH, hx⟩ => by subst eH; exact ⟨β2, Ext.refl _ _, S2, by have := hx vs h3.sq; rw [hv] at this; cases this; exact rv⟩⟩
      · exact ⟨vs, (e2.fzL h1).sq, by rw [h2.length]; exact List.getElem?_eq_none_iff.mp (Option.some.inj hd)⟩
    | loc n =>
      obtain ⟨q, h1, rfl⟩ := VR.loc.mp r1
      obtain ⟨o, h2, h3⟩ := S1.at h1
      simp only [h2] at p1
      cases o with
      | lst xs =>
        obtain ⟨vs, h4, h5⟩ := h3
        refine ⟨q, rfl, ⟨vs, SqL.of h4⟩, p1 β1 H1 (Ext.refl _ _) S1 _ fun i β2 H2 st2 e2 S2 => ?_⟩
        have g1 := e2.get h1
        obtain ⟨o2, g2, g3⟩ := S2.at g1
        cases o2 with
        | lst ys =>
          obtain ⟨us, g4, g5⟩ := g3
          refine ⟨fun d hd => ?_, fun hd => ?_⟩
          · simp only [Src.at, g2] at hd
            obtain ⟨v, hv, rv⟩ := g5.getD (Option.some.inj hd)
            exact ⟨⟨us, v, SqL.of g4, hv⟩, fun x H' ⟨eH, hx⟩ => by subst eH; exact ⟨β2, Ext.refl _ _, S2, by have := hx us (SqL.of g4); rw [hv] at this; cases this; exact rv⟩⟩
          · simp only [Src.at, g2] at hd
            exact ⟨us, SqL.of g4, by rw [g5.length]; exact List.getElem?_eq_none_iff.mp (Option.some.inj hd)⟩
        | _ => exact ⟨fun d hd => (by simp only [Src.at, g2] at hd; cases hd), fun hd => (by simp only [Src.at, g2] at hd; cases hd)⟩
      | _ => exact p1.elim
    | _ => exact p1.elim
theorem i_tup (h : PE X a (lift X.K X.mg W ka)) : PI X tg a (liftI X.K X.mg W (iT ka)) :=
  PI.imp (pi_tup h) fun σ H R ⟨β, ρ, st, S, E, p⟩ => lift.bind S E p fun d v β1 H1 st1 e1 S1 E1 r1 p1 => by
    cases d with
    | tup xs =>
      obtain ⟨q, vs, rfl, h1, h2⟩ := VR.tupS r1
      refine ⟨q, rfl, ⟨vs, h1⟩, p1 β1 H1 (Ext.refl _ _) S1 _ fun i β2 H2 st2 e2 S2 => ⟨fun d hd => ?_, fun hd => ?_⟩⟩
      · have h3 := e2.sqT h1
        have h4 := VRs.mono e2 _ _ h2
        obtain ⟨v, hv, rv⟩ := h4.getD (Option.some.inj hd)
        exact ⟨⟨vs, v, h3, hv⟩, fun x H' ⟨eH, hx⟩ => by subst eH; exact ⟨β2, Ext.refl _ _, S2, by have := hx vs h3; rw [hv] at this; cases this; exact rv⟩⟩
      · exact ⟨vs, e2.sqT h1, by rw [h2.length]; exact List.getElem?_eq_none_iff.mp (Option.some.inj hd)⟩
    | _ => exact p1.elim
theorem str_ok {K : PySem.W.Frag} {mg : Str → Option Value} {β : List Addr} {H : Hp} (x : Str) : ItOk K mg β H (.its (strIts x)) (Its x) := fun i β2 H2 st2 e2 S2 => by
  refine ⟨fun d hd => ?_, fun hd => ?_⟩
  · have hd' := Option.some.inj hd
    unfold strIts at hd'
    rw [List.getElem?_map] at hd'
    cases hc : x.cps.toList[i]? with
    | none => rw [hc] at hd'; cases hd'
    | some c =>
      rw [hc] at hd'
      cases hd'
      have hl : i < x.cps.size := by have := (List.getElem?_eq_some_iff.mp hc).1; simpa using this
      refine ⟨hl, fun y H' ⟨eH, c', hc', hy⟩ => ?_⟩
      subst eH hy
      have : c' = c := by rw [← Array.getElem?_toList, hc] at hc'; exact (Option.some.inj hc').symm
      subst this
      exact ⟨β2, Ext.refl _ _, S2, VR.str.mpr rfl⟩
  · have hd' := Option.some.inj hd
    unfold strIts at hd'
    rw [List.getElem?_map] at hd'
    cases hc : x.cps.toList[i]? with
    | none => show x.cps.size ≤ i; have := List.getElem?_eq_none_iff.mp hc; simpa using this
    | some c => rw [hc] at hd'; cases hd'
theorem i_str (h : PE X a (lift X.K X.mg W ka)) : PI X tg a (liftI X.K X.mg W (iS ka)) :=
  PI.imp (pi_str h) fun σ H R ⟨β, ρ, st, S, E, p⟩ => lift.bind S E p fun d v β1 H1 st1 e1 S1 E1 r1 p1 => by
    cases d with
    | str x =>
      simp only at p1
      split at p1
      · exact ⟨x, VR.str.mp r1, p1 β1 H1 (Ext.refl _ _) S1 _ (str_ok x)⟩
      · exact p1.elim
    | _ => exact p1.elim
theorem rng_ok {K : PySem.W.Frag} {mg : Str → Option Value} {β : List Addr} {H : Hp} (lo : Int) (n : Nat) : ItOk K mg β H (.its (rngIts lo n)) (Itr lo n) := fun i β2 H2 st2 e2 S2 => by
  have key : ∀ j : Nat, (rngIts lo n)[j]? = if j < n then some (.int (lo + (j : Int))) else none := fun j => by
    unfold rngIts
    rw [List.getElem?_map]
    by_cases h : j < n
    · rw [List.getElem?_range h, if_pos h]; rfl
    · rw [if_neg h, List.getElem?_eq_none (by simpa using h)]; rfl
  refine ⟨fun d hd => ?_, fun hd => ?_⟩
  · have hd' := Option.some.inj hd
    rw [key] at hd'
    by_cases h : i < n
    · rw [if_pos h] at hd'
      cases hd'
      exact ⟨h, fun x H' ⟨eH, hx⟩ => by subst eH hx; exact ⟨β2, Ext.refl _ _, S2, VR.int.mpr rfl⟩⟩
    · rw [if_neg h] at hd'; cases hd'
  · have hd' := Option.some.inj hd
    rw [key] at hd'
    by_cases h : i < n
    · rw [if_pos h] at hd'; cases hd'
    · exact Nat.le_of_not_lt h
theorem i_rng1 {p : Pos} (hg : Gl X "range") (hm : X.mg "range" = none) (ha : PA X [a] (liftA X.K X.mg W kas)) (hs : starEach [a] X.env = [(false, eval a X.env)] := by rfl) : PI X tg (.Call (.Name "range" p) [a] [] pos) (liftI X.K X.mg W (iR1 kas)) :=
  PI.imp (pi_range1 hg hm ha hs) fun σ H R ⟨β, ρ, st, S, E, p⟩ => liftA.bind S E p fun ds vs β1 H1 st1 e1 S1 E1 r1 p1 => by
    unfold rngF1 at p1
    split at p1
    · rename_i j
      split at p1
      · rename_i hb
        obtain ⟨v, r, rfl, h1, h2⟩ := VRs.cons.mp r1
        cases VRs.nil.mp h2
        cases VR.int.mp h1
        exact ⟨j, rfl, hb.1, hb.2, p1 β1 H1 (Ext.refl _ _) S1 _ (rng_ok 0 _)⟩
      · exact p1.elim
    · exact p1.elim
theorem i_rng2 {p : Pos} (hg : Gl X "range") (hm : X.mg "range" = none) (ha : PA X [a, b] (liftA X.K X.mg W kas)) (hs : starEach [a, b] X.env = [(false, eval a X.env), (false, eval b X.env)] := by rfl) (hs2 : starEach [b] X.env = [(false, eval b X.env)] := by rfl) : PI X tg (.Call (.Name "range" p) [a, b] [] pos) (liftI X.K X.mg W (iR2 kas)) :=
  PI.imp (pi_range2 hg hm ha hs hs2) fun σ H R ⟨β, ρ, st, S, E, p⟩ => liftA.bind S E p fun ds vs β1 H1 st1 e1 S1 E1 r1 p1 => by
    unfold rngF2 at p1
    split at p1
    · rename_i i j
      split at p1
      · rename_i hb
        obtain ⟨v, r, rfl, h1, h2⟩ := VRs.cons.mp r1
        obtain ⟨v', r', rfl, h1', h2'⟩ := VRs.cons.mp h2
        cases VRs.nil.mp h2'
        cases VR.int.mp h1
        cases VR.int.mp h1'
        exact ⟨i, j, rfl, hb, p1 β1 H1 (Ext.refl _ _) S1 _ (rng_ok i _)⟩
      · exact p1.elim
    · exact p1.elim

/-! ### for -/
end
def forGo (g : KG) (body : KS) (src : Src) : Nat → Nat → Env3 → Sto → RS
  | 0, _, _, _ => .bad
  | f + 1, i, ρ, st => match src.at st i with
    | none => .bad
    | some none => .nx ρ st
    | some (some d) => match g d ρ with
      | none => .bad
      | some ρ1 => match body ρ1 st with
        | .nx ρ2 st2 => forGo g body src f (i + 1) ρ2 st2
        | .ct ρ2 st2 => forGo g body src f (i + 1) ρ2 st2
        | .bk ρ2 st2 => .nx ρ2 st2
        | .rt d st2 => .rt d st2
        | .exn x ρ2 st2 => .exn x ρ2 st2
        | .bad => .bad
def sFor (g : KG) (it : KI) (body : KS) : KS := fun ρ st => (it ρ st).toS ρ fun src st1 => forGo g body src (src.fuel st1) 0 ρ st1
def whileGo (c : KT) (body : KS) : Nat → Env3 → Sto → RS
  | 0, _, _ => .bad
  | f + 1, ρ, st => (c ρ st).toS ρ fun k st1 => if k = true then match body ρ st1 with
        | .nx ρ2 st2 => whileGo c body f ρ2 st2
        | .ct ρ2 st2 => whileGo c body f ρ2 st2
        | .bk ρ2 st2 => .nx ρ2 st2
        | .rt d st2 => .rt d st2
        | .exn x ρ2 st2 => .exn x ρ2 st2
        | .bad => .bad
      else .nx ρ st1
def sWhile (n : Nat) (c : KT) (body : KS) : KS := whileGo c body n
section
variable {X : Cx} {W : WX} {tg e a b c iter : Expr} {es rest : List Expr} {body : List Stmt} {pos p : Pos} {ka kb kcc : KE} {kt kt' : KT} {kas : KA} {ks : KS} {ki : KI}
theorem liftI.toS {σ : L2.St} {Dn : Ends} {β : List Addr} {H : Hp} {ρ : Env3} {st : Sto} {k : KI} {f : Src → Sto → RS} {R : It → Hp → Prop} (S : Sim X.K X.mg β st H) (E : ER X.K β H ρ σ) (h : PostS X.K X.mg W Dn β H ((k ρ st).toS ρ f))
    (hq : ∀ d β' H' st' J, Ext β H β' H' → Sim X.K X.mg β' st' H' → ER X.K β' H' ρ σ → ItOk X.K X.mg β' H' d J → PostS X.K X.mg W Dn β' H' (f d st') → R J H') : liftI X.K X.mg W k σ H R := by
  refine ⟨β, ρ, st, S, E, ?_⟩
  cases hm : k ρ st with
  | ok a st' =>
    rw [hm] at h
    exact fun β' H' e S' J hJ => hq a β' H' st' J e S' (E.mono e) hJ (PostS.mono e h)
  | exn x st' => rw [hm] at h; exact fun β' H' c dd e S' xr => h β' H' σ c dd e S' (E.mono e) xr
  | bad => rw [hm] at h; exact h
theorem s_for {is : List Nat} {g : KG} (hp : PassesOwn (model X.prog X.w) X.A X.env X.xe) (hc : X.calm = true) (hi : PI X tg iter (liftI X.K X.mg W ki)) (hg : TGt X tg is g) (hb : PSs X body (liftS X.K X.mg W ks))
    (hs : ∀ x, foldedSetIterable iter X.env x = pure x := by intro _; rfl) : PS X (.For tg iter body [] pos) (liftS X.K X.mg W (sFor g ki ks)) := by
  obtain ⟨t, pg, kg⟩ := hg.ex
  refine PS.imp (ps_for hp hc hi pg hb hs) fun Dn σ H ⟨β, ρ, st, S, E, p⟩ => liftI.toS S E p fun src β1 H1 st1 J e1 S1 E1 hJ p1 => ?_
  refine ⟨fun i m σ H => ∃ β ρ st, Ext β1 H1 β H ∧ Sim X.K X.mg β st H ∧ ER X.K β H ρ σ ∧ PostS X.K X.mg W Dn β H (forGo g ks src m i ρ st), ⟨_, β1, ρ, st1, Ext.refl _ _, S1, E1, p1⟩, ?_⟩
  rintro i m σ H ⟨β, ρ, st, ex, S, E, p⟩
  cases m with
  | zero => exact p.elim
  | succ m =>
    unfold forGo at p
    obtain ⟨j1, j2⟩ := hJ i β H st ex S
    cases hat : src.at st i with
    | none => simp only [hat] at p; exact p.elim
    | some o =>
      cases o with
      | none =>
        simp only [hat] at p
        exact .inl ⟨j2 hat, p β H σ (Ext.refl _ _) S E⟩
      | some d =>
        simp only [hat] at p
        obtain ⟨go, yl⟩ := j1 d hat
        refine .inr ⟨go, fun σ' H' => ∃ β' ρ' st', Ext β1 H1 β' H' ∧ Sim X.K X.mg β' st' H' ∧ ER X.K β' H' ρ' σ' ∧ PostS X.K X.mg W Dn β' H' (forGo g ks src m (i + 1) ρ' st'), fun σ' H' ⟨β', ρ', st', q1, q2, q3, q4⟩ => ⟨m, Nat.lt_succ_self _, β', ρ', st', q1, q2, q3, q4⟩, fun x H' y => ?_⟩
        obtain ⟨β2, e2, S2, r2⟩ := yl x H' y
        cases hgd : g d ρ with
        | none => simp only [hgd] at p; exact p.elim
        | some ρ1 =>
          simp only [hgd] at p
          refine kg d x σ H' ρ β2 _ ρ1 r2 (E.mono e2) hgd fun σ2 E2 _ => ⟨β2, ρ1, st, S2, E2, ?_⟩
          have p2 := PostS.mono e2 p
          have ex2 := ex.trans e2
          cases hbd : ks ρ1 st with
          | nx ρ3 st3 => simp only [hbd] at p2; exact fun β3 H3 σ3 e3 S3 E3 => ⟨β3, ρ3, st3, ex2.trans e3, S3, E3, PostS.mono e3 p2⟩
          | ct ρ3 st3 => simp only [hbd] at p2; exact fun β3 H3 σ3 e3 S3 E3 => ⟨β3, ρ3, st3, ex2.trans e3, S3, E3, PostS.mono e3 p2⟩
          | bk ρ3 st3 => simp only [hbd] at p2; exact p2
          | rt d3 st3 => simp only [hbd] at p2; exact p2
          | exn x3 ρ3 st3 => simp only [hbd] at p2; exact p2
          | bad => simp only [hbd] at p2; exact p2
theorem s_while {n : Nat} (hp : PassesOwn (model X.prog X.w) X.A X.env X.xe) (hc : PT X c (liftT X.K X.mg W kt)) (hb : PSs X body (liftS X.K X.mg W ks)) : PS X (.While c body [] pos) (liftS X.K X.mg W (sWhile n kt ks)) := by
  refine PS.imp (ps_while hp hc hb) fun Dn σ H ⟨β, ρ, st, S, E, p⟩ => ?_
  refine ⟨fun m σ H => ∃ β ρ st, Sim X.K X.mg β st H ∧ ER X.K β H ρ σ ∧ PostS X.K X.mg W Dn β H (whileGo kt ks m ρ st), ⟨n, β, ρ, st, S, E, p⟩, ?_⟩
  rintro m σ H ⟨β, ρ, st, S, E, p⟩
  cases m with
  | zero => exact p.elim
  | succ m =>
    refine liftT.toS S E p fun k β1 H1 st1 e1 S1 E1 p1 => ?_
    cases k with
    | false => exact iteF (p1 β1 H1 σ (Ext.refl _ _) S1 E1)
    | true =>
      refine iteT ⟨fun σ' H' => ∃ β' ρ' st', Sim X.K X.mg β' st' H' ∧ ER X.K β' H' ρ' σ' ∧ PostS X.K X.mg W Dn β' H' (whileGo kt ks m ρ' st'), fun σ' H' ⟨β', ρ', st', q2, q3, q4⟩ => ⟨m, Nat.lt_succ_self _, β', ρ', st', q2, q3, q4⟩, ⟨β1, ρ, st1, S1, E1, ?_⟩⟩
      simp only [if_true] at p1
      cases hbd : ks ρ st1 with
      | nx ρ3 st3 => simp only [hbd] at p1; exact fun β3 H3 σ3 e3 S3 E3 => ⟨β3, ρ3, st3, S3, E3, PostS.mono e3 p1⟩
      | ct ρ3 st3 => simp only [hbd] at p1; exact fun β3 H3 σ3 e3 S3 E3 => ⟨β3, ρ3, st3, S3, E3, PostS.mono e3 p1⟩
      | bk ρ3 st3 => simp only [hbd] at p1; exact p1
      | rt d3 st3 => simp only [hbd] at p1; exact p1
      | exn x3 ρ3 st3 => simp only [hbd] at p1; exact p1
      | bad => simp only [hbd] at p1; exact p1
end

/-! ### list comprehensions -/
theorem wipe_wipe {σ : L2.St} {us : List Nat} : ∀ ws : List Nat, (∀ w ∈ ws, w ∈ us) → L2.wipe (L2.wipe σ ws) us = L2.wipe σ us
  | [], _ => rfl
  | w :: ws, h => by
    show L2.wipe ((L2.wipe σ ws).set w none) us = _
    rw [wipe_set (h w List.mem_cons_self), wipe_wipe ws fun x hx => h x (List.mem_cons_of_mem _ hx)]
theorem kg_name {X : Cx} {i : Nat} : PGK X [i] (gN i) (gName i) := fun d v σ H ρ β Q ρ' r E h k => by cases h; exact k _ (E.set i r) fun us hu => wipe_set (hu i List.mem_cons_self)
theorem kgs_nil {X : Cx} : PGKs X [] gs0 gNil := fun ds vs σ H ρ β Q ρ' r E h k => by
  cases ds with
  | nil => cases h; exact ⟨VRs.nil.mp r, k _ E fun _ _ => rfl⟩
  | cons _ _ => cases h
theorem kgs_cons {X : Cx} {is js : List Nat} {g : KG} {gs : KGs} {t : TG} {ts : TGs} (k : PGK X is g t) (kks : PGKs X js gs ts) : PGKs X (is ++ js) (gs1 g gs) (gCons t ts) := fun ds vs σ H ρ β Q ρ' r E h kq => by
  cases ds with
  | nil => cases h
  | cons d ds =>
    obtain ⟨v, vr, rfl, r1, r2⟩ := VRs.cons.mp r
    obtain ⟨ρ1, h1, h2⟩ := Option.bind_eq_some_iff.mp (show (g d ρ).bind (gs ds) = some ρ' from h)
    exact ⟨v, vr, rfl, k d v σ H ρ β _ ρ1 r1 E h1 fun σ1 E1 w1 => kks ds vr σ1 H ρ1 β Q ρ' r2 E1 h2 fun σ2 E2 w2 => kq σ2 E2 fun us hu =>
      (w2 us fun i hi => hu i (List.mem_append_right _ hi)).trans (w1 us fun i hi => hu i (List.mem_append_left _ hi))⟩
theorem kg_tup {X : Cx} {is : List Nat} {gs : KGs} {ts : TGs} {n : Nat} (kks : PGKs X is gs ts) : PGK X is (gT n gs) (gTup X.K n ts) := fun d v σ H ρ β Q ρ' r E h kq => by
  cases d with
  | tup ds =>
    obtain ⟨q, vs, rfl, h1, h2⟩ := VR.tupS r
    unfold gT at h
    simp only at h
    split at h
    · rename_i hl
      exact ⟨q, vs, rfl, h1, by rw [h2.length]; exact hl, kks ds vs σ H ρ β Q ρ' h2 E h kq⟩
    · cases h
  | _ => cases h
def wipeD (ρ : Env3) : List Nat → Env3
  | [] => ρ
  | v :: vs => (wipeD ρ vs).set v none
theorem ER.wipe {K : PySem.W.Frag} {β : List Addr} {H : Hp} {ρ : Env3} {σ : L2.St} (E : ER K β H ρ σ) : ∀ vs, ER K β H (wipeD ρ vs) (L2.wipe σ vs)
  | [] => E
  | v :: vs => (ER.wipe E vs).clear v none
def kTrue : KT := fun _ st => .ok true st
def lcGo (g : KG) (cnd : KT) (elt : KE) (src : Src) (ρ : Env3) : Nat → Nat → Sto → List D → R (List D)
  | 0, _, _, _ => .bad
  | f + 1, i, st, acc => match src.at st i with
    | none => .bad
    | some none => .ok acc st
    | some (some d) => match g d ρ with
      | none => .bad
      | some ρ1 => match cnd ρ1 st with
        | .ok k st1 => if k = true then match elt ρ1 st1 with
            | .ok y st2 => if acc.length < 16777215 then lcGo g cnd elt src ρ f (i + 1) st2 (acc ++ [y]) else .bad
            | _ => .bad
          else lcGo g cnd elt src ρ f (i + 1) st1 acc
        | _ => .bad
def kLc (vs : List Nat) (g : KG) (it : KI) (cnd : KT) (elt : KE) : KE := fun ρ st => (it ρ st).bind fun src st1 => (lcGo g cnd elt src (wipeD ρ vs) (src.fuel st1) 0 st1 []).bind fun acc st2 => .ok (.loc st2.length) (st2 ++ [.lst acc])
abbrev W0 : WX := fun _ _ _ _ => False
section
variable {X : Cx} {W : WX} {tg e a b c iter elt : Expr} {es ifs : List Expr} {body : List Stmt} {pos p : Pos} {ka kb kcc ke : KE} {kt kt' : KT} {kas : KA} {ks : KS} {ki : KI}
theorem c_nil : PTs X [] (liftT X.K X.mg W kTrue) := ⟨fun pins s σ H Q I ⟨β, ρ, st, S, E, p⟩ => pts_nil.run pins s σ H Q I (p β H (Ext.refl _ _) S)⟩
theorem c_one (h : PT X c (liftT X.K X.mg W kt)) : PTs X [c] (liftT X.K X.mg W kt) := pts_one h
theorem liftI.bind {α : Type} {σ : L2.St} {ok : α → List Addr → Hp → Prop} {β : List Addr} {H : Hp} {ρ : Env3} {st : Sto} {k : KI} {f : Src → Sto → R α} {R : It → Hp → Prop} (S : Sim X.K X.mg β st H) (E : ER X.K β H ρ σ) (h : PostA X.K X.mg W σ ok β H ((k ρ st).bind f))
    (hq : ∀ d β' H' st' J, Ext β H β' H' → Sim X.K X.mg β' st' H' → ER X.K β' H' ρ σ → ItOk X.K X.mg β' H' d J → PostA X.K X.mg W σ ok β' H' (f d st') → R J H') : liftI X.K X.mg W k σ H R := by
  refine ⟨β, ρ, st, S, E, ?_⟩
  cases hm : k ρ st with
  | ok a st' =>
    rw [hm] at h
    exact fun β' H' e S' J hJ => hq a β' H' st' J e S' (E.mono e) hJ (PostA.mono e h)
  | exn x st' => rw [hm] at h; exact h
  | bad => rw [hm] at h; exact h
theorem Ext.updNew {β1 β : List Addr} {H1 H : Hp} {D : Addr} {o : HO} (e : Ext β1 H1 β H) (h1 : H1 D = none) : Ext β1 H1 β (upd H D o) :=
  ⟨⟨e.pre, fun a xs h => by rw [upd_ne (ne_of_none h h1)]; exact e.tups a xs h, fun a o u h => by rw [upd_ne (ne_of_none h h1)]; exact e.frzs a o u h, fun a u h => by rw [upd_ne (ne_of_none h h1)]; exact e.exts a u h⟩, fun a u h hn ht => by rw [upd_ne (ne_of_none h h1)]; exact e.keep a u h hn ht, e.new⟩
theorem Sim.updOut {K : PySem.W.Frag} {mg : Str → Option Value} {β : List Addr} {st : Sto} {H : Hp} {D : Addr} {xs : List V} {o : HO} (S : Sim K mg β st H) (h : H D = some (.lst xs)) (hn : D ∉ β) : Sim K mg β st (upd H D o) ∧ Ext0 β H β (upd H D o) := by
  have e : Ext0 β H β (upd H D o) := ⟨⟨[], by simp⟩, fun a xs q => by rw [upd_ne (fun z => by subst z; rw [h] at q; cases q)]; exact q, fun a o u q => by rw [upd_ne (fun z => by subst z; rw [h] at q; cases q)]; exact q, fun a u q => by rw [upd_ne (fun z => by subst z; rw [h] at q; exact lst_code (Option.some.inj q))]; exact q⟩
  exact ⟨⟨S.len, S.inj, fun n ob a h1 h2 => (S.ob n ob a h1 h2).mono0 e (upd_ne fun z => by subst z; exact hn (List.mem_of_getElem? h2))⟩, e⟩
theorem lc_main {is vs : List Nat} {t : TG} {g : KG} (kg : PGK X is g t) (hv : ∀ i ∈ is, i ∈ vs) {σ : L2.St} {H : Hp} {Q : VK} (h : lift X.K X.mg W (kLc vs g ki kt ke) σ H Q) : tLc (liftI X.K X.mg W ki) t (liftT X.K X.mg W0 kt) (lift X.K X.mg W0 ke) vs σ H Q := by
  obtain ⟨β, ρ, st, S, E, p⟩ := h
  refine liftI.bind S E p fun src β1 H1 st1 J e1 S1 E1 hJ p1 => ?_
  intro D hD
  refine ⟨fun i m H => ∃ β st acc us, Ext β1 H1 β H ∧ Sim X.K X.mg β st H ∧ H D = some (.lst us) ∧ D ∉ β ∧ VRs X.K β H acc us ∧ PostA X.K X.mg W σ (okE X.K Q) β1 H1 ((lcGo g kt ke src (wipeD ρ vs) m i st acc).bind fun acc st2 => .ok (.loc st2.length) (st2 ++ [.lst acc])),
    ⟨_, β1, st1, [], [], ext_new0 hD, S1.new0 hD, upd_same, fun hm => ?_, VRs.nil.mpr rfl, p1⟩, ?_⟩
  · obtain ⟨n, hn, e⟩ := List.mem_iff_getElem.mp hm
    exact S1.fresh hD (n := n) (by rw [List.getElem?_eq_getElem hn, e])
  rintro i m H ⟨β, st, acc, us, ex, S, hl, hn, ra, p⟩
  cases m with
  | zero => exact p.elim
  | succ m =>
    unfold lcGo at p
    obtain ⟨j1, j2⟩ := hJ i β H st ex S
    cases hat : src.at st i with
    | none => simp only [hat] at p; exact p.elim
    | some o =>
      cases o with
      | none =>
        simp only [hat] at p
        refine .inl ⟨j2 hat, p (β ++ [D]) H ⟨⟨?_, ex.tups, ex.frzs, ex.exts⟩, ex.keep, fun a ha => ?_⟩ ?_ _ (VR.loc.mpr ⟨D, by rw [← S.len]; simp, rfl⟩)⟩
        · obtain ⟨q, e⟩ := ex.pre
          exact ⟨q ++ [D], by rw [e]; simp⟩
        · rcases List.mem_append.mp ha with ha | ha
          · exact ex.new a ha
          · have e : a = D := by simpa using ha
            subst e
            exact .inr (.inl hD)
        · have eD : Ext0 β H (β ++ [D]) H := ⟨⟨[D], rfl⟩, fun _ _ h => h, fun _ _ _ h => h, fun _ _ h => h⟩
          refine ⟨by simp [S.len], fun a b c h1 h2 => ?_, fun n ob a h1 h2 => ?_⟩
          · have la : a < β.length + 1 := by simpa using (List.getElem?_eq_some_iff.mp h1).1
            have lb : b < β.length + 1 := by simpa using (List.getElem?_eq_some_iff.mp h2).1
            by_cases ha : a < β.length
            · rw [List.getElem?_append_left ha] at h1
              by_cases hb : b < β.length
              · rw [List.getElem?_append_left hb] at h2
                exact S.inj a b c h1 h2
              · have e : b = β.length := by omega
                subst e
                simp at h2
                subst h2
                exact absurd (List.mem_of_getElem? h1) hn
            · have e : a = β.length := by omega
              subst e
              simp at h1
              subst h1
              by_cases hb : b < β.length
              · rw [List.getElem?_append_left hb] at h2
                exact absurd (List.mem_of_getElem? h2) hn
              · omega
          · have ln : n < β.length + 1 := by simpa using (List.getElem?_eq_some_iff.mp h2).1
            by_cases hnn : n < β.length
            · rw [List.getElem?_append_left hnn] at h2
              rw [List.getElem?_append_left (by rw [← S.len]; exact hnn)] at h1
              exact (S.ob n ob a h1 h2).mono0 eD rfl
            · have e : n = β.length := by omega
              subst e
              simp at h2
              subst h2
              rw [S.len] at h1
              simp at h1
              subst h1
              exact ⟨us, hl, VRs.mono0 eD _ _ ra⟩
      | some d =>
        simp only [hat] at p
        obtain ⟨go, yl⟩ := j1 d hat
        refine .inr ⟨go, fun H' => ∃ β' st' acc' us', Ext β1 H1 β' H' ∧ Sim X.K X.mg β' st' H' ∧ H' D = some (.lst us') ∧ D ∉ β' ∧ VRs X.K β' H' acc' us' ∧ PostA X.K X.mg W σ (okE X.K Q) β1 H1 ((lcGo g kt ke src (wipeD ρ vs) m (i + 1) st' acc').bind fun acc st2 => .ok (.loc st2.length) (st2 ++ [.lst acc])),
          fun H' ⟨β', st', acc', us', q⟩ => ⟨m, Nat.lt_succ_self _, β', st', acc', us', q⟩, fun x H' y => ?_⟩
        obtain ⟨β2, e2, S2, r2⟩ := yl x H' y
        have stay : ∀ {βa βb : List Addr} {Ha Hb : Hp}, Ext βa Ha βb Hb → Ha D = some (.lst us) → D ∉ βa → Hb D = some (.lst us) ∧ D ∉ βb := fun ee hh hnn => ⟨ee.keep D _ hh hnn (fun _ z => by cases z), fun z => by
          rcases ee.new D z with z | z | ⟨ps, z⟩
          · exact hnn z
          · rw [hh] at z; cases z
          · rw [hh] at z; cases z⟩
        obtain ⟨hl2, hn2⟩ := stay e2 hl hn
        cases hgd : g d (wipeD ρ vs) with
        | none => simp only [hgd] at p; exact p.elim
        | some ρ1 =>
          simp only [hgd] at p
          refine kg d x (L2.wipe σ vs) H' (wipeD ρ vs) β2 _ ρ1 r2 ((E1.mono (ex.trans e2)).wipe vs) hgd fun σ2 E2 wp => ⟨?_, ?_⟩
          · exact (wp vs hv).trans (wipe_wipe vs fun _ h => h)
          refine ⟨β2, ρ1, st, S2, E2, ?_⟩
          cases hk : kt ρ1 st with
          | exn _ _ => simp only [hk] at p; exact p.elim
          | bad => simp only [hk] at p; exact p.elim
          | ok k st3 =>
            simp only [hk] at p
            intro β3 H3 e3 S3
            obtain ⟨hl3, hn3⟩ := stay e3 hl2 hn2
            cases k with
            | false =>
              exact iteF ⟨β3, st3, acc, us, (ex.trans e2).trans e3, S3, hl3, hn3, VRs.mono e3 _ _ (VRs.mono e2 _ _ ra), p⟩
            | true =>
              simp only [if_true] at p
              refine iteT ⟨β3, ρ1, st3, S3, E2.mono e3, ?_⟩
              cases hy : ke ρ1 st3 with
              | exn _ _ => simp only [hy] at p; exact p.elim
              | bad => simp only [hy] at p; exact p.elim
              | ok y st4 =>
                simp only [hy] at p
                split at p
                · rename_i hz
                  intro β4 H4 e4 S4 v4 r4
                  obtain ⟨hl4, hn4⟩ := stay e4 hl3 hn3
                  have ra4 := VRs.mono e4 _ _ (VRs.mono e3 _ _ (VRs.mono e2 _ _ ra))
                  obtain ⟨S5, e5⟩ := S4.updOut (o := .lst (us ++ [v4])) hl4 hn4
                  refine ⟨us, hl4, ?_, β4, st4, acc ++ [y], us ++ [v4], (((ex.trans e2).trans e3).trans e4).updNew hD, S5, upd_same, hn4, VRs.mono0 e5 _ _ (ra4.append (VRs.cons.mpr ⟨v4, [], rfl, r4, VRs.nil.mpr rfl⟩)), p⟩
                  have : us.length < 16777215 := by rw [ra4.length]; exact hz
                  rw [sizeLine_eq]; omega
                · exact p.elim
theorem q_lc {scope : Scope} {own : List (Str × Nat)} {is : List Nat} {g : KG} {t : TG} (hc : X.calm = true) (hN : X.N.Nodup) (hi : PI X tg iter (liftI X.K X.mg W ki)) (ok : BlkOk X.N X.env.scope scope own)
    (hg : ∀ (s : Shared) (H : Hp) (C : Addr) (cl : List (Str × Addr)) (fp : List Addr), PG (X.blk s H scope (compEnvC scope cl C X.env) fp) tg t) (kg : PGK X is g t) (hv : ∀ i ∈ is, i ∈ own.map (·.2))
    (ht : ∀ (s : Shared) (H : Hp) (C : Addr) (cl : List (Str × Addr)) (fp : List Addr), PTs (X.blk s H scope (compEnvC scope cl C X.env) fp) ifs (liftT X.K X.mg W0 kt))
    (he : ∀ (s : Shared) (H : Hp) (C : Addr) (cl : List (Str × Addr)) (fp : List Addr), PE (X.blk s H scope (compEnvC scope cl C X.env) fp) elt (lift X.K X.mg W0 ke)) (hs : ∀ x, foldedSetIterable iter X.env x = pure x := by intro _; rfl) :
    PE X (.ListComp elt [⟨tg, iter, ifs, 0⟩] scope pos) (lift X.K X.mg W (kLc (own.map (·.2)) g ki kt ke)) :=
  PE.imp (pe_lc hc hN hi ok hg ht he hs) fun σ H Q h => lc_main kg hv h
theorem s_setLc {i : Nat} {y : Str} {py spos : Pos} {scope : Scope} {own : List (Str × Nat)} {is : List Nat} {g : KG} {t : TG} (hc : X.calm = true) (hN : X.N.Nodup) (hy : X.N[i]? = some y) (hyl : X.env.scope.names.lookup y = some .local)
    (hsw : swapsWith (.ListComp elt [⟨tg, iter, ifs, 0⟩] scope pos) (some (.Name y py)) spos.line X.env = pure true) (hi : PI X tg iter (liftI X.K X.mg W ki)) (ok : BlkOk X.N X.env.scope scope own)
    (hg : ∀ (s : Shared) (H : Hp) (C : Addr) (cl : List (Str × Addr)) (fp : List Addr), PG (X.blk s H scope (compEnvC scope cl C X.env) fp) tg t) (kg : PGK X is g t) (hv : ∀ i ∈ is, i ∈ own.map (·.2))
    (ht : ∀ (s : Shared) (H : Hp) (C : Addr) (cl : List (Str × Addr)) (fp : List Addr), PTs (X.blk s H scope (compEnvC scope cl C X.env) fp) ifs (liftT X.K X.mg W0 kt))
    (he : ∀ (s : Shared) (H : Hp) (C : Addr) (cl : List (Str × Addr)) (fp : List Addr), PE (X.blk s H scope (compEnvC scope cl C X.env) fp) elt (lift X.K X.mg W0 ke)) (hs : ∀ x, foldedSetIterable iter X.env x = pure x := by intro _; rfl) :
    PS X (.Assign [.Name y py] (.ListComp elt [⟨tg, iter, ifs, 0⟩] scope pos) spos) (liftS X.K X.mg W (sSet i (kLc (own.map (·.2)) g ki kt ke))) :=
  PS.imp (ps_setLc hc hN hy hyl hsw hi ok hg ht he hs) fun Dn σ H ⟨β, ρ, st, S, E, p⟩ => by
    show tLc _ _ _ _ _ σ H _
    refine lc_main kg hv (lift.toS S E p fun d v β1 H1 st1 e1 S1 E1 r1 p1 => ?_)
    exact p1 β1 H1 _ (Ext.refl _ _) S1 (E1.set i r1)
end
end L3

namespace L3
open PySem PySem.Spec PyProof.Rows L2

/-! ### what the operators mean -/
def addD (x y : D) (st : Sto) : R D := match x, y with
  | .int i, .int j => .ok (.int (i + j)) st
  | .str i, .str j => if i.length + j.length ≤ 16777216 then .ok (.str (i ++ j)) st else .bad
  | .tup xs, .tup ys => if xs.length + ys.length ≤ 16777216 then .ok (.tup (xs ++ ys)) st else .bad
  | .loc m, .loc n => match st[m]?, st[n]? with
    | some (.lst xs), some (.lst ys) => if xs.length + ys.length ≤ 16777216 then .ok (.loc st.length) (st ++ [.lst (xs ++ ys)]) else .bad
    | _, _ => .bad
  | _, _ => .bad
def subD (x y : D) (st : Sto) : R D := match x, y with
  | .int i, .int j => .ok (.int (i - j)) st
  | _, _ => .bad
/-- a product is made where its bits are surely few -/
def mulOk (i j : Int) : Prop := ((-(2 ^ 64) < i ∧ i < 2 ^ 64) ∨ (-(2 ^ 64) < j ∧ j < 2 ^ 64)) ∨ i.natAbs.log2 + j.natAbs.log2 < 1000000
instance (i j : Int) : Decidable (mulOk i j) := by unfold mulOk; infer_instance
def mulD (x y : D) (st : Sto) : R D := match x, y with
  | .int i, .int j => if mulOk i j then .ok (.int (i * j)) st else .bad
  | .loc m, .int k => match st[m]? with
    | some (.lst xs) => if -(2 ^ 63) ≤ k ∧ k < 2 ^ 63 ∧ xs.length * k.toNat ≤ 16777216 then .ok (.loc st.length) (st ++ [.lst (List.replicate k.toNat xs).flatten]) else .bad
    | _ => .bad
  | _, _ => .bad
def divOk (j : Int) : Prop := 0 < j ∧ (j < 1073741824 ∨ j.natAbs.log2 < 9000)
instance (j : Int) : Decidable (divOk j) := by unfold divOk; infer_instance
def fdivD (x y : D) (st : Sto) : R D := match x, y with
  | .int i, .int j => if divOk j then .ok (.int (i / j)) st else .bad
  | _, _ => .bad
def modD (x y : D) (st : Sto) : R D := match x, y with
  | .int i, .int j => if 0 < j then .ok (.int (i % j)) st else .bad
  | _, _ => .bad
def powD (x y : D) (st : Sto) : R D := match x, y with
  | .int i, .int j => if 0 ≤ j ∧ (Builtin.Int.intBits i : Int) * j ≤ 2 ^ 27 then .ok (.int (i ^ j.toNat)) st else .bad
  | _, _ => .bad
def cmpD (f : Int → Int → Bool) (g : Str → Str → Bool) (x y : D) (st : Sto) : R D := match x, y with
  | .int i, .int j => .ok (.bl (f i j)) st
  | .str i, .str j => .ok (.bl (g i j)) st
  | _, _ => .bad
abbrev ltD := cmpD (fun i j => decide (i < j)) fun i j => decide (i.cps.toList < j.cps.toList)
abbrev leD := cmpD (fun i j => decide (i ≤ j)) fun i j => !decide (j.cps.toList < i.cps.toList)
abbrev gtD := cmpD (fun i j => decide (j < i)) fun i j => decide (j.cps.toList < i.cps.toList)
abbrev geD := cmpD (fun i j => decide (j ≤ i)) fun i j => !decide (i.cps.toList < j.cps.toList)
def negD (x : D) (st : Sto) : R D := match x with
  | .int i => .ok (.int (-i)) st
  | _ => .bad

/-! ### data, read whole -/
def allO {α : Type} : List (Option α) → Option (List α)
  | [] => some []
  | o :: r => o.bind fun a => (allO r).bind fun l => some (a :: l)
def pd (st : Sto) : Nat → D → Option PyData
  | _, .non => some .none
  | _, .bl b => some (.bool b)
  | _, .int i => some (.int i)
  | _, .str x => some (.str x)
  | n + 1, .tup xs => (allO (xs.map (pd st n))).bind fun l => some (.tuple l)
  | n + 1, .frz xs => (allO (xs.map (pd st n))).bind fun l => some (.list l)
  | n + 1, .loc m => match st[m]? with
    | some (.lst xs) => (allO (xs.map (pd st n))).bind fun l => some (.list l)
    | _ => none
  | 0, .tup _ => none
  | 0, .frz _ => none
  | 0, .loc _ => none
  | _, .cls _ => none
  | _, .lam _ _ _ => none
  | _, .fn _ _ => none
  | _, .fdk _ _ => none
def eqD (x y : D) (st : Sto) : R D := match pd st 40 x, pd st 40 y with
  | some d, some e => if SeqAt.shaped d = true ∧ SeqAt.shaped e = true then .ok (.bl (PyData.eqv d e)) st else .bad
  | _, _ => .bad
def neD (x y : D) (st : Sto) : R D := match pd st 40 x, pd st 40 y with
  | some d, some e => if SeqAt.shaped d = true ∧ SeqAt.shaped e = true then .ok (.bl (!PyData.eqv d e)) st else .bad
  | _, _ => .bad
def isNon : D → Bool
  | .non => true
  | _ => false
def isN (x : D) (st : Sto) : R D := .ok (.bl (isNon x)) st
def notN (x : D) (st : Sto) : R D := .ok (.bl (!isNon x)) st
def flatD : D → Bool
  | .non | .bl _ | .int _ | .str _ => true
  | _ => false
/-- in: a text in a text; data in a list -/
def inD (neg : Bool) (x y : D) (st : Sto) : R D := match y with
  | .str j => match x with
    | .str i => .ok (.bl (neg != (!(Builtin.Str.occurrences j i 0 j.length 1).isEmpty))) st
    | _ => .bad
  | .tup xs => match x with
    | .str _ | .int _ | .bl _ | .non => if xs.all flatD = true then match pd st 1 x, allO (xs.map (pd st 1)) with
        | some d, some ds => .ok (.bl (neg != ds.any fun z => PyData.eqv z d)) st
        | _, _ => .bad
      else .bad
    | _ => .bad
  | y => match pd st 40 x, pd st 40 y with
    | some d, some (.list ds) => if SeqAt.shaped d = true ∧ SeqAt.shaped (.list ds) = true then .ok (.bl (neg != ds.any fun z => PyData.eqv z d)) st else .bad
    | _, _ => .bad
/-- x[i] -/
def ixD (x y : D) (st : Sto) : R D := match y with
  | .int i => match x with
    | .tup xs => match atI xs i with | some d => .ok d st | none => .bad
    | .frz xs => match atI xs i with | some d => .ok d st | none => .bad
    | .str z => if z.length ≤ 16777216 then match atI z.cps.toList i with | some c => .ok (.str ⟨#[c]⟩) st | none => .bad else .bad
    | .loc n => match st[n]? with
      | some (.lst xs) => match atI xs i with | some d => .ok d st | none => .bad
      | _ => .bad
    | _ => .bad
  | _ => .bad

section
variable {X : Cx} {W : WX}
theorem fin {K : PySem.W.Frag} {mg : Str → Option Value} {σ : L2.St} {β : List Addr} {H : Hp} {st : Sto} {Q : VK} {d : D} {v : V} (p : PostA K mg W σ (okE K Q) β H (.ok d st)) (S : Sim K mg β st H) (r : VR K β H d v) : Q v H := p β H (Ext.refl _ _) S v r
theorem o_add : OpS X W (binaryOp .Add) addD := OpS.of (op_add.or (op_add_str.or (op_catA.or op_cat))) fun σ H x y Q β st dx dy S rx ry p => by
  unfold addD at p
  split at p
  · cases VR.int.mp rx; cases VR.int.mp ry
    exact .inl ⟨_, _, rfl, rfl, fin p S (VR.int.mpr rfl)⟩
  · cases VR.str.mp rx; cases VR.str.mp ry
    split at p
    · rename_i hz; exact .inr (.inl ⟨_, _, rfl, rfl, szl hz, fin p S (VR.str.mpr rfl)⟩)
    · exact p.elim
  · rename_i xs ys
    obtain ⟨a, vs, rfl, h1, h2⟩ := VR.tupS rx
    obtain ⟨b, us, rfl, g1, g2⟩ := VR.tupS ry
    split at p
    · rename_i hz
      refine .inr (.inr (.inl ⟨a, b, vs, us, rfl, rfl, h1, g1, by rw [h2.length, g2.length]; exact szl hz, fun e => ?_, fun e1 e2 => ?_, fun _ _ q hq => ?_⟩))
      · subst e
        have : xs = [] := by have := h2.length; cases xs with | nil => rfl | cons _ _ => simp at this
        subst this
        exact fin p S ry
      · subst e2
        have : ys = [] := by have := g2.length; cases ys with | nil => rfl | cons _ _ => simp at this
        subst this
        rw [List.append_nil] at p
        exact fin p S rx
      · exact p β _ (ext_new0 hq) (S.new0 hq) _ (VR.tup.mpr ⟨q, _, rfl, upd_same, VRs.mono (ext_new0 hq) _ _ (h2.append g2)⟩)
    · exact p.elim
  · rename_i m n
    obtain ⟨a, h1, rfl⟩ := VR.loc.mp rx
    obtain ⟨b, g1, rfl⟩ := VR.loc.mp ry
    obtain ⟨o, h2, h3⟩ := S.at h1
    obtain ⟨o', g2, g3⟩ := S.at g1
    simp only [h2, g2] at p
    cases o with
    | lst xs =>
      cases o' with
      | lst ys =>
        simp only at p
        split at p
        · rename_i hz
          obtain ⟨vs, h4, h5⟩ := h3
          obtain ⟨us, g4, g5⟩ := g3
          refine .inr (.inr (.inr ⟨a, b, vs, us, rfl, rfl, h4, g4, by rw [h5.length, g5.length]; exact szl hz, fun q hq => ?_⟩))
          obtain ⟨x1, x2, x3⟩ := newLst S (h5.append g5) hq
          exact p _ _ x1 x2 _ x3
        · exact p.elim
      | _ => exact p.elim
    | _ => cases o' <;> exact p.elim
  · exact p.elim
theorem o_sub : OpS X W (binaryOp .Sub) subD := OpS.of op_sub fun σ H x y Q β st dx dy S rx ry p => by
  unfold subD at p
  split at p
  · cases VR.int.mp rx; cases VR.int.mp ry
    exact ⟨_, _, rfl, rfl, fin p S (VR.int.mpr rfl)⟩
  · exact p.elim
theorem o_mul : OpS X W (binaryOp .Mult) mulD := OpS.of ((op_mul.or op_mulW).or op_rep) fun σ H x y Q β st dx dy S rx ry p => by
  unfold mulD at p
  split at p
  · cases VR.int.mp rx; cases VR.int.mp ry
    split at p
    · rename_i hm
      rcases hm with hm | hm
      · exact .inl (.inl ⟨_, _, rfl, rfl, hm, fin p S (VR.int.mpr rfl)⟩)
      · exact .inl (.inr ⟨_, _, rfl, rfl, hm, fin p S (VR.int.mpr rfl)⟩)
    · exact p.elim
  · rename_i m k
    obtain ⟨a, h1, rfl⟩ := VR.loc.mp rx
    cases VR.int.mp ry
    obtain ⟨o, h2, h3⟩ := S.at h1
    simp only [h2] at p
    cases o with
    | lst xs =>
      simp only at p
      split at p
      · rename_i hz
        obtain ⟨vs, h4, h5⟩ := h3
        refine .inr ⟨a, k, vs, rfl, rfl, h4, hz.1, hz.2.1, by rw [h5.length]; exact szl hz.2.2, fun q hq => ?_⟩
        have hr : ∀ n : Nat, VRs X.K β H (List.replicate n xs).flatten (List.replicate n vs).flatten := fun n => by
          induction n with
          | zero => exact VRs.nil.mpr rfl
          | succ n ih => rw [List.replicate_succ, List.replicate_succ, List.flatten_cons, List.flatten_cons]; exact h5.append ih
        obtain ⟨x1, x2, x3⟩ := newLst S (hr k.toNat) hq
        exact p _ _ x1 x2 _ x3
      · exact p.elim
    | _ => exact p.elim
  · exact p.elim
theorem o_fdiv : OpS X W (binaryOp .FloorDiv) fdivD := OpS.of (op_fdiv.or op_fdivW) fun σ H x y Q β st dx dy S rx ry p => by
  unfold fdivD at p
  split at p
  · cases VR.int.mp rx; cases VR.int.mp ry
    split at p
    · rename_i hm
      obtain ⟨h0, hm | hm⟩ := hm
      · exact .inl ⟨_, _, rfl, rfl, ⟨h0, hm⟩, fin p S (VR.int.mpr rfl)⟩
      · exact .inr ⟨_, _, rfl, rfl, ⟨h0, hm⟩, fin p S (VR.int.mpr rfl)⟩
    · exact p.elim
  · exact p.elim
theorem o_mod : OpS X W (binaryOp .Mod) modD := OpS.of op_mod fun σ H x y Q β st dx dy S rx ry p => by
  unfold modD at p
  split at p
  · cases VR.int.mp rx; cases VR.int.mp ry
    split at p
    · rename_i hm; exact ⟨_, _, rfl, rfl, hm, fin p S (VR.int.mpr rfl)⟩
    · exact p.elim
  · exact p.elim
theorem op_powL : OpR X (binaryOp .Pow) (rI (fun i j => 0 ≤ j ∧ (Builtin.Int.intBits i : Int) * j ≤ 2 ^ 27) fun i j => .int (i ^ j.toNat)) := opI fun _ _ _ _ _ _ _ hc q => PyProof.Rows.pow_int hc.1 hc.2 q
theorem o_pow : OpS X W (binaryOp .Pow) powD := OpS.of op_powL fun σ H x y Q β st dx dy S rx ry p => by
  unfold powD at p
  split at p
  · cases VR.int.mp rx; cases VR.int.mp ry
    split at p
    · rename_i hm; exact ⟨_, _, rfl, rfl, hm, fin p S (VR.int.mpr rfl)⟩
    · exact p.elim
  · exact p.elim
theorem o_cmp {op : CmpOp} {f : Int → Int → Bool} {g : Str → Str → Bool} (h1 : OpR X (compareOp op) (rI0 fun i j => .bl (f i j))) (h2 : OpR X (compareOp op) (fun x y H Q => ∃ i j, x = .str i ∧ y = .str j ∧ Q (.bl (g i j)) H)) : OpS X W (compareOp op) (cmpD f g) := OpS.of (h1.or h2) fun σ H x y Q β st dx dy S rx ry p => by
  unfold cmpD at p
  split at p
  · cases VR.int.mp rx; cases VR.int.mp ry
    exact .inl ⟨_, _, rfl, rfl, fin p S (VR.bl.mpr rfl)⟩
  · cases VR.str.mp rx; cases VR.str.mp ry
    exact .inr ⟨_, _, rfl, rfl, fin p S (VR.bl.mpr rfl)⟩
  · exact p.elim
theorem o_lt : OpS X W (compareOp .Lt) ltD := o_cmp op_lt op_lt_str
theorem o_le : OpS X W (compareOp .LtE) leD := o_cmp op_le op_le_str
theorem o_gt : OpS X W (compareOp .Gt) gtD := o_cmp op_gt op_gt_str
theorem o_ge : OpS X W (compareOp .GtE) geD := o_cmp op_ge op_ge_str
theorem o_neg : UnS X W (unaryOp .USub) negD := fun pins s σ H x v Q β st dx I rx S vx p => by
  unfold negD at p
  split at p
  · cases VR.int.mp vx
    exact un_neg pins s σ H _ v Q I rx ⟨_, rfl, fin p S (VR.int.mpr rfl)⟩
  · exact p.elim

theorem allO_map {K : PySem.W.Frag} {β : List Addr} {H : Hp} {f : D → Option PyData} (h : ∀ d v p, f d = some p → VR K β H d v → Dp K H v p) : ∀ {ds : List D} {vs : List V} {ps : List PyData}, allO (ds.map f) = some ps → VRs K β H ds vs → DpAll K H vs ps
  | [], vs, ps, e, r => by cases e; rw [VRs.nil.mp r]; exact .nil
  | d :: ds, vs, ps, e, r => by
    obtain ⟨v, us, rfl, r1, r2⟩ := VRs.cons.mp r
    obtain ⟨p, h1, e⟩ := Option.bind_eq_some_iff.mp (show (f d).bind (fun a => (allO (ds.map f)).bind fun l => some (a :: l)) = some ps from e)
    obtain ⟨l, h2, e⟩ := Option.bind_eq_some_iff.mp e
    cases e
    exact .cons (h d v p h1 r1) (allO_map h h2 r2)
theorem pd_ok {K : PySem.W.Frag} {mg : Str → Option Value} {β : List Addr} {st : Sto} {H : Hp} (S : Sim K mg β st H) : ∀ (n : Nat) (d : D) (v : V) (p : PyData), pd st n d = some p → VR K β H d v → Dp K H v p := by
  intro n
  induction n with
  | zero =>
    intro d v p e r
    cases d with
    | non => cases e; cases VR.non.mp r; exact .non
    | bl b => cases e; cases VR.bl.mp r; exact .bl b
    | int b => cases e; cases VR.int.mp r; exact .int b
    | str b => cases e; cases VR.str.mp r; exact .str b
    | _ => cases e
  | succ n ih =>
    intro d v p e r
    cases d with
    | non => cases e; cases VR.non.mp r; exact .non
    | bl b => cases e; cases VR.bl.mp r; exact .bl b
    | int b => cases e; cases VR.int.mp r; exact .int b
    | str b => cases e; cases VR.str.mp r; exact .str b
    | cls b => cases e
    | lam _ _ _ => cases e
    | fn _ _ => cases e
    | fdk _ _ => cases e
    | tup xs =>
      obtain ⟨a, vs, rfl, h1, h2⟩ := VR.tupS r
      obtain ⟨l, hl, e⟩ := Option.bind_eq_some_iff.mp (show (allO (xs.map (pd st n))).bind _ = some p from e)
      cases e
      exact .tup h1 (allO_map ih hl h2)
    | frz xs =>
      obtain ⟨a, vs, rfl, h1, h2⟩ := VR.frz.mp r
      obtain ⟨l, hl, e⟩ := Option.bind_eq_some_iff.mp (show (allO (xs.map (pd st n))).bind _ = some p from e)
      cases e
      exact .lst h1.sq (allO_map ih hl h2)
    | loc m =>
      obtain ⟨a, h1, rfl⟩ := VR.loc.mp r
      obtain ⟨o, h2, h3⟩ := S.at h1
      unfold pd at e
      simp only [h2] at e
      cases o with
      | lst xs =>
        obtain ⟨vs, h4, h5⟩ := h3
        obtain ⟨l, hl, e⟩ := Option.bind_eq_some_iff.mp e
        cases e
        exact .lst (SqL.of h4) (allO_map ih hl h5)
      | _ => cases e
theorem o_eq (hu : X.A.units + 64 < cLine) : OpS X W (compareOp .Eq) eqD := OpS.of (op_eqD hu) fun σ H x y Q β st dx dy S rx ry p => by
  unfold eqD at p
  split at p
  · rename_i d e h1 h2
    split at p
    · rename_i hs
      exact ⟨d, e, pd_ok S 40 dx x d h1 rx, pd_ok S 40 dy y e h2 ry, hs.1, hs.2, fin p S (VR.bl.mpr rfl)⟩
    · exact p.elim
  · exact p.elim
theorem o_ne (hu : X.A.units + 64 < cLine) : OpS X W (compareOp .NotEq) neD := OpS.of (op_neD hu) fun σ H x y Q β st dx dy S rx ry p => by
  unfold neD at p
  split at p
  · rename_i d e h1 h2
    split at p
    · rename_i hs
      exact ⟨d, e, pd_ok S 40 dx x d h1 rx, pd_ok S 40 dy y e h2 ry, hs.1, hs.2, fin p S (VR.bl.mpr rfl)⟩
    · exact p.elim
  · exact p.elim
theorem non_rel {K : PySem.W.Frag} {β : List Addr} {H : Hp} {d : D} {v : V} (r : VR K β H d v) : decide (v = .non) = isNon d := by
  cases d with
  | non => cases VR.non.mp r; rfl
  | bl b => cases VR.bl.mp r; rfl
  | int b => cases VR.int.mp r; rfl
  | str b => cases VR.str.mp r; rfl
  | tup xs => obtain ⟨a, vs, rfl, h1, h2⟩ := VR.tupS r; rfl
  | frz xs => obtain ⟨a, vs, rfl, h1, h2⟩ := VR.frz.mp r; rfl
  | loc m => obtain ⟨a, h1, rfl⟩ := VR.loc.mp r; rfl
  | cls a => cases VR.cls.mp r; rfl
  | lam _ _ _ => cases (VR.lam.mp r).1; rfl
  | fn _ _ => cases VR.fn.mp r; rfl
  | fdk _ _ => obtain ⟨a, o, vs, rfl, _⟩ := VR.fdk.mp r; rfl
/-- e is None; e is not None -/
theorem q_isN {a : Expr} {ka : KE} {pos pos' : Pos} {j} (ha : PE X a (lift X.K X.mg W ka)) : PE X (.Compare a [.Is] [.Constant .none j pos'] pos) (lift X.K X.mg W (k1 isN ka)) :=
  PE.imp (pe_cmp (pc_isN ha) rfl) fun σ H Q ⟨β, ρ, st, S, E, p⟩ => lift.bind S E p fun d v β1 H1 st1 e1 S1 E1 r1 p1 => by
    rw [non_rel r1]
    exact fin p1 S1 (VR.bl.mpr rfl)
theorem q_notN {a : Expr} {ka : KE} {pos pos' : Pos} {j} (ha : PE X a (lift X.K X.mg W ka)) : PE X (.Compare a [.IsNot] [.Constant .none j pos'] pos) (lift X.K X.mg W (k1 notN ka)) :=
  PE.imp (pe_cmp (pc_notN ha) rfl) fun σ H Q ⟨β, ρ, st, S, E, p⟩ => lift.bind S E p fun d v β1 H1 st1 e1 S1 E1 r1 p1 => by
    rw [non_rel r1]
    exact fin p1 S1 (VR.bl.mpr rfl)
theorem kTb_k1 {α : Type} {f : D → Sto → R D} {ka : KE} {ρ : Env3} {st : Sto} : kTb (k1 f ka) ρ st = (ka ρ st).bind fun d st1 => (f d st1).bind fun d st1 => match d with | .bl b => .ok b st1 | _ => .bad := by
  unfold kTb k1
  cases ka ρ st <;> rfl
theorem q_tisN {a : Expr} {ka : KE} {pos pos' : Pos} {j} (ha : PE X a (lift X.K X.mg W ka)) : PT X (.Compare a [.Is] [.Constant .none j pos'] pos) (liftT X.K X.mg W (kTb (k1 isN ka))) :=
  PT.imp (pt_cmp (pc_isN ha) rfl) fun σ H Q ⟨β, ρ, st, S, E, p⟩ => by
    rw [kTb_k1 (α := Unit)] at p
    exact lift.bind (ok := okT Q) S E p fun d v β1 H1 st1 e1 S1 E1 r1 p1 => by
      rw [non_rel r1]
      exact ⟨_, rfl, p1 β1 H1 (Ext.refl _ _) S1⟩
theorem q_tnotN {a : Expr} {ka : KE} {pos pos' : Pos} {j} (ha : PE X a (lift X.K X.mg W ka)) : PT X (.Compare a [.IsNot] [.Constant .none j pos'] pos) (liftT X.K X.mg W (kTb (k1 notN ka))) :=
  PT.imp (pt_cmp (pc_notN ha) rfl) fun σ H Q ⟨β, ρ, st, S, E, p⟩ => by
    rw [kTb_k1 (α := Unit)] at p
    exact lift.bind (ok := okT Q) S E p fun d v β1 H1 st1 e1 S1 E1 r1 p1 => by
      rw [non_rel r1]
      exact ⟨_, rfl, p1 β1 H1 (Ext.refl _ _) S1⟩

/-! ### in -/
theorem flat_rel {K : PySem.W.Frag} {β : List Addr} {H : Hp} {st : Sto} {d d' : D} {v v' : V} {p p' : PyData} (r : VR K β H d v) (h : flatD d = true) (hp : pd st 1 d = some p) (r' : VR K β H d' v') (h' : flatD d' = true) (hp' : pd st 1 d' = some p') : flatV v = true ∧ eqV v v' = PyData.eqv p p' := by
  cases d with
  | non => cases VR.non.mp r; cases hp; cases d' with
      | non => cases VR.non.mp r'; cases hp'; simp [PyData.eqv, eqV, flatV]
      | bl b => cases VR.bl.mp r'; cases hp'; simp [PyData.eqv, eqV, flatV]
      | int b => cases VR.int.mp r'; cases hp'; simp [PyData.eqv, eqV, flatV]
      | str b => cases VR.str.mp r'; cases hp'; simp [PyData.eqv, eqV, flatV]
      | _ => cases h'
  | bl b => cases VR.bl.mp r; cases hp; cases d' with
      | non => cases VR.non.mp r'; cases hp'; simp [PyData.eqv, eqV, flatV]
      | bl b => cases VR.bl.mp r'; cases hp'; simp [PyData.eqv, eqV, flatV]
      | int b => cases VR.int.mp r'; cases hp'; simp [PyData.eqv, eqV, flatV]
      | str b => cases VR.str.mp r'; cases hp'; simp [PyData.eqv, eqV, flatV]
      | _ => cases h'
  | int b => cases VR.int.mp r; cases hp; cases d' with
      | non => cases VR.non.mp r'; cases hp'; simp [PyData.eqv, eqV, flatV]
      | bl b => cases VR.bl.mp r'; cases hp'; simp [PyData.eqv, eqV, flatV]
      | int b => cases VR.int.mp r'; cases hp'; simp [PyData.eqv, eqV, flatV]
      | str b => cases VR.str.mp r'; cases hp'; simp [PyData.eqv, eqV, flatV]
      | _ => cases h'
  | str b => cases VR.str.mp r; cases hp; cases d' with
      | non => cases VR.non.mp r'; cases hp'; simp [PyData.eqv, eqV, flatV]
      | bl b => cases VR.bl.mp r'; cases hp'; simp [PyData.eqv, eqV, flatV]
      | int b => cases VR.int.mp r'; cases hp'; simp [PyData.eqv, eqV, flatV]
      | str b => cases VR.str.mp r'; cases hp'; simp [PyData.eqv, eqV, flatV]
      | _ => cases h'
  | _ => cases h
theorem inV_rel {K : PySem.W.Frag} {β : List Addr} {H : Hp} {st : Sto} {d : D} {v : V} {p : PyData} (r : VR K β H d v) (h : flatD d = true) (hp : pd st 1 d = some p) : ∀ {ds : List D} {vs : List V} {ps : List PyData}, VRs K β H ds vs → ds.all flatD = true → allO (ds.map (pd st 1)) = some ps → vs.all flatV = true ∧ inV v vs = ps.any fun z => PyData.eqv z p
  | [], vs, ps, rs, hs, e => by cases e; rw [VRs.nil.mp rs]; exact ⟨rfl, rfl⟩
  | c :: ds, vs, ps, rs, hs, e => by
    obtain ⟨w, us, rfl, r1, r2⟩ := VRs.cons.mp rs
    obtain ⟨q, h1, e⟩ := Option.bind_eq_some_iff.mp (show (pd st 1 c).bind (fun a => (allO (ds.map (pd st 1))).bind fun l => some (a :: l)) = some ps from e)
    obtain ⟨l, h2, e⟩ := Option.bind_eq_some_iff.mp e
    cases e
    rw [List.all_cons, Bool.and_eq_true] at hs
    obtain ⟨f1, f2⟩ := inV_rel r h hp r2 hs.2 h2
    obtain ⟨g1, g2⟩ := flat_rel r1 hs.1 h1 r h hp
    refine ⟨by rw [List.all_cons, g1, f1]; rfl, ?_⟩
    show (eqV w v || inV v us) = (PyData.eqv q p || l.any fun z => PyData.eqv z p)
    rw [g2, f2]
theorem o_in (hu : X.A.units + 65 < cLine) : OpS X W (compareOp .In) (inD false) := OpS.of (op_in_str.or (op_in_seq.or (op_inD hu))) fun σ H x y Q β st dx dy S rx ry p => by
  unfold inD at p
  split at p
  · split at p
    · cases VR.str.mp rx; cases VR.str.mp ry
      exact .inl ⟨_, _, rfl, rfl, fin p S (VR.bl.mpr (by simp))⟩
    · exact p.elim
  · rename_i xs
    obtain ⟨a, vs, rfl, h1, h2⟩ := VR.tupS ry
    have key : flatD dx = true → PostA X.K X.mg W σ (okE X.K Q) β H (if xs.all flatD = true then match pd st 1 dx, allO (xs.map (pd st 1)) with
        | some d, some ds => .ok (.bl (false != ds.any fun z => PyData.eqv z d)) st
        | _, _ => .bad
      else .bad) → rIn X.K false x (.ref a) H Q := fun hf p => by
      split at p
      · rename_i hx
        split at p
        · rename_i d ds e1 e2
          obtain ⟨f1, f2⟩ := inV_rel rx hf e1 h2 hx e2
          have hfx : flatV x = true := (flat_rel rx hf e1 rx hf e1).1
          exact ⟨a, vs, rfl, .inr h1, hfx, f1, fin p S (VR.bl.mpr (by rw [← f2]; simp))⟩
        · exact p.elim
      · exact p.elim
    cases dx with
    | non => exact .inr (.inl (key rfl p))
    | bl _ => exact .inr (.inl (key rfl p))
    | int _ => exact .inr (.inl (key rfl p))
    | str _ => exact .inr (.inl (key rfl p))
    | _ => exact p.elim
  · split at p
    · rename_i d ds e1 e2
      split at p
      · rename_i hs
        exact .inr (.inr ⟨d, ds, pd_ok S 40 _ _ _ e1 rx, pd_ok S 40 _ _ _ e2 ry, hs.1, hs.2, fin p S (VR.bl.mpr (by simp))⟩)
      · exact p.elim
    · exact p.elim
theorem o_notIn (hu : X.A.units + 65 < cLine) : OpS X W (compareOp .NotIn) (inD true) := OpS.of (op_notIn_str.or (op_notIn_seq.or (op_notInD hu))) fun σ H x y Q β st dx dy S rx ry p => by
  unfold inD at p
  split at p
  · split at p
    · cases VR.str.mp rx; cases VR.str.mp ry
      exact .inl ⟨_, _, rfl, rfl, fin p S (VR.bl.mpr (by simp))⟩
    · exact p.elim
  · rename_i xs
    obtain ⟨a, vs, rfl, h1, h2⟩ := VR.tupS ry
    have key : flatD dx = true → PostA X.K X.mg W σ (okE X.K Q) β H (if xs.all flatD = true then match pd st 1 dx, allO (xs.map (pd st 1)) with
        | some d, some ds => .ok (.bl (true != ds.any fun z => PyData.eqv z d)) st
        | _, _ => .bad
      else .bad) → rIn X.K true x (.ref a) H Q := fun hf p => by
      split at p
      · rename_i hx
        split at p
        · rename_i d ds e1 e2
          obtain ⟨f1, f2⟩ := inV_rel rx hf e1 h2 hx e2
          have hfx : flatV x = true := (flat_rel rx hf e1 rx hf e1).1
          exact ⟨a, vs, rfl, .inr h1, hfx, f1, fin p S (VR.bl.mpr (by rw [← f2]; simp))⟩
        · exact p.elim
      · exact p.elim
    cases dx with
    | non => exact .inr (.inl (key rfl p))
    | bl _ => exact .inr (.inl (key rfl p))
    | int _ => exact .inr (.inl (key rfl p))
    | str _ => exact .inr (.inl (key rfl p))
    | _ => exact p.elim
  · split at p
    · rename_i d ds e1 e2
      split at p
      · rename_i hs
        exact .inr (.inr ⟨d, ds, pd_ok S 40 _ _ _ e1 rx, pd_ok S 40 _ _ _ e2 ry, hs.1, hs.2, fin p S (VR.bl.mpr (by simp))⟩)
      · exact p.elim
    · exact p.elim

/-! ### x[i] -/
theorem atI_rel {K : PySem.W.Frag} {β : List Addr} {H : Hp} {ds : List D} {vs : List V} {i : Int} {d : D} (r : VRs K β H ds vs) (h : atI ds i = some d) : ∃ v, atI vs i = some v ∧ VR K β H d v := by
  unfold atI at h ⊢
  rw [r.length]
  obtain ⟨j, h1, h2⟩ := Option.bind_eq_some_iff.mp h
  obtain ⟨v, h3, h4⟩ := r.getD h2
  exact ⟨v, by rw [h1]; exact h3, h4⟩
theorem x_ix : IxS X W ixD := by
  intro value slice pins s σ H x y v u Q β st dx dy I rx ry S vx vy p hs
  refine ix_seq value slice pins s σ H x y v u Q I rx ry ?_ hs
  unfold ixD at p
  split at p
  · rename_i i
    cases VR.int.mp vy
    split at p
    · obtain ⟨a, vs, rfl, h1, h2⟩ := VR.tupS vx
      split at p
      · rename_i d hd
        obtain ⟨w, h3, h4⟩ := atI_rel h2 hd
        exact .inr (.inl ⟨a, vs, i, w, rfl, rfl, h1, h3, fin p S h4⟩)
      · exact p.elim
    · obtain ⟨a, vs, rfl, h1, h2⟩ := VR.frz.mp vx
      split at p
      · rename_i d hd
        obtain ⟨w, h3, h4⟩ := atI_rel h2 hd
        exact .inl ⟨a, vs, i, w, rfl, rfl, h1.sq, h3, fin p S h4⟩
      · exact p.elim
    · cases VR.str.mp vx
      split at p
      · rename_i hz
        split at p
        · rename_i c hc
          exact .inr (.inr ⟨_, i, c, rfl, rfl, szl hz, hc, fin p S (VR.str.mpr rfl)⟩)
        · exact p.elim
      · exact p.elim
    · rename_i n
      obtain ⟨a, h1, rfl⟩ := VR.loc.mp vx
      obtain ⟨o, h2, h3⟩ := S.at h1
      simp only [h2] at p
      cases o with
      | lst xs =>
        obtain ⟨vs, h4, h5⟩ := h3
        simp only at p
        split at p
        · rename_i d hd
          obtain ⟨w, h6, h7⟩ := atI_rel h5 hd
          exact .inl ⟨a, vs, i, w, rfl, rfl, SqL.of h4, h6, fin p S h7⟩
        · exact p.elim
      | _ => exact p.elim
    · exact p.elim
  · exact p.elim
end
end L3

namespace L3
open PySem PySem.Spec PyProof.Rows L2

/-! ### built-in functions -/
def lenF (ds : List D) (st : Sto) : R D := match ds with
  | [.tup xs] => .ok (.int xs.length) st
  | [.frz xs] => .ok (.int xs.length) st
  | [.str x] => if x.length ≤ 16777216 then .ok (.int x.length) st else .bad
  | [.loc n] => match st[n]? with
    | some (.lst xs) => .ok (.int xs.length) st
    | _ => .bad
  | _ => .bad
def absF (ds : List D) (st : Sto) : R D := match ds with
  | [.int i] => .ok (.int (if i < 0 then -i else i)) st
  | _ => .bad
def maxF (ds : List D) (st : Sto) : R D := match ds with
  | [.int i, .int j] => .ok (.int (if j > i then j else i)) st
  | _ => .bad
def minF (ds : List D) (st : Sto) : R D := match ds with
  | [.int i, .int j] => .ok (.int (if j < i then j else i)) st
  | _ => .bad
def intF (ds : List D) (st : Sto) : R D := match ds with
  | [.int i] => .ok (.int i) st
  | [.bl k] => .ok (.int (if k then 1 else 0)) st
  | _ => .bad
def reprF (ds : List D) (st : Sto) : R D := match ds with
  | [.bl b] => .ok (.str (if b then "True" else "False")) st
  | [.int i] => if i.natAbs.log2 < 1920 then .ok (.str (toString i)) st else .bad
  | _ => .bad
def listF (ds : List D) (st : Sto) : R D := match ds with
  | [.tup xs] => .ok (.loc st.length) (st ++ [.lst xs])
  | [.frz xs] => .ok (.loc st.length) (st ++ [.lst xs])
  | [.loc n] => match st[n]? with
    | some (.lst xs) => .ok (.loc st.length) (st ++ [.lst xs])
    | _ => .bad
  | _ => .bad
def tupleF (ds : List D) (st : Sto) : R D := match ds with
  | [.tup xs] => .ok (.tup xs) st
  | [.frz xs] => .ok (.tup xs) st
  | [.loc n] => match st[n]? with
    | some (.lst xs) => .ok (.tup xs) st
    | _ => .bad
  | _ => .bad
def boolsO : List D → Option (List Bool)
  | [] => some []
  | .bl b :: r => (boolsO r).bind fun l => some (b :: l)
  | _ :: _ => none
def intsO : List D → Option (List Int)
  | [] => some []
  | .int b :: r => (intsO r).bind fun l => some (b :: l)
  | _ :: _ => none
def strsO : List D → Option (List Str)
  | [] => some []
  | .str b :: r => (strsO r).bind fun l => some (b :: l)
  | _ :: _ => none
def itemsD (d : D) (st : Sto) : Option (List D) := match d with
  | .frz xs => some xs
  | .loc n => match st[n]? with
    | some (.lst xs) => some xs
    | _ => none
  | _ => none
def allF (ds : List D) (st : Sto) : R D := match ds with
  | [d] => match (itemsD d st).bind boolsO with
    | some bs => .ok (.bl (bs.all id)) st
    | none => .bad
  | _ => .bad
def anyF (ds : List D) (st : Sto) : R D := match ds with
  | [d] => match (itemsD d st).bind boolsO with
    | some bs => .ok (.bl (bs.any id)) st
    | none => .bad
  | _ => .bad
def sumF (ds : List D) (st : Sto) : R D := match ds with
  | [d] => match (itemsD d st).bind intsO with
    | some bs => .ok (.int bs.sum) st
    | none => .bad
  | _ => .bad
/-! ### methods -/
def appendM (d : D) (ds : List D) (st : Sto) : R D := match d, ds with
  | .loc n, [y] => match st[n]? with
    | some (.lst xs) => if xs.length < 16777216 then .ok .non (st.set n (.lst (xs ++ [y]))) else .bad
    | _ => .bad
  | _, _ => .bad
def extendM (d : D) (ds : List D) (st : Sto) : R D := match d, ds with
  | .loc n, [.loc m] => match st[n]?, st[m]? with
    | some (.lst xs), some (.lst ys) => if xs.length + ys.length ≤ 16777216 then .ok .non (st.set n (.lst (xs ++ ys))) else .bad
    | _, _ => .bad
  | _, _ => .bad
def popM (d : D) (ds : List D) (st : Sto) : R D := match d, ds with
  | .loc n, [] => match st[n]? with
    | some (.lst xs) => match xs[xs.length - 1]? with
      | some y => .ok y (st.set n (.lst xs.dropLast))
      | none => .bad
    | _ => .bad
  | _, _ => .bad
def popAtM (d : D) (ds : List D) (st : Sto) : R D := match d, ds with
  | .loc n, [.int i] => match st[n]? with
    | some (.lst xs) => if -(2 ^ 63) ≤ i ∧ i < 2 ^ 63 then match seqIndex? i xs.length with
        | some k => match xs[k]? with
          | some y => .ok y (st.set n (.lst (xs.eraseIdx k)))
          | none => .bad
        | none => .bad
      else .bad
    | _ => .bad
  | _, _ => .bad
def joinM (d : D) (ds : List D) (st : Sto) : R D := match d, ds with
  | .str a, [y] => match (match y with | .tup xs => some xs | y => itemsD y st).bind strsO with
    | some ys => if (ys.map (·.length)).sum + ys.length * a.length ≤ 16777216 then .ok (.str (Txt.join a ys)) st else .bad
    | none => .bad
  | _, _ => .bad
def upperM (d : D) (ds : List D) (st : Sto) : R D := match d, ds with
  | .str a, [] => if a.length ≤ 5592405 then .ok (.str (Txt.upper a)) st else .bad
  | _, _ => .bad

section
variable {X : Cx} {W : WX}
theorem VRs.one {K : PySem.W.Frag} {β : List Addr} {H : Hp} {d : D} {vs : List V} (h : VRs K β H [d] vs) : ∃ v, vs = [v] ∧ VR K β H d v := by
  obtain ⟨v, r, rfl, h1, h2⟩ := VRs.cons.mp h
  cases VRs.nil.mp h2
  exact ⟨v, rfl, h1⟩
theorem VRs.two {K : PySem.W.Frag} {β : List Addr} {H : Hp} {d e : D} {vs : List V} (h : VRs K β H [d, e] vs) : ∃ v w, vs = [v, w] ∧ VR K β H d v ∧ VR K β H e w := by
  obtain ⟨v, r, rfl, h1, h2⟩ := VRs.cons.mp h
  obtain ⟨w, rfl, h3⟩ := h2.one
  exact ⟨v, w, rfl, h1, h3⟩
theorem f_len : CallS X W (.builtin "len") lenF := CallS.of (call_len_seq.or call_len_str) fun σ H xs Q β st ds S r p => by
  unfold lenF at p
  split at p
  · obtain ⟨v, rfl, h⟩ := r.one
    obtain ⟨a, vs, rfl, h1, h2⟩ := VR.tupS h
    exact .inl ⟨a, vs, rfl, .inr h1, fin p S (VR.int.mpr (by rw [h2.length]))⟩
  · obtain ⟨v, rfl, h⟩ := r.one
    obtain ⟨a, vs, rfl, h1, h2⟩ := VR.frz.mp h
    exact .inl ⟨a, vs, rfl, .inl h1.sq, fin p S (VR.int.mpr (by rw [h2.length]))⟩
  · obtain ⟨v, rfl, h⟩ := r.one
    cases VR.str.mp h
    split at p
    · rename_i hz; exact .inr ⟨_, rfl, szl hz, fin p S (VR.int.mpr rfl)⟩
    · exact p.elim
  · obtain ⟨v, rfl, h⟩ := r.one
    obtain ⟨a, h1, rfl⟩ := VR.loc.mp h
    obtain ⟨o, h2, h3⟩ := S.at h1
    simp only [h2] at p
    cases o with
    | lst xs =>
      obtain ⟨vs, h4, h5⟩ := h3
      exact .inl ⟨a, vs, rfl, .inl (SqL.of h4), fin p S (VR.int.mpr (by rw [h5.length]))⟩
    | _ => exact p.elim
  · exact p.elim
theorem f_abs : CallS X W (.builtin "abs") absF := CallS.of call_abs fun σ H xs Q β st ds S r p => by
  unfold absF at p
  split at p
  · obtain ⟨v, rfl, h⟩ := r.one
    cases VR.int.mp h
    exact ⟨_, rfl, fin p S (VR.int.mpr rfl)⟩
  · exact p.elim
theorem f_max (hc : X.calm = true) : CallS X W (.builtin "max") maxF := CallS.of (call_max2 hc) fun σ H xs Q β st ds S r p => by
  unfold maxF at p
  split at p
  · obtain ⟨v, w, rfl, h, h'⟩ := r.two
    cases VR.int.mp h; cases VR.int.mp h'
    exact ⟨_, _, rfl, fin p S (VR.int.mpr rfl)⟩
  · exact p.elim
theorem f_min (hc : X.calm = true) : CallS X W (.builtin "min") minF := CallS.of (call_min2 hc) fun σ H xs Q β st ds S r p => by
  unfold minF at p
  split at p
  · obtain ⟨v, w, rfl, h, h'⟩ := r.two
    cases VR.int.mp h; cases VR.int.mp h'
    exact ⟨_, _, rfl, fin p S (VR.int.mpr rfl)⟩
  · exact p.elim
theorem f_int : CallS X W (.type "int") intF := CallS.of call_int1 fun σ H xs Q β st ds S r p => by
  unfold intF at p
  split at p
  · obtain ⟨v, rfl, h⟩ := r.one
    cases VR.int.mp h
    exact .inl ⟨_, rfl, fin p S (VR.int.mpr rfl)⟩
  · obtain ⟨v, rfl, h⟩ := r.one
    cases VR.bl.mp h
    exact .inr ⟨_, rfl, fin p S (VR.int.mpr rfl)⟩
  · exact p.elim
theorem call_repr_bl : CallR X (.builtin "repr") (fun xs H Q => ∃ b, xs = [.bl b] ∧ Q (.str (if b then "True" else "False")) H) := by
  intro pins s σ H xs us Q I r h
  obtain ⟨b, rfl, q⟩ := h
  obtain ⟨u, rfl, r1⟩ := vals1 r
  cases r1
  exact PySem.P.repr_of_bool ⟨.str _, H, I.tok _, ⟨_, rfl⟩, q⟩
theorem call_repr_i : CallR X (.builtin "repr") (fun xs H Q => ∃ i, xs = [.int i] ∧ i.natAbs.log2 < 1920 ∧ Q (.str (toString i)) H) := by
  intro pins s σ H xs us Q I r h
  obtain ⟨i, rfl, hz, q⟩ := h
  obtain ⟨u, rfl, t, rfl⟩ := vals1 r
  exact PySem.P.repr_of_int hz ⟨.str _, H, I.tok _, ⟨_, rfl⟩, q⟩
theorem f_repr : CallS X W (.builtin "repr") reprF := CallS.of (call_repr_bl.or call_repr_i) fun σ H xs Q β st ds S r p => by
  unfold reprF at p
  split at p
  · obtain ⟨v, rfl, h⟩ := r.one
    cases VR.bl.mp h
    exact .inl ⟨_, rfl, fin p S (VR.str.mpr rfl)⟩
  · obtain ⟨v, rfl, h⟩ := r.one
    cases VR.int.mp h
    split at p
    · rename_i hz; exact .inr ⟨_, rfl, hz, fin p S (VR.str.mpr rfl)⟩
    · exact p.elim
  · exact p.elim
theorem f_list : CallS X W (.type "list") listF := CallS.of call_list_of fun σ H xs Q β st ds S r p => by
  unfold listF at p
  split at p
  · obtain ⟨v, rfl, h⟩ := r.one
    obtain ⟨a, vs, rfl, h1, h2⟩ := VR.tupS h
    exact ⟨a, vs, rfl, .inr h1, fun q hq => by obtain ⟨x1, x2, x3⟩ := newLst S h2 hq; exact p _ _ x1 x2 _ x3⟩
  · obtain ⟨v, rfl, h⟩ := r.one
    obtain ⟨a, vs, rfl, h1, h2⟩ := VR.frz.mp h
    exact ⟨a, vs, rfl, .inl h1.sq, fun q hq => by obtain ⟨x1, x2, x3⟩ := newLst S h2 hq; exact p _ _ x1 x2 _ x3⟩
  · obtain ⟨v, rfl, h⟩ := r.one
    obtain ⟨a, h1, rfl⟩ := VR.loc.mp h
    obtain ⟨o, h2, h3⟩ := S.at h1
    simp only [h2] at p
    cases o with
    | lst xs =>
      obtain ⟨vs, h4, h5⟩ := h3
      exact ⟨a, vs, rfl, .inl (SqL.of h4), fun q hq => by obtain ⟨x1, x2, x3⟩ := newLst S h5 hq; exact p _ _ x1 x2 _ x3⟩
    | _ => exact p.elim
  · exact p.elim
theorem f_tuple : CallS X W (.type "tuple") tupleF := CallS.of call_tuple_of fun σ H xs Q β st ds S r p => by
  unfold tupleF at p
  split at p
  · obtain ⟨v, rfl, h⟩ := r.one
    obtain ⟨a, vs, rfl, h1, h2⟩ := VR.tupS h
    exact ⟨a, vs, rfl, .inr ⟨h1, fin p S h⟩⟩
  · obtain ⟨v, rfl, h⟩ := r.one
    obtain ⟨a, vs, rfl, h1, h2⟩ := VR.frz.mp h
    exact ⟨a, vs, rfl, .inl ⟨h1.sq, fun q hq => p β _ (ext_new0 hq) (S.new0 hq) _ (VR.tup.mpr ⟨q, vs, rfl, upd_same, VRs.mono (ext_new0 hq) _ _ h2⟩)⟩⟩
  · obtain ⟨v, rfl, h⟩ := r.one
    obtain ⟨a, h1, rfl⟩ := VR.loc.mp h
    obtain ⟨o, h2, h3⟩ := S.at h1
    simp only [h2] at p
    cases o with
    | lst xs =>
      obtain ⟨vs, h4, h5⟩ := h3
      exact ⟨a, vs, rfl, .inl ⟨SqL.of h4, fun q hq => p β _ (ext_new0 hq) (S.new0 hq) _ (VR.tup.mpr ⟨q, vs, rfl, upd_same, VRs.mono (ext_new0 hq) _ _ h5⟩)⟩⟩
    | _ => exact p.elim
  · exact p.elim
theorem items_rel {K : PySem.W.Frag} {mg : Str → Option Value} {β : List Addr} {st : Sto} {H : Hp} {d : D} {v : V} {xs : List D} (S : Sim K mg β st H) (r : VR K β H d v) (h : itemsD d st = some xs) : ∃ a vs, v = .ref a ∧ SqL K H a vs ∧ VRs K β H xs vs := by
  cases d with
  | frz ys =>
    cases h
    obtain ⟨a, vs, rfl, h1, h2⟩ := VR.frz.mp r
    exact ⟨a, vs, rfl, h1.sq, h2⟩
  | loc n =>
    obtain ⟨a, h1, rfl⟩ := VR.loc.mp r
    obtain ⟨o, h2, h3⟩ := S.at h1
    simp only [itemsD, h2] at h
    cases o with
    | lst ys => cases h; obtain ⟨vs, h4, h5⟩ := h3; exact ⟨a, vs, rfl, SqL.of h4, h5⟩
    | _ => cases h
  | _ => cases h
theorem bools_rel {K : PySem.W.Frag} {β : List Addr} {H : Hp} : ∀ {ds : List D} {vs : List V} {bs : List Bool}, boolsO ds = some bs → VRs K β H ds vs → vs = bs.map V.bl
  | [], vs, bs, e, r => by cases e; exact VRs.nil.mp r
  | .bl b :: ds, vs, bs, e, r => by
    obtain ⟨v, us, rfl, r1, r2⟩ := VRs.cons.mp r
    obtain ⟨l, h1, e⟩ := Option.bind_eq_some_iff.mp (show (boolsO ds).bind _ = some bs from e)
    cases e
    rw [VR.bl.mp r1, bools_rel h1 r2]; rfl
  | .non :: _, _, _, e, _ => by cases e
  | .int _ :: _, _, _, e, _ => by cases e
  | .str _ :: _, _, _, e, _ => by cases e
  | .tup _ :: _, _, _, e, _ => by cases e
  | .frz _ :: _, _, _, e, _ => by cases e
  | .loc _ :: _, _, _, e, _ => by cases e
theorem ints_rel {K : PySem.W.Frag} {β : List Addr} {H : Hp} : ∀ {ds : List D} {vs : List V} {bs : List Int}, intsO ds = some bs → VRs K β H ds vs → vs = bs.map V.int
  | [], vs, bs, e, r => by cases e; exact VRs.nil.mp r
  | .int b :: ds, vs, bs, e, r => by
    obtain ⟨v, us, rfl, r1, r2⟩ := VRs.cons.mp r
    obtain ⟨l, h1, e⟩ := Option.bind_eq_some_iff.mp (show (intsO ds).bind _ = some bs from e)
    cases e
    rw [VR.int.mp r1, ints_rel h1 r2]; rfl
  | .non :: _, _, _, e, _ => by cases e
  | .bl _ :: _, _, _, e, _ => by cases e
  | .str _ :: _, _, _, e, _ => by cases e
  | .tup _ :: _, _, _, e, _ => by cases e
  | .frz _ :: _, _, _, e, _ => by cases e
  | .loc _ :: _, _, _, e, _ => by cases e
theorem strs_rel {K : PySem.W.Frag} {β : List Addr} {H : Hp} : ∀ {ds : List D} {vs : List V} {bs : List Str}, strsO ds = some bs → VRs K β H ds vs → vs = bs.map V.str
  | [], vs, bs, e, r => by cases e; exact VRs.nil.mp r
  | .str b :: ds, vs, bs, e, r => by
    obtain ⟨v, us, rfl, r1, r2⟩ := VRs.cons.mp r
    obtain ⟨l, h1, e⟩ := Option.bind_eq_some_iff.mp (show (strsO ds).bind _ = some bs from e)
    cases e
    rw [VR.str.mp r1, strs_rel h1 r2]; rfl
  | .non :: _, _, _, e, _ => by cases e
  | .bl _ :: _, _, _, e, _ => by cases e
  | .int _ :: _, _, _, e, _ => by cases e
  | .tup _ :: _, _, _, e, _ => by cases e
  | .frz _ :: _, _, _, e, _ => by cases e
  | .loc _ :: _, _, _, e, _ => by cases e
theorem f_all (hc : X.calm = true) : CallS X W (.builtin "all") allF := CallS.of (cr_all hc) fun σ H xs Q β st ds S r p => by
  unfold allF at p
  split at p
  · obtain ⟨v, rfl, h⟩ := r.one
    split at p
    · rename_i bs hb
      obtain ⟨ys, h1, h2⟩ := Option.bind_eq_some_iff.mp hb
      obtain ⟨a, vs, rfl, h3, h4⟩ := items_rel S h h1
      rw [bools_rel h2 h4] at h3
      exact ⟨a, bs, rfl, h3, fin p S (VR.bl.mpr rfl)⟩
    · exact p.elim
  · exact p.elim
theorem f_any (hc : X.calm = true) : CallS X W (.builtin "any") anyF := CallS.of (cr_any hc) fun σ H xs Q β st ds S r p => by
  unfold anyF at p
  split at p
  · obtain ⟨v, rfl, h⟩ := r.one
    split at p
    · rename_i bs hb
      obtain ⟨ys, h1, h2⟩ := Option.bind_eq_some_iff.mp hb
      obtain ⟨a, vs, rfl, h3, h4⟩ := items_rel S h h1
      rw [bools_rel h2 h4] at h3
      exact ⟨a, bs, rfl, h3, fin p S (VR.bl.mpr rfl)⟩
    · exact p.elim
  · exact p.elim
theorem f_sum (hc : X.calm = true) : CallS X W (.builtin "sum") sumF := CallS.of (cr_sum hc) fun σ H xs Q β st ds S r p => by
  unfold sumF at p
  split at p
  · obtain ⟨v, rfl, h⟩ := r.one
    split at p
    · rename_i bs hb
      obtain ⟨ys, h1, h2⟩ := Option.bind_eq_some_iff.mp hb
      obtain ⟨a, vs, rfl, h3, h4⟩ := items_rel S h h1
      rw [ints_rel h2 h4] at h3
      exact ⟨a, bs, rfl, h3, fin p S (VR.int.mpr rfl)⟩
    · exact p.elim
  · exact p.elim

/-! ### methods -/
theorem m_append : MtS3 X W "list.append" appendM := MtS3.of mt_append fun σ H x xs Q β st d ds S rd rs p => by
  unfold appendM at p
  split at p
  · rename_i n y
    obtain ⟨a, h1, rfl⟩ := VR.loc.mp rd
    obtain ⟨v, rfl, h⟩ := rs.one
    obtain ⟨o, h2, h3⟩ := S.at h1
    simp only [h2] at p
    cases o with
    | lst xs =>
      simp only at p
      split at p
      · rename_i hz
        obtain ⟨vs, h4, h5⟩ := h3
        refine ⟨a, vs, v, rfl, rfl, h4, by rw [h5.length, sizeLine_eq]; exact hz, p β _ (S.ext h1) (S.set h1 ⟨_, upd_same, VRs.mono (S.ext h1) _ _ (h5.append (VRs.cons.mpr ⟨v, [], rfl, h, VRs.nil.mpr rfl⟩))⟩) _ (VR.non.mpr rfl)⟩
      · exact p.elim
    | _ => exact p.elim
  · exact p.elim
theorem m_extend : MtS3 X W "list.extend" extendM := MtS3.of mt_extend fun σ H x xs Q β st d ds S rd rs p => by
  unfold extendM at p
  split at p
  · rename_i n m
    obtain ⟨a, h1, rfl⟩ := VR.loc.mp rd
    obtain ⟨v, rfl, h⟩ := rs.one
    obtain ⟨b, g1, rfl⟩ := VR.loc.mp h
    obtain ⟨o, h2, h3⟩ := S.at h1
    obtain ⟨o', g2, g3⟩ := S.at g1
    simp only [h2, g2] at p
    cases o with
    | lst xs =>
      cases o' with
      | lst ys =>
        simp only at p
        split at p
        · rename_i hz
          obtain ⟨vs, h4, h5⟩ := h3
          obtain ⟨us, g4, g5⟩ := g3
          refine ⟨a, b, vs, us, rfl, rfl, h4, g4, by rw [h5.length, g5.length]; exact szl hz, p β _ (S.ext h1) (S.set h1 ⟨_, upd_same, VRs.mono (S.ext h1) _ _ (h5.append g5)⟩) _ (VR.non.mpr rfl)⟩
        · exact p.elim
      | _ => exact p.elim
    | _ => cases o' <;> exact p.elim
  · exact p.elim
theorem VRs.dropLast {K : PySem.W.Frag} {β : List Addr} {H : Hp} {ds : List D} {vs : List V} (h : VRs K β H ds vs) : VRs K β H ds.dropLast vs.dropLast := by
  rw [List.dropLast_eq_take, List.dropLast_eq_take, h.length]
  exact h.take _
theorem m_pop : MtS3 X W "list.pop" popM := MtS3.of mt_pop fun σ H x xs Q β st d ds S rd rs p => by
  unfold popM at p
  split at p
  · rename_i n
    obtain ⟨a, h1, rfl⟩ := VR.loc.mp rd
    cases VRs.nil.mp rs
    obtain ⟨o, h2, h3⟩ := S.at h1
    simp only [h2] at p
    cases o with
    | lst xs =>
      simp only at p
      split at p
      · rename_i y hy
        obtain ⟨vs, h4, h5⟩ := h3
        obtain ⟨w, h6, h7⟩ := h5.getD hy
        exact ⟨a, vs, w, rfl, rfl, h4, by rw [h5.length]; exact h6, p β _ (S.ext h1) (S.set h1 ⟨_, upd_same, VRs.mono (S.ext h1) _ _ h5.dropLast⟩) _ (VR.mono (S.ext h1) _ _ h7)⟩
      · exact p.elim
    | _ => exact p.elim
  · exact p.elim
theorem m_popAt : MtS3 X W "list.pop" popAtM := MtS3.of mt_popAt fun σ H x xs Q β st d ds S rd rs p => by
  unfold popAtM at p
  split at p
  · rename_i n i
    obtain ⟨a, h1, rfl⟩ := VR.loc.mp rd
    obtain ⟨v, rfl, h⟩ := rs.one
    cases VR.int.mp h
    obtain ⟨o, h2, h3⟩ := S.at h1
    simp only [h2] at p
    cases o with
    | lst xs =>
      simp only at p
      split at p
      · rename_i hi
        split at p
        · rename_i k hk
          split at p
          · rename_i y hy
            obtain ⟨vs, h4, h5⟩ := h3
            obtain ⟨w, h6, h7⟩ := h5.getD hy
            exact ⟨a, vs, i, k, w, rfl, rfl, h4, hi.1, hi.2, by rw [h5.length]; exact hk, h6, p β _ (S.ext h1) (S.set h1 ⟨_, upd_same, VRs.mono (S.ext h1) _ _ (h5.eraseIdx k)⟩) _ (VR.mono (S.ext h1) _ _ h7)⟩
          · exact p.elim
        · exact p.elim
      · exact p.elim
    | _ => exact p.elim
  · exact p.elim
theorem m_join : MtS3 X W "str.join" joinM := MtS3.of mt_join fun σ H x xs Q β st d ds S rd rs p => by
  unfold joinM at p
  split at p
  · rename_i a y
    cases VR.str.mp rd
    obtain ⟨v, rfl, h⟩ := rs.one
    split at p
    · rename_i ys hy
      split at p
      · rename_i hz
        obtain ⟨zs, h1, h2⟩ := Option.bind_eq_some_iff.mp hy
        have key : ∃ q vs, v = .ref q ∧ (SqL X.K H q vs ∨ SqT X.K H q vs) ∧ VRs X.K β H zs vs := by
          cases y with
          | tup xs => cases h1; obtain ⟨q, vs, rfl, g1, g2⟩ := VR.tupS h; exact ⟨q, vs, rfl, .inr g1, g2⟩
          | frz xs => obtain ⟨q, vs, rfl, g1, g2⟩ := items_rel S h h1; exact ⟨q, vs, rfl, .inl g1, g2⟩
          | loc xs => obtain ⟨q, vs, rfl, g1, g2⟩ := items_rel S h h1; exact ⟨q, vs, rfl, .inl g1, g2⟩
          | _ => cases h1
        obtain ⟨q, vs, rfl, g1, g2⟩ := key
        rw [strs_rel h2 g2] at g1
        exact ⟨a, q, ys, rfl, rfl, g1, hz, fin p S (VR.str.mpr rfl)⟩
      · exact p.elim
    · exact p.elim
  · exact p.elim
theorem m_upper : MtS3 X W "str.upper" upperM := MtS3.of mt_upper fun σ H x xs Q β st d ds S rd rs p => by
  unfold upperM at p
  split at p
  · cases VR.str.mp rd
    cases VRs.nil.mp rs
    split at p
    · rename_i hz; exact ⟨_, rfl, rfl, hz, fin p S (VR.str.mpr rfl)⟩
    · exact p.elim
  · exact p.elim

/-! ### isinstance(e, a built-in class) -/
def tyN (d : D) (st : Sto) : Option String := match d with
  | .non => some "NoneType"
  | .bl _ => some "bool"
  | .int _ => some "int"
  | .str _ => some "str"
  | .tup _ => some "tuple"
  | .frz _ => some "list"
  | .loc n => match st[n]? with
    | some (.lst _) => some "list"
    | some (.dK _) => some "dict"
    | some (.dT _) => some "dict"
    | _ => none
  | .fdk _ _ => some "dict"
  | _ => none
def isF (T : String) (d : D) (st : Sto) : R D := match (tyN d st).bind fun a => kitB a T with
  | some b => .ok (.bl b) st
  | none => .bad
theorem ty_of {K : PySem.W.Frag} {mg : Str → Option Value} {β : List Addr} {st : Sto} {H : Hp} {d : D} {v : V} {a : String} (S : Sim K mg β st H) (r : VR K β H d v) (h : tyN d st = some a) : TyX K H v (.type a) := by
  cases d with
  | non => cases VR.non.mp r; cases h; exact .base .non
  | bl b => cases VR.bl.mp r; cases h; exact .base (.bl b)
  | int b => cases VR.int.mp r; cases h; exact .base (.int b)
  | str b => cases VR.str.mp r; cases h; exact .base (.str b)
  | cls _ => cases h
  | lam _ _ _ => cases h
  | fn _ _ => cases h
  | fdk _ _ => cases h; obtain ⟨a, o, vs, rfl, h1, _⟩ := VR.fdk.mp r; exact .fDict h1
  | tup xs =>
    cases h
    obtain ⟨q, vs, rfl, h1, h2⟩ := VR.tupS r
    rcases h1 with (h1 | ⟨o, h1⟩) | ⟨o, its, n, h1, h3, _⟩
    · exact .base (.tup h1)
    · exact .fTuple h1
    · exact .kTuple h1 h3
  | frz xs =>
    cases h
    obtain ⟨q, vs, rfl, h1, h2⟩ := VR.frz.mp r
    rcases h1 with ⟨o, h1⟩ | ⟨o, its, n, h1, h3, _⟩
    · exact .base (.frz h1)
    · exact .kList h1 h3
  | loc n =>
    obtain ⟨q, h1, rfl⟩ := VR.loc.mp r
    obtain ⟨o, h2, h3⟩ := S.at h1
    simp only [tyN, h2] at h
    cases o with
    | lst _ => cases h; obtain ⟨vs, h4, _⟩ := h3; exact .base (.lst h4)
    | dK _ => cases h; obtain ⟨vs, h4, _⟩ := h3; exact .base (.dK h4)
    | dT _ => cases h; obtain ⟨vs, h4, _⟩ := h3; exact .base (.dT h4)
    | ins _ _ => cases h
    | tb _ _ => cases h
theorem boot_isi : bootBuiltins "isinstance" = some (.builtin "isinstance") := by decide +kernel
theorem q_isi {a : Expr} {ka : KE} {x : Str} {T : String} {p p2 pos : Pos} (hg : Gl X "isinstance") (hm : X.mg "isinstance" = none) (hg2 : Gl X x) (hm2 : X.mg x = none) (hv2 : bootBuiltins x = some (.type T)) (ha : PE X a (lift X.K X.mg W ka)) (hn2 : x ≠ "__name__" := by decide) (hdb2 : (x == ("__debug__" : Str)) = false := by decide)
    (hs : starEach [a, .Name x p2] X.env = (false, eval a X.env) :: starEach [.Name x p2] X.env := by rfl) (hs2 : starEach [.Name x p2] X.env = (false, eval (.Name x p2) X.env) :: starEach [] X.env := by rfl) (hpl : (backTo pos (starEach [.Name x p2] X.env)).any (·.1) = false := by rfl) :
    PE X (.Call (.Name "isinstance" p) [a, .Name x p2] [] pos) (lift X.K X.mg W (k1 (isF T) ka)) :=
  PE.imp (pe_callB call_isi hg hm boot_isi (pa_cons ha (pa_cons (pe_bltn (v := .ty T) hg2 hm2 hv2 rfl hn2 hdb2) pa_nil hs2) hs) (by decide) (by decide) hs hpl) fun σ H Q ⟨β, ρ, st, S, E, q⟩ => lift.bind S E q fun d v β1 H1 st1 e1 S1 E1 r1 p1 => by
    unfold isF at p1
    split at p1
    · rename_i b hb
      obtain ⟨t, h1, h2⟩ := Option.bind_eq_some_iff.mp hb
      exact ⟨v, .ty T, _, _, b, rfl, .ty T, ty_of S1 r1 h1, kit_ty h2, fin p1 S1 (VR.bl.mpr rfl)⟩
    · exact p1.elim
end
end L3

namespace L3
open PySem PySem.Spec PyProof.Rows L2
section
open HT
variable {prog : Program} {w : World} {A : Around} {E : Value → Shared → Prop} {s : Shared}
theorem adjust_rev (n : Nat) : Builtin.Slice.sliceAdjust none none (-1) (n : Int) = ((n : Int) - 1, -1) := by
  unfold Builtin.Slice.sliceAdjust
  rfl
theorem places_rev (n : Nat) : Builtin.Slice.slicePlaces ((n : Int) - 1) (-1) (-1) = n := by
  unfold Builtin.Slice.slicePlaces
  have h1 : ¬ ((-1 : Int) > 0) := by omega
  simp only [h1, if_false]
  have h2 : -(-1 : Int) = 1 := rfl
  rw [h2, Int.ediv_one]
  split <;> omega
theorem pick_rev (xs : Array Value) : ((List.range xs.size).filterMap fun (m : Nat) => xs[((xs.size : Int) - 1 + (m : Int) * (-1)).toNat]?).toArray = xs.toList.reverse.toArray := by
  congr 1
  apply List.ext_getElem?
  intro i
  have hm : ((List.range xs.size).filterMap fun (m : Nat) => xs[((xs.size : Int) - 1 + (m : Int) * (-1)).toNat]?) = (List.range xs.size).map fun m => xs.getD (xs.size - 1 - m) .none := by
    have : ∀ l : List Nat, (∀ m ∈ l, m < xs.size) → (l.filterMap fun (m : Nat) => xs[((xs.size : Int) - 1 + (m : Int) * (-1)).toNat]?) = l.map fun m => xs.getD (xs.size - 1 - m) .none := by
      intro l
      induction l with
      | nil => intro _; rfl
      | cons a l ih =>
        intro h
        have ha := h a List.mem_cons_self
        have e : ((xs.size : Int) - 1 + (a : Int) * (-1)).toNat = xs.size - 1 - a := by omega
        have hl : xs.size - 1 - a < xs.size := by omega
        rw [List.filterMap_cons, e, Array.getElem?_eq_getElem hl, ih fun m hm => h m (List.mem_cons_of_mem _ hm), List.map_cons]
        congr 1
        simp [Array.getD, hl]
    exact this _ fun m hm => List.mem_range.mp hm
  rw [hm, List.getElem?_map]
  by_cases hi : i < xs.size
  · rw [List.getElem?_range hi, List.getElem?_reverse (by simpa using hi)]
    have hl : xs.size - 1 - i < xs.size := by omega
    simp [Array.getD, hl]
  · rw [List.getElem?_eq_none (by simpa using hi), List.getElem?_eq_none (by simpa using hi)]
    rfl
theorem sliceApplied_rev {sl : Addr} {vk : Value} {n : Nat} {Q : Int × Int × Nat → Shared → Prop} (hs : s.heap.IsSliceOf sl .none .none vk) (pk : IsPart vk (some (-1)))
    (h : Q ((n : Int) - 1, -1, n) s) : wpAny (model prog w) A (Builtin.Slice.sliceApplied (.ref sl) (pure (n : Int))) Q E s := by
  obtain ⟨os, hos, hcs, hds⟩ := id hs
  unfold Builtin.Slice.sliceApplied Builtin.Slice.sliceFields
  refine wpAny_bind (wpAny_bind (wpAny_field hos hds (x := .none) rfl (wpAny_bind (wpAny_field hos hds (x := .none) rfl (wpAny_bind (wpAny_field hos hds (x := vk) rfl (wpAny_pure ?_)))))))
  refine wpAny_bind (slicePart_ pk ?_)
  show wpAny _ _ (if ((-1 : Int) == 0) = true then _ else _) _ _ s
  rw [if_neg (by decide)]
  refine wpAny_bind (slicePart_none (wpAny_bind (slicePart_none (wpAny_bind (wpAny_pure ?_)))))
  show wpAny _ _ (match Builtin.Slice.sliceAdjust none none (-1) (n : Int) with | (lo, hi) => pure (lo, (-1 : Int), Builtin.Slice.slicePlaces lo hi (-1))) _ _ s
  rw [adjust_rev n]
  show wpAny _ _ (pure ((n : Int) - 1, (-1 : Int), Builtin.Slice.slicePlaces ((n : Int) - 1) (-1) (-1))) _ _ s
  rw [places_rev]
  exact wpAny_pure h
theorem getItem_tuple_rev {t sl : Addr} {items : Array Value} {vk : Value} {Q : Value → Shared → Prop} (ht : IsTup s.heap t items) (hs : s.heap.IsSliceOf sl .none .none vk) (pk : IsPart vk (some (-1)))
    (h : Q (.ref s.heap.objs.size) { s with heap := s.heap.push { cls := .type "tuple", data := .seq items.toList.reverse.toArray } })
    (hsz : items.size ≤ sizeLine) : wpAny (model prog w) A (getItem (.ref t) (.ref sl)) Q E s := by
  have htake : sizeOk (.seq items.toList.reverse.toArray) := by
    show items.toList.reverse.toArray.size ≤ sizeLine
    rw [List.size_toArray, List.length_reverse, Array.length_toList]
    exact hsz
  obtain ⟨os, hos, hcs, hds⟩ := id hs
  have hTs : s.TypeIs (.ref sl) "slice" := ⟨os, hos, hcs⟩
  unfold getItem
  try with_reducible refine wpAny_holding ?_
  first | refine wpAny_bind (wpAny_pure ?_) | skip
  refine wpAny_bind (wpAny_sequenceKey ht.typeIs (by decide) ?_)
  refine wpAny_bind (wpAny_callSpecial?_slot (name := Str.ofString "__getitem__") ht.typeIs PyProof.Rows.slot_tuple_getitem
    (wpAny_call_entry PyProof.Rows.slot_tuple_getitem ht.typeIs entry_tuple_getitem ?_ (args_tuple_getitem _ _)))
  show wpAny _ _ (Builtin.Tuple.tupleItemsOf (.ref t) >>= _) _ _ s
  refine wpAny_bind (tupleItemsOf_ ht ?_)
  refine wpAny_bind (wpAny_typeOf hTs ?_)
  rw [if_pos (by decide)]
  refine wpAny_bind (sliceApplied_rev (n := items.size) hs pk ?_)
  have hno : ¬ ((((items.size : Int) - 1) == 0 && (-1 : Int) == 1 && items.size == items.size) = true) := by
    intro q
    rw [Bool.and_eq_true, Bool.and_eq_true] at q
    exact absurd q.1.2 (by decide)
  show wpAny _ _ (if (((items.size : Int) - 1) == 0 && (-1 : Int) == 1 && items.size == items.size) = true then _ else _) _ _ s
  rw [if_neg hno, pick_rev]
  first
    | exact wpAny_bind (m := Builtin.Tuple.tupleExact _) (wpAny_newObj_type (wpAny_pure ⟨_, rfl, wpAny_pure h⟩) htake)
    | exact wpAny_bind (m := Builtin.Tuple.tupleExact _) (wpAny_newObj_type (wpAny_bind (wpAny_pure (wpAny_pure ⟨_, rfl, wpAny_pure h⟩))) htake)
    | exact wpAny_bind (wpAny_bind (m := Builtin.Tuple.tupleExact _) (wpAny_newObj_type (wpAny_pure (wpAny_pure ⟨_, rfl, wpAny_pure h⟩)) htake))
    | exact wpAny_bind (wpAny_bind (m := Builtin.Tuple.tupleExact _) (wpAny_newObj_type (wpAny_pure ⟨_, rfl, wpAny_pure h⟩) htake))
end
/-! ### e[::-1] -/
def revD (d : D) (st : Sto) : R D := match d with
  | .tup xs => .ok (.tup xs.reverse) st
  | .frz xs => .ok (.loc st.length) (st ++ [.lst xs.reverse])
  | .loc n => match st[n]? with
    | some (.lst xs) => .ok (.loc st.length) (st ++ [.lst xs.reverse])
    | _ => .bad
  | _ => .bad
section
variable {X : Cx} {W : WX} {e : Expr} {ka : KE}
theorem q_rev {k : Nat} {c1 c2 c3 pos : Pos} (he : PE X e (lift X.K X.mg W ka)) : PE X (.Subscript e (.Slice none none (some (.UnaryOp .USub (.Constant (.int 1) k c1) c2)) c3) pos) (lift X.K X.mg W (k1 revD ka)) := by
  refine ⟨fun pins s σ H Q I ⟨β, ρ, st, S, E, p⟩ => ?_⟩
  refine Subscript_ (thn (he.run pins s σ H (fun x H1 => ∃ β1 st1 d, Sim X.K X.mg β1 st1 H1 ∧ VR X.K β1 H1 d x ∧ PostA X.K X.mg W σ (okE X.K Q) β1 H1 (revD d st1)) I (lift.bind S E p fun d v β1 H1 st1 e1 S1 E1 r1 p1 => ⟨β1, st1, d, S1, r1, p1⟩)) fun v s1 ⟨x, H1, I1, r1, β1, st1, d, S1, vr, p1⟩ => ?_)
  have hst : PO X (some (.UnaryOp .USub (.Constant (.int 1) k c1) c2)) (tPart (tUn (rU fun i => .int (-i)) (tC (.int 1)))) := po_some (pe_un un_neg pe_int)
  have go : (∀ vl vu vs s4, vl = Value.none → vu = Value.none → IsPart vs (some (-1)) → Inv X pins σ H1 s4 → wpAny (model X.prog X.w) X.A (subscriptTail e (.Slice none none (some (.UnaryOp .USub (.Constant (.int 1) k c1) c2)) c3) v (.ref s4.heap.objs.size)) (EP X pins σ Q) X.xe { s4 with heap := s4.heap.push { cls := .type "slice", data := .fields #[vl, vu, vs] } }) →
      wpAny (model X.prog X.w) X.A (eval (.Slice none none (some (.UnaryOp .USub (.Constant (.int 1) k c1) c2)) c3) X.env) (fun u s' => wpAny (model X.prog X.w) X.A (subscriptTail e (.Slice none none (some (.UnaryOp .USub (.Constant (.int 1) k c1) c2)) c3) v u) (EP X pins σ Q) X.xe s') X.xe s1 := fun hgo => by
    refine wpAny_Slice (thn (po_none.run pins s1 σ H1 (fun o H2 => o = none ∧ H2 = H1) I1 ⟨rfl, rfl⟩) fun vl s2 ⟨l, H2, I2, pl, el, e2⟩ => ?_)
    subst el e2
    refine thn (po_none.run pins s2 σ H2 (fun o H3 => o = none ∧ H3 = H2) I2 ⟨rfl, rfl⟩) fun vu s3 ⟨u, H3, I3, pu, eu, e3⟩ => ?_
    subst eu e3
    refine thn (hst.run pins s3 σ H3 (fun o H4 => o = some (-1) ∧ H4 = H3) I3 ⟨1, rfl, -1, rfl, rfl, rfl⟩) fun vs s4 ⟨o, H4, I4, ps, eo, e4⟩ => ?_
    subst eo e4
    refine hgo vl vu vs s4 ?_ ?_ ps I4
    · cases pl; rfl
    · cases pu; rfl
  refine go fun vl vu vs s4 el eu ps I4 => ?_
  subst el eu
  have I5 : Inv X pins σ H1 { s4 with heap := s4.heap.push { cls := .type "slice", data := .fields #[.none, .none, vs] } } := I4.kept (t' := s4.toks) fun b ob q => Heap.get?_push_of_some _ q
  have lst : ∀ a us ds, v = .ref a → SqL X.K H1 a us → VRs X.K β1 H1 ds us → PostA X.K X.mg W σ (okE X.K Q) β1 H1 (.ok (.loc st1.length) (st1 ++ [.lst ds.reverse])) →
      wpAny (model X.prog X.w) X.A (subscriptTail e (.Slice none none (some (.UnaryOp .USub (.Constant (.int 1) k c1) c2)) c3) v (.ref s4.heap.objs.size)) (EP X pins σ Q) X.xe { s4 with heap := s4.heap.push { cls := .type "slice", data := .fields #[.none, .none, vs] } } := fun a us ds ev hx rs pp => by
    subst ev
    obtain ⟨its, r, ht, hz⟩ := I5.list hx
    have hlen := r.length
    refine tail_any (ops := [.ref a, .ref s4.heap.objs.size]) ht.isList.typeIs (PySem.slot_list_getitem.lookup) ?_ (by with_unfolding_all rfl)
    refine wpAny_getItem_list_slice ht.isList (Heap.IsSliceOf.new _ .none .none vs) .none .none ps (by decide) ?_ (by rw [List.size_toArray]; omega)
    rw [PySem.W.krv_pick]
    have hf := I5.hok.fresh (Nat.le_refl _)
    obtain ⟨x1, x2, x3⟩ := newLst S1 rs.reverse hf
    refine ⟨.ref _, _, I5.laid (t' := s4.toks) (o := .lst us.reverse) (fun b ob q => Heap.get?_push_of_some _ q) (Nat.le_refl _) ?_, rfl, pp _ _ x1 x2 _ x3⟩
    exact ⟨by rw [List.length_reverse]; exact hz, _, 0, r.reverse, Heap.get?_push_size _ rfl⟩
  cases d with
  | tup ds =>
    obtain ⟨a, us, rfl, hx, rs⟩ := VR.tupS vr
    cases r1
    obtain ⟨its, r, ht, hz⟩ := I5.tuple hx
    have hlen := r.length
    refine tail_any (ops := [.ref a, .ref s4.heap.objs.size]) ht.typeIs (PyProof.Rows.slot_tuple_getitem.lookup) ?_ (by with_unfolding_all rfl)
    refine getItem_tuple_rev ht (Heap.IsSliceOf.new _ .none .none vs) ps ?_ (by rw [List.size_toArray]; omega)
    have hf := I5.hok.fresh (Nat.le_refl _)
    refine ⟨.ref _, _, I5.laid (t' := s4.toks) (o := .tup us.reverse) (fun b ob q => Heap.get?_push_of_some _ q) (Nat.le_refl _) ?_, rfl, p1 β1 _ (ext_new0 hf) (S1.new0 hf) _ (VR.tup.mpr ⟨_, _, rfl, upd_same, VRs.mono (ext_new0 hf) _ _ rs.reverse⟩)⟩
    exact ⟨by rw [List.length_reverse]; exact hz, _, r.reverse, ⟨_, Heap.get?_push_size _ rfl, rfl, _, rfl⟩⟩
  | frz ds =>
    obtain ⟨a, us, rfl, hx, rs⟩ := VR.frz.mp vr
    cases r1
    exact lst a us ds rfl hx.sq rs p1
  | loc n =>
    obtain ⟨a, h1, rfl⟩ := VR.loc.mp vr
    cases r1
    obtain ⟨o, h2, h3⟩ := S1.at h1
    unfold revD at p1
    simp only [h2] at p1
    cases o with
    | lst xs => obtain ⟨us, h4, h5⟩ := h3; exact lst a us xs rfl (SqL.of h4) h5 p1
    | _ => exact p1.elim
  | _ => exact p1.elim
end

/-! ### a def by its body -/
def finR (r : RS) : R D := match r with
  | .nx _ st => .ok .non st
  | .rt d st => .ok d st
  | .exn x _ st => .exn x st
  | _ => .bad
/-- the values at the entry: the parameters, then nothing -/
def start3 (n : Nat) (ds : List D) : Env3 := ds.map some ++ List.replicate (n - ds.length) none
def runDef (n np : Nat) (body : KS) : Run := fun ds st => if ds.length = np then finR (body (start3 n ds) st) else .bad
def runBad : Run := fun _ _ => .bad
section
variable {P : Program} {w : World} {K : PySem.W.Frag} {mg : Str → Option Value} {base : Heap}
theorem start_rel {β : List Addr} {H : Hp} {N : List Str} {ds : List D} {vs : List V} (r : VRs K β H ds vs) (n : Nat) (hn : N.length = n) : ER K β H (start3 n ds) (L2.start N vs) := by
  subst hn
  unfold start3 L2.start
  have hl := r.length
  refine ⟨by simp [hl], fun i d h => ?_⟩
  by_cases hi : i < ds.length
  · rw [List.getElem?_append_left (by simpa using hi), List.getElem?_map] at h
    cases hd : ds[i]? with
    | none => rw [hd] at h; cases h
    | some e =>
      rw [hd] at h
      have : e = d := Option.some.inj (Option.some.inj h)
      subst this
      obtain ⟨v, h1, h2⟩ := r.getD hd
      refine ⟨v, ?_, h2⟩
      rw [List.getElem?_append_left (by rw [List.length_map, hl]; exact hi), List.getElem?_map, h1]
      rfl
  · rw [List.getElem?_append_right (by simpa using hi)] at h
    rw [List.getElem?_replicate] at h
    split at h <;> cases h
/-- THE RULE for a def -/
theorem Fun.ok3 {x qual : Str} {st : Stmt} {f : Addr} {fd : FuncData} {N ps : List Str} {k n np : Nat} {body : KS} (F : Fun K x qual st f fd) (S : FnScope N ps (defScope st)) (hn : N.length = n) (hp : ps.length = np)
    (hb : ∀ (cdv : Value) (A : Around) (outer : List Env) (s : Shared) (H : Hp) (E : XK), Room k (A.deeper (envOfC qual (defScope st) s.heap.objs.size f cdv)) →
      PSs (cxOf (L2.CX P w) P w K mg base N qual (defScope st) f cdv A outer s H E) (defBody st) (liftS K mg (fun c d _ H => E c d H) body)) :
    FnOk P w K mg base (L2.CX P w) (k + 1) f fd ps (spOf K mg np (runDef n np body)) := by
  refine F.okX S (fun vs H Q E h => by rw [hp]; exact h.1) fun cdv A outer s H vs Q E hr h => ?_
  refine ⟨_, hb cdv A outer s H E hr, ?_⟩
  obtain ⟨hl, β, sto, ds, Si, r, p⟩ := h
  have hdl : ds.length = np := by rw [← r.length]; exact hl
  unfold runDef at p
  rw [if_pos hdl] at p
  refine ⟨β, start3 n ds, sto, Si, start_rel r n hn, ?_⟩
  cases hbd : body (start3 n ds) sto with
  | nx ρ st' => rw [hbd] at p; exact fun β' H' σ' e S' E' => p β' H' e S' _ (VR.non.mpr rfl)
  | rt d st' => rw [hbd] at p; exact fun β' H' v e S' r' => p β' H' e S' v r'
  | bk ρ st' => rw [hbd] at p; exact p.elim
  | ct ρ st' => rw [hbd] at p; exact p.elim
  | exn x ρ st' => rw [hbd] at p; exact fun β' H' σ' c dd e S' E' xr => p β' H' c dd e S' xr
  | bad => rw [hbd] at p; exact p.elim
/-- with no depth left nothing is promised -/
theorem ok_bad {f : Addr} {fd : FuncData} {ps : List Str} {k np : Nat} (hp : ps.length = np) : FnOk P w K mg base (L2.CX P w) k f fd ps (spOf K mg np runBad) :=
  ⟨fun vs H Q E h => by rw [hp]; exact h.1, fun A outer s H args us vs Q E hr he hb hv h => by obtain ⟨_, _, _, _, _, _, p⟩ := h; exact p.elim⟩
end
/-! ### the law's end -/
def spLaw3 (K : PySem.W.Frag) : Sp := fun vs H Q E => ∃ (a : Addr) (ns : List Int), vs = [.ref a] ∧ SqL K H a (ns.map V.int) ∧ ns.length ≤ 63 ∧ Only H ∧ ∀ H', Q (.bl true) H'
theorem fz_only {K : PySem.W.Frag} {H : Hp} {a : Addr} {xs : List V} (h : SqL K H a xs) (o : Only H) : FzL K H a xs := by
  rcases h with (h | h) | h
  · rcases o a with z | ⟨ob, ys, z⟩
    · rw [h] at z; cases z
    · rw [h] at z; cases z
  · exact .inl h
  · exact .inr h
theorem ints_vrs {K : PySem.W.Frag} {β : List Addr} {H : Hp} : ∀ ns : List Int, VRs K β H (ns.map D.int) (ns.map V.int)
  | [] => VRs.nil.mpr rfl
  | n :: ns => VRs.cons.mpr ⟨_, _, rfl, VR.int.mpr rfl, ints_vrs ns⟩
theorem law_of {P : Program} {w : World} {K : PySem.W.Frag} {mg : Str → Option Value} {base : Heap} {k : Nat} {f : Addr} {fd : FuncData} {ps : List Str} {run : Run} (F : FnOk P w K mg base (L2.CX P w) k f fd ps (spOf K mg 1 run)) (hp : ps.length = 1)
    (hrun : ∀ ns : List Int, ns.length ≤ 63 → ∃ st', run [.frz (ns.map D.int)] [] = .ok (.bl true) st') : FnOk P w K mg base (L2.CX P w) k f fd ps (spLaw3 K) :=
  ⟨fun vs H Q E h => by obtain ⟨a, ns, rfl, _⟩ := h; rw [hp]; rfl, fun A outer s H args us vs Q E hr he hb hv h => F.run A outer s H args us vs Q E hr he hb hv (by
    obtain ⟨a, ns, rfl, hs, hl, ho, q⟩ := h
    obtain ⟨st', hst⟩ := hrun ns hl
    refine ⟨rfl, [], [], [.frz (ns.map D.int)], ⟨rfl, fun m n a h => by simp at h, fun n o a h => by simp at h⟩, VRs.cons.mpr ⟨_, _, rfl, VR.frz.mpr ⟨a, _, rfl, fz_only hs ho, ints_vrs ns⟩, VRs.nil.mpr rfl⟩, ?_⟩
    rw [hst]
    intro β' H' _ _ v r
    rw [VR.bl.mp r]
    exact q H')⟩
theorem cx_end {P : Program} {w : World} (H : Hp) (s : Shared) (e : Value) (s' : Shared) (h : L2.CX P w [] H s (fun _ _ _ => False) e s') : False := by
  obtain ⟨_, _, _, _, _, _, _, _, _, _, _, _, z⟩ := h
  exact z
end L3
namespace L3
open PySem PySem.Spec PyProof.Rows L2
def kD0 : KE := fun _ st => .ok (.loc st.length) (st ++ [.dK []])
theorem q_dict0 {X : Cx} {W : WX} {pos : Pos} : PE X (.Dict [] [] pos) (lift X.K X.mg W kD0) :=
  PE.imp pe_dnewK fun σ H Q ⟨β, ρ, st, S, E, p⟩ => fun q hq => p _ _ (ext_new hq) (S.push hq ⟨[], upd_same, .nil⟩) _ (VR.loc.mpr ⟨q, by rw [← S.len]; simp, rfl⟩)
theorem bt_len : bootBuiltins "len" = some (.builtin "len") := by decide +kernel
theorem bt_abs : bootBuiltins "abs" = some (.builtin "abs") := by decide +kernel
theorem bt_max : bootBuiltins "max" = some (.builtin "max") := by decide +kernel
theorem bt_min : bootBuiltins "min" = some (.builtin "min") := by decide +kernel
theorem bt_repr : bootBuiltins "repr" = some (.builtin "repr") := by decide +kernel
theorem bt_all : bootBuiltins "all" = some (.builtin "all") := by decide +kernel
theorem bt_any : bootBuiltins "any" = some (.builtin "any") := by decide +kernel
theorem bt_sum : bootBuiltins "sum" = some (.builtin "sum") := by decide +kernel
theorem bt_int : bootBuiltins "int" = some (.type "int") := by decide +kernel
theorem bt_bool : bootBuiltins "bool" = some (.type "bool") := by decide +kernel
theorem bt_str : bootBuiltins "str" = some (.type "str") := by decide +kernel
theorem bt_tuple : bootBuiltins "tuple" = some (.type "tuple") := by decide +kernel
theorem bt_list : bootBuiltins "list" = some (.type "list") := by decide +kernel
theorem bt_dict : bootBuiltins "dict" = some (.type "dict") := by decide +kernel
end L3

/-! Classes of the text: fields, making, methods. -/
namespace L3
open PySem PySem.Spec PyProof.Rows L2
/-! ### promises by positional values -/
def spAny (K : PySem.W.Frag) (mg : Str → Option Value) (run : Run) : Sp := fun vs H Q E => ∃ β st ds, Sim K mg β st H ∧ VRs K β H ds vs ∧ PostA K mg (fun c dd _ H' => E c dd H') [] (okE K Q) β H (run ds st)
abbrev Pr3 (P : Program) (w : World) (K : PySem.W.Frag) (mg : Str → Option Value) (base : Heap) (k : Nat) (f : Addr) (run : Run) : Prop := FnR P w K mg base (L2.CX P w) k f (spAny K mg run)
theorem pr_of {P : Program} {w : World} {K : PySem.W.Frag} {mg : Str → Option Value} {base : Heap} {k n : Nat} {f : Addr} {fd : FuncData} {ps : List Str} {run : Run} (F : FnOk P w K mg base (L2.CX P w) k f fd ps (spOf K mg n run)) (hb : Binds K fd ps []) (hn : ∀ ds st, ds.length ≠ n → run ds st = .bad) : Pr3 P w K mg base k f run :=
  (F.raw hb .nil).imp fun vs H Q E ⟨β, st, ds, S, r, p⟩ => by
    rw [List.append_nil]
    by_cases h : ds.length = n
    · exact ⟨by rw [r.length]; exact h, β, st, ds, S, r, p⟩
    · rw [hn ds st h] at p; exact p.elim
theorem runDef_short {n np : Nat} {b : KS} (ds : List D) (st : Sto) (h : ds.length ≠ np) : runDef n np b ds st = .bad := by unfold runDef; rw [if_neg h]
section
variable {X : Cx} {W : WX} {e a b o : Expr} {es rest : List Expr} {pos p apos : Pos} {ka kb ko : KE} {kas : KA} {run : Run} {k : Nat} {f g C : Addr} {c m x : Str}
theorem run3 {pins : List (Addr × Obj)} {σ : L2.St} {H : Hp} {s : Shared} {Q : VK} {us : List Value} {vs : List V} {β : List Addr} {st : Sto} {ds : List D} (F : Pr3 X.prog X.w X.K X.mg X.base k f run) (hr : Room k X.A) (tk : Takes X W) (I : Inv X pins σ H s) (rv : Vals vs us)
    (S : Sim X.K X.mg β st H) (rd : VRs X.K β H ds vs) (hp : PostA X.K X.mg W σ (okE X.K Q) β H (run ds st)) :
    codeAny (model X.prog X.w) X.A (.call (.ref f) ⟨us, []⟩) (fun r s' => match r with | .ok (.ret v) => EP X pins σ Q v s' | .ok _ => False | .error e => X.xe e s') s :=
  codeAny_mono (F X.A X.stack s H us vs Q (fun c d H' => W c d σ H') hr I.env0 rv ⟨β, st, ds, S, rd, PostA.toσ hp⟩) fun
    | .error z, s2, hz => pass3 tk σ pins H s z s2 I hz
    | .ok (.ret u), s2, hz => I.after hz
    | .ok .next, _, hz => False.elim hz
    | .ok .brk, _, hz => False.elim hz
    | .ok .cont, _, hz => False.elim hz

/-! ### fields -/
theorem FR.get {K : PySem.W.Frag} {β : List Addr} {H : Hp} {n : Str} {fs : List (Str × D)} {gs : List (Str × V)} (h : FR K β H fs gs) : match fs.lookup n with
    | some d => ∃ v, gs.lookup n = some v ∧ VR K β H d v
    | none => gs.lookup n = none := by
  induction h with
  | nil => rfl
  | @cons p q l r h1 h2 ih =>
    obtain ⟨n1, d1⟩ := p
    obtain ⟨n2, v2⟩ := q
    obtain ⟨rfl, hv⟩ := h1
    simp only [List.lookup_cons]
    cases hn : n == n1 with
    | true => exact ⟨v2, rfl, hv⟩
    | false => exact ih
def putD (n : Str) (d : D) : List (Str × D) → List (Str × D)
  | [] => [(n, d)]
  | q :: r => if q.1 = n then (q.1, d) :: r else q :: putD n d r
theorem FR.put {K : PySem.W.Frag} {β : List Addr} {H : Hp} {n : Str} {d : D} {v : V} (hv : VR K β H d v) {fs : List (Str × D)} {gs : List (Str × V)} (h : FR K β H fs gs) : FR K β H (putD n d fs) (putF n v gs) := by
  induction h with
  | nil => exact .cons ⟨rfl, hv⟩ .nil
  | @cons p q l r h1 h2 ih =>
    obtain ⟨n1, d1⟩ := p
    obtain ⟨n2, v2⟩ := q
    obtain ⟨rfl, h1⟩ := h1
    unfold putD putF
    by_cases hn : n1 = n
    · rw [if_pos hn, if_pos hn]; exact .cons ⟨rfl, hv⟩ h2
    · rw [if_neg hn, if_neg hn]; exact .cons ⟨rfl, h1⟩ ih
theorem FR.len {K : PySem.W.Frag} {β : List Addr} {H : Hp} {fs : List (Str × D)} {gs : List (Str × V)} (h : FR K β H fs gs) : gs.length = fs.length := by
  induction h with
  | nil => rfl
  | cons _ _ ih => simp [ih]
def fldD (c n : Str) (d : D) (st : Sto) : R D := match d with
  | .loc i => match st[i]? with
    | some (.ins c' fs) => if c' = c then (match fs.lookup n with
      | some v => .ok v st
      | none => .bad) else .bad
    | _ => .bad
  | _ => .bad
def setFD (c n : Str) (d v : D) (st : Sto) : Option Sto := match d with
  | .loc i => match st[i]? with
    | some (.ins c' fs) => if c' = c ∧ fs.length < 1000 then some (st.set i (.ins c (putD n v fs))) else none
    | _ => none
  | _ => none
theorem q_fld {n : Str} (hc : X.mg c = some (.ref C)) (cl : Cls X.K C) (na : NoAttr X.K C n) (ha : PE X a (lift X.K X.mg W ka)) (hb : attributeBase a n X.env (eval a X.env) = eval a X.env := by rfl) : PE X (.Attribute a n pos) (lift X.K X.mg W (k1 (fldD c n) ka)) :=
  PE.imp (pe_fld ha hb) fun σ H Q ⟨β, ρ, st, S, E, p⟩ => lift.bind S E p fun d v β1 H1 st1 e1 S1 E1 r1 p1 => by
    cases d with
    | loc i =>
      obtain ⟨q, h1, rfl⟩ := VR.loc.mp r1
      obtain ⟨u, h2, h3⟩ := S1.at h1
      simp only [fldD, h2] at p1
      cases u with
      | ins c' fs =>
        obtain ⟨C', dx, gs, h4, h5, h6⟩ := h3
        simp only at p1
        split at p1
        · rename_i hcc
          subst hcc
          rw [hc] at h4
          cases h4
          have g := h6.get (n := n)
          split at p1
          · rename_i w hw
            simp only [hw] at g
            obtain ⟨z, g1, g2⟩ := g
            exact ⟨q, C, dx, gs, z, rfl, h5, cl, na, g1, p1 β1 H1 (Ext.refl _ _) S1 z g2⟩
          · exact p1.elim
        · exact p1.elim
      | _ => exact p1.elim
    | _ => exact p1.elim
def sFldSet (c n : Str) (o a : KE) : KS := fun ρ st => (a ρ st).toS ρ fun v st1 => (o ρ st1).toS ρ fun x st2 => match setFD c n x v st2 with
  | some st3 => .nx ρ st3
  | none => .bad
theorem s_fldset {n : Str} {tpos : Pos} (hc : X.mg c = some (.ref C)) (cl : Cls X.K C) (na : NoAttr X.K C n) (ho : PE X o (lift X.K X.mg W ko)) (ha : PE X a (lift X.K X.mg W ka)) (hs : swapsWith a (some (.Attribute o n tpos)) pos.line X.env = pure false := by rfl) :
    PS X (.Assign [.Attribute o n tpos] a pos) (liftS X.K X.mg W (sFldSet c n ko ka)) :=
  PS.imp (ps_fld ho ha hs) fun Dn σ H ⟨β, ρ, st, S, E, p⟩ => lift.toS S E p fun d v β1 H1 st1 e1 S1 E1 r1 p1 => lift.toS S1 E1 p1 fun x y β2 H2 st2 e2 S2 E2 r2 p2 => by
    cases x with
    | loc i =>
      obtain ⟨q, h1, rfl⟩ := VR.loc.mp r2
      obtain ⟨u, h2, h3⟩ := S2.at h1
      simp only [setFD, h2] at p2
      cases u with
      | ins c' fs =>
        obtain ⟨C', dx, gs, h4, h5, h6⟩ := h3
        by_cases hz : c' = c ∧ fs.length < 1000
        · simp only [if_pos hz] at p2
          obtain ⟨hcc, hz⟩ := hz
          subst hcc
          rw [hc] at h4
          cases h4
          have ex := S2.ext (o := .ins C dx (putF n v gs)) h1
          exact ⟨q, C, dx, gs, rfl, h5, cl, na, by rw [h6.len]; exact hz, p2 _ _ _ ex (S2.set h1 ⟨C, dx, putF n v gs, hc, by rw [upd_same], KR.mono0 ex.toExt0 (FR.put (VR.mono e2 _ _ r1) h6)⟩) (E2.mono ex)⟩
        · simp only [if_neg hz] at p2; exact p2.elim
      | _ => exact p2.elim
    | _ => exact p2.elim
end
end L3

/-! Classes of the text: calls. -/
namespace L3
open PySem PySem.Spec PyProof.Rows L2
section
variable {X : Cx} {W : WX} {e a b o : Expr} {es rest : List Expr} {pos p apos np : Pos} {ka kb ko : KE} {kas : KA} {run : Run} {k : Nat} {f g C : Addr} {c m x : Str}
/-- arguments, then -/
theorem args3 {pins : List (Addr × Obj)} {σ : L2.St} {H : Hp} {s : Shared} {β : List Addr} {ρ : Env3} {st : Sto} {Q : VK} {F : List D → Sto → R D} {R : List Value → Shared → Prop} (ha : PA X es (liftA X.K X.mg W kas)) (I : Inv X pins σ H s) (S : Sim X.K X.mg β st H) (E : ER X.K β H ρ σ)
    (hp : PostA X.K X.mg W σ (okE X.K Q) β H ((kas ρ st).bind F))
    (h : ∀ us s1 vs H1 β1 st1 ds, Inv X pins σ H1 s1 → Vals vs us → Ext β H β1 H1 → Sim X.K X.mg β1 st1 H1 → ER X.K β1 H1 ρ σ → VRs X.K β1 H1 ds vs → PostA X.K X.mg W σ (okE X.K Q) β1 H1 (F ds st1) → R us s1) :
    wpAny (model X.prog X.w) X.A (spliced (backTo pos (starEach es X.env))) R X.xe s :=
  thn (ha.run pos pins s σ H (fun vs H1 => ∃ β1 st1 ds, Ext β H β1 H1 ∧ Sim X.K X.mg β1 st1 H1 ∧ ER X.K β1 H1 ρ σ ∧ VRs X.K β1 H1 ds vs ∧ PostA X.K X.mg W σ (okE X.K Q) β1 H1 (F ds st1)) I
    (liftA.bind S E hp fun ds vs β1 H1 st1 e1 S1 E1 r1 p1 => ⟨β1, st1, ds, e1, S1, E1, r1, p1⟩)) fun us s1 ⟨vs, H1, I1, rv, β1, st1, ds, e1, S1, E1, r1, p1⟩ => h us s1 vs H1 β1 st1 ds I1 rv e1 S1 E1 r1 p1
/-- a value, then -/
theorem val3 {pins : List (Addr × Obj)} {σ : L2.St} {H : Hp} {s : Shared} {β : List Addr} {ρ : Env3} {st : Sto} {Q : VK} {F : D → Sto → R D} {R : Value → Shared → Prop} (ha : PE X a (lift X.K X.mg W ka)) (I : Inv X pins σ H s) (S : Sim X.K X.mg β st H) (E : ER X.K β H ρ σ)
    (hp : PostA X.K X.mg W σ (okE X.K Q) β H ((ka ρ st).bind F))
    (h : ∀ u s1 v H1 β1 st1 d, Inv X pins σ H1 s1 → RelV v u → Ext β H β1 H1 → Sim X.K X.mg β1 st1 H1 → ER X.K β1 H1 ρ σ → VR X.K β1 H1 d v → PostA X.K X.mg W σ (okE X.K Q) β1 H1 (F d st1) → R u s1) :
    wpAny (model X.prog X.w) X.A (eval a X.env) R X.xe s :=
  thn (ha.run pins s σ H (fun v H1 => ∃ β1 st1 d, Ext β H β1 H1 ∧ Sim X.K X.mg β1 st1 H1 ∧ ER X.K β1 H1 ρ σ ∧ VR X.K β1 H1 d v ∧ PostA X.K X.mg W σ (okE X.K Q) β1 H1 (F d st1)) I
    (lift.bind S E hp fun d v β1 H1 st1 e1 S1 E1 r1 p1 => ⟨β1, st1, d, e1, S1, E1, r1, p1⟩)) fun u s1 ⟨v, H1, I1, rv, β1, st1, d, e1, S1, E1, r1, p1⟩ => h u s1 v H1 β1 st1 d I1 rv e1 S1 E1 r1 p1

/-! ### a new instance -/
def mkD (c : Str) (run : Run) : Run := fun ds st => (run (.loc st.length :: ds) (st ++ [.ins c []])).bind fun v st2 => match v with
  | .non => .ok (.loc st.length) st2
  | _ => .bad
theorem mk_post {K : PySem.W.Frag} {mg : Str → Option Value} {σ : L2.St} {Q : VK} {β β2 : List Addr} {H H2 : Hp} {st : Sto} {y : Addr} {r : R D} (ex : Ext β H β2 H2) (hy : β2[st.length]? = some y)
    (hp : PostA K mg W σ (okE K Q) β H (r.bind fun v st2 => match v with | .non => .ok (.loc st.length) st2 | _ => .bad)) :
    PostA K mg W σ (okE K fun v H3 => v = .non ∧ Q (.ref y) H3) β2 H2 r := by
  cases r with
  | ok d st2 =>
    cases d with
    | non => exact fun β3 H3 e3 S3 v rv => ⟨VR.non.mp rv, hp β3 H3 (ex.trans e3) S3 (.ref y) (VR.loc.mpr ⟨y, e3.get hy, rfl⟩)⟩
    | _ => exact hp.elim
  | exn z st2 => exact fun β3 H3 c dd e3 S3 xr => hp β3 H3 c dd (ex.trans e3) S3 xr
  | bad => exact hp
theorem run_mk {pins : List (Addr × Obj)} {σ : L2.St} {H : Hp} {s : Shared} {Q : VK} {us : List Value} {vs : List V} {β : List Addr} {st : Sto} {ds : List D} (M : Mk X.K C f) (F : Pr3 X.prog X.w X.K X.mg X.base k f run) (hr : Room (k + 1) X.A) (tk : Takes X W) (hc : X.mg c = some (.ref C)) (I : Inv X pins σ H s) (rv : Vals vs us)
    (S : Sim X.K X.mg β st H) (rd : VRs X.K β H ds vs) (hp : PostA X.K X.mg W σ (okE X.K Q) β H (mkD c run ds st)) : wpAny (model X.prog X.w) X.A (call (.ref C) us) (EP X pins σ Q) X.xe s := by
  have J := Inv.made (C := C) I
  have n1 : H s.heap.objs.size = none := I.hok.fresh (Nat.le_refl _)
  have n2 : H (s.heap.objs.size + 1) = none := I.hok.fresh (Nat.le_succ _)
  have S1 := S.new0 (o := .own (s.heap.objs.size + 1)) n1
  have n3 : (upd H s.heap.objs.size (.own (s.heap.objs.size + 1))) (s.heap.objs.size + 1) = none := by rw [upd_ne (Nat.succ_ne_self _)]; exact n2
  have S2 := S1.push (o := .ins C s.heap.objs.size []) (ob := .ins c []) n3 ⟨C, s.heap.objs.size, [], hc, upd_same, .nil⟩
  have ex := (ext_new0 (o := .own (s.heap.objs.size + 1)) (β := β) n1).trans (ext_new (o := .ins C s.heap.objs.size []) n3)
  have hy : (β ++ [s.heap.objs.size + 1])[st.length]? = some (s.heap.objs.size + 1) := by rw [← S.len]; simp
  have go := F (X.A.under (.builtin "type.__call__" ⟨.ref C :: us, []⟩)) X.stack _ _ (Value.ref (s.heap.objs.size + 1) :: us) (.ref (s.heap.objs.size + 1) :: vs) (fun v H3 => v = .non ∧ Q (.ref (s.heap.objs.size + 1)) H3) (fun c d H' => W c d σ H') (hr.make C us []) (J.env0.make C us []) (.cons rfl rv)
    ⟨_, _, _, S2, VRs.cons.mpr ⟨_, _, rfl, VR.loc.mpr ⟨_, hy, rfl⟩, VRs.mono ex _ _ rd⟩, PostA.toσ (mk_post ex hy hp)⟩
  refine wpAny_call (make_map (f := f) I.kIn M.makes M.init (beq_iff_eq.mp M.fn) (codeAny_mono go fun r s2 z => ?_))
  cases r with
  | error w => exact pass3 tk σ pins _ _ w s2 J z
  | ok fl =>
    cases fl with
    | ret t =>
      obtain ⟨q1, q2, q3, q4, q5, q6⟩ := J.after z
      subst q5
      exact ⟨q4, V.ref (s.heap.objs.size + 1), q2, q3, rfl, q6⟩
    | _ => exact False.elim z
theorem q_make (M : Mk X.K C f) (F : Pr3 X.prog X.w X.K X.mg X.base k f run) (hr : Room (k + 1) X.A) (tk : Takes X W) (hg : Gl X x) (hm : X.mg x = some (.ref C)) (ha : PA X (e :: es) (liftA X.K X.mg W kas)) (hdb : (x == ("__debug__" : Str)) = false := by decide)
    (he : starEach (e :: es) X.env = (false, eval e X.env) :: starEach es X.env := by rfl) (hpl : (backTo pos (starEach es X.env)).any (·.1) = false := by rfl) : PE X (.Call (.Name x p) (e :: es) [] pos) (lift X.K X.mg W (kF (mkD x run) kas)) := by
  constructor
  intro pins s σ H Q I ⟨β, ρ, st, S, E, hp⟩
  exact wpAny_Call_Name_kw (ld_glob I hg hm (PySem.W.callWith_K (h₀ := X.base) I.ok.mod.kin M.kp (args3 ha I S E hp fun us s1 vs H1 β1 st1 ds I1 rv e1 S1 E1 r1 p1 => ⟨I1.kIn, run_mk M F hr tk hm I1 rv S1 r1 p1⟩) he hpl) hdb)
/-- C(e, .., *y) where C is a value -/
def kMkV (C : Addr) (c : Str) (run : Run) (kf : KE) (kas : KA) : KE := fun ρ st => (kf ρ st).bind fun d st1 => match d with
  | .cls q => if q = C then (kas ρ st1).bind (mkD c run) else .bad
  | _ => .bad
theorem q_makeV {fe : Expr} {kf : KE} (M : Mk X.K C f) (F : Pr3 X.prog X.w X.K X.mg X.base k f run) (hr : Room (k + 1) X.A) (tk : Takes X W) (hm : X.mg c = some (.ref C)) (hf : PE X fe (lift X.K X.mg W kf)) (ha : PA X (e :: es) (liftA X.K X.mg W kas))
    (ht : eval (.Call fe (e :: es) [] pos) X.env = (do callWith pos (← eval fe X.env) [] (backTo pos (starEach (e :: es) X.env)) (backToKw pos (keywordEach [] X.env))) := by rfl)
    (he : starEach (e :: es) X.env = (false, eval e X.env) :: starEach es X.env := by rfl) (hst : (backTo pos (starEach es X.env)).any (·.1) = true := by rfl) : PE X (.Call fe (e :: es) [] pos) (lift X.K X.mg W (kMkV C c run kf kas)) := by
  constructor
  intro pins s σ H Q I ⟨β, ρ, st, S, E, hp⟩
  refine Call_ (val3 hf I S E hp fun u s1 v H1 β1 st1 d I1 ru e1 S1 E1 r1 p1 => ?_) ht
  cases d with
  | cls q =>
    cases VR.cls.mp r1
    simp only at p1
    split at p1
    · rename_i hq
      subst hq
      have hu : u = Value.ref q := ru
      subst hu
      exact PySem.W.callWith_S2 (h₀ := X.base) I1.ok.mod.kin M.kp (args3 ha I1 S1 E1 p1 fun us s2 vs H2 β2 st2 ds I2 rv e2 S2 E2 r2 p2 => ⟨I2.kIn, run_mk M F hr tk hm I2 rv S2 r2 p2⟩) he hst
    · exact p1.elim
  | _ => exact p1.elim
/-- *e among arguments -/
def kAS (a : KE) (r : KA) : KA := fun ρ st => (a ρ st).bind fun x st1 => match x with
  | .tup xs => (r ρ st1).bind fun ys st2 => .ok (xs ++ ys) st2
  | .frz xs => (r ρ st1).bind fun ys st2 => .ok (xs ++ ys) st2
  | .loc n => match st1[n]? with
    | some (.lst xs) => (r ρ st1).bind fun ys st2 => .ok (xs ++ ys) st2
    | _ => .bad
  | _ => .bad
theorem q_star (ha : PE X a (lift X.K X.mg W ka)) (hr : PA X es (liftA X.K X.mg W kas)) (hs : starEach (.Starred a p :: es) X.env = (true, eval a X.env) :: starEach es X.env := by rfl) : PA X (.Starred a p :: es) (liftA X.K X.mg W (kAS ka kas)) :=
  PA.imp (StX.pa_star ha hr hs) fun σ H Q ⟨β, ρ, st, S, E, hp⟩ => lift.bind S E hp fun d v β1 H1 st1 e1 S1 E1 r1 p1 => by
    have fin : ∀ {xs : List D} {us : List V}, VRs X.K β1 H1 xs us → PostA X.K X.mg W σ (okA X.K Q) β1 H1 ((kas ρ st1).bind fun ys st2 => .ok (xs ++ ys) st2) → liftA X.K X.mg W kas σ H1 fun ys H2 => Q (us ++ ys) H2 := fun ru pu =>
      liftA.bind S1 E1 pu fun ys ws β2 H2 st2 e2 S2 E2 r2 p2 => p2 β2 H2 (Ext.refl _ _) S2 _ ((VRs.mono e2 _ _ ru).append r2)
    cases d with
    | tup xs =>
      obtain ⟨q, us, rfl, h1, h2⟩ := VR.tupS r1
      exact ⟨q, us, rfl, .inl h1, fin h2 p1⟩
    | frz xs =>
      obtain ⟨q, us, rfl, h1, h2⟩ := VR.frz.mp r1
      exact ⟨q, us, rfl, .inr h1.sq, fin h2 p1⟩
    | loc n =>
      obtain ⟨q, h1, rfl⟩ := VR.loc.mp r1
      obtain ⟨u, h2, h3⟩ := S1.at h1
      simp only [h2] at p1
      cases u with
      | lst xs => obtain ⟨us, h4, h5⟩ := h3; exact ⟨q, us, rfl, .inr (SqL.of h4), fin h5 p1⟩
      | _ => exact p1.elim
    | _ => exact p1.elim

/-! ### methods -/
def insOk (c m : Str) (d : D) (st : Sto) : Bool := match d with
  | .loc n => match st[n]? with
    | some (.ins c' fs) => decide (c' = c) && (fs.lookup m).isNone
    | _ => false
  | _ => false
theorem ins_rel {K : PySem.W.Frag} {mg : Str → Option Value} {β : List Addr} {st : Sto} {H : Hp} {d : D} {v : V} (S : Sim K mg β st H) (r : VR K β H d v) (hc : mg c = some (.ref C)) (h : insOk c m d st = true) : ∃ q dx gs, v = .ref q ∧ H q = some (.ins C dx gs) ∧ gs.lookup m = none := by
  cases d with
  | loc n =>
    obtain ⟨q, h1, rfl⟩ := VR.loc.mp r
    obtain ⟨u, h2, h3⟩ := S.at h1
    simp only [insOk, h2] at h
    cases u with
    | ins c' fs =>
      obtain ⟨C', dx, gs, h4, h5, h6⟩ := h3
      obtain ⟨hcc, hl⟩ := Bool.and_eq_true_iff.mp h
      have hcc := of_decide_eq_true hcc
      subst hcc
      rw [hc] at h4
      cases h4
      have g := h6.get (n := m)
      rw [Option.isNone_iff_eq_none.mp hl] at g
      exact ⟨q, dx, gs, rfl, h5, g⟩
    | _ => cases h
  | _ => cases h
def kMt (c m : Str) (run : Run) (o : KE) (a : KA) : KE := fun ρ st => (o ρ st).bind fun d st1 => if insOk c m d st1 = true then (a ρ st1).bind fun ds st2 => run (d :: ds) st2 else .bad
theorem q_meth {pl : Sem Bool} (tk : Takes X W) (F : Pr3 X.prog X.w X.K X.mg X.base k g run) (hr : Room k X.A) (hc : X.mg c = some (.ref C)) (cl : Cls X.K C) (hm : Meth X.K C m g) (ho : PE X o (lift X.K X.mg W ko)) (ha : PA X (e :: es) (liftA X.K X.mg W kas))
    (he : starEach (e :: es) X.env = (false, eval e X.env) :: starEach es X.env := by rfl) (hpl : (backTo pos (starEach es X.env)).any (·.1) = false := by rfl)
    (ht : eval (.Call (.Attribute o m apos) (e :: es) [] pos) X.env = (do
      let ov ← eval o X.env; standAt apos.atName
      let (f, first) ← holding [ov] (getMethod ov m pl); callWith pos f first (backTo pos (starEach (e :: es) X.env)) (backToKw pos (keywordEach [] X.env))) := by rfl) :
    PE X (.Call (.Attribute o m apos) (e :: es) [] pos) (lift X.K X.mg W (kMt c m run ko kas)) := by
  constructor
  intro pins s σ H Q I ⟨β, ρ, st, S, E, hp⟩
  refine PySem.W.methodCall_KW (pl := pl) (val3 ho I S E hp fun u s1 v H1 β1 st1 d I1 ru e1 S1 E1 r1 p1 => ?_) ht
  split at p1
  · rename_i hi
    obtain ⟨q, dx, gs, rfl, h2, h3⟩ := ins_rel S1 r1 hc hi
    have hu : u = Value.ref q := ru
    subst hu
    refine getmeth_ok I1 h2 cl hm h3 (PySem.W.callWith_K (first := [.ref q]) (h₀ := X.base) I.ok.mod.kin hm.kp (args3 ha I1 S1 E1 p1 fun us s2 vs H2 β2 st2 ds I2 rv e2 S2 E2 r2 p2 => ⟨I2.kIn, ?_⟩) he hpl)
    exact wpAny_call (run3 (vs := V.ref q :: vs) F hr tk I2 (.cons rfl rv) S2 (VRs.cons.mpr ⟨_, _, rfl, VR.mono e2 _ _ r1, r2⟩) p2)
  · exact p1.elim
theorem q_meth0 {pl : Sem Bool} (tk : Takes X W) (F : Pr3 X.prog X.w X.K X.mg X.base k g run) (hr : Room k X.A) (hc : X.mg c = some (.ref C)) (cl : Cls X.K C) (hm : Meth X.K C m g) (ho : PE X o (lift X.K X.mg W ko))
    (ht : eval (.Call (.Attribute o m apos) [] [] pos) X.env = (do
      let ov ← eval o X.env; standAt apos.atName
      let (f, first) ← holding [ov] (getMethod ov m pl); callWith pos f first (backTo pos (starEach [] X.env)) (backToKw pos (keywordEach [] X.env))) := by rfl) :
    PE X (.Call (.Attribute o m apos) [] [] pos) (lift X.K X.mg W (kMt c m run ko kA0)) := by
  constructor
  intro pins s σ H Q I ⟨β, ρ, st, S, E, hp⟩
  refine PySem.W.methodCall_KW (pl := pl) (val3 ho I S E hp fun u s1 v H1 β1 st1 d I1 ru e1 S1 E1 r1 p1 => ?_) ht
  split at p1
  · rename_i hi
    obtain ⟨q, dx, gs, rfl, h2, h3⟩ := ins_rel S1 r1 hc hi
    have hu : u = Value.ref q := ru
    subst hu
    exact getmeth_ok I1 h2 cl hm h3 (PySem.W.callWith_K0 (first := [.ref q]) I1.kIn hm.kp (wpAny_call (run3 (vs := [V.ref q]) F hr tk I1 (.cons rfl .nil) S1 (VRs.cons.mpr ⟨_, _, rfl, r1, VRs.nil.mpr rfl⟩) p1)))
  · exact p1.elim

/-! ### classmethods of a class by its name -/
def kCm (C : Addr) (run : Run) (a : KA) : KE := fun ρ st => (a ρ st).bind fun ds st1 => run (.cls C :: ds) st1
theorem q_cmeth {pl : Sem Bool} {mc : Value} {pd : Addr} (tk : Takes X W) (F : Pr3 X.prog X.w X.K X.mg X.base k g run) (hr : Room k X.A) (hg : Gl X x) (hx : X.mg x = some (.ref C)) (rd : ClX.CRead X.K C mc) (cm : ClX.CMet X.K C mc m pd g) (ha : PA X (e :: es) (liftA X.K X.mg W kas))
    (hdb : (x == ("__debug__" : Str)) = false := by decide) (he : starEach (e :: es) X.env = (false, eval e X.env) :: starEach es X.env := by rfl) (hpl : (backTo pos (starEach es X.env)).any (·.1) = false := by rfl)
    (ht : eval (.Call (.Attribute (.Name x np) m apos) (e :: es) [] pos) X.env = (do
      let ov ← eval (.Name x np) X.env; standAt apos.atName
      let (f, first) ← holding [ov] (getMethod ov m pl); callWith pos f first (backTo pos (starEach (e :: es) X.env)) (backToKw pos (keywordEach [] X.env))) := by rfl) :
    PE X (.Call (.Attribute (.Name x np) m apos) (e :: es) [] pos) (lift X.K X.mg W (kCm C run kas)) := by
  constructor
  intro pins s σ H Q I ⟨β, ρ, st, S, E, hp⟩
  refine PySem.W.methodCall_KW (pl := pl) (ld_glob I hg hx (ClX.getmethcm_ok I rd cm fun s1 I1 => ?_) hdb) ht
  refine ClX.callwith_cm I1 (ClX.base_none I (Nat.le_refl _)) cm.fi (args3 ha I1 S E hp fun us s2 vs H2 β2 st2 ds I2 rv e2 S2 E2 r2 p2 => ⟨⟨ClX.pin_at I2, I2.kIn⟩, ?_⟩) he hpl
  exact thn (wpAny_call (PySem.W.method_call (ClX.pin_at I2) (run3 (vs := V.ref C :: vs) F hr tk I2 (.cons rfl rv) S2 (VRs.cons.mpr ⟨_, _, rfl, VR.cls.mpr rfl, r2⟩) p2))) fun _ _ y => ClX.unpinE y

/-! ### properties -/
def noX (r : R D) : R D := match r with
  | .ok d st => .ok d st
  | _ => .bad
def kPr (c m : Str) (run : Run) (o : KE) : KE := fun ρ st => (o ρ st).bind fun d st1 => match d with
  | .loc n => match st1[n]? with
    | some (.ins c' _) => if c' = c then noX (run [d] st1) else .bad
    | _ => .bad
  | _ => .bad
theorem q_prop {fd : FuncData} {ps : List Str} {pd : Addr} (F : FnOk X.prog X.w X.K X.mg X.base (L2.CX X.prog X.w) k g fd ps (spOf X.K X.mg 1 run)) (hr : Room (k + 1) X.A) (hb : Binds X.K fd ps []) (hc : X.mg c = some (.ref C)) (cl : Cls X.K C) (hp : PropOf X.K C m pd g) (ho : PE X o (lift X.K X.mg W ko))
    (hab : attributeBase o m X.env (eval o X.env) = eval o X.env := by rfl) : PE X (.Attribute o m pos) (lift X.K X.mg W (kPr c m run ko)) :=
  PE.imp (pe_prop (E := fun _ _ _ => False) ho cl hp F hr hb .nil (fun pins σ H s z s2 _ h => by obtain ⟨_, _, _, _, _, _, _, _, _, _, _, _, h⟩ := h; exact False.elim h) hab) fun σ H Q ⟨β, ρ, st, S, E, hp⟩ => lift.bind S E hp fun d v β1 H1 st1 e1 S1 E1 r1 p1 => by
    cases d with
    | loc n =>
      obtain ⟨q, h1, rfl⟩ := VR.loc.mp r1
      obtain ⟨u, h2, h3⟩ := S1.at h1
      simp only [h2] at p1
      cases u with
      | ins c' fs =>
        obtain ⟨C', dx, gs, h4, h5, h6⟩ := h3
        simp only at p1
        split at p1
        · rename_i hcc
          subst hcc
          rw [hc] at h4
          cases h4
          refine ⟨q, dx, gs, rfl, h5, rfl, β1, st1, [.loc n], S1, VRs.cons.mpr ⟨_, _, rfl, r1, VRs.nil.mpr rfl⟩, ?_⟩
          unfold noX at p1
          split at p1
          · rename_i hrun; rw [hrun]; exact p1
          · exact p1.elim
        · exact p1.elim
      | _ => exact p1.elim
    | _ => exact p1.elim
end
/-! ### def f(a, .., *v) -/
def runStar (n np : Nat) (body : KS) : Run := fun ds st => if np ≤ ds.length ∧ ds.length ≤ 16777216 then finR (body (start3 n (ds.take np ++ [.tup (ds.drop np)])) st) else .bad
section
variable {P : Program} {w : World} {K : PySem.W.Frag} {mg : Str → Option Value} {base : Heap}
theorem Fun.star3 {x qual : Str} {st : Stmt} {f : Addr} {fd : FuncData} {N ps : List Str} {pv : Str} {k n np : Nat} {body : KS} (F : Fun K x qual st f fd) (S : FnScope N (ps ++ [pv]) (defScope st)) (hn : N.length = n) (hp : ps.length = np)
    (hbd : ∀ (kV doc pm : Value) (an : Option Addr) (cdv ct : Value) (us rest : List Value), us.length = ps.length → bindArgs (PySem.W.fnOf x qual (defArgs st) (defBody st) (defScope st) .none kV doc pm an cdv ct) ⟨us ++ rest, []⟩ = (newTuple rest >>= fun t => pure (ps.zip us ++ [(pv, t)])))
    (hb : ∀ (cdv : Value) (A : Around) (outer : List Env) (s : Shared) (H : Hp) (E : XK), Room k (A.deeper (envOfC qual (defScope st) s.heap.objs.size f cdv)) →
      PSs (cxOf (L2.CX P w) P w K mg base N qual (defScope st) f cdv A outer s H E) (defBody st) (liftS K mg (fun c d _ H => E c d H) body)) :
    Pr3 P w K mg base (k + 1) f (runStar n np body) := by
  obtain ⟨oc, od, kV, doc, pm, an, cdv, ct, osl, rfl, lk, hcd⟩ := F.ex
  have G := StX.fn_star (CX := L2.CX P w) (P := P) (w := w) (mg := mg) (base := base) (k := k) (N := N) (ps := ps) (pv := pv) (sp := fun vs H Q E => ∃ β sto ds, Sim K mg β sto H ∧ VRs K β H ds vs ∧ ds.length = np + 1 ∧ PostA K mg (fun c dd _ H' => E c dd H') [] (okE K Q) β H (finR (body (start3 n ds) sto)))
    lk hcd S StX.cxUp (fun us rest h => hbd kV doc pm an cdv ct us rest h) fun A outer s H vs Q E hr ⟨β, sto, ds, Si, r, _, p⟩ => ⟨_, hb cdv A outer s H E hr, β, start3 n ds, sto, Si, start_rel r n hn, by
      cases hbd : body (start3 n ds) sto with
      | nx ρ st' => rw [hbd] at p; exact fun β' H' σ' e S' E' => p β' H' e S' _ (VR.non.mpr rfl)
      | rt d st' => rw [hbd] at p; exact fun β' H' v e S' r' => p β' H' e S' v r'
      | bk ρ st' => rw [hbd] at p; exact p.elim
      | ct ρ st' => rw [hbd] at p; exact p.elim
      | exn x ρ st' => rw [hbd] at p; exact fun β' H' σ' c dd e S' E' xr => p β' H' c dd e S' xr
      | bad => rw [hbd] at p; exact p.elim⟩
  refine G.imp fun vs H Q E ⟨β, sto, ds, Si, r, p⟩ => ?_
  unfold runStar at p
  split at p
  · rename_i hl
    have hvl := r.length
    refine ⟨vs.take np, vs.drop np, (List.take_append_drop _ _).symm, by rw [hp, List.length_take]; omega, by rw [List.length_drop, hvl]; exact Nat.le_trans (Nat.sub_le _ _) (szl hl.2), fun q hq => ?_⟩
    have ex := ext_new0 (β := β) (o := .tup (vs.drop np)) hq
    refine ⟨β, sto, _, Si.new0 hq, (VRs.mono ex _ _ (r.take np)).append (VRs.cons.mpr ⟨_, _, rfl, VR.tup.mpr ⟨q, vs.drop np, rfl, upd_same, VRs.mono ex _ _ (r.drop np)⟩, VRs.nil.mpr rfl⟩), by rw [List.length_append, List.length_take]; simp; omega, PostA.mono ex p⟩
  · exact p.elim
end
end L3

/-! Classes of the text: what of it must stand, isinstance, == and != by an own __eq__. -/
namespace L3
open PySem PySem.Spec PyProof.Rows L2
/-! ### what must stand in the written part, as looks -/
open PySem.W in
def clB (K : Frag) (C : Addr) : Bool := plainGet K C Str.empty && (hasDictIn K C && (plainOver K C && decide (findIn K (.ref C) "__setattr__" = some (some (.builtin "object.__setattr__")))))
theorem clB_ok {K : PySem.W.Frag} {C : Addr} (h : clB K C = true) : Cls K C := by
  unfold clB at h
  simp only [Bool.and_eq_true] at h
  exact ⟨h.1, h.2.1, h.2.2.1, of_decide_eq_true h.2.2.2⟩
def naB (K : PySem.W.Frag) (C : Addr) (ns : List Str) : Bool := ns.all fun n => decide (PySem.W.findIn K (.ref C) n = some none)
theorem naB_ok {K : PySem.W.Frag} {C : Addr} {ns : List Str} (h : naB K C ns = true) {n : Str} (hn : n ∈ ns) : NoAttr K C n := of_decide_eq_true (p := PySem.W.findIn K (.ref C) n = some none) (List.all_eq_true.mp h n hn)
def mkB (K : PySem.W.Frag) (C f : Addr) : Bool := PySem.W.makesIn K C && (decide (PySem.W.findIn K (.ref C) "__init__" = some (some (.ref f))) && (PySem.W.isFn K (.ref f) && PySem.W.keepIn K (.ref C)))
theorem mkB_ok {K : PySem.W.Frag} {C f : Addr} (h : mkB K C f = true) : Mk K C f := by
  unfold mkB at h
  simp only [Bool.and_eq_true] at h
  exact ⟨h.1, of_decide_eq_true h.2.1, h.2.2.1, h.2.2.2⟩
def mtB (K : PySem.W.Frag) (C : Addr) (m : Str) (f : Addr) : Bool := decide (PySem.W.findIn K (.ref C) m = some (some (.ref f))) && (PySem.W.isFn K (.ref f) && PySem.W.keepIn K (.ref f))
theorem mtB_ok {K : PySem.W.Frag} {C f : Addr} {m : Str} (h : mtB K C m f = true) : Meth K C m f := by
  unfold mtB at h
  simp only [Bool.and_eq_true] at h
  exact ⟨of_decide_eq_true h.1, h.2.1, h.2.2⟩
open PySem.W in
def prB (K : Frag) (C : Addr) (n : Str) (p g : Addr) : Bool := decide (findIn K (.ref C) n = some (some (.ref p))) && (decide (specialIn K (.ref p) "__get__" = some (some (.builtin "property.__get__"))) && (decide (takesIn K (.ref p) = some true) && match recIn K p "property" with
  | some (.ref g' :: _) => g' == g
  | _ => false))
theorem prB_ok {K : PySem.W.Frag} {C p g : Addr} {n : Str} (h : prB K C n p g = true) : PropOf K C n p g := by
  unfold prB at h
  simp only [Bool.and_eq_true] at h
  obtain ⟨h1, h2, h3, h4⟩ := h
  refine ⟨of_decide_eq_true h1, of_decide_eq_true h2, of_decide_eq_true h3, ?_⟩
  split at h4
  · rename_i rest e; exact ⟨rest, by rw [e, beq_iff_eq.mp h4]⟩
  · cases h4
open PySem.W in
def cmB (K : Frag) (C : Addr) (mc : Value) (m : Str) (p g : Addr) : Bool := readsIn K C mc && (decide (specialIn K (.ref C) "__getattribute__" = some (some (.builtin "type.__getattribute__"))) && ((match findCls K (.ref C) mc m with
  | some (.get (.builtin b) (.ref p') .none (.ref C')) => b == "classmethod.__get__" && (p' == p && C' == C)
  | _ => false) && (fnIn K g && match recIn K p "classmethod" with
  | some (.ref g' :: _) => g' == g
  | _ => false)))
theorem cmB_ok {K : PySem.W.Frag} {C p g : Addr} {mc : Value} {m : Str} (h : cmB K C mc m p g = true) : ClX.CRead K C mc ∧ ClX.CMet K C mc m p g := by
  unfold cmB at h
  simp only [Bool.and_eq_true] at h
  obtain ⟨h1, h2, h3, h4, h5⟩ := h
  refine ⟨⟨h1, of_decide_eq_true h2⟩, ?_, ?_, h4⟩
  · split at h3
    · rename_i e
      simp only [Bool.and_eq_true, beq_iff_eq] at h3
      rw [e, h3.1, h3.2.1, h3.2.2]
    · cases h3
  · split at h5
    · rename_i rest e; exact ⟨rest, by rw [e, beq_iff_eq.mp h5]⟩
    · cases h5
/-! ### isinstance(e, own class) -/
open PySem.W in
def isB (K : Frag) (C : Addr) : Bool := clB K C && (decide (findIn K (.ref C) "__class__" = some (some (.builtin "object.__class__"))) && (decide (specialIn K (.builtin "object.__class__") "__get__" = some (some (.builtin "getset_descriptor.__get__")))
  && (decide (takesIn K (.builtin "object.__class__") = some true) && (decide (mroIn K C (.type "object") = some true) && (decide (kitOne K (.ref C) (.ref C) = some true) && ["NoneType", "bool", "int", "str", "tuple", "list", "dict"].all fun a => decide (kitOne K (.type a) (.ref C) = some false))))))
def isC (c : Str) (d : D) (st : Sto) : R D := match d with
  | .loc n => match st[n]? with
    | some (.ins c' _) => if c' = c then .ok (.bl true) st else .bad
    | some (.tb _ _) => .bad
    | some _ => .ok (.bl false) st
    | none => .bad
  | .cls _ => .bad
  | .lam _ _ _ => .bad
  | .fn _ _ => .bad
  | _ => .ok (.bl false) st
section
variable {X : Cx} {W : WX} {a : Expr} {pos p p2 : Pos} {ka : KE} {C : Addr} {c x : Str}
theorem tyN_in {d : D} {st : Sto} {a : String} (h : tyN d st = some a) : a ∈ ["NoneType", "bool", "int", "str", "tuple", "list", "dict"] := by
  unfold tyN at h
  repeat' split at h
  all_goals first | (cases h; done) | (cases h; decide)
theorem q_isC (hb : isB X.K C = true) (hg : Gl X "isinstance") (hm : X.mg "isinstance" = none) (hg2 : Gl X x) (hm2 : X.mg x = some (.ref C)) (ha : PE X a (lift X.K X.mg W ka)) (hdb2 : (x == ("__debug__" : Str)) = false := by decide)
    (hs : starEach [a, .Name x p2] X.env = (false, eval a X.env) :: starEach [.Name x p2] X.env := by rfl) (hs2 : starEach [.Name x p2] X.env = (false, eval (.Name x p2) X.env) :: starEach [] X.env := by rfl) (hpl : (backTo pos (starEach [.Name x p2] X.env)).any (·.1) = false := by rfl) :
    PE X (.Call (.Name "isinstance" p) [a, .Name x p2] [] pos) (lift X.K X.mg W (k1 (isC x) ka)) := by
  unfold isB at hb
  simp only [Bool.and_eq_true] at hb
  obtain ⟨b1, b2, b3, b4, b5, b6, b7⟩ := hb
  refine PE.imp (pe_callB call_isi hg hm boot_isi (pa_cons ha (pa_cons (pe_glob (v := .ref C) hg2 hm2 rfl hdb2) pa_nil hs2) hs) (by decide) (by decide) hs hpl) fun σ H Q ⟨β, ρ, st, S, E, q⟩ => lift.bind S E q fun d v β1 H1 st1 e1 S1 E1 r1 p1 => ?_
  have no : ∀ {t : String}, tyN d st1 = some t → PostA X.K X.mg W σ (okE X.K Q) β1 H1 (.ok (.bl false) st1) → ∃ (x c : V) (t u : Value) (b : Bool), [v, V.ref C] = [x, c] ∧ ClsV c u ∧ TyX X.K H1 x t ∧ PySem.W.kitOne X.K t u = some b ∧ Q (.bl b) H1 := fun ht pp =>
    ⟨v, .ref C, _, _, false, rfl, .own C, ty_of S1 r1 ht, of_decide_eq_true (List.all_eq_true.mp b7 _ (tyN_in ht)), fin pp S1 (VR.bl.mpr rfl)⟩
  cases d with
  | non => exact no rfl p1
  | bl _ => exact no rfl p1
  | int _ => exact no rfl p1
  | str _ => exact no rfl p1
  | tup _ => exact no rfl p1
  | frz _ => exact no rfl p1
  | cls _ => exact p1.elim
  | lam _ _ _ => exact p1.elim
  | fn _ _ => exact p1.elim
  | fdk _ _ => exact no rfl p1
  | loc n =>
    obtain ⟨q1, h1, rfl⟩ := VR.loc.mp r1
    obtain ⟨o, h2, h3⟩ := S1.at h1
    simp only [isC, h2] at p1
    cases o with
    | lst _ => exact no (t := "list") (by simp only [tyN, h2]) p1
    | dK _ => exact no (t := "dict") (by simp only [tyN, h2]) p1
    | dT _ => exact no (t := "dict") (by simp only [tyN, h2]) p1
    | tb _ _ => exact p1.elim
    | ins c' fs =>
      obtain ⟨C', dx, gs, h4, h5, h6⟩ := h3
      simp only at p1
      split at p1
      · rename_i hcc
        subst hcc
        rw [hm2] at h4
        cases h4
        exact ⟨_, .ref C, _, _, true, rfl, .own C, .base (.ins h5 (clB_ok b1) (of_decide_eq_true b2) (of_decide_eq_true b3) (of_decide_eq_true b4) (of_decide_eq_true b5)), of_decide_eq_true b6, fin p1 S1 (VR.bl.mpr rfl)⟩
      · exact p1.elim
end
/-! ### == and != by an own __eq__ -/
open PySem.W in
def eqB (K : Frag) (C f : Addr) : Bool := decide (findIn K (.ref C) "__eq__" = some (some (.ref f))) && (isFn K (.ref f) && match K.lookup C with
  | some ⟨.type "type", _, .cls cd, sl⟩ => (match cd.mro, sl.toList with
    | [.ref C', .type o], [_, _, _, _, some (.builtin n), _] => (C' == C && o == "object") && (n == "object.__new__" && (!cd.hasDel && (nsOkIn K cd.ns && (decide (nsIn K cd.ns "__eq__" = some (some (.ref f))) && decide (nsIn K cd.ns "__ne__" = some none)))))
    | _, _ => false)
  | _ => false)
theorem nsSome {K : PySem.W.Frag} {h : Heap} {N : Addr} {x : Str} {v : Value} (X : K.In h) (hk : PySem.W.nsOkIn K N = true) (q : PySem.W.nsIn K N x = some (some v)) : h.nsMap N x = some v := by
  obtain ⟨o, es, ep, ho, hd, _, hf⟩ := Heap.Ns.of_isNs (PySem.W.isNs_of_in X hk)
  rw [← hf]
  unfold PySem.W.nsIn at q
  split at q
  · rename_i es' n' sl hl
    have hh := X _ _ hl
    rw [ho] at hh
    cases hh
    cases hd
    split at q
    · rename_i e he
      cases q
      unfold nsFind findBy
      rw [← Array.find?_toList, he]
      rfl
    · split at q <;> cases q
  · cases q
theorem ownEq_of {K : PySem.W.Frag} {h : Heap} {x C f : Addr} {ox : Obj} {od : Option Obj} (X : K.In h) (I : PySem.W.InstAt h x ox C od) (q : eqB K C f = true) : h.OwnEqNoNe x C f "object" [.type "object"] := by
  unfold eqB at q
  simp only [Bool.and_eq_true] at q
  obtain ⟨q1, q2, q3⟩ := q
  split at q3
  · rename_i dd cd sl ho
    split at q3
    · rename_i C' o k0 k1 k2 k3 n k5 hm hs
      simp only [Bool.and_eq_true, beq_iff_eq, Bool.not_eq_true', decide_eq_true_eq] at q3
      obtain ⟨⟨rfl, rfl⟩, rfl, hd, hk, he, hn⟩ := q3
      obtain ⟨nm, bs, mro, ns, qn, hdc, sn, sub, ab, col, del⟩ := cd
      simp only at hm hd hk he hn
      subst hm hd
      obtain ⟨l⟩ := sl
      simp only at hs
      subst hs
      obtain ⟨of_, hof, hcf⟩ : ∃ o, h.get? f = some o ∧ o.cls = .type "function" := by
        obtain ⟨o, e1, e2⟩ := Option.map_eq_some_iff.mp (show (K.lookup f).map (·.cls) = some (.type "function") from beq_iff_eq.mp q2)
        exact ⟨o, X _ _ e1, e2⟩
      exact ⟨ox, of_, nm, qn, ns, bs, hdc, sn, sub, ab, col, dd, k0, k1, k2, k3, k5, "object.__new__", _, some (.builtin "object.__eq__"), I.at_, I.cls, X _ _ ho, .of_isNs (PySem.W.isNs_of_in X hk), nsSome X hk he, hof, hcf, PySem.F.mro_object,
        by rw [typeLookup_type, builtinLookup_eq_fast]; kernel_rfl, PySem.W.nsMap_none_of_in X hk hn⟩
    · cases q3
  · cases q3
def boolR (r : R D) (f : Bool → D) : R D := r.bind fun v st => match v with
  | .bl b => .ok (f b) st
  | _ => .bad
def insOf (c : Str) (d : D) (st : Sto) : Bool := match d with
  | .loc n => match st[n]? with
    | some (.ins c' _) => decide (c' = c)
    | _ => false
  | _ => false
def eqC (c : Str) (run : Run) (x y : D) (st : Sto) : R D := if (insOf c x st && insOf c y st) = true then boolR (run [x, y] st) D.bl else .bad
def neC (c : Str) (run : Run) (x y : D) (st : Sto) : R D := if (insOf c x st && insOf c y st) = true then boolR (run [x, y] st) fun b => .bl (!b) else .bad
section
variable {X : Cx} {W : WX} {C f : Addr} {c : Str} {k : Nat} {run : Run}
theorem insOf_rel {K : PySem.W.Frag} {mg : Str → Option Value} {β : List Addr} {st : Sto} {H : Hp} {d : D} {v : V} (S : Sim K mg β st H) (r : VR K β H d v) (hc : mg c = some (.ref C)) (h : insOf c d st = true) : ∃ q dx gs, v = .ref q ∧ H q = some (.ins C dx gs) := by
  cases d with
  | loc n =>
    obtain ⟨q, h1, rfl⟩ := VR.loc.mp r
    obtain ⟨u, h2, h3⟩ := S.at h1
    simp only [insOf, h2] at h
    cases u with
    | ins c' fs =>
      obtain ⟨C', dx, gs, h4, h5, h6⟩ := h3
      have hcc := of_decide_eq_true h
      subst hcc
      rw [hc] at h4
      cases h4
      exact ⟨q, dx, gs, rfl, h5⟩
    | _ => cases h
  | _ => cases h
theorem runA {A : Around} {pins : List (Addr × Obj)} {σ : L2.St} {H : Hp} {s : Shared} {Q : VK} {us : List Value} {vs : List V} {β : List Addr} {st : Sto} {ds : List D} (F : Pr3 X.prog X.w X.K X.mg X.base k f run) (hr : Room k A) (e0 : Env0 X.prog X.w X.K X.mg X.base A X.stack s H) (tk : Takes X W) (I : Inv X pins σ H s) (rv : Vals vs us)
    (S : Sim X.K X.mg β st H) (rd : VRs X.K β H ds vs) (hp : PostA X.K X.mg W σ (okE X.K Q) β H (run ds st)) :
    codeAny (model X.prog X.w) A (.call (.ref f) ⟨us, []⟩) (fun r s' => match r with | .ok (.ret v) => EP X pins σ Q v s' | .ok _ => False | .error e => X.xe e s') s :=
  codeAny_mono (F A X.stack s H us vs Q (fun c d H' => W c d σ H') hr e0 rv ⟨β, st, ds, S, rd, PostA.toσ hp⟩) fun
    | .error z, s2, hz => pass3 tk σ pins H s z s2 I hz
    | .ok (.ret u), s2, hz => I.after hz
    | .ok .next, _, hz => False.elim hz
    | .ok .brk, _, hz => False.elim hz
    | .ok .cont, _, hz => False.elim hz
theorem bool_post {K : PySem.W.Frag} {mg : Str → Option Value} {σ : L2.St} {Q : VK} {g : Bool → Bool} {β : List Addr} {H : Hp} {r : R D} (hp : PostA K mg W σ (okE K Q) β H (boolR r fun b => .bl (g b))) : PostA K mg W σ (okE K fun v H' => ∃ b, v = .bl b ∧ Q (.bl (g b)) H') β H r := by
  cases r with
  | ok d st2 =>
    cases d with
    | bl b => exact fun β' H' e S v rv => ⟨b, VR.bl.mp rv, hp β' H' e S _ (VR.bl.mpr rfl)⟩
    | _ => exact hp.elim
  | exn z st2 => exact hp
  | bad => exact hp
theorem o_eqC (hb : eqB X.K C f = true) (hr : Room (k + 1) X.A) (tk : Takes X W) (hc : X.mg c = some (.ref C)) (F : Pr3 X.prog X.w X.K X.mg X.base k f run) : OpS X W (compareOp .Eq) (eqC c run) := by
  intro pins s σ H x y v u Q β st dx dy I rx ry S vx vy p
  unfold eqC at p
  split at p
  · rename_i hi
    obtain ⟨i1, i2⟩ := Bool.and_eq_true_iff.mp hi
    obtain ⟨q, dq, gs, rfl, h1⟩ := insOf_rel S vx hc i1
    obtain ⟨t, dt, gt, rfl, h2⟩ := insOf_rel S vy hc i2
    cases (show v = Value.ref q from rx)
    cases (show u = Value.ref t from ry)
    obtain ⟨_, J1, _⟩ := ins_get I.hok h1
    obtain ⟨_, J2, _⟩ := ins_get I.hok h2
    obtain ⟨_, J1, _⟩ := J1.look
    obtain ⟨_, J2, _⟩ := J2.look
    obtain ⟨m, hF⟩ := I.fr
    have hb' := hb
    unfold eqB at hb'
    simp only [Bool.and_eq_true] at hb'
    refine PySem.W.cmp_ofEq (PySem.W.cmp_K (op := .Eq) (tb := .ref C) hr.units0 hF I.ok.mod.kin J1 J2.type (by simp [PySem.W.notFirst]) (of_decide_eq_true hb'.1) hb'.2.1 ?_)
    refine wpAny_mono (wpAny_call (run3 (vs := [V.ref q, V.ref t]) F (hr.mono (Nat.le_succ _)) tk I (.cons rfl (.cons rfl .nil)) S (VRs.cons.mpr ⟨_, _, rfl, vx, VRs.cons.mpr ⟨_, _, rfl, vy, VRs.nil.mpr rfl⟩⟩) (bool_post (g := id) p))) (fun z s2 hz => ?_) fun _ _ hz => hz
    obtain ⟨w, H2, I2, rw', b, rfl, qq⟩ := hz
    cases rw'
    exact ⟨V.bl b, H2, I2, rfl, qq⟩
  · exact p.elim
theorem o_neC (hb : eqB X.K C f = true) (hr : Room (k + 1) X.A) (tk : Takes X W) (hc : X.mg c = some (.ref C)) (F : Pr3 X.prog X.w X.K X.mg X.base k f run) : OpS X W (compareOp .NotEq) (neC c run) := by
  intro pins s σ H x y v u Q β st dx dy I rx ry S vx vy p
  unfold neC at p
  split at p
  · rename_i hi
    obtain ⟨i1, i2⟩ := Bool.and_eq_true_iff.mp hi
    obtain ⟨q, dq, gs, rfl, h1⟩ := insOf_rel S vx hc i1
    obtain ⟨t, dt, gt, rfl, h2⟩ := insOf_rel S vy hc i2
    cases (show v = Value.ref q from rx)
    cases (show u = Value.ref t from ry)
    obtain ⟨_, J1, _⟩ := ins_get I.hok h1
    obtain ⟨_, J2, _⟩ := ins_get I.hok h2
    obtain ⟨_, J1, _⟩ := J1.look
    obtain ⟨_, J2, _⟩ := J2.look
    have go : wpAny (model X.prog X.w) X.A.in1 (call (.ref f) [.ref q, .ref t]) (fun v s2 => ∃ b, v = .bool b ∧ EP X pins σ Q (.bool (!b)) s2) X.xe s := wpAny_mono (wpAny_call (runA (A := X.A.in1) (vs := [V.ref q, V.ref t]) F hr.in1 I.env0.in1 tk I (.cons rfl (.cons rfl .nil)) S (VRs.cons.mpr ⟨_, _, rfl, vx, VRs.cons.mpr ⟨_, _, rfl, vy, VRs.nil.mpr rfl⟩⟩) (bool_post (g := fun b => !b) p))) (fun z s2 hz => by
      obtain ⟨w, H2, I2, rw', b, rfl, qq⟩ := hz
      cases rw'
      exact ⟨b, rfl, V.bl (!b), H2, I2, rfl, qq⟩) fun _ _ hz => hz
    obtain ⟨hh, g, d, t0, os⟩ := s
    exact compareOp_ne_ownEq PySem.F.cmp_object (ownEq_of I.kIn J1 hb) J2.at_ J2.cls (by have := hr.units; omega) go
  · exact p.elim
end
end L3

/-! Dicts whose keys are ints and texts, or tuples of them. -/
namespace L3
open PySem PySem.Spec PyProof.Rows L2
def keyD : D → Option Key
  | .int i => some (.inl i)
  | .str x => some (.inr x)
  | _ => none
def keysD : List D → Option (List Key)
  | [] => some []
  | d :: r => (keyD d).bind fun k => (keysD r).bind fun l => some (k :: l)
section
variable {κ : Type} [DecidableEq κ]
def valK (kvs : List (κ × D)) (k : κ) : Option D := (kvs.find? fun p => decide (p.1 = k)).map (·.2)
def hasK (kvs : List (κ × D)) (k : κ) : Bool := kvs.any fun p => decide (p.1 = k)
def putKD (kvs : List (κ × D)) (k : κ) (d : D) : List (κ × D) := if hasK kvs k = true then kvs.map (fun p => if p.1 = k then (p.1, d) else p) else kvs ++ [(k, d)]
end
section
variable {K : PySem.W.Frag} {mg : Str → Option Value} {β : List Addr} {H : Hp} {st : Sto}
theorem keyD_rel {d : D} {v : V} {k : Key} (h : keyD d = some k) (r : VR K β H d v) : v = kV k := by
  cases d with
  | int i => cases h; exact VR.int.mp r
  | str i => cases h; exact VR.str.mp r
  | _ => cases h
theorem keysD_rel : ∀ {ds : List D} {vs : List V} {ks : List Key}, keysD ds = some ks → VRs K β H ds vs → vs = ks.map kV
  | [], vs, ks, h, r => by cases h; rw [VRs.nil.mp r]; rfl
  | d :: ds, vs, ks, h, r => by
    obtain ⟨v, us, rfl, r1, r2⟩ := VRs.cons.mp r
    obtain ⟨k, hk, h⟩ := Option.bind_eq_some_iff.mp h
    obtain ⟨l, hl, h⟩ := Option.bind_eq_some_iff.mp h
    cases h
    rw [keyD_rel hk r1, keysD_rel hl r2]
    rfl
def OptR (K : PySem.W.Frag) (β : List Addr) (H : Hp) : Option D → Option V → Prop
  | some z, ov => ∃ u, ov = some u ∧ VR K β H z u
  | none, ov => ov = none
theorem KR.val {κ : Type} [DecidableEq κ] {kvs : List (κ × D)} {ws : List (κ × V)} {k : κ} (h : KR K β H kvs ws) : OptR K β H (valK kvs k) (valV ws k) := by
  unfold valK valV
  induction h with
  | nil => rfl
  | @cons p q l r h1 h2 ih =>
    obtain ⟨n1, d1⟩ := p
    obtain ⟨n2, v2⟩ := q
    obtain ⟨rfl, hv⟩ := h1
    simp only [List.find?_cons]
    cases hn : decide (n1 = k) with
    | true => exact ⟨v2, rfl, hv⟩
    | false => exact ih
theorem KR.has {κ : Type} [DecidableEq κ] {kvs : List (κ × D)} {ws : List (κ × V)} {k : κ} (h : KR K β H kvs ws) : (ws.any fun p => decide (p.1 = k)) = hasK kvs k := by
  unfold hasK
  induction h with
  | nil => rfl
  | @cons p q l r h1 h2 ih => rw [List.any_cons, List.any_cons, ih, h1.1]
theorem KR.putK {κ : Type} [dq : DecidableEq κ] {kvs : List (κ × D)} {ws : List (κ × V)} {k : κ} {d : D} {v : V} (h : KR K β H kvs ws) (hv : VR K β H d v) : KR K β H (putKD kvs k d) (L2.putK ws k v) := by
  unfold putKD L2.putK
  rw [h.has]
  cases hasK kvs k with
  | true =>
    simp only [if_true]
    induction h with
    | nil => exact .nil
    | @cons p q l r h1 h2 ih =>
      obtain ⟨n1, d1⟩ := p
      obtain ⟨n2, v2⟩ := q
      obtain ⟨rfl, h1⟩ := h1
      simp only [List.map_cons]
      by_cases hn : n1 = k
      · simp only [if_pos hn]; exact .cons ⟨rfl, hv⟩ ih
      · simp only [if_neg hn]; exact .cons ⟨rfl, h1⟩ ih
  | false => exact Paired.snoc h ⟨rfl, hv⟩
/-- what a dict holds at a key; none: no dict, no key -/
def dGet (d y : D) (st : Sto) : Option (Option D) := match d with
  | .loc n => match st[n]? with
    | some (.dK kvs) => (keyD y).map fun k => valK kvs k
    | some (.dT kvs) => match y with
      | .tup ds => (keysD ds).map fun ks => valK kvs ks
      | _ => none
    | _ => none
  | _ => none
theorem dGet_rel {d y : D} {v w : V} {o : Option D} (S : Sim K mg β st H) (rd : VR K β H d v) (ry : VR K β H y w) (h : dGet d y st = some o) : ∃ a ov, v = .ref a ∧ DGet H a w ov ∧ OptR K β H o ov := by
  cases d with
  | loc n =>
    obtain ⟨a, h1, rfl⟩ := VR.loc.mp rd
    obtain ⟨o', h2, h3⟩ := S.at h1
    simp only [dGet, h2] at h
    cases o' with
    | dK kvs =>
      obtain ⟨ks, h4, h5⟩ := h3
      obtain ⟨k, hk, rfl⟩ := Option.map_eq_some_iff.mp h
      have hw := keyD_rel hk ry
      subst hw
      exact ⟨a, valV ks k, rfl, DGet.k h4, h5.val⟩
    | dT kvs =>
      obtain ⟨ks, h4, h5⟩ := h3
      cases y with
      | tup ds =>
        obtain ⟨k, hk, rfl⟩ := Option.map_eq_some_iff.mp h
        obtain ⟨b, vs, rfl, h6, h7⟩ := VR.tup.mp ry
        rw [keysD_rel hk h7] at h6
        exact ⟨a, valV ks k, rfl, DGet.t h4 h6, h5.val⟩
      | _ => cases h
    | _ => cases h
  | _ => cases h
end
def inX (neg : Bool) (x y : D) (st : Sto) : R D := match dGet y x st with
  | some o => .ok (.bl (neg != o.isSome)) st
  | none => inD neg x y st
def ixX (x y : D) (st : Sto) : R D := match dGet x y st with
  | some (some d) => .ok d st
  | some none => .bad
  | none => ixD x y st
/-- d[k] = v, or a list's place -/
def setX (o i v : D) (st : Sto) : Option Sto := match o with
  | .loc n => match st[n]? with
    | some (.dK kvs) => match keyD i with
      | some k => if kvs.length < 16777216 then some (st.set n (.dK (putKD kvs k v))) else none
      | none => none
    | some (.dT kvs) => match i with
      | .tup ds => match keysD ds with
        | some ks => if kvs.length < 16777216 then some (st.set n (.dT (putKD kvs ks v))) else none
        | none => none
      | _ => none
    | _ => setL o i v st
  | _ => none
def lenX (ds : List D) (st : Sto) : R D := match ds with
  | [.loc n] => match st[n]? with
    | some (.dK kvs) => .ok (.int kvs.length) st
    | some (.dT kvs) => .ok (.int kvs.length) st
    | _ => lenF ds st
  | _ => lenF ds st
def kDT0 : KE := fun _ st => .ok (.loc st.length) (st ++ [.dT []])
section
variable {X : Cx} {W : WX} {pos : Pos}
theorem q_dictT : PE X (.Dict [] [] pos) (lift X.K X.mg W kDT0) :=
  PE.imp pe_dnewT fun σ H Q ⟨β, ρ, st, S, E, p⟩ => fun q hq => p _ _ (ext_new hq) (S.push hq ⟨[], upd_same, .nil⟩) _ (VR.loc.mpr ⟨q, by rw [← S.len]; simp, rfl⟩)
theorem opt_some {K : PySem.W.Frag} {β : List Addr} {H : Hp} {o : Option D} {ov : Option V} (h : OptR K β H o ov) : ov.isSome = o.isSome := by
  cases o with
  | some z => obtain ⟨u, rfl, _⟩ := h; rfl
  | none => rw [show ov = none from h]; rfl
theorem o_inX (hu : X.A.units + 65 < cLine) : OpS X W (compareOp .In) (inX false) := fun pins s σ H x y v u Q β st dx dy I rx ry S vx vy p => by
  unfold inX at p
  split at p
  · rename_i o ho
    obtain ⟨a, ov, rfl, g, hz⟩ := dGet_rel S vy vx ho
    cases (show u = Value.ref a from ry)
    exact d_in (by omega) I g rx fun s2 I2 => ⟨.bl o.isSome, H, I2, by rw [opt_some hz]; exact rfl, by have := fin p S (VR.bl.mpr rfl); simpa using this⟩
  · exact o_in hu pins s σ H x y v u Q β st dx dy I rx ry S vx vy p
theorem o_notInX (hu : X.A.units + 65 < cLine) : OpS X W (compareOp .NotIn) (inX true) := fun pins s σ H x y v u Q β st dx dy I rx ry S vx vy p => by
  unfold inX at p
  split at p
  · rename_i o ho
    obtain ⟨a, ov, rfl, g, hz⟩ := dGet_rel S vy vx ho
    cases (show u = Value.ref a from ry)
    exact d_notIn (by omega) I g rx fun s2 I2 => ⟨.bl (!o.isSome), H, I2, by rw [opt_some hz]; exact rfl, by have := fin p S (VR.bl.mpr rfl); simpa using this⟩
  · exact o_notIn hu pins s σ H x y v u Q β st dx dy I rx ry S vx vy p
theorem ix_dct (hu : X.A.units + 1 < cLine) : IxR X (fun x y H Q => ∃ a v, x = V.ref a ∧ DGet H a y (some v) ∧ Q v H) := by
  intro value slice pins s σ H x y v u Q I rx ry ⟨a, w, ex, g, q⟩ hs
  subst ex
  cases (show v = Value.ref a from rx)
  have hT := dict_typeIs I g
  unfold subscriptTail
  refine wpAny_bind ?_
  rw [getitemInPython_of_ne hT.not_modules]
  refine wpAny_bind (wpAny_specialOf hT PySem.F.slot_dict_getitem.lookup ?_)
  have go : wpAny (model X.prog X.w) X.A (subscripted slice false (.ref a) u) (fun z s3 => wpAny (model X.prog X.w) X.A (letTemporaryGo value (.ref a) z >>= fun _ => pure z) (EP X pins σ Q) X.xe s3) X.xe s := by
    rw [hs]
    exact wpAny_operating (wpAny_mono (d_getItem hu I g ry fun z s2 I2 rz => (⟨w, H, I2, rz, q⟩ : EP X pins σ Q z s2)) (fun z s3 h3 => wpAny_bind (wpAny_letTemporaryGo (wpAny_pure h3))) fun _ _ h3 => h3)
  first
    | exact wpAny_pure (wpAny_bind go)
    | exact wpAny_bind (wpAny_pure (wpAny_bind go))
    | exact wpAny_bind go
theorem x_ixX (hu : X.A.units + 1 < cLine) : IxS X W ixX := fun value slice pins s σ H x y v u Q β st dx dy I rx ry S vx vy p hs => by
  unfold ixX at p
  split at p
  · rename_i d ho
    obtain ⟨a, ov, rfl, g, z, rfl, rz⟩ := dGet_rel S vx vy ho
    exact ix_dct hu value slice pins s σ H _ y v u Q I rx ry ⟨a, z, rfl, g, fin p S rz⟩ hs
  · exact p.elim
  · exact x_ix value slice pins s σ H x y v u Q β st dx dy I rx ry S vx vy p hs
theorem c_lenX : CallS X W (.builtin "len") lenX := fun pins s σ H xs us Q β st ds I r S rd p => by
  unfold lenX at p
  split at p
  · rename_i n
    obtain ⟨v, rfl, r1⟩ := rd.one
    obtain ⟨a, h1, rfl⟩ := VR.loc.mp r1
    obtain ⟨o, h2, h3⟩ := S.at h1
    simp only [h2] at p
    cases o with
    | dK kvs =>
      obtain ⟨ks, h4, h5⟩ := h3
      obtain ⟨u, rfl, ru⟩ := vals1 r
      cases (show u = Value.ref a from ru)
      exact d_len I (.inl h4) fun t s2 I2 => ⟨.int ks.length, H, I2, ⟨t, rfl⟩, fin p S (VR.int.mpr (by rw [h5.length]))⟩
    | dT kvs =>
      obtain ⟨ks, h4, h5⟩ := h3
      exact call_len_dT pins s σ H _ us Q I r ⟨a, ks, rfl, h4, fin p S (VR.int.mpr (by rw [h5.length]))⟩
    | lst _ => exact f_len pins s σ H _ us Q β st _ I r S rd p
    | ins _ _ => exact f_len pins s σ H _ us Q β st _ I r S rd p
    | tb _ _ => exact f_len pins s σ H _ us Q β st _ I r S rd p
  · exact f_len pins s σ H _ us Q β st _ I r S rd p
def rSetX : TSet := fun o i v H Q => rSetD o i v H Q ∨ rSetL o i v H Q
theorem set_any (hu : X.A.units + 1 < cLine) : PSet X rSetX := by
  intro pins s σ H o i v ov iv u Q I ro ri rv h
  rcases h with h | h
  · exact set_dict hu pins s σ H o i v ov iv u Q I ro ri rv h
  · exact set_list pins s σ H o i v ov iv u Q I ro ri rv h
theorem setX_ok : SetS X rSetX setX := by
  intro H o i v β st dx di dv st' Q S r1 r2 r3 h k
  unfold setX at h
  cases dx with
  | loc n =>
    obtain ⟨a, h1, rfl⟩ := VR.loc.mp r1
    obtain ⟨u, h2, h3⟩ := S.at h1
    simp only [h2] at h
    cases u with
    | dK kvs =>
      obtain ⟨ks, h4, h5⟩ := h3
      simp only at h
      split at h
      · rename_i key hk
        split at h
        · rename_i hz
          cases h
          rw [keyD_rel hk r2]
          have ex := S.ext (o := .dK (L2.putK ks key v)) h1
          exact .inl ⟨a, _, rfl, DPut.k h4 (by rw [← h5.length]; have := sizeLine_eq; omega), k _ ex (S.set h1 ⟨_, upd_same, (KR.putK h5 r3).mono0 ex.toExt0⟩)⟩
        · cases h
      · cases h
    | dT kvs =>
      obtain ⟨ks, h4, h5⟩ := h3
      cases di with
      | tup ds =>
        simp only at h
        split at h
        · rename_i key hk
          split at h
          · rename_i hz
            cases h
            obtain ⟨b, vs, rfl, h6, h7⟩ := VR.tup.mp r2
            rw [keysD_rel hk h7] at h6
            have ex := S.ext (o := .dT (L2.putK ks key v)) h1
            exact .inl ⟨a, _, rfl, DPut.t h4 h6 (by rw [← h5.length]; have := sizeLine_eq; omega), k _ ex (S.set h1 ⟨_, upd_same, (KR.putK h5 r3).mono0 ex.toExt0⟩)⟩
          · cases h
        · cases h
      | _ => cases h
    | lst _ => exact .inr (setL_ok H _ i v β st _ di dv st' Q S r1 r2 r3 h k)
    | ins _ _ => exact .inr (setL_ok H _ i v β st _ di dv st' Q S r1 r2 r3 h k)
    | tb _ _ => exact .inr (setL_ok H _ i v β st _ di dv st' Q S r1 r2 r3 h k)
  | _ => cases h
end
end L3

/-! Lists of tuples of ints and texts, sorted. -/
namespace L3
open PySem PySem.Spec PyProof.Rows L2
/-! ### the order of keys -/
def ltKey : Key → Key → Bool
  | .inl i, .inl j => decide (i < j)
  | .inl _, .inr _ => true
  | .inr _, .inl _ => false
  | .inr x, .inr y => decide (x.cps.toList < y.cps.toList)
def lexK : List Key → List Key → Bool
  | [], [] => false
  | [], _ :: _ => true
  | _ :: _, [] => false
  | a :: as, b :: bs => if a = b then lexK as bs else ltKey a b
theorem ltKey_irr (a : Key) : ltKey a a = false := by
  cases a with
  | inl i => simp [ltKey]
  | inr x => simp [ltKey, List.lt_irrefl]
theorem str_ext {x y : Str} (h : x.cps.toList = y.cps.toList) : x = y := by
  obtain ⟨⟨a⟩⟩ := x
  obtain ⟨⟨b⟩⟩ := y
  simp only at h
  subst h
  rfl
theorem ltKey_tr {a b c : Key} (h1 : ltKey a b = true) (h2 : ltKey b c = true) : ltKey a c = true := by
  cases a <;> cases b <;> cases c <;> simp only [ltKey, decide_eq_true_eq, Bool.false_eq_true] at h1 h2 ⊢
  · omega
  · exact List.lt_trans h1 h2
theorem ltKey_tri {a b : Key} (h : a ≠ b) : ltKey a b = true ∨ ltKey b a = true := by
  cases a with
  | inl i => cases b with
    | inl j =>
      simp only [ltKey, decide_eq_true_eq]
      have : i ≠ j := fun e => h (by rw [e])
      omega
    | inr y => exact .inl rfl
  | inr x => cases b with
    | inl j => exact .inr rfl
    | inr y =>
      simp only [ltKey, decide_eq_true_eq]
      have hne : x.cps.toList ≠ y.cps.toList := fun e => h (by rw [str_ext e])
      rcases Std.lt_trichotomy x.cps.toList y.cps.toList with q | q | q
      · exact .inl q
      · exact absurd q hne
      · exact .inr q
theorem lexK_irr : ∀ a : List Key, lexK a a = false
  | [] => rfl
  | a :: as => by unfold lexK; rw [if_pos rfl]; exact lexK_irr as
theorem lexK_tr : ∀ {a b c : List Key}, lexK a b = true → lexK b c = true → lexK a c = true
  | [], [], _, h, _ => by cases h
  | _ :: _, [], _, h, _ => by cases h
  | [], _ :: _, [], _, h => by cases h
  | [], _ :: _, _ :: _, _, _ => rfl
  | _ :: _, _ :: _, [], _, h => by cases h
  | a :: as, b :: bs, c :: cs, h1, h2 => by
    unfold lexK at h1 h2 ⊢
    by_cases e1 : a = b
    · subst e1
      rw [if_pos rfl] at h1
      by_cases e2 : a = c
      · rw [if_pos e2] at h2 ⊢; exact lexK_tr h1 h2
      · rw [if_neg e2] at h2 ⊢; exact h2
    · rw [if_neg e1] at h1
      by_cases e2 : b = c
      · subst e2; rw [if_neg e1]; exact h1
      · rw [if_neg e2] at h2
        have h3 := ltKey_tr h1 h2
        have e3 : a ≠ c := fun e => by subst e; rw [ltKey_irr] at h3; cases h3
        rw [if_neg e3]; exact h3
theorem lexK_tri : ∀ {a b : List Key}, a ≠ b → lexK a b = true ∨ lexK b a = true
  | [], [], h => absurd rfl h
  | [], _ :: _, _ => .inl rfl
  | _ :: _, [], _ => .inr rfl
  | a :: as, b :: bs, h => by
    unfold lexK
    by_cases e : a = b
    · subst e
      rw [if_pos rfl, if_pos rfl]
      exact lexK_tri fun e => h (by rw [e])
    · rw [if_neg e, if_neg (Ne.symm e)]
      exact ltKey_tri e
theorem swo_row {α : Type} (k : α → List Key) : SrtO.Swo fun x y : α => lexK (k x) (k y) := by
  refine ⟨fun x y h => ?_, fun x y z h1 h2 => ?_⟩
  · cases h2 : lexK (k y) (k x) with
    | false => rfl
    | true => have := lexK_tr h h2; rw [lexK_irr] at this; cases this
  · cases h3 : lexK (k z) (k x) with
    | false => rfl
    | true =>
      by_cases e : k x = k y
      · rw [e, h2] at h3; cases h3
      · rcases lexK_tri e with q | q
        · rw [lexK_tr h3 q] at h2; cases h2
        · rw [h1] at q; cases q
/-- the same kinds at the same places -/
def sameK : List Key → List Key → Bool
  | [], [] => true
  | .inl _ :: as, .inl _ :: bs => sameK as bs
  | .inr _ :: as, .inr _ :: bs => sameK as bs
  | _, _ => false
def RowAt (h : Heap) (v : Value) (ks : List Key) : Prop := ∃ a o its n, v = .ref a ∧ h.get? a = some o ∧ o.cls = .type "tuple" ∧ o.data = .seq its n ∧ Vals (ks.map kV) its.toList
theorem RowAt.keeps {h h' : Heap} {v : Value} {ks : List Key} (p : RowAt h v ks) (k : ∀ b o, h.get? b = some o → o.cls = .type "tuple" → h'.get? b = some o) : RowAt h' v ks := by
  obtain ⟨a, o, its, n, e, ho, hc, hd, hv⟩ := p
  exact ⟨a, o, its, n, e, k a o ho hc, hc, hd, hv⟩
section
variable {prog : Program} {w : World} {A : Around} {E : Value → Shared → Prop} {s : Shared} {Q : Bool → Shared → Prop}
theorem lt1_int (c : Bool) {p q : Int} {t u : Tok} (h : Q (decide (p < q)) s) : wpAny (model prog w) A (oneLt' c (.int p t) (.int q u)) Q E s := by
  cases c with
  | true => exact oneLt_int h
  | false => exact PySem.W.kat_one _ _ (PyProof.Rows.lt_int (Q := PySem.W.BoolBack Q) h)
theorem lt1_str (c : Bool) {p q : Str} {t u : Tok} (h : Q (decide (p.cps.toList < q.cps.toList)) s) : wpAny (model prog w) A (oneLt' c (.str p t) (.str q u)) Q E s := by
  cases c with
  | true => exact oneLt_str h
  | false => exact PySem.W.kat_one _ _ (PyProof.Rows.lt_str (Q := PySem.W.BoolBack Q) h)
theorem vals_cons {x : V} {xs : List V} {us : List Value} (h : Vals (x :: xs) us) : ∃ u r, us = u :: r ∧ RelV x u ∧ Vals xs r := by
  cases h with
  | cons a b => exact ⟨_, _, rfl, a, b⟩
theorem lex_rows : ∀ (ks js : List Key) (us ws : List Value) (i : Nat), Vals (ks.map kV) us → Vals (js.map kV) ws → sameK ks js = true → Q (lexK ks js) s → PySem.W.KatLex prog w A true false Q (us.zip ws) i s
  | [], [], us, ws, i, r, q, _, h => by
    cases r
    cases q
    exact PySem.W.kat_nil h
  | .inl x :: ks, .inl y :: js, us, ws, i, r, q, hs, h => by
    rw [List.map_cons] at r q
    obtain ⟨v, us, rfl, r1, r2⟩ := vals_cons r
    obtain ⟨z, ws, rfl, q1, q2⟩ := vals_cons q
    obtain ⟨t, rfl⟩ := (show ∃ t, v = Value.int x t from r1)
    obtain ⟨u, rfl⟩ := (show ∃ t, z = Value.int y t from q1)
    rw [List.zip_cons_cons]
    refine PySem.W.kat_cons (SeqAt.EqAt.int_int x t y u prog w _ _ (PySem.W.kat_go (fun e => ?_) fun e => ?_))
    · have e : x = y := by simpa using e
      subst e
      refine PySem.W.kat_yes (lex_rows ks js _ _ (i + 1) r2 q2 hs ?_)
      unfold lexK at h
      rwa [if_pos rfl] at h
    · have e : x ≠ y := by simpa using e
      refine PySem.W.kat_no (lt1_int _ ?_)
      unfold lexK at h
      rwa [if_neg (fun z => e (Sum.inl.inj z))] at h
  | .inr x :: ks, .inr y :: js, us, ws, i, r, q, hs, h => by
    rw [List.map_cons] at r q
    obtain ⟨v, us, rfl, r1, r2⟩ := vals_cons r
    obtain ⟨z, ws, rfl, q1, q2⟩ := vals_cons q
    obtain ⟨t, rfl⟩ := (show ∃ t, v = Value.str x t from r1)
    obtain ⟨u, rfl⟩ := (show ∃ t, z = Value.str y t from q1)
    rw [List.zip_cons_cons]
    refine PySem.W.kat_cons (SeqAt.EqAt.str_str x t y u prog w _ _ (PySem.W.kat_go (fun e => ?_) fun e => ?_))
    · have e : x = y := by simpa using e
      subst e
      refine PySem.W.kat_yes (lex_rows ks js _ _ (i + 1) r2 q2 hs ?_)
      unfold lexK at h
      rwa [if_pos rfl] at h
    · have e : x ≠ y := by simpa using e
      refine PySem.W.kat_no (lt1_str _ ?_)
      unfold lexK at h
      rwa [if_neg (fun z => e (Sum.inr.inj z))] at h
  | [], _ :: _, _, _, _, _, _, hs, _ => by cases hs
  | .inl _ :: _, [], _, _, _, _, _, hs, _ => by cases hs
  | .inr _ :: _, [], _, _, _, _, _, hs, _ => by cases hs
  | .inl _ :: _, .inr _ :: _, _, _, _, _, _, hs, _ => by cases hs
  | .inr _ :: _, .inl _ :: _, _, _, _, _, _, hs, _ => by cases hs
theorem same_len : ∀ {a b : List Key}, sameK a b = true → a.length = b.length
  | [], [], _ => rfl
  | .inl _ :: as, .inl _ :: bs, h => by rw [List.length_cons, List.length_cons, same_len (a := as) (b := bs) h]
  | .inr _ :: as, .inr _ :: bs, h => by rw [List.length_cons, List.length_cons, same_len (a := as) (b := bs) h]
  | [], _ :: _, h => by cases h
  | .inl _ :: _, [], h => by cases h
  | .inr _ :: _, [], h => by cases h
  | .inl _ :: _, .inr _ :: _, h => by cases h
  | .inr _ :: _, .inl _ :: _, h => by cases h
theorem row_cmp {vs : List Value} {k : Value → List Key} (hp : ∀ v ∈ vs, RowAt s.heap v (k v)) (hs : ∀ v ∈ vs, ∀ u ∈ vs, sameK (k v) (k u) = true) : SrtO.Cmp prog w A s (tuples' true) (fun p => p.1 ∈ vs) (SrtO.lt2 fun v u => lexK (k v) (k u)) := by
  intro p q hm hm'
  obtain ⟨a, o, its, n, e, ho, hc, hd, hv⟩ := hp _ hm
  obtain ⟨a', o', its', n', e', ho', hc', hd', hv'⟩ := hp _ hm'
  have hsm := hs _ hm _ hm'
  show wpAny (model prog w) A (keyLt' (tuples' true) p.1 q.1) (fun r s' => s' = s ∧ r = lexK (k p.1) (k q.1)) (fun _ _ => False) s
  have hl : its.size = its'.size := by
    have h1 := hv.length
    have h2 := hv'.length
    have h3 := same_len hsm
    simp only [List.length_map, Array.length_toList] at h1 h2
    omega
  rw [e, e']
  refine PySem.W.kat_lt ho hd ho' hd' ?_
  rw [decide_eq_false (p := its.size < its'.size) (by omega), ← e, ← e']
  exact lex_rows _ _ _ _ 0 hv hv' hsm ⟨rfl, rfl⟩
end
end L3

/-! sorted(..) of a list or a tuple of such tuples. -/
namespace L3
open PySem PySem.Spec PyProof.Rows L2
section
open PyProof.Rows Srt SrtO in
theorem sorted_seq {prog : Program} {w : World} {A : Around} {E : Value → Shared → Prop} {s : Shared} {l : Addr} {T : String} {o : Obj} {n : Nat} {vs : List Value} {ltv : Value → Value → Bool} {Q : Value → Shared → Prop} (hT : T = "list" ∨ T = "tuple") (ho : s.heap.get? l = some o) (hc : o.cls = .type T) (hd : o.data = .seq vs.toArray n)
    (O : SrtO.Swo ltv) (hz : vs.length ≤ sizeLine)
    (hS : 2 ≤ vs.length → ∀ (h1 : Heap) (a : Addr), h1.get? a = some (seqObj "list" vs.toArray 0) → (∀ b x, s.heap.get? b = some x → b ≠ a ∧ h1.get? b = some x) → SrtO.SortableO prog w A.in1.in1 { s with heap := h1 } a vs ltv)
    (h : ∀ (h1 h' : Heap) (d : Addr) (out : List Value), SrtO.Srtd ltv out → SrtO.Stb ltv out vs → (∀ b x, s.heap.get? b = some x → h1.get? b = some x) → (∀ b x, h1.get? b = some x → h'.get? b = some x) → h1.objs.size ≤ d → (∃ n, h'.get? d = some (seqObj "list" out.toArray n)) → Q (.ref d) { s with heap := h' }) :
    wpAny (model prog w) A (call (.builtin "sorted") [.ref l]) Q E s := by
  refine Calls.call_function_entry kind_sorted plain_sorted entry_sorted (args_sorted1 _) ?_
  unfold Builtin.«sorted»
  refine wpAny_bind (m := checkCount "sorted" 1 1 _) (wpAny_pure (wpAny_bind (wpAny_collect_seq l hT ho hc hd (fun h1 hk => ?_) (by rw [List.size_toArray]; exact hz))))
  have el : vs.toArray.toList = vs := by simp
  rw [el]
  refine wpAny_bind (wpAny_newList ?_ hz)
  have hoL : (h1.push (seqObj "list" vs.toArray 0)).get? h1.objs.size = some (seqObj "list" vs.toArray 0) := Heap.get?_push_size _ rfl
  have keep1 : ∀ b x, h1.get? b = some x → b ≠ h1.objs.size ∧ (h1.push (seqObj "list" vs.toArray 0)).get? b = some x := fun b x q =>
    ⟨Nat.ne_of_lt (Heap.lt_size q), Heap.get?_push_of_some _ q⟩
  refine wpAny_bind (wpAny_holding (wpAny_call_entry slot_list_sort ⟨_, hoL, rfl⟩ entry_list_sort (list_sort_ord O hoL hz (fun h2 => hS h2 _ _ hoL fun b x q => keep1 b x (hk b x q)) fun out hs hb => ⟨_, rfl, ?_⟩) (args_list_sort _)))
  refine wpAny_pure ⟨_, rfl, h h1 _ _ out hs hb hk (fun b x q => ?_) (Nat.le_refl _) (sortedHeap_at hoL)⟩
  rw [sortedHeap_old (keep1 b x q).1 (Heap.lt_size (keep1 b x q).2)]
  exact (keep1 b x q).2
end

/-! ### as a rule -/
theorem keys_inj : ∀ {ks js : List Key} {us : List Value}, Vals (ks.map kV) us → Vals (js.map kV) us → ks = js
  | [], [], _, _, _ => rfl
  | [], _ :: _, us, h, g => by cases h; cases g
  | _ :: _, [], us, h, g => by cases g; cases h
  | k :: ks, j :: js, us, h, g => by
    rw [List.map_cons] at h g
    obtain ⟨u, r, rfl, h1, h2⟩ := vals_cons h
    obtain ⟨u', r', e, g1, g2⟩ := vals_cons g
    cases e
    rw [keys_inj h2 g2]
    cases k with
    | inl i =>
      obtain ⟨t, rfl⟩ := (show ∃ t, u = Value.int i t from h1)
      cases j with
      | inl j => obtain ⟨t', e⟩ := (show ∃ t', Value.int i t = Value.int j t' from g1); cases e; rfl
      | inr j => obtain ⟨t', e⟩ := (show ∃ t', Value.int i t = Value.str j t' from g1); cases e
    | inr i =>
      obtain ⟨t, rfl⟩ := (show ∃ t, u = Value.str i t from h1)
      cases j with
      | inl j => obtain ⟨t', e⟩ := (show ∃ t', Value.str i t = Value.int j t' from g1); cases e
      | inr j => obtain ⟨t', e⟩ := (show ∃ t', Value.str i t = Value.str j t' from g1); cases e; rfl
theorem row_uniq {h : Heap} {v : Value} {ks js : List Key} (p : RowAt h v ks) (q : RowAt h v js) : ks = js := by
  obtain ⟨a, o, its, n, rfl, h1, _, h2, h3⟩ := p
  obtain ⟨a', o', its', n', e, g1, _, g2, g3⟩ := q
  cases e
  rw [h1] at g1
  cases g1
  rw [h2] at g2
  cases g2
  exact keys_inj h3 g3
theorem firsts3 {h : Heap} {k : Value → List Key} : ∀ {vs : List Value}, (∀ v ∈ vs, RowAt h v (k v) ∧ k v ≠ []) → ∃ fs : List Value, PySem.W.KatTups h vs fs ∧ fs.length = vs.length ∧ ∀ f ∈ fs, ∃ v ∈ vs, ∃ key rest, k v = key :: rest ∧ RelV (kV key) f
  | [], _ => ⟨[], PySem.W.KatTups.nil, rfl, fun f hm => nomatch hm⟩
  | v :: vs, hp => by
    obtain ⟨fs, h1, h2, h3⟩ := firsts3 (vs := vs) fun u hu => hp u (List.mem_cons_of_mem _ hu)
    obtain ⟨⟨a, o, its, n, e, ho, hc, hd, hv⟩, hne⟩ := hp v List.mem_cons_self
    obtain ⟨key, rest, hk⟩ := List.exists_cons_of_ne_nil hne
    rw [hk, List.map_cons] at hv
    obtain ⟨f, r, hl, r1, r2⟩ := vals_cons hv
    have h0 : its[0]? = some f := by rw [← Array.getElem?_toList, hl]; rfl
    subst e
    refine ⟨f :: fs, PySem.W.KatTups.cons ho hc hd h0 h1, by simp [h2], fun g hg => ?_⟩
    rcases List.mem_cons.mp hg with rfl | hg
    · exact ⟨_, List.mem_cons_self, key, rest, hk, r1⟩
    · obtain ⟨u, hu, q⟩ := h3 g hg
      exact ⟨u, List.mem_cons_of_mem _ hu, q⟩
theorem row_sortable {prog : Program} {w : World} {A : Around} {s : Shared} {a : Addr} {vs : List Value} {k : Value → List Key} (h0 : 0 < vs.length) (hp : ∀ v ∈ vs, RowAt s.heap v (k v) ∧ k v ≠ []) (hs : ∀ v ∈ vs, ∀ u ∈ vs, sameK (k v) (k u) = true) (ha : ∀ o, s.heap.get? a = some o → o.cls ≠ .type "tuple") :
    SrtO.SortableO prog w A s a vs fun v u => lexK (k v) (k u) := by
  intro h' keep
  have hp' : ∀ v ∈ vs, RowAt h' v (k v) ∧ k v ≠ [] := fun v hm => ⟨(hp v hm).1.keeps fun b o e c => keep b o (fun z => by subst z; exact ha o e c) e, (hp v hm).2⟩
  obtain ⟨fs, h1, h2, h3⟩ := firsts3 hp'
  obtain ⟨v0, hv0⟩ : ∃ v, v ∈ vs := ⟨vs[0], List.getElem_mem h0⟩
  obtain ⟨key0, rest0, hk0⟩ := List.exists_cons_of_ne_nil (hp v0 hv0).2
  refine ⟨tuples' true, fun Q E hq => ?_, row_cmp (fun v hm => (hp' v hm).1) hs⟩
  cases key0 with
  | inl i0 =>
    refine PySem.W.kat_kind (T := .type "int") h1 (by omega) (fun f hm => ?_) (by rfl) ?_
    · obtain ⟨v, hv, key, rest, hk, r⟩ := h3 f hm
      have hsm := hs v0 hv0 v hv
      rw [hk0, hk] at hsm
      cases key with
      | inl i => obtain ⟨t, rfl⟩ := (show ∃ t, f = Value.int i t from r); exact PySem.W.Looks.now
      | inr i => cases hsm
    · rw [show (Value.type "int" != Value.type "tuple") = true by first | decide +kernel | rfl]
      exact hq
  | inr i0 =>
    refine PySem.W.kat_kind (T := .type "str") h1 (by omega) (fun f hm => ?_) (by rfl) ?_
    · obtain ⟨v, hv, key, rest, hk, r⟩ := h3 f hm
      have hsm := hs v0 hv0 v hv
      rw [hk0, hk] at hsm
      cases key with
      | inl i => cases hsm
      | inr i => obtain ⟨t, rfl⟩ := (show ∃ t, f = Value.str i t from r); exact PySem.W.Looks.now
    · rw [show (Value.type "str" != Value.type "tuple") = true by first | decide +kernel | rfl]
      exact hq
def keyOf (d : D) : List Key := match d with
  | .tup xs => (keysD xs).getD []
  | _ => []
def rowOk (d : D) : Bool := match d with
  | .tup xs => (keysD xs).isSome && !xs.isEmpty
  | _ => false
def leRow (a b : D) : Bool := !lexK (keyOf b) (keyOf a)
def sortD (xs : List D) : List D := xs.mergeSort leRow
def sortRows (xs : List D) (st : Sto) : R D := if (xs.all rowOk && (xs.all fun x => xs.all fun y => sameK (keyOf x) (keyOf y))) = true then .ok (.loc st.length) (st ++ [.lst (sortD xs)]) else .bad
def sortF (ds : List D) (st : Sto) : R D := match ds with
  | [.tup xs] => sortRows xs st
  | [.frz xs] => sortRows xs st
  | [.loc n] => match st[n]? with
    | some (.lst xs) => sortRows xs st
    | _ => .bad
  | _ => .bad
theorem leRow_tr (a b c : D) (h1 : leRow a b = true) (h2 : leRow b c = true) : leRow a c = true := by
  have O := swo_row (α := D) keyOf
  unfold leRow at h1 h2 ⊢
  rw [Bool.not_eq_true'] at h1 h2 ⊢
  exact O.tr a b c h1 h2
theorem leRow_tot (a b : D) : (leRow a b || leRow b a) = true := by
  have O := swo_row (α := D) keyOf
  unfold leRow
  cases h : lexK (keyOf b) (keyOf a) with
  | false => rfl
  | true => rw [show lexK (keyOf a) (keyOf b) = false from O.asym b a h]; rfl
theorem keysD_inj : ∀ {xs ys : List D} {ks : List Key}, keysD xs = some ks → keysD ys = some ks → xs = ys
  | [], [], _, _, _ => rfl
  | [], y :: ys, ks, h, g => by
    cases h
    obtain ⟨k, hk, g⟩ := Option.bind_eq_some_iff.mp g
    obtain ⟨l, hl, g⟩ := Option.bind_eq_some_iff.mp g
    cases g
  | x :: xs, [], ks, h, g => by
    cases g
    obtain ⟨k, hk, h⟩ := Option.bind_eq_some_iff.mp h
    obtain ⟨l, hl, h⟩ := Option.bind_eq_some_iff.mp h
    cases h
  | x :: xs, y :: ys, ks, h, g => by
    obtain ⟨k, hk, h⟩ := Option.bind_eq_some_iff.mp h
    obtain ⟨l, hl, h⟩ := Option.bind_eq_some_iff.mp h
    cases h
    obtain ⟨k', hk', g⟩ := Option.bind_eq_some_iff.mp g
    obtain ⟨l', hl', g⟩ := Option.bind_eq_some_iff.mp g
    cases g
    rw [keysD_inj hl hl']
    congr 1
    cases x <;> cases y <;> first | (cases hk; cases hk'; rfl) | (cases hk; done) | (cases hk'; done) | (cases hk; cases hk')
theorem row_keys {d : D} (h : rowOk d = true) : ∃ xs ks, d = .tup xs ∧ keysD xs = some ks ∧ keyOf d = ks ∧ ks ≠ [] := by
  cases d with
  | tup xs =>
    obtain ⟨h1, h2⟩ := Bool.and_eq_true_iff.mp h
    obtain ⟨ks, hk⟩ := Option.isSome_iff_exists.mp h1
    refine ⟨xs, ks, rfl, hk, by simp only [keyOf, hk, Option.getD_some], fun e => ?_⟩
    subst e
    cases xs with
    | nil => simp at h2
    | cons x xs =>
      obtain ⟨k, _, h⟩ := Option.bind_eq_some_iff.mp hk
      obtain ⟨l, _, h⟩ := Option.bind_eq_some_iff.mp h
      cases h
  | _ => cases h
theorem row_eq {a b : D} (ha : rowOk a = true) (hb : rowOk b = true) (h1 : leRow a b = true) (h2 : leRow b a = true) : a = b := by
  obtain ⟨xs, ks, rfl, e1, e2, _⟩ := row_keys ha
  obtain ⟨ys, js, rfl, g1, g2, _⟩ := row_keys hb
  unfold leRow at h1 h2
  rw [e2, g2, Bool.not_eq_true'] at h1 h2
  by_cases e : ks = js
  · subst e; rw [keysD_inj e1 g1]
  · rcases lexK_tri e with q | q
    · rw [q] at h2; cases h2
    · rw [q] at h1; cases h1
theorem perm_pair {α γ : Type} {F : α → γ → Prop} {us out : List γ} (h : out.Perm us) : ∀ {xs : List α}, Paired F xs us → ∃ ys, ys.Perm xs ∧ Paired F ys out := by
  induction h with
  | nil => intro xs p; cases p; exact ⟨[], .nil, .nil⟩
  | cons u _ ih =>
    intro xs p
    cases p with
    | cons a p => obtain ⟨ys, q1, q2⟩ := ih p; exact ⟨_ :: ys, q1.cons _, .cons a q2⟩
  | swap u v l =>
    intro xs p
    cases p with
    | @cons a1 _ as _ a p => cases p with
      | @cons b1 _ bs _ b p => exact ⟨b1 :: a1 :: bs, List.Perm.swap _ _ _, .cons b (.cons a p)⟩
  | trans _ _ ih1 ih2 =>
    intro xs p
    obtain ⟨ys, q1, q2⟩ := ih2 p
    obtain ⟨zs, q3, q4⟩ := ih1 q2
    exact ⟨zs, q3.trans q1, q4⟩
theorem paired_mem {α γ : Type} {F : α → γ → Prop} {xs : List α} {us : List γ} (p : Paired F xs us) : (∀ u ∈ us, ∃ x ∈ xs, F x u) ∧ ∀ x ∈ xs, ∃ u ∈ us, F x u := by
  induction p with
  | nil => exact ⟨fun u h => (by cases h), fun u h => (by cases h)⟩
  | cons a p ih =>
    refine ⟨fun u h => ?_, fun u h => ?_⟩
    · rcases List.mem_cons.mp h with rfl | h
      · exact ⟨_, List.mem_cons_self, a⟩
      · obtain ⟨x, hx, q⟩ := ih.1 u h; exact ⟨x, List.mem_cons_of_mem _ hx, q⟩
    · rcases List.mem_cons.mp h with rfl | h
      · exact ⟨_, List.mem_cons_self, a⟩
      · obtain ⟨x, hx, q⟩ := ih.2 u h; exact ⟨x, List.mem_cons_of_mem _ hx, q⟩
theorem paired_pw {α γ : Type} {F : α → γ → Prop} {R : γ → γ → Prop} {R' : α → α → Prop} (hR : ∀ x y u v, F x u → F y v → R u v → R' x y) {xs : List α} {us : List γ} (p : Paired F xs us) (h : us.Pairwise R) : xs.Pairwise R' := by
  induction p with
  | nil => exact .nil
  | @cons x u xs us a p ih =>
    cases h with
    | cons h1 h2 =>
      refine .cons (fun y hy => ?_) (ih h2)
      obtain ⟨v, hv, q⟩ := (paired_mem p).2 y hy
      exact hR x y u v a q (h1 v hv)
theorem pair3 {K : PySem.W.Frag} {β : List Addr} {H : Hp} : ∀ {xs : List D} {vs : List V} {us : List Value}, VRs K β H xs vs → Vals vs us → Paired (fun d u => ∃ v, VR K β H d v ∧ RelV v u) xs us
  | [], vs, us, r, q => by rw [VRs.nil.mp r] at q; cases q; exact .nil
  | d :: ds, vs, us, r, q => by
    obtain ⟨v, r', rfl, h1, h2⟩ := VRs.cons.mp r
    obtain ⟨u, us, rfl, q1, q2⟩ := vals_cons q
    exact .cons ⟨v, h1, q1⟩ (pair3 h2 q2)
section
variable {X : Cx} {W : WX}
theorem sort_one {pins : List (Addr × Obj)} {s : Shared} {σ : L2.St} {H : Hp} {Q : VK} {β : List Addr} {st : Sto} {xs : List D} {vs : List V} {us : List Value} {a : Addr} {T : String} {o : Obj} {n : Nat} (I : Inv X pins σ H s) (S : Sim X.K X.mg β st H) (hT : T = "list" ∨ T = "tuple") (ho : s.heap.get? a = some o) (hc : o.cls = .type T) (hd : o.data = .seq us.toArray n)
    (rv : Vals vs us) (rd : VRs X.K β H xs vs) (hz : us.length ≤ sizeLine) (p : PostA X.K X.mg W σ (okE X.K Q) β H (sortRows xs st)) : wpAny (model X.prog X.w) X.A (call (.builtin "sorted") [.ref a]) (EP X pins σ Q) X.xe s := by
  unfold sortRows at p
  split at p
  · rename_i hb
    obtain ⟨hb1, hb2⟩ := Bool.and_eq_true_iff.mp hb
    have P := pair3 rd rv
    obtain ⟨k, hk⟩ : ∃ k : Value → List Key, ∀ u ks, RowAt s.heap u ks → k u = ks := by
      classical
      refine ⟨fun u => if h : ∃ ks, RowAt s.heap u ks then h.choose else [], fun u ks h => ?_⟩
      simp only
      rw [dif_pos ⟨ks, h⟩]
      exact row_uniq (Exists.choose_spec (⟨ks, h⟩ : ∃ ks, RowAt s.heap u ks)) h
    have row : ∀ d u, d ∈ xs → (∃ v, VR X.K β H d v ∧ RelV v u) → RowAt s.heap u (keyOf d) ∧ keyOf d ≠ [] ∧ ∃ t, u = Value.ref t := fun d u hdm ⟨v, r1, r2⟩ => by
      obtain ⟨ds, ks, rfl, e1, e2, e3⟩ := row_keys (List.all_eq_true.mp hb1 d hdm)
      obtain ⟨t, ws, rfl, h1, h2⟩ := VR.tup.mp r1
      have hu : u = Value.ref t := r2
      subst hu
      rw [e2]
      refine ⟨?_, e3, t, rfl⟩
      rw [keysD_rel e1 h2] at h1
      obtain ⟨_, its, r, x, g1, g2, m, g3⟩ := (show ObjOk X.prog X.w H s.heap t (.tup (ks.map kV)) from I.hok t _ h1)
      exact ⟨t, x, its.toArray, m, rfl, g1, g2, g3, by simpa using r⟩
    have rk : ∀ u ∈ us, ∃ d ∈ xs, (∃ v, VR X.K β H d v ∧ RelV v u) ∧ k u = keyOf d ∧ RowAt s.heap u (k u) ∧ k u ≠ [] := fun u hu => by
      obtain ⟨d, hdm, q⟩ := (paired_mem P).1 u hu
      obtain ⟨g1, g2, _⟩ := row d u hdm q
      have e := hk u _ g1
      exact ⟨d, hdm, q, e, by rw [e]; exact g1, by rw [e]; exact g2⟩
    refine sorted_seq hT ho hc hd (swo_row k) hz (fun h2 h1 b hb' keep => row_sortable (s := { s with heap := h1 }) (by omega) (fun u hu => ?_) (fun u hu v hv => ?_) fun x e => ?_) fun h1 h' d out hs hp kp1 kp2 hd' hn => ?_
    · obtain ⟨_, _, _, _, g1, g2⟩ := rk u hu
      exact ⟨g1.keeps fun b x e _ => (keep b x e).2, g2⟩
    · obtain ⟨d1, m1, _, e1, _, _⟩ := rk u hu
      obtain ⟨d2, m2, _, e2, _, _⟩ := rk v hv
      rw [e1, e2]
      exact List.all_eq_true.mp (List.all_eq_true.mp hb2 d1 m1) d2 m2
    · have e' : some x = some (seqObj "list" us.toArray 0) := e.symm.trans hb'
      cases e'
      intro c
      exact absurd (Value.type.inj c) (by decide)
    · obtain ⟨ys, q1, q2⟩ := perm_pair hp.perm P
      have hys : ∀ y ∈ ys, y ∈ xs := fun y hy => q1.mem_iff.mp hy
      have e : ys = sortD xs := by
        refine (q1.trans (List.mergeSort_perm xs leRow).symm).eq_of_pairwise (le := fun a b => leRow a b = true) (fun a b ha hb' h1 h2 => ?_) ?_ ?_
        · exact row_eq (List.all_eq_true.mp hb1 a (hys a ha)) (List.all_eq_true.mp hb1 b ((List.mergeSort_perm xs leRow).mem_iff.mp hb')) h1 h2
        · have q3 : Paired (fun d u => d ∈ xs ∧ ∃ v, VR X.K β H d v ∧ RelV v u) ys out := by
            clear hs hp hn
            have : ∀ {l : List D} {m : List Value}, (∀ y ∈ l, y ∈ xs) → Paired (fun d u => ∃ v, VR X.K β H d v ∧ RelV v u) l m → Paired (fun d u => d ∈ xs ∧ ∃ v, VR X.K β H d v ∧ RelV v u) l m := fun hl z => by
              induction z with
              | nil => exact .nil
              | cons c z ih => exact .cons ⟨hl _ List.mem_cons_self, c⟩ (ih fun y hy => hl y (List.mem_cons_of_mem _ hy))
            exact this hys q2
          refine paired_pw (fun x y u v ⟨hx, hu⟩ ⟨hy, hv⟩ h => ?_) q3 hs
          obtain ⟨g1, _⟩ := row x u hx hu
          obtain ⟨g2, _⟩ := row y v hy hv
          have h : lexK (k v) (k u) = false := h
          rw [hk u _ g1, hk v _ g2] at h
          unfold leRow
          rw [h]
          rfl
        · exact List.pairwise_mergeSort leRow_tr leRow_tot xs
      subst e
      have h3 : ∀ u ∈ out, ∃ t, u = Value.ref t := fun u hu => by
        obtain ⟨y, hy, q⟩ := (paired_mem q2).1 u hu
        exact (row y u (hys y hy) q).2.2
      obtain ⟨m, hn⟩ := hn
      have I1 := I.kept (t' := s.toks) kp1
      have hf : H d = none := I1.hok.fresh hd'
      have hl : (out.map backV).length ≤ sizeLine := by rw [List.length_map, hp.len]; exact hz
      have J : Inv X pins σ (upd H d (.lst (out.map backV))) { s with heap := h', toks := s.toks } := I1.laid (t' := s.toks) kp2 hd' ⟨hl, out, m, vals_back h3, hn⟩
      have ex := ext_new (β := β) (o := .lst (out.map backV)) hf
      have vr : ∀ {l : List D} {r : List Value}, Paired (fun d u => ∃ v, VR X.K β H d v ∧ RelV v u) l r → (∀ u ∈ r, ∃ t, u = Value.ref t) → VRs X.K β H l (r.map backV) := fun z => by
        induction z with
        | nil => intro _; exact VRs.nil.mpr rfl
        | @cons d1 u1 l r c z ih =>
          intro hr
          obtain ⟨v1, c1, c2⟩ := c
          obtain ⟨t, rfl⟩ := hr _ List.mem_cons_self
          have ev : v1 = V.ref t := by
            cases v1 <;> first | (cases c2; rfl) | (cases c2; done) | (obtain ⟨_, c2⟩ := c2; cases c2)
          rw [List.map_cons]
          exact VRs.cons.mpr ⟨_, _, rfl, by rw [← show v1 = backV (.ref t) from ev]; exact c1, ih fun u hu => hr u (List.mem_cons_of_mem _ hu)⟩
      exact ⟨.ref d, _, J, rfl, p _ _ ex (S.push hf ⟨_, upd_same, VRs.mono ex _ _ (vr q2 h3)⟩) _ (VR.loc.mpr ⟨d, by rw [← S.len]; simp, rfl⟩)⟩
  · exact p.elim
end
section
variable {X : Cx} {W : WX}
theorem c_sorted : CallS X W (.builtin "sorted") sortF := fun pins s σ H xs us Q β st ds I r S rd p => by
  unfold sortF at p
  have lst : ∀ {a : Addr} {ys : List D} {ws : List V} {z : List Value}, SqL X.K H a ws → VRs X.K β H ys ws → Vals [V.ref a] z → PostA X.K X.mg W σ (okE X.K Q) β H (sortRows ys st) → wpAny (model X.prog X.w) X.A (call (.builtin "sorted") z) (EP X pins σ Q) X.xe s := fun h1 h2 rz q => by
    obtain ⟨u, rfl, ru⟩ := vals1 rz
    cases ru
    obtain ⟨its, rv, hl, hz⟩ := I.list h1
    obtain ⟨o, ho, hc, n, hd⟩ := hl.isList
    exact sort_one I S (.inl rfl) ho hc hd rv h2 (by rw [← rv.length]; exact hz) q
  split at p
  · obtain ⟨v, rfl, r1⟩ := rd.one
    obtain ⟨a, ws, rfl, h1, h2⟩ := VR.tupS r1
    obtain ⟨u, rfl, ru⟩ := vals1 r
    cases ru
    obtain ⟨its, rv, ⟨o, ho, hc, n, hd⟩, hz⟩ := I.tuple h1
    exact sort_one I S (.inr rfl) ho hc hd rv h2 (by rw [← rv.length]; exact hz) p
  · obtain ⟨v, rfl, r1⟩ := rd.one
    obtain ⟨a, ws, rfl, h1, h2⟩ := VR.frz.mp r1
    exact lst h1.sq h2 r p
  · obtain ⟨v, rfl, r1⟩ := rd.one
    obtain ⟨a, h1, rfl⟩ := VR.loc.mp r1
    obtain ⟨o, h2, h3⟩ := S.at h1
    simp only [h2] at p
    cases o with
    | lst ys => obtain ⟨ws, h4, h5⟩ := h3; exact lst (SqL.of h4) h5 r p
    | _ => exact p.elim
  · exact p.elim
theorem bt_sorted : bootBuiltins "sorted" = some (.builtin "sorted") := by decide +kernel
end
end L3

/-! Ranges with a step. -/
namespace L3
open PySem PySem.Spec PyProof.Rows L2
def stepIts (lo c : Int) (n : Nat) : List D := (List.range n).map fun (i : Nat) => .int (lo + (i : Nat) * c)
def rngN (i j c : Int) : Nat := (Builtin.Range.rangeSize i j c).toNat
def rngF3 (ds : List D) (st : Sto) : R Src := match ds with
  | [.int i, .int j, .int c] => if c ≠ 0 ∧ c.natAbs < 1073741824 ∧ Builtin.Range.small i j c = true ∧ Builtin.Range.rangeSize i j c = rngN i j c then .ok (.its (stepIts i c (rngN i j c))) st else .bad
  | _ => .bad
def iR3 (a : KA) : KI := fun ρ st => (a ρ st).bind rngF3
section
variable {X : Cx} {W : WX} {tg a b c : Expr} {pos p : Pos} {kas : KA}
theorem step_ok {K : PySem.W.Frag} {mg : Str → Option Value} {β : List Addr} {H : Hp} (lo d : Int) (n : Nat) : ItOk K mg β H (.its (stepIts lo d n)) (Itc lo d n) := fun i β2 H2 st2 e2 S2 => by
  have key : ∀ j : Nat, (stepIts lo d n)[j]? = if j < n then some (.int (lo + (j : Nat) * d)) else none := fun j => by
    unfold stepIts
    rw [List.getElem?_map]
    by_cases h : j < n
    · rw [List.getElem?_range h, if_pos h]; rfl
    · rw [if_neg h, List.getElem?_eq_none (by simpa using h)]; rfl
  refine ⟨fun x hx => ?_, fun hx => ?_⟩
  · have hx' := Option.some.inj hx
    rw [key] at hx'
    by_cases h : i < n
    · rw [if_pos h] at hx'
      cases hx'
      exact ⟨h, fun y H' ⟨eH, hy⟩ => by subst eH hy; exact ⟨β2, Ext.refl _ _, S2, VR.int.mpr rfl⟩⟩
    · rw [if_neg h] at hx'; cases hx'
  · have hx' := Option.some.inj hx
    rw [key] at hx'
    by_cases h : i < n
    · rw [if_pos h] at hx'; cases hx'
    · exact Nat.le_of_not_lt h
theorem i_rng3 (hg : Gl X "range") (hm : X.mg "range" = none) (ha : PA X [a, b, c] (liftA X.K X.mg W kas)) (hs : starEach [a, b, c] X.env = (false, eval a X.env) :: starEach [b, c] X.env := by rfl) (hpl : (backTo pos (starEach [b, c] X.env)).any (·.1) = false := by rfl) :
    PI X tg (.Call (.Name "range" p) [a, b, c] [] pos) (liftI X.K X.mg W (iR3 kas)) :=
  PI.imp (pi_range3 hg hm ha hs hpl) fun σ H R ⟨β, ρ, st, S, E, q⟩ => liftA.bind S E q fun ds vs β1 H1 st1 e1 S1 E1 r1 p1 => by
    unfold rngF3 at p1
    split at p1
    · rename_i i j d
      split at p1
      · rename_i hb
        obtain ⟨v1, r1', rfl, h1, h2⟩ := VRs.cons.mp r1
        obtain ⟨v2, r2', rfl, h3, h4⟩ := VRs.cons.mp h2
        obtain ⟨v3, r3', rfl, h5, h6⟩ := VRs.cons.mp h4
        cases VRs.nil.mp h6
        cases VR.int.mp h1
        cases VR.int.mp h3
        cases VR.int.mp h5
        exact ⟨i, j, d, rngN i j d, rfl, hb, p1 β1 H1 (Ext.refl _ _) S1 _ (step_ok i d _)⟩
      · exact p1.elim
    · exact p1.elim
end
/-- a, b, .. = a list of that length -/
def sAsgL (n : Nat) (g : KGs) (a : KE) : KS := fun ρ st => (a ρ st).toS ρ fun d st1 => match d with
  | .loc m => match st1[m]? with
    | some (.lst ds) => if ds.length = n then (match g ds ρ with
      | some ρ' => .nx ρ' st1
      | none => .bad) else .bad
    | _ => .bad
  | _ => .bad
section
variable {X : Cx} {W : WX} {e : Expr} {pos : Pos} {ka : KE}
theorem s_asgL {es : List Expr} {is : List Nat} {g : KGs} {k n : Nat} {tpos : Pos} (hc : X.calm = true) (hg : TGts X es is g) (he : PE X e (lift X.K X.mg W ka)) (hn : (assignEach es X.env).length = n := by rfl) (hst : (assignEach es X.env).findIdx? (·.1) = none := by rfl)
    (hs : swapsWithSole [.Tuple es k tpos] e pos.line X.env = pure false := by rfl) (hw : swappedStores [.Tuple es k tpos] e X.env = pure none := by rfl) (h1 : (assignEach [.Tuple es k tpos] X.env).map (·.2) = [assign (.Tuple es k tpos) X.env] := by rfl) :
    PS X (.Assign [.Tuple es k tpos] e pos) (liftS X.K X.mg W (sAsgL n g ka)) := by
  obtain ⟨t, p, kk⟩ := hg.ex
  refine PS.imp (ps_asg he (pg_unl hc p hn hst) hs hw h1) fun Dn σ H ⟨β, ρ, st, S, E, p⟩ => lift.toS S E p fun d v β1 H1 st1 e1 S1 E1 r1 p1 => ?_
  cases d with
  | loc m =>
    obtain ⟨q, h2, rfl⟩ := VR.loc.mp r1
    obtain ⟨o, h3, h4⟩ := S1.at h2
    simp only [h3] at p1
    cases o with
    | lst ds =>
      obtain ⟨us, h5, h6⟩ := h4
      simp only at p1
      split at p1
      · rename_i hl
        split at p1
        · rename_i ρ' hg
          exact ⟨q, us, rfl, SqL.of h5, by rw [h6.length]; exact hl, kk ds us σ H1 ρ β1 _ ρ' h6 E1 hg fun σ' E' _ => p1 β1 H1 σ' (Ext.refl _ _) S1 E'⟩
        · exact p1.elim
      · exact p1.elim
    | _ => exact p1.elim
  | _ => exact p1.elim
end
end L3

/-! min and max of a list or tuple of such tuples. -/
namespace L3
open PySem PySem.Spec PyProof.Rows L2
def pk : Key → PyData
  | .inl i => .int i
  | .inr x => .str x
def rowP (d : D) : PyData := .tuple ((keyOf d).map pk)
theorem pk_blt (a b : Key) (hs : sameK [a] [b] = true) (r t : List (Int ⊕ List Nat)) : lexLt itemOrd (PySem.W.keyToks (pk a) ++ r) (PySem.W.keyToks (pk b) ++ t) = if a = b then lexLt itemOrd r t else ltKey a b := by
  cases a with
  | inl i => cases b with
    | inl j =>
      show (decide (i < j) || (!decide (j < i) && lexLt itemOrd r t)) = _
      by_cases e : i = j
      · subst e; simp
      · rw [if_neg (fun z => e (Sum.inl.inj z))]
        show _ = decide (i < j)
        by_cases h : i < j
        · simp [h]
        · have : j < i := by omega
          simp [h, this]
    | inr y => cases hs
  | inr x => cases b with
    | inl j => cases hs
    | inr y =>
      show (decide (x.cps.toList < y.cps.toList) || (!decide (y.cps.toList < x.cps.toList) && lexLt itemOrd r t)) = _
      by_cases e : x = y
      · subst e; simp [List.lt_irrefl]
      · rw [if_neg (fun z => e (Sum.inr.inj z))]
        show _ = decide (x.cps.toList < y.cps.toList)
        rcases ltKey_tri (a := .inr x) (b := .inr y) (fun z => e (Sum.inr.inj z)) with h | h
        · have h : x.cps.toList < y.cps.toList := of_decide_eq_true h
          simp [h]
        · have h : y.cps.toList < x.cps.toList := of_decide_eq_true h
          have h2 : ¬ x.cps.toList < y.cps.toList := fun z => List.lt_irrefl _ (List.lt_trans h z)
          simp [h, h2]
theorem lexLt_one (r t : List (Int ⊕ List Nat)) : lexLt itemOrd (.inl 1 :: r) (.inl 1 :: t) = lexLt itemOrd r t := by
  show (decide ((1 : Int) < 1) || (!decide ((1 : Int) < 1) && lexLt itemOrd r t)) = _
  simp
theorem row_lt : ∀ ks js : List Key, sameK ks js = true → lexLt itemOrd (PySem.W.keyToksAll (ks.map pk)) (PySem.W.keyToksAll (js.map pk)) = lexK ks js
  | [], [], _ => by
    simp only [List.map_nil, PySem.W.keyToksAll, lexK]
    show (decide ((0 : Int) < 0) || (!decide ((0 : Int) < 0) && false)) = false
    simp
  | a :: ks, b :: js, h => by
    have h1 : sameK [a] [b] = true := by cases a <;> cases b <;> first | rfl | cases h
    have h2 : sameK ks js = true := by cases a <;> cases b <;> first | exact h | cases h
    simp only [List.map_cons, PySem.W.keyToksAll]
    rw [lexLt_one, pk_blt a b h1, row_lt ks js h2]
    conv => rhs; unfold lexK
  | [], _ :: _, h => by cases h
  | .inl _ :: _, [], h => by cases h
  | .inr _ :: _, [], h => by cases h
theorem row_dataLt {a b : D} (h : sameK (keyOf a) (keyOf b) = true) : PySem.W.dataLt (rowP a) (rowP b) = lexK (keyOf a) (keyOf b) := by
  unfold PySem.W.dataLt rowP
  simp only [PySem.W.keyToks]
  exact row_lt _ _ h
theorem row_alike : ∀ ks js : List Key, sameK ks js = true → PySem.W.alikeAll (ks.map pk) (js.map pk) = true
  | [], [], _ => by simp [PySem.W.alikeAll]
  | .inl _ :: ks, .inl _ :: js, h => by
    simp only [List.map_cons, pk, PySem.W.alikeAll, PySem.W.alike, Bool.true_and]
    exact row_alike ks js h
  | .inr _ :: ks, .inr _ :: js, h => by
    simp only [List.map_cons, pk, PySem.W.alikeAll, PySem.W.alike, Bool.true_and]
    exact row_alike ks js h
  | [], _ :: _, h => by cases h
  | .inl _ :: _, [], h => by cases h
  | .inr _ :: _, [], h => by cases h
  | .inl _ :: _, .inr _ :: _, h => by cases h
  | .inr _ :: _, .inl _ :: _, h => by cases h
def minRow (x : D) (xs : List D) : D := xs.foldl (fun a y => if lexK (keyOf y) (keyOf a) = true then y else a) x
def maxRow (x : D) (xs : List D) : D := xs.foldl (fun a y => if lexK (keyOf a) (keyOf y) = true then y else a) x
theorem minRow_mem : ∀ (xs : List D) (x : D), minRow x xs ∈ x :: xs
  | [], x => List.mem_cons_self
  | y :: ys, x => by
    unfold minRow
    rw [List.foldl_cons]
    have h := minRow_mem ys (if lexK (keyOf y) (keyOf x) = true then y else x)
    unfold minRow at h
    rcases List.mem_cons.mp h with h | h
    · rw [h]
      split
      · exact List.mem_cons_of_mem _ List.mem_cons_self
      · exact List.mem_cons_self
    · exact List.mem_cons_of_mem _ (List.mem_cons_of_mem _ h)
theorem maxRow_mem : ∀ (xs : List D) (x : D), maxRow x xs ∈ x :: xs
  | [], x => List.mem_cons_self
  | y :: ys, x => by
    unfold maxRow
    rw [List.foldl_cons]
    have h := maxRow_mem ys (if lexK (keyOf x) (keyOf y) = true then y else x)
    unfold maxRow at h
    rcases List.mem_cons.mp h with h | h
    · rw [h]
      split
      · exact List.mem_cons_of_mem _ List.mem_cons_self
      · exact List.mem_cons_self
    · exact List.mem_cons_of_mem _ (List.mem_cons_of_mem _ h)
theorem minRow_data : ∀ (xs : List D) (x : D), (∀ a ∈ x :: xs, ∀ b ∈ x :: xs, sameK (keyOf a) (keyOf b) = true) → PySem.W.minD (rowP x) (xs.map rowP) = rowP (minRow x xs)
  | [], x, _ => rfl
  | y :: ys, x, h => by
    have hy := h y (by simp) x (by simp)
    unfold PySem.W.minD minRow
    rw [List.map_cons, List.foldl_cons, List.foldl_cons, row_dataLt hy]
    have h2 : ∀ z ∈ [x, y], (∀ a ∈ z :: ys, ∀ b ∈ z :: ys, sameK (keyOf a) (keyOf b) = true) := fun z hz a ha b hb => by
      refine h a ?_ b ?_
      · rcases List.mem_cons.mp ha with rfl | ha
        · simp only [List.mem_cons, List.not_mem_nil, or_false] at hz; rcases hz with rfl | rfl <;> simp
        · exact List.mem_cons_of_mem _ (List.mem_cons_of_mem _ ha)
      · rcases List.mem_cons.mp hb with rfl | hb
        · simp only [List.mem_cons, List.not_mem_nil, or_false] at hz; rcases hz with rfl | rfl <;> simp
        · exact List.mem_cons_of_mem _ (List.mem_cons_of_mem _ hb)
    cases lexK (keyOf y) (keyOf x) with
    | true => exact minRow_data ys y (h2 y (by simp))
    | false => exact minRow_data ys x (h2 x (by simp))
theorem maxRow_data : ∀ (xs : List D) (x : D), (∀ a ∈ x :: xs, ∀ b ∈ x :: xs, sameK (keyOf a) (keyOf b) = true) → PySem.W.maxD (rowP x) (xs.map rowP) = rowP (maxRow x xs)
  | [], x, _ => rfl
  | y :: ys, x, h => by
    have hy := h x (by simp) y (by simp)
    unfold PySem.W.maxD maxRow
    rw [List.map_cons, List.foldl_cons, List.foldl_cons, row_dataLt hy]
    have h2 : ∀ z ∈ [x, y], (∀ a ∈ z :: ys, ∀ b ∈ z :: ys, sameK (keyOf a) (keyOf b) = true) := fun z hz a ha b hb => by
      refine h a ?_ b ?_
      · rcases List.mem_cons.mp ha with rfl | ha
        · simp only [List.mem_cons, List.not_mem_nil, or_false] at hz; rcases hz with rfl | rfl <;> simp
        · exact List.mem_cons_of_mem _ (List.mem_cons_of_mem _ ha)
      · rcases List.mem_cons.mp hb with rfl | hb
        · simp only [List.mem_cons, List.not_mem_nil, or_false] at hz; rcases hz with rfl | rfl <;> simp
        · exact List.mem_cons_of_mem _ (List.mem_cons_of_mem _ hb)
    cases lexK (keyOf x) (keyOf y) with
    | true => exact maxRow_data ys y (h2 y (by simp))
    | false => exact maxRow_data ys x (h2 x (by simp))

def mmRows (mx : Bool) (xs : List D) (st : Sto) : R D := match xs with
  | [] => .bad
  | x :: r => if (xs.all rowOk && (xs.all fun x => xs.all fun y => sameK (keyOf x) (keyOf y))) = true then .ok (if mx = true then maxRow x r else minRow x r) st else .bad
def mmX (mx : Bool) (f : List D → Sto → R D) (ds : List D) (st : Sto) : R D := match ds with
  | [.tup xs] => mmRows mx xs st
  | [.frz xs] => mmRows mx xs st
  | [.loc n] => match st[n]? with
    | some (.lst xs) => mmRows mx xs st
    | _ => .bad
  | ds => f ds st
section
variable {X : Cx} {W : WX}
theorem row_pd {st : Sto} {n : Nat} : ∀ {xs : List D} {ks : List Key}, keysD xs = some ks → allO (xs.map (pd st n)) = some (ks.map pk)
  | [], ks, h => by cases h; rfl
  | x :: xs, ks, h => by
    obtain ⟨k, hk, h⟩ := Option.bind_eq_some_iff.mp h
    obtain ⟨l, hl, h⟩ := Option.bind_eq_some_iff.mp h
    cases h
    have e : pd st n x = some (pk k) := by cases x <;> first | (cases hk; cases n <;> rfl) | cases hk
    show (pd st n x).bind (fun a => (allO (xs.map (pd st n))).bind fun l => some (a :: l)) = _
    rw [e, row_pd hl]
    rfl
theorem row_dp {K : PySem.W.Frag} {mg : Str → Option Value} {β : List Addr} {st : Sto} {H : Hp} {d : D} {v : V} (S : Sim K mg β st H) (h : rowOk d = true) (r : VR K β H d v) : Dp K H v (rowP d) := by
  refine pd_ok S 1 d v (rowP d) ?_ r
  obtain ⟨xs, ks, rfl, e1, e2, _⟩ := row_keys h
  show (allO (xs.map (pd st 0))).bind (fun l => some (.tuple l)) = some (rowP (.tup xs))
  rw [row_pd e1]
  unfold rowP
  rw [e2]
  rfl
theorem rows_dp {K : PySem.W.Frag} {mg : Str → Option Value} {β : List Addr} {st : Sto} {H : Hp} (S : Sim K mg β st H) : ∀ {xs : List D} {vs : List V}, (∀ d ∈ xs, rowOk d = true) → VRs K β H xs vs → DpAll K H vs (xs.map rowP)
  | [], vs, _, r => by rw [VRs.nil.mp r]; exact .nil
  | d :: ds, vs, h, r => by
    obtain ⟨v, u, rfl, r1, r2⟩ := VRs.cons.mp r
    exact .cons (row_dp S (h d List.mem_cons_self) r1) (rows_dp S (fun e he => h e (List.mem_cons_of_mem _ he)) r2)
theorem pk_plain : ∀ ks : List Key, PyData.plainAll (ks.map pk) = true
  | [] => by simp [PyData.plainAll]
  | .inl _ :: ks => by simp [PyData.plainAll, PyData.plain, pk, pk_plain ks]
  | .inr _ :: ks => by simp [PyData.plainAll, PyData.plain, pk, pk_plain ks]
theorem pk_depth : ∀ ks : List Key, PyData.depthAll (ks.map pk) ≤ 1
  | [] => by simp [PyData.depthAll]
  | .inl _ :: ks => by have := pk_depth ks; simp only [List.map_cons, PyData.depthAll, PyData.depth, pk]; omega
  | .inr _ :: ks => by have := pk_depth ks; simp only [List.map_cons, PyData.depthAll, PyData.depth, pk]; omega
theorem rowP_depth : ∀ xs : List D, PyData.depthAll (xs.map rowP) ≤ 3
  | [] => by simp [PyData.depthAll]
  | d :: ds => by
    have h1 := rowP_depth ds
    have h2 := pk_depth (keyOf d)
    simp only [List.map_cons, PyData.depthAll, rowP, PyData.depth]
    omega
theorem pk_inj : ∀ {ks js : List Key}, ks.map pk = js.map pk → ks = js
  | [], [], _ => rfl
  | [], _ :: _, h => by cases h
  | _ :: _, [], h => by cases h
  | k :: ks, j :: js, h => by
    rw [List.map_cons, List.map_cons] at h
    obtain ⟨h1, h2⟩ := List.cons.inj h
    rw [pk_inj h2]
    cases k <;> cases j <;> first | (cases h1; rfl) | cases h1
theorem rowP_inj {a b : D} (ha : rowOk a = true) (hb : rowOk b = true) (h : rowP a = rowP b) : a = b := by
  obtain ⟨xs, ks, rfl, e1, e2, _⟩ := row_keys ha
  obtain ⟨ys, js, rfl, g1, g2, _⟩ := row_keys hb
  unfold rowP at h
  rw [e2, g2] at h
  have e : ks = js := pk_inj (by injection h)
  subst e
  rw [keysD_inj e1 g1]
theorem mm_one {pins : List (Addr × Obj)} {s : Shared} {σ : L2.St} {H : Hp} {Q : VK} {β : List Addr} {st : Sto} {xs : List D} {vs : List V} {us : List Value} {a : Addr} {mx : Bool} (hc : X.calm = true) (hu : X.A.units + 64 < cLine) (I : Inv X pins σ H s) (S : Sim X.K X.mg β st H)
    (hl : s.heap.IsList a us.toArray ∨ s.heap.IsTuple a us.toArray) (rv : Vals vs us) (rd : VRs X.K β H xs vs) (p : PostA X.K X.mg W σ (okE X.K Q) β H (mmRows mx xs st)) : wpAny (model X.prog X.w) X.A (call (.builtin (if mx = true then "max" else "min")) [.ref a]) (EP X pins σ Q) X.xe s := by
  cases xs with
  | nil => exact p.elim
  | cons x r =>
    unfold mmRows at p
    simp only at p
    split at p
    · rename_i hb
      obtain ⟨hb1, hb2⟩ := Bool.and_eq_true_iff.mp hb
      have ok : ∀ d ∈ x :: r, rowOk d = true := fun d hd => List.all_eq_true.mp hb1 d hd
      have same : ∀ d ∈ x :: r, ∀ e ∈ x :: r, sameK (keyOf d) (keyOf e) = true := fun d hd e he => List.all_eq_true.mp (List.all_eq_true.mp hb2 d hd) e he
      obtain ⟨as, hr⟩ := Dp.readsAll I _ _ _ (rows_dp S ok rd) rv
      rw [List.map_cons] at hr
      have hr' : ReadsAll s.heap us.toArray.toList (rowP x :: r.map rowP) as := by simpa using hr
      have al : PySem.W.AlikeAll (rowP x :: r.map rowP) := by
        refine ⟨fun q hq t ht => ?_, fun q hq => ?_⟩
        · rw [← List.map_cons] at hq ht
          obtain ⟨d, hd, rfl⟩ := List.mem_map.mp hq
          obtain ⟨e, he, rfl⟩ := List.mem_map.mp ht
          unfold rowP
          simp only [PySem.W.alike]
          exact row_alike _ _ (same d hd e he)
        · rw [← List.map_cons] at hq
          obtain ⟨d, hd, rfl⟩ := List.mem_map.mp hq
          exact fun z => by cases z
      have dep := rowP_depth (x :: r)
      rw [List.map_cons] at dep
      have P := pair3 rd rv
      have fin2 : ∀ (y : D) (i : Nat) (u : Value) (h' : Heap) (tk : Nat) (bs : List Addr), y ∈ x :: r → us.toArray[i]? = some u → Reads h' u (rowP y) bs → (∀ b o, s.heap.get? b = some o → h'.get? b = some o) → (∀ v, VR X.K β H y v → Q v H) → EP X pins σ Q u { s with heap := h', toks := tk } := fun y i u h' tk bs hy hi hrd kp hq => by
        have hi' : u ∈ us := by
          have := List.mem_of_getElem? (show us[i]? = some u by simpa using hi)
          exact this
        obtain ⟨d, hd, v, r1, r2⟩ := (paired_mem P).1 u hi'
        obtain ⟨cs, hr3⟩ := Dp.reads I _ _ _ (row_dp S (ok d hd) r1) r2
        have e := SeqAt.plain_unique _ _ _ _ _ (show PyData.plain (rowP d) = true by unfold rowP; simp only [PyData.plain]; exact pk_plain _) (PySem.W.reads_keeps kp hr3) hrd
        have e2 := rowP_inj (ok d hd) (ok y hy) e
        subst e2
        exact ⟨v, H, I.kept (t' := tk) kp, r2, hq v r1⟩
      cases mx with
      | true =>
        have hq : ∀ v, VR X.K β H (maxRow x r) v → Q v H := fun v rr => p β H (Ext.refl _ _) S v rr
        rcases hl with hl | hl
        · exact PySem.W.max_list_data (I.ok.hd hc) hl hr' al (by omega) fun i u h' tk bs hi hrd kp => fin2 (maxRow x r) i u h' tk bs (maxRow_mem r x) hi (by rw [← maxRow_data r x same]; exact hrd) kp hq
        · exact PySem.W.max_tuple_data (I.ok.hd hc) hl hr' al (by omega) fun i u h' tk bs hi hrd kp => fin2 (maxRow x r) i u h' tk bs (maxRow_mem r x) hi (by rw [← maxRow_data r x same]; exact hrd) kp hq
      | false =>
        have hq : ∀ v, VR X.K β H (minRow x r) v → Q v H := fun v rr => p β H (Ext.refl _ _) S v rr
        rcases hl with hl | hl
        · exact PySem.W.min_list_data (I.ok.hd hc) hl hr' al (by omega) fun i u h' tk bs hi hrd kp => fin2 (minRow x r) i u h' tk bs (minRow_mem r x) hi (by rw [← minRow_data r x same]; exact hrd) kp hq
        · exact PySem.W.min_tuple_data (I.ok.hd hc) hl hr' al (by omega) fun i u h' tk bs hi hrd kp => fin2 (minRow x r) i u h' tk bs (minRow_mem r x) hi (by rw [← minRow_data r x same]; exact hrd) kp hq
    · exact p.elim
end
section
variable {X : Cx} {W : WX}
theorem c_mm {mx : Bool} {f : List D → Sto → R D} (hc : X.calm = true) (hu : X.A.units + 64 < cLine) (hf : CallS X W (.builtin (if mx = true then "max" else "min")) f) : CallS X W (.builtin (if mx = true then "max" else "min")) (mmX mx f) := fun pins s σ H xs us Q β st ds I r S rd p => by
  have lst : ∀ {a : Addr} {ys : List D} {ws : List V} {z : List Value}, SqL X.K H a ws → VRs X.K β H ys ws → Vals [V.ref a] z → PostA X.K X.mg W σ (okE X.K Q) β H (mmRows mx ys st) → wpAny (model X.prog X.w) X.A (call (.builtin (if mx = true then "max" else "min")) z) (EP X pins σ Q) X.xe s := fun h1 h2 rz q => by
    obtain ⟨u, rfl, ru⟩ := vals1 rz
    cases ru
    obtain ⟨its, rv, hl, hz⟩ := I.list h1
    exact mm_one hc hu I S (.inl hl.isList) rv h2 q
  unfold mmX at p
  split at p
  · obtain ⟨v, rfl, r1⟩ := rd.one
    obtain ⟨a, ws, rfl, h1, h2⟩ := VR.tupS r1
    obtain ⟨u, rfl, ru⟩ := vals1 r
    cases ru
    obtain ⟨its, rv, ⟨o, ho, hc', n, hd⟩, hz⟩ := I.tuple h1
    exact mm_one hc hu I S (.inr ⟨o, ho, hc', n, hd⟩) rv h2 p
  · obtain ⟨v, rfl, r1⟩ := rd.one
    obtain ⟨a, ws, rfl, h1, h2⟩ := VR.frz.mp r1
    exact lst h1.sq h2 r p
  · obtain ⟨v, rfl, r1⟩ := rd.one
    obtain ⟨a, h1, rfl⟩ := VR.loc.mp r1
    obtain ⟨o, h2, h3⟩ := S.at h1
    simp only [h2] at p
    cases o with
    | lst ys => obtain ⟨ws, h4, h5⟩ := h3; exact lst (SqL.of h4) h5 r p
    | _ => exact p.elim
  · exact hf pins s σ H xs us Q β st ds I r S rd p
theorem c_min (hc : X.calm = true) (hu : X.A.units + 64 < cLine) : CallS X W (.builtin "min") (mmX false minF) := c_mm (mx := false) hc hu (f_min hc)
theorem c_max (hc : X.calm = true) (hu : X.A.units + 64 < cLine) : CallS X W (.builtin "max") (mmX true maxF) := c_mm (mx := true) hc hu (f_max hc)
end
end L3

/-! The looks, from the library's own. -/
namespace L3
open PySem PySem.Spec PyProof.Rows L2
section
open PySem.W
variable {K : Frag} {C f p g : Addr} {m n : Str}
theorem clB_of (h1 : plainGet K C Str.empty = true) (h2 : hasDictIn K C = true) (h3 : plainOver K C = true) (h4 : findIn K (.ref C) "__setattr__" = some (some (.builtin "object.__setattr__"))) : clB K C = true := by
  unfold clB; rw [h1, h2, h3, h4]; simp
theorem naB_nil : naB K C [] = true := rfl
theorem naB_cons {ns : List Str} (h : findIn K (.ref C) n = some none) (t : naB K C ns = true) : naB K C (n :: ns) = true := by
  unfold naB at t ⊢
  rw [List.all_cons, t, h]; simp
theorem mkB_of (h1 : makesIn K C = true) (h2 : findIn K (.ref C) "__init__" = some (some (.ref f))) (h3 : isFn K (.ref f) = true) (h4 : keepIn K (.ref C) = true) : mkB K C f = true := by
  unfold mkB; rw [h1, h2, h3, h4]; simp
theorem mtB_of (h2 : findIn K (.ref C) m = some (some (.ref f))) (h3 : isFn K (.ref f) = true) (h4 : keepIn K (.ref f) = true) : mtB K C m f = true := by
  unfold mtB; rw [h2, h3, h4]; simp
theorem prB_of {r : List Value} (h1 : findIn K (.ref C) n = some (some (.ref p))) (h2 : specialIn K (.ref p) "__get__" = some (some (.builtin "property.__get__"))) (h3 : takesIn K (.ref p) = some true) (h4 : recIn K p "property" = some (.ref g :: r)) : prB K C n p g = true := by
  unfold prB; rw [h1, h2, h3, h4]; simp
theorem cmB_of {mc : Value} {r : List Value} (h1 : readsIn K C mc = true) (h2 : specialIn K (.ref C) "__getattribute__" = some (some (.builtin "type.__getattribute__"))) (h3 : findCls K (.ref C) mc m = some (.get (.builtin "classmethod.__get__") (.ref p) .none (.ref C))) (h4 : fnIn K g = true) (h5 : recIn K p "classmethod" = some (.ref g :: r)) : cmB K C mc m p g = true := by
  unfold cmB; rw [h1, h2, h3, h4, h5]; simp
theorem kit_self : kitOne K (.ref C) (.ref C) = some true := by unfold kitOne; rw [if_pos (by simp)]
theorem kit_not {a : String} (h1 : isClsIn K C = true) (h2 : typeIn K (.ref C) = some (.type "type")) (h3 : subIn K (.type a) (.ref C) = some false) : kitOne K (.type a) (.ref C) = some false := by
  unfold kitOne kitCls
  rw [if_neg (by simp)]
  simp only
  rw [show (clsIn K C).isSome = true from h1, h2, h3]
  simp
theorem nsOk_of {N : Addr} {c} {d} {es} {n} {sl} (h : K.lookup N = some ⟨c, d, .dict es n, sl⟩) (he : (es.toList.all fun e => match e.key with | .str _ _ => true | _ => false) = true) : nsOkIn K N = true := by
  unfold nsOkIn
  rw [h]
  rw [Array.all_toList] at he
  exact he
theorem isB_of (h0 : clB K C = true) (h1 : findIn K (.ref C) "__class__" = some (some (.builtin "object.__class__"))) (h2 : specialIn K (.builtin "object.__class__") "__get__" = some (some (.builtin "getset_descriptor.__get__"))) (h3 : takesIn K (.builtin "object.__class__") = some true) (h4 : mroIn K C (.type "object") = some true) (h5 : kitOne K (.ref C) (.ref C) = some true)
    (k1 : kitOne K (.type "NoneType") (.ref C) = some false) (k2 : kitOne K (.type "bool") (.ref C) = some false) (k3 : kitOne K (.type "int") (.ref C) = some false) (k4 : kitOne K (.type "str") (.ref C) = some false) (k5 : kitOne K (.type "tuple") (.ref C) = some false) (k6 : kitOne K (.type "list") (.ref C) = some false) (k7 : kitOne K (.type "dict") (.ref C) = some false) : isB K C = true := by
  unfold isB
  rw [h0, h1, h2, h3, h4, h5]
  simp [k1, k2, k3, k4, k5, k6, k7]
theorem eqB_of {dd : Option Addr} {nm qn : Str} {bs : List Value} {ns : Addr} {hd : Bool} {sn : List Str} {sub : List Value} {ab : Bool} {col : Option Bool} {k0 k1 k2 k3 k5 : Option Value} (h1 : findIn K (.ref C) "__eq__" = some (some (.ref f))) (h2 : isFn K (.ref f) = true)
    (l : K.lookup C = some ⟨.type "type", dd, .cls ⟨nm, bs, [.ref C, .type "object"], ns, qn, hd, sn, sub, ab, col, false⟩, #[k0, k1, k2, k3, some (.builtin "object.__new__"), k5]⟩) (h3 : nsOkIn K ns = true) (h4 : nsIn K ns "__eq__" = some (some (.ref f))) (h5 : nsIn K ns "__ne__" = some none) : eqB K C f = true := by
  unfold eqB
  rw [h1, h2, l]
  simp [h3, h4, h5]
end
end L3

/-! More of what laws say: `in` with any data and a tuple, == with a tuple of the program's own, str of an int, min, max, sorted of ints. -/
namespace L3
open PySem PySem.Spec PyProof.Rows L2
section
variable {X : Cx} {W : WX}
def inY (neg : Bool) (x y : D) (st : Sto) : R D := match y with
  | .tup xs => match pd st 40 x, pd st 40 (.tup xs) with
    | some d, some (.tuple ds) => if SeqAt.shaped d = true ∧ SeqAt.shaped (.tuple ds) = true then .ok (.bl (neg != ds.any fun z => PyData.eqv z d)) st else .bad
    | _, _ => .bad
  | _ => inD neg x y st
def rInTD (K : PySem.W.Frag) (neg : Bool) : R2 := fun x y H Q => ∃ d ds, Dp K H x d ∧ Dp K H y (.tuple ds) ∧ SeqAt.shaped d = true ∧ SeqAt.shaped (.tuple ds) = true ∧ Q (.bl (neg != ds.any fun z => PyData.eqv z d)) H
theorem op_inTD (hu : X.A.units + 65 < cLine) : OpR X (compareOp .In) (rInTD X.K false) := by
  intro pins s σ H x y v u Q I rx ry h
  obtain ⟨d, ds, hd, he, sd, se, q⟩ := h
  obtain ⟨as, r1⟩ := Dp.reads I d x v hd rx
  obtain ⟨bs, r2⟩ := Dp.reads I (.tuple ds) y u he ry
  exact SeqAt.in_tuple_reads r2 r1 (SeqAt.canLay_of_shaped se) (SeqAt.canLay_of_shaped sd) (room_in_shaped sd hu) ⟨.bl _, H, I, rfl, by simpa using q⟩
theorem op_notInTD (hu : X.A.units + 65 < cLine) : OpR X (compareOp .NotIn) (rInTD X.K true) := by
  intro pins s σ H x y v u Q I rx ry h
  obtain ⟨d, ds, hd, he, sd, se, q⟩ := h
  obtain ⟨as, r1⟩ := Dp.reads I d x v hd rx
  obtain ⟨bs, r2⟩ := Dp.reads I (.tuple ds) y u he ry
  exact SeqAt.notIn_tuple_reads r2 r1 (SeqAt.canLay_of_shaped se) (SeqAt.canLay_of_shaped sd) (room_in_shaped sd hu) ⟨.bl _, H, I, rfl, by simpa using q⟩
theorem o_inY (hu : X.A.units + 65 < cLine) : OpS X W (compareOp .In) (inY false) := fun pins s σ H x y v u Q β st dx dy I r1 r2 S rx ry p => by
  unfold inY at p
  split at p
  · split at p
    · rename_i d ds h1 h2
      split at p
      · rename_i hs
        exact op_inTD hu pins s σ H x y v u Q I r1 r2 ⟨d, ds, pd_ok S 40 dx x d h1 rx, pd_ok S 40 _ y _ h2 ry, hs.1, hs.2, fin p S (VR.bl.mpr rfl)⟩
      · exact p.elim
    · exact p.elim
  · exact o_in hu pins s σ H x y v u Q β st dx dy I r1 r2 S rx ry p
theorem o_notInY (hu : X.A.units + 65 < cLine) : OpS X W (compareOp .NotIn) (inY true) := fun pins s σ H x y v u Q β st dx dy I r1 r2 S rx ry p => by
  unfold inY at p
  split at p
  · split at p
    · rename_i d ds h1 h2
      split at p
      · rename_i hs
        exact op_notInTD hu pins s σ H x y v u Q I r1 r2 ⟨d, ds, pd_ok S 40 dx x d h1 rx, pd_ok S 40 _ y _ h2 ry, hs.1, hs.2, fin p S (VR.bl.mpr rfl)⟩
      · exact p.elim
    · exact p.elim
  · exact o_notIn hu pins s σ H x y v u Q β st dx dy I r1 r2 S rx ry p

/-! ### == with a tuple of ints that the program keeps -/
def eqG (neg : Bool) (is : List Int) (x : D) (st : Sto) : R D := match pd st 40 x with
  | some d => if SeqAt.shaped d = true ∧ SeqAt.shaped (.tuple (is.map PyData.int)) = true then .ok (.bl (neg != PyData.eqv d (.tuple (is.map PyData.int)))) st else .bad
  | none => .bad
/-- an object of the program's own: a tuple of these ints -/
def TupK (K : PySem.W.Frag) (a : Addr) (is : List Int) : Prop := ∃ (o : Obj) (its : Array Value) (n : Nat), K.lookup a = some o ∧ o.cls = .type "tuple" ∧ o.data = .seq its n ∧ its.size ≤ sizeLine ∧ Vals (is.map V.int) its.toList
theorem dp_ints {K : PySem.W.Frag} {H : Hp} : ∀ is : List Int, DpAll K H (is.map V.int) (is.map PyData.int)
  | [] => .nil
  | i :: is => .cons (.int i) (dp_ints is)
theorem TupK.dp {K : PySem.W.Frag} {H : Hp} {a : Addr} {is : List Int} (h : TupK K a is) : Dp K H (.ref a) (.tuple (is.map PyData.int)) := by
  obtain ⟨o, its, n, h1, h2, h3, h4, h5⟩ := h
  exact .tup (.inr ⟨o, its, n, h1, h2, h3, h4, h5⟩) (dp_ints is)
theorem TupK.of {K : PySem.W.Frag} {a : Addr} {is : List Int} {od : Option Addr} {its : Array Value} {n : Nat} {sl : Array (Option Value)} (h : K.lookup a = some ⟨.type "tuple", od, .seq its n, sl⟩) (hz : its.size ≤ sizeLine) (hv : Vals (is.map V.int) its.toList) : TupK K a is :=
  ⟨_, its, n, h, rfl, rfl, hz, hv⟩
variable {a : Expr} {ka : KE} {pos p1 : Pos} {x : Str} {t : Addr} {is : List Int}
theorem q_eqG_run {op : CmpOp} {f : D → Sto → R D} (hg : Gl X x) (hm : X.mg x = some (.ref t)) (hd : (x == ("__debug__" : Str)) = false) (ho : ∀ (pins : List (Addr × Obj)) (s : Shared) (σ : L2.St) (H : Hp) (y : V) (v : Value) (Q : VK) (β : List Addr) (st : Sto) (dy : D), Inv X pins σ H s → RelV y v → Sim X.K X.mg β st H → VR X.K β H dy y →
    PostA X.K X.mg W σ (okE X.K Q) β H (f dy st) → wpAny (model X.prog X.w) X.A (compareOp op v (.ref t)) (EP X pins σ Q) X.xe s)
    (ha : PE X a (lift X.K X.mg W ka)) (hmk : behindInMarks op (.Name x p1) = false) : PE X (.Compare a [op] [.Name x p1] pos) (lift X.K X.mg W (k1 f ka)) := by
  refine ⟨fun pins s σ H Q I ⟨β, ρ, st, S, E, p⟩ => ?_⟩
  refine wpAny_Compare1 (thn (ha.run pins s σ H (fun y H1 => ∃ β1 st1 dy, Sim X.K X.mg β1 st1 H1 ∧ VR X.K β1 H1 dy y ∧ PostA X.K X.mg W σ (okE X.K Q) β1 H1 (f dy st1)) I
    (lift.bind S E p fun d v β' H' st' e' S' E' r' p' => ⟨β', st', d, S', r', p'⟩)) fun v s1 ⟨y, H1, I1, r1, β1, st1, dy, S1, v1, p1'⟩ => ?_) hmk
  refine thn ((pe_glob (v := .ref t) hg hm rfl hd).run pins s1 σ H1 (fun w H2 => w = .ref t ∧ H2 = H1) I1 ⟨rfl, rfl⟩) fun u s2 ⟨w, H2, I2, r2, e1, e2⟩ => ?_
  subst e1 e2
  cases r2
  exact ho pins s2 σ H2 y v Q β1 st1 dy I2 r1 S1 v1 p1'
theorem q_neG (hu : X.A.units + 64 < cLine) (hg : Gl X x) (hm : X.mg x = some (.ref t)) (hk : TupK X.K t is) (ha : PE X a (lift X.K X.mg W ka)) (hd : (x == ("__debug__" : Str)) = false := by decide) : PE X (.Compare a [.NotEq] [.Name x p1] pos) (lift X.K X.mg W (k1 (eqG true is) ka)) :=
  q_eqG_run hg hm hd (fun pins s σ H y v Q β st dy I r S rd p => by
    unfold eqG at p
    split at p
    · rename_i d h1
      split at p
      · rename_i hs
        exact op_neD hu pins s σ H y (.ref t) v (.ref t) Q I r rfl ⟨d, _, pd_ok S 40 dy y d h1 rd, hk.dp, hs.1, hs.2, fin p S (VR.bl.mpr (by simp))⟩
      · exact p.elim
    · exact p.elim) ha rfl
theorem q_eqGe (hu : X.A.units + 64 < cLine) (hg : Gl X x) (hm : X.mg x = some (.ref t)) (hk : TupK X.K t is) (ha : PE X a (lift X.K X.mg W ka)) (hd : (x == ("__debug__" : Str)) = false := by decide) : PE X (.Compare a [.Eq] [.Name x p1] pos) (lift X.K X.mg W (k1 (eqG false is) ka)) :=
  q_eqG_run hg hm hd (fun pins s σ H y v Q β st dy I r S rd p => by
    unfold eqG at p
    split at p
    · rename_i d h1
      split at p
      · rename_i hs
        exact op_eqD hu pins s σ H y (.ref t) v (.ref t) Q I r rfl ⟨d, _, pd_ok S 40 dy y d h1 rd, hk.dp, hs.1, hs.2, fin p S (VR.bl.mpr (by simp))⟩
      · exact p.elim
    · exact p.elim) ha rfl

/-! ### str of an int -/
def strF (ds : List D) (st : Sto) : R D := match ds with
  | [.int i] => if i.natAbs.log2 < 1920 then .ok (.str (toString i)) st else .bad
  | _ => .bad
theorem f_str : CallS X W (.type "str") strF := CallS.of call_str_int fun σ H xs Q β st ds S r p => by
  unfold strF at p
  split at p
  · obtain ⟨v, rfl, r1⟩ := r.one
    cases VR.int.mp r1
    split at p
    · rename_i hz
      exact ⟨_, rfl, hz, fin p S (VR.str.mpr rfl)⟩
    · exact p.elim
  · exact p.elim

/-! ### min, max of ints -/
theorem intsO_eq : ∀ {xs : List D} {is : List Int}, intsO xs = some is → xs = is.map D.int
  | [], is, h => by cases h; rfl
  | d :: ds, is, h => by
    cases d with
    | int i =>
      obtain ⟨l, h1, h2⟩ := Option.bind_eq_some_iff.mp (show (intsO ds).bind (fun l => some (i :: l)) = some is from h)
      cases h2
      rw [intsO_eq h1]; rfl
    | _ => cases h
theorem intsO_map : ∀ is : List Int, intsO (is.map D.int) = some is
  | [] => rfl
  | i :: is => by
    show (intsO (is.map D.int)).bind (fun l => some (i :: l)) = _
    rw [intsO_map is]; rfl
theorem ints_vr {K : PySem.W.Frag} {β : List Addr} {H : Hp} : ∀ {is : List Int} {vs : List V}, VRs K β H (is.map D.int) vs → vs = is.map V.int
  | [], vs, r => VRs.nil.mp r
  | i :: is, vs, r => by
    obtain ⟨v, r', rfl, h1, h2⟩ := VRs.cons.mp r
    cases VR.int.mp h1
    rw [ints_vr h2]; rfl
def minI (x : Int) (xs : List Int) : Int := xs.foldl (fun a y => if y < a then y else a) x
def maxI (x : Int) (xs : List Int) : Int := xs.foldl (fun a y => if a < y then y else a) x
theorem minI_data : ∀ (xs : List Int) (x : Int), PySem.W.minD (PyData.int x) (xs.map PyData.int) = PyData.int (minI x xs)
  | [], x => rfl
  | y :: ys, x => by
    unfold PySem.W.minD minI
    rw [List.map_cons, List.foldl_cons, List.foldl_cons, show (if PySem.W.dataLt (PyData.int y) (PyData.int x) = true then PyData.int y else PyData.int x) = PyData.int (if y < x then y else x) by rw [PySem.W.dataLt_int]; simp only [decide_eq_true_eq]; split <;> rfl]
    exact minI_data ys _
theorem maxI_data : ∀ (xs : List Int) (x : Int), PySem.W.maxD (PyData.int x) (xs.map PyData.int) = PyData.int (maxI x xs)
  | [], x => rfl
  | y :: ys, x => by
    unfold PySem.W.maxD maxI
    rw [List.map_cons, List.foldl_cons, List.foldl_cons, show (if PySem.W.dataLt (PyData.int x) (PyData.int y) = true then PyData.int y else PyData.int x) = PyData.int (if x < y then y else x) by rw [PySem.W.dataLt_int]; simp only [decide_eq_true_eq]; split <;> rfl]
    exact maxI_data ys _
def mmInts (mx : Bool) (xs : List D) (st : Sto) : R D := match intsO xs with
  | some (i :: is) => .ok (.int (if mx = true then maxI i is else minI i is)) st
  | _ => .bad
def mmI (mx : Bool) (f : List D → Sto → R D) (ds : List D) (st : Sto) : R D := match ds with
  | [.tup xs] => mmInts mx xs st
  | [.frz xs] => mmInts mx xs st
  | [.loc n] => match st[n]? with
    | some (.lst xs) => mmInts mx xs st
    | _ => .bad
  | ds => f ds st
theorem ints_depth : ∀ is : List Int, PyData.depthAll (is.map PyData.int) ≤ 1
  | [] => by simp [PyData.depthAll]
  | i :: is => by
    have := ints_depth is
    simp only [List.map_cons, PyData.depthAll, PyData.depth]
    omega
theorem mmI_one {pins : List (Addr × Obj)} {s : Shared} {σ : L2.St} {H : Hp} {Q : VK} {β : List Addr} {st : Sto} {xs : List D} {vs : List V} {us : List Value} {a : Addr} {mx : Bool} (hc : X.calm = true) (hu : X.A.units + 64 < cLine) (I : Inv X pins σ H s) (S : Sim X.K X.mg β st H)
    (hl : s.heap.IsList a us.toArray ∨ s.heap.IsTuple a us.toArray) (rv : Vals vs us) (rd : VRs X.K β H xs vs) (p : PostA X.K X.mg W σ (okE X.K Q) β H (mmInts mx xs st)) : wpAny (model X.prog X.w) X.A (call (.builtin (if mx = true then "max" else "min")) [.ref a]) (EP X pins σ Q) X.xe s := by
  unfold mmInts at p
  split at p
  · rename_i i is e
    have ex := intsO_eq e
    subst ex
    have ev := ints_vr rd
    subst ev
    obtain ⟨as, hr⟩ := Dp.readsAll I _ _ _ (dp_ints (K := X.K) (H := H) (i :: is)) rv
    rw [List.map_cons] at hr
    have hr' : ReadsAll s.heap us.toArray.toList (PyData.int i :: is.map PyData.int) as := by simpa using hr
    have al : PySem.W.AlikeAll (PyData.int i :: is.map PyData.int) := by
      refine ⟨fun q hq t ht => ?_, fun q hq => ?_⟩
      · rw [← List.map_cons] at hq ht
        obtain ⟨d, hd, rfl⟩ := List.mem_map.mp hq
        obtain ⟨e, he, rfl⟩ := List.mem_map.mp ht
        rfl
      · rw [← List.map_cons] at hq
        obtain ⟨d, hd, rfl⟩ := List.mem_map.mp hq
        exact fun z => by cases z
    have dep := ints_depth (i :: is)
    rw [List.map_cons] at dep
    have fin2 : ∀ (y : Int) (j : Nat) (u : Value) (h' : Heap) (tk : Nat) (bs : List Addr), Reads h' u (PyData.int y) bs → (∀ b o, s.heap.get? b = some o → h'.get? b = some o) → Q (.int y) H → EP X pins σ Q u { s with heap := h', toks := tk } := fun y j u h' tk bs hrd kp hq => by
      cases hrd
      exact ⟨.int y, H, I.kept (t' := tk) kp, ⟨_, rfl⟩, hq⟩
    cases mx with
    | true =>
      have hq : Q (.int (maxI i is)) H := p β H (Ext.refl _ _) S (.int (maxI i is)) (VR.int.mpr rfl)
      rcases hl with hl | hl
      · exact PySem.W.max_list_data (I.ok.hd hc) hl hr' al (by omega) fun i u h' tk bs hi hrd kp => fin2 _ i u h' tk bs (by rw [← maxI_data]; exact hrd) kp hq
      · exact PySem.W.max_tuple_data (I.ok.hd hc) hl hr' al (by omega) fun i u h' tk bs hi hrd kp => fin2 _ i u h' tk bs (by rw [← maxI_data]; exact hrd) kp hq
    | false =>
      have hq : Q (.int (minI i is)) H := p β H (Ext.refl _ _) S (.int (minI i is)) (VR.int.mpr rfl)
      rcases hl with hl | hl
      · exact PySem.W.min_list_data (I.ok.hd hc) hl hr' al (by omega) fun i u h' tk bs hi hrd kp => fin2 _ i u h' tk bs (by rw [← minI_data]; exact hrd) kp hq
      · exact PySem.W.min_tuple_data (I.ok.hd hc) hl hr' al (by omega) fun i u h' tk bs hi hrd kp => fin2 _ i u h' tk bs (by rw [← minI_data]; exact hrd) kp hq
  · exact p.elim
theorem c_mmI {mx : Bool} {f : List D → Sto → R D} (hc : X.calm = true) (hu : X.A.units + 64 < cLine) (hf : CallS X W (.builtin (if mx = true then "max" else "min")) f) : CallS X W (.builtin (if mx = true then "max" else "min")) (mmI mx f) := fun pins s σ H xs us Q β st ds I r S rd p => by
  have lst : ∀ {a : Addr} {ys : List D} {ws : List V} {z : List Value}, SqL X.K H a ws → VRs X.K β H ys ws → Vals [V.ref a] z → PostA X.K X.mg W σ (okE X.K Q) β H (mmInts mx ys st) → wpAny (model X.prog X.w) X.A (call (.builtin (if mx = true then "max" else "min")) z) (EP X pins σ Q) X.xe s := fun h1 h2 rz q => by
    obtain ⟨u, rfl, ru⟩ := vals1 rz
    cases ru
    obtain ⟨its, rv, hl, hz⟩ := I.list h1
    exact mmI_one hc hu I S (.inl hl.isList) rv h2 q
  unfold mmI at p
  split at p
  · obtain ⟨v, rfl, r1⟩ := rd.one
    obtain ⟨a, ws, rfl, h1, h2⟩ := VR.tupS r1
    obtain ⟨u, rfl, ru⟩ := vals1 r
    cases ru
    obtain ⟨its, rv, ⟨o, ho, hc', n, hd⟩, hz⟩ := I.tuple h1
    exact mmI_one hc hu I S (.inr ⟨o, ho, hc', n, hd⟩) rv h2 p
  · obtain ⟨v, rfl, r1⟩ := rd.one
    obtain ⟨a, ws, rfl, h1, h2⟩ := VR.frz.mp r1
    exact lst h1.sq h2 r p
  · obtain ⟨v, rfl, r1⟩ := rd.one
    obtain ⟨a, h1, rfl⟩ := VR.loc.mp r1
    obtain ⟨o, h2, h3⟩ := S.at h1
    simp only [h2] at p
    cases o with
    | lst ys => obtain ⟨ws, h4, h5⟩ := h3; exact lst (SqL.of h4) h5 r p
    | _ => exact p.elim
  · exact hf pins s σ H xs us Q β st ds I r S rd p
theorem c_minI (hc : X.calm = true) (hu : X.A.units + 64 < cLine) : CallS X W (.builtin "min") (mmI false minF) := c_mmI (mx := false) hc hu (f_min hc)
theorem c_maxI (hc : X.calm = true) (hu : X.A.units + 64 < cLine) : CallS X W (.builtin "max") (mmI true maxF) := c_mmI (mx := true) hc hu (f_max hc)

/-! ### sorted of ints -/
def sortIs (is : List Int) : List Int := is.mergeSort fun a b => decide (a ≤ b)
def sortInts (xs : List D) (st : Sto) : R D := match intsO xs with
  | some is => .ok (.loc st.length) (st ++ [.lst ((sortIs is).map D.int)])
  | none => .bad
def sortI (ds : List D) (st : Sto) : R D := match ds with
  | [.tup xs] => sortInts xs st
  | [.frz xs] => sortInts xs st
  | [.loc n] => match st[n]? with
    | some (.lst xs) => sortInts xs st
    | _ => .bad
  | _ => .bad
theorem vrs_ints {K : PySem.W.Frag} {β : List Addr} {H : Hp} : ∀ is : List Int, VRs K β H (is.map D.int) (is.map V.int)
  | [] => VRs.nil.mpr rfl
  | i :: is => VRs.cons.mpr ⟨.int i, is.map V.int, rfl, VR.int.mpr rfl, vrs_ints is⟩
theorem sortI_one {pins : List (Addr × Obj)} {s : Shared} {σ : L2.St} {H : Hp} {Q : VK} {β : List Addr} {st : Sto} {xs : List D} {vs : List V} {us : List Value} {a : Addr} {T : String} {o : Obj} {n : Nat} (I : Inv X pins σ H s) (S : Sim X.K X.mg β st H) (hT : T = "list" ∨ T = "tuple") (ho : s.heap.get? a = some o) (hc : o.cls = .type T) (hd : o.data = .seq us.toArray n)
    (rv : Vals vs us) (rd : VRs X.K β H xs vs) (hz : us.length ≤ sizeLine) (p : PostA X.K X.mg W σ (okE X.K Q) β H (sortInts xs st)) : wpAny (model X.prog X.w) X.A (call (.builtin "sorted") [.ref a]) (EP X pins σ Q) X.xe s := by
  unfold sortInts at p
  split at p
  · rename_i is e
    have ex := intsO_eq e
    subst ex
    have ev := ints_vr rd
    subst ev
    have hi := rv.ints
    refine sorted_seq hT ho hc hd SrtO.swo_int hz (fun h2 h1 b hb' keep => SrtO.ints_sortable hi h2) fun h1 h' d out hs hp kp1 kp2 hd' hn => ?_
    obtain ⟨k1, k2, k3⟩ := SrtO.ints_out hi hs hp
    have e : out.map SrtO.iv = sortIs is := by
      refine (k2.trans (List.mergeSort_perm is _).symm).eq_of_pairwise (le := fun a b => a ≤ b) (fun a b _ _ h1 h2 => by omega) k3 ?_
      have := List.pairwise_mergeSort (le := fun a b : Int => decide (a ≤ b)) (fun a b c h1 h2 => by simp only [decide_eq_true_eq] at *; omega) (fun a b => by simp only [Bool.or_eq_true, decide_eq_true_eq]; omega) is
      exact this.imp fun h => of_decide_eq_true h
    obtain ⟨m, hn⟩ := hn
    have I1 := I.kept (t' := s.toks) kp1
    have hf : H d = none := I1.hok.fresh hd'
    have hl : ((out.map SrtO.iv).map V.int).length ≤ sizeLine := by
      rw [List.length_map, List.length_map, hp.len]; exact hz
    have J : Inv X pins σ (upd H d (.lst ((out.map SrtO.iv).map V.int))) { s with heap := h', toks := s.toks } := I1.laid (t' := s.toks) kp2 hd' ⟨hl, out, m, vals_of_ints k1, hn⟩
    have ex := ext_new (β := β) (o := .lst ((out.map SrtO.iv).map V.int)) hf
    rw [e] at J ex
    exact ⟨.ref d, _, J, rfl, p _ _ ex (S.push hf ⟨_, upd_same, vrs_ints _⟩) _ (VR.loc.mpr ⟨d, by rw [← S.len]; simp, rfl⟩)⟩
  · exact p.elim
theorem c_sortI : CallS X W (.builtin "sorted") sortI := fun pins s σ H xs us Q β st ds I r S rd p => by
  unfold sortI at p
  have lst : ∀ {a : Addr} {ys : List D} {ws : List V} {z : List Value}, SqL X.K H a ws → VRs X.K β H ys ws → Vals [V.ref a] z → PostA X.K X.mg W σ (okE X.K Q) β H (sortInts ys st) → wpAny (model X.prog X.w) X.A (call (.builtin "sorted") z) (EP X pins σ Q) X.xe s := fun h1 h2 rz q => by
    obtain ⟨u, rfl, ru⟩ := vals1 rz
    cases ru
    obtain ⟨its, rv, hl, hz⟩ := I.list h1
    obtain ⟨o, ho, hc, n, hd⟩ := hl.isList
    exact sortI_one I S (.inl rfl) ho hc hd rv h2 (by rw [← rv.length]; exact hz) q
  split at p
  · obtain ⟨v, rfl, r1⟩ := rd.one
    obtain ⟨a, ws, rfl, h1, h2⟩ := VR.tupS r1
    obtain ⟨u, rfl, ru⟩ := vals1 r
    cases ru
    obtain ⟨its, rv, ⟨o, ho, hc, n, hd⟩, hz⟩ := I.tuple h1
    exact sortI_one I S (.inr rfl) ho hc hd rv h2 (by rw [← rv.length]; exact hz) p
  · obtain ⟨v, rfl, r1⟩ := rd.one
    obtain ⟨a, ws, rfl, h1, h2⟩ := VR.frz.mp r1
    exact lst h1.sq h2 r p
  · obtain ⟨v, rfl, r1⟩ := rd.one
    obtain ⟨a, h1, rfl⟩ := VR.loc.mp r1
    obtain ⟨o, h2, h3⟩ := S.at h1
    simp only [h2] at p
    cases o with
    | lst ys => obtain ⟨ws, h4, h5⟩ := h3; exact lst (SqL.of h4) h5 r p
    | _ => exact p.elim
  · exact p.elim
end
end L3
namespace L3
open PySem PySem.Spec PyProof.Rows L2
/-! ### a text against any value -/
section
variable {A : Around} {s : Shared}
theorem str_eq_declines_dict (b : Str) (u : Tok) (l : Addr) (c : Value) (es : Array DictEntry) (ep : Nat) (dd : Option Addr) (sl : Array (Option Value)) :
    Meets (Builtin.«str.__eq__» ⟨[.str b u, .ref l], []⟩) (fun _ R s => s.heap.get? l = some { cls := c, dict := dd, data := .dict es ep, slots := sl } ∧ R (.ok (.ret .notImplemented)) s) :=
  .of_wp fun prog w A R s h => by obtain ⟨hp, g, d, tk, os⟩ := s; obtain ⟨hl, h⟩ := h; wp_walk using wpAny_loadPart' hl, wpAny_load hl; exact ⟨_, rfl, h⟩
theorem dict_eq_declines_str (l : Addr) (es : Array DictEntry) (ep : Nat) (dd : Option Addr) (sl : Array (Option Value)) (b : Str) (u : Tok) :
    Meets (Builtin.«dict.__eq__» ⟨[.ref l, .str b u], []⟩) (fun _ R s => s.heap.get? l = some { cls := .type "dict", dict := dd, data := .dict es ep, slots := sl } ∧ R (.ok (.ret .notImplemented)) s) :=
  .of_wp fun prog w A R s h => by obtain ⟨hp, g, d, tk, os⟩ := s; obtain ⟨hl, h⟩ := h; have f1 := F.sub_str_dict; wp_walk using wpAny_loadPart' hl; exact ⟨_, rfl, h⟩
theorem RcAt.str_dict {l : Addr} {o : Obj} {es : Array DictEntry} {ep : Nat} (b : Str) (u : Tok) (hl : s.heap.get? l = some o) (hc : o.cls = .type "dict") (hd : o.data = .dict es ep) (hu : A.units < cLine) : SeqAt.RcAt A s (.str b u) (.ref l) false := fun prog w E Q h => by
  obtain ⟨cls, dd, data, sl⟩ := o
  simp only at hc hd
  subst hc hd
  exact SeqAt.rc_eq_decline_or (k := false) (typeIs_str s b u) ⟨_, hl, rfl⟩ (by decide) F.sub_dict_str F.slot_str_eq F.slot_dict_eq_refl
    (fun _ hq => call_meets F.slot_str_eq (typeIs_str s b u) F.entry_str_eq (F.args_str_eq_2 _ _) (str_eq_declines_dict b u l (.type "dict") es ep dd sl) ⟨hl, hq⟩)
    (fun _ hq => call_meets F.slot_dict_eq_refl ⟨_, hl, rfl⟩ F.entry_dict_eq (F.args_dict_eq_2 _ _) (dict_eq_declines_str l es ep dd sl b u) ⟨hl, hq⟩)
    (fun _ hq => wpAny_of_eq (rfl : isSame (.str b u) (.ref l) = pure false) hq) (.inr hu) h
theorem EqAt.str_dict {l : Addr} {o : Obj} {es : Array DictEntry} {ep : Nat} (b : Str) (u : Tok) (hl : s.heap.get? l = some o) (hc : o.cls = .type "dict") (hd : o.data = .dict es ep) (hu : A.units < cLine) : SeqAt.EqAt A s (.str b u) (.ref l) false := fun prog w E Q h => by
  unfold eqBool
  refine wpAny_holding ?_
  refine wpAny_ite_split (fun hab => absurd (eq_of_beq hab) nofun) (fun _ => ?_)
  exact wpAny_bind (RcAt.str_dict b u hl hc hd hu prog w E _ (wpAny_truthy_bool h))
end
/-- whether it is this text -/
def isT (d : D) (b : Str) : Bool := match d with
  | .str y => b == y
  | _ => false
/-- of which this can be said -/
def plW (d : D) (st : Sto) : Bool := match d with
  | .cls _ => false
  | .lam _ _ _ => false
  | .fn _ _ => false
  | .fdk _ _ => false
  | .loc n => match st[n]? with
    | some (.lst _) => true
    | some (.dK _) => true
    | _ => false
  | _ => true
section
variable {X : Cx} {W : WX}
theorem eqAt_text {A : Around} {pins : List (Addr × Obj)} {s : Shared} {σ : L2.St} {H : Hp} {β : List Addr} {st : Sto} (I : Inv X pins σ H s) (S : Sim X.K X.mg β st H) (b : Str) (t : Tok) {d : D} {v : V} {u : Value} (hd : plW d st = true) (r : VR X.K β H d v) (ru : RelV v u) (hu : A.units < cLine) : SeqAt.EqAt A s (.str b t) u (isT d b) := by
  have lst : ∀ {a : Addr} {ws : List V}, SqL X.K H a ws → SeqAt.EqAt A s (.str b t) (.ref a) false := fun h => by
    obtain ⟨its, rv, hl, _⟩ := I.list h
    exact SeqAt.EqAt.str_list b t hl.isList hu
  cases d with
  | non => cases VR.non.mp r; cases ru; exact SeqAt.EqAt.str_none b t
  | bl k => cases VR.bl.mp r; cases ru; exact SeqAt.EqAt.str_bool b t k
  | int i => cases VR.int.mp r; obtain ⟨q, rfl⟩ := (show ∃ q, u = Value.int i q from ru); exact SeqAt.EqAt.str_int b t i q
  | str y => cases VR.str.mp r; obtain ⟨q, rfl⟩ := (show ∃ q, u = Value.str y q from ru); exact SeqAt.EqAt.str_str b t y q
  | tup xs =>
    obtain ⟨a, vs, rfl, h1, h2⟩ := VR.tupS r
    cases ru
    obtain ⟨its, rv, hl, _⟩ := I.tuple h1
    exact SeqAt.EqAt.str_tuple b t hl hu
  | frz xs =>
    obtain ⟨a, vs, rfl, h1, h2⟩ := VR.frz.mp r
    cases ru
    exact lst h1.sq
  | cls a => cases hd
  | lam _ _ _ => cases hd
  | fn _ _ => cases hd
  | fdk _ _ => cases hd
  | loc n =>
    obtain ⟨a, h1, rfl⟩ := VR.loc.mp r
    cases ru
    obtain ⟨o, h2, h3⟩ := S.at h1
    simp only [plW, h2] at hd
    cases o with
    | lst ys => obtain ⟨ws, h4, h5⟩ := h3; exact lst (SqL.of h4)
    | dK ks =>
      obtain ⟨ws, h4, h5⟩ := h3
      obtain ⟨_, _, vs, _, o, es, ep, g1, g2, g3, _⟩ := (show ObjOk X.prog X.w H s.heap a (.dK ws) from I.hok a _ h4)
      exact EqAt.str_dict b t g1 g2.1 g3 hu
    | _ => cases hd
end
end L3
namespace L3
open PySem PySem.Spec PyProof.Rows L2
/-- x in a tuple of texts, x any value -/
def inW (neg : Bool) (x y : D) (st : Sto) : R D := match y with
  | .tup ys => match strsO ys with
    | some ss => if plW x st = true then .ok (.bl (neg != ss.any fun b => isT x b)) st else .bad
    | none => .bad
  | _ => .bad
theorem strsO_eq : ∀ {xs : List D} {is : List Str}, strsO xs = some is → xs = is.map D.str
  | [], is, h => by cases h; rfl
  | d :: ds, is, h => by
    cases d with
    | str i =>
      obtain ⟨l, h1, h2⟩ := Option.bind_eq_some_iff.mp (show (strsO ds).bind (fun l => some (i :: l)) = some is from h)
      cases h2
      rw [strsO_eq h1]; rfl
    | _ => cases h
theorem strs_vr {K : PySem.W.Frag} {β : List Addr} {H : Hp} : ∀ {is : List Str} {vs : List V}, VRs K β H (is.map D.str) vs → vs = is.map V.str
  | [], vs, r => VRs.nil.mp r
  | i :: is, vs, r => by
    obtain ⟨v, r', rfl, h1, h2⟩ := VRs.cons.mp r
    cases VR.str.mp h1
    rw [strs_vr h2]; rfl
def isTv (d : D) (v : Value) : Bool := match v with
  | .str b _ => isT d b
  | _ => false
theorem any_texts {d : D} : ∀ {ss : List Str} {us : List Value}, Vals (ss.map V.str) us → us.any (isTv d) = ss.any fun b => isT d b
  | [], us, h => by cases h; rfl
  | b :: ss, us, h => by
    obtain ⟨u, r, rfl, h1, h2⟩ := vals_cons h
    obtain ⟨t, rfl⟩ := (show ∃ t, u = Value.str b t from h1)
    rw [List.any_cons, List.any_cons, any_texts h2]; rfl
theorem mem_texts : ∀ {ss : List Str} {us : List Value}, Vals (ss.map V.str) us → ∀ u ∈ us, ∃ b t, u = Value.str b t
  | [], us, h, u, hu => by cases h; cases hu
  | b :: ss, us, h, u, hu => by
    obtain ⟨u', r, rfl, h1, h2⟩ := vals_cons h
    obtain ⟨t, rfl⟩ := (show ∃ t, u' = Value.str b t from h1)
    rcases List.mem_cons.mp hu with rfl | hu
    · exact ⟨b, t, rfl⟩
    · exact mem_texts h2 u hu
section
variable {X : Cx} {W : WX}
theorem o_inW (hu : X.A.units + 65 < cLine) : OpS X W (compareOp .In) (inW false) := fun pins s σ H x y v u Q β st dx dy I r1 r2 S rx ry p => by
  unfold inW at p
  split at p
  · split at p
    · rename_i ys ss e
      split at p
      · rename_i hp
        have e := strsO_eq e
        subst e
        obtain ⟨a, vs, rfl, h1, h2⟩ := VR.tupS ry
        cases r2
        obtain ⟨its, rv, hl, hz⟩ := I.tuple h1
        have ev := strs_vr h2
        subst ev
        have hq : Q (.bl (ss.any fun b => isT dx b)) H := by
          have := p β H (Ext.refl _ _) S _ (VR.bl.mpr rfl)
          simpa using this
        refine SeqAt.in_tupleAt (isTv dx) hl (fun w hw => ?_) ⟨.bl _, H, I, rfl, ?_⟩
        · obtain ⟨b, t, rfl⟩ := mem_texts rv w (by simpa using hw)
          exact eqAt_text I S b t hp rx r1 (by show X.A.units + 1 < cLine; omega)
        · rw [show its.toArray.any (isTv dx) = its.any (isTv dx) by simp, any_texts rv]
          exact hq
      · exact p.elim
    · exact p.elim
  · exact p.elim
theorem o_notInW (hu : X.A.units + 65 < cLine) : OpS X W (compareOp .NotIn) (inW true) := fun pins s σ H x y v u Q β st dx dy I r1 r2 S rx ry p => by
  unfold inW at p
  split at p
  · split at p
    · rename_i ys ss e
      split at p
      · rename_i hp
        have e := strsO_eq e
        subst e
        obtain ⟨a, vs, rfl, h1, h2⟩ := VR.tupS ry
        cases r2
        obtain ⟨its, rv, hl, hz⟩ := I.tuple h1
        have ev := strs_vr h2
        subst ev
        have hq : Q (.bl (!ss.any fun b => isT dx b)) H := by
          have := p β H (Ext.refl _ _) S _ (VR.bl.mpr rfl)
          simpa using this
        refine SeqAt.notIn_tupleAt (isTv dx) hl (fun w hw => ?_) ⟨.bl _, H, I, rfl, ?_⟩
        · obtain ⟨b, t, rfl⟩ := mem_texts rv w (by simpa using hw)
          exact eqAt_text I S b t hp rx r1 (by show X.A.units + 1 < cLine; omega)
        · rw [show its.toArray.any (isTv dx) = its.any (isTv dx) by simp, any_texts rv]
          exact hq
      · exact p.elim
    · exact p.elim
  · exact p.elim
end
end L3

/-! Lists that nobody changes: as values, without a place in the store. -/
namespace L3
open PySem PySem.Spec PyProof.Rows L2
/-- Q, or Q once the list that came is locked -/
def FQ (Q : VK) : VK := fun x H => Q x H ∨ ∃ q vs, x = .ref q ∧ H q = some (.lst vs) ∧ ∀ o, Q x (upd H q (.frz o (.lst vs)))
section
variable {X : Cx} {W : WX}
theorem EP_fz {pins : List (Addr × Obj)} {σ : L2.St} {Q : VK} {v : Value} {s : Shared} (h : EP X pins σ (FQ Q) v s) : EP X pins σ Q v s := by
  obtain ⟨x, H, I, r, q⟩ := h
  rcases q with q | ⟨a, vs, rfl, hl, q⟩
  · exact ⟨x, H, I, r, q⟩
  · obtain ⟨o, J⟩ := I.lock hl trivial
    exact ⟨_, _, J, r, q o⟩
theorem PE.fz {e : Expr} {t : TE} (h : PE X e t) : PE X e fun σ H Q => t σ H (FQ Q) :=
  ⟨fun pins s σ H Q I p => thn (h.run pins s σ H (FQ Q) I p) fun v s' q => EP_fz q⟩
theorem CallS.ofF {F : Value} {r : List V → Hp → VK → Prop} {f : List D → Sto → R D} (h : CallR X F r)
    (i : ∀ (σ : L2.St) (H : Hp) (xs : List V) (Q : VK) (β : List Addr) (st : Sto) (ds : List D), Sim X.K X.mg β st H → VRs X.K β H ds xs → PostA X.K X.mg W σ (okE X.K Q) β H (f ds st) → r xs H (FQ Q)) : CallS X W F f :=
  fun pins s σ H xs us Q β st ds I rx S vx p => thn (h pins s σ H xs us (FQ Q) I rx (i σ H xs Q β st ds S vx p)) fun v s' q => EP_fz q
theorem OpS.ofF {F : Value → Value → Sem Value} {r : R2} {f : D → D → Sto → R D} (h : OpR X F r)
    (i : ∀ (σ : L2.St) (H : Hp) (x y : V) (Q : VK) (β : List Addr) (st : Sto) (dx dy : D), Sim X.K X.mg β st H → VR X.K β H dx x → VR X.K β H dy y → PostA X.K X.mg W σ (okE X.K Q) β H (f dx dy st) → r x y H (FQ Q)) : OpS X W F f :=
  fun pins s σ H x y v u Q β st dx dy I rx ry S vx vy p => thn (h pins s σ H x y v u (FQ Q) I rx ry (i σ H x y Q β st dx dy S vx vy p)) fun v s' q => EP_fz q
/-- a new list, locked -/
theorem newFz {σ : L2.St} {Q : VK} {β : List Addr} {st : Sto} {H : Hp} {ds : List D} {vs : List V} {q : Addr} (S : Sim X.K X.mg β st H) (r : VRs X.K β H ds vs) (hq : H q = none) (p : PostA X.K X.mg W σ (okE X.K Q) β H (.ok (.frz ds) st)) :
    FQ Q (.ref q) (upd H q (.lst vs)) := by
  refine .inr ⟨q, vs, rfl, upd_same, fun o => ?_⟩
  rw [upd_upd]
  exact p β _ (ext_new0 hq) (S.new0 hq) _ (VR.frz.mpr ⟨q, vs, rfl, .inl ⟨o, upd_same⟩, VRs.mono (ext_new0 hq) _ _ r⟩)
variable {tg e a b c iter elt : Expr} {es ifs rest : List Expr} {body : List Stmt} {pos p : Pos} {ka kb kcc ke : KE} {kt kt' : KT} {kas : KA} {ks : KS} {ki : KI}
def frzF (xs : List D) (st : Sto) : R D := if xs.length ≤ 16777216 then .ok (.frz xs) st else .bad
theorem q_frz (h : PA X es (liftA X.K X.mg W kas)) : PE X (.List es pos) (lift X.K X.mg W (kF frzF kas)) :=
  PE.imp (PE.fz (pe_lst h)) fun σ H Q ⟨β, ρ, st, S, E, p⟩ => liftA.bind S E p fun ds vs β1 H1 st1 e1 S1 E1 r1 p1 => by
    unfold frzF at p1
    split at p1
    · rename_i hz
      exact ⟨by rw [r1.length]; exact szl hz, fun q hq => newFz S1 r1 hq p1⟩
    · exact p1.elim
/-- list(x) -/
def listZ (ds : List D) (st : Sto) : R D := match ds with
  | [.tup xs] => .ok (.frz xs) st
  | [d] => match itemsD d st with
    | some xs => .ok (.frz xs) st
    | none => .bad
  | _ => .bad
theorem f_listZ : CallS X W (.type "list") listZ := CallS.ofF call_list_of fun σ H xs Q β st ds S r p => by
  unfold listZ at p
  split at p
  · obtain ⟨v, rfl, h⟩ := r.one
    obtain ⟨a, vs, rfl, h1, h2⟩ := VR.tupS h
    exact ⟨a, vs, rfl, .inr h1, fun q hq => newFz S h2 hq p⟩
  · obtain ⟨v, rfl, h⟩ := r.one
    split at p
    · rename_i hi
      obtain ⟨a, vs, rfl, h1, h2⟩ := items_rel S h hi
      exact ⟨a, vs, rfl, .inl h1, fun q hq => newFz S h2 hq p⟩
    · exact p.elim
  · exact p.elim
/-- x[i:j] -/
def slZ (d : D) (lo hi : Option Int) (st : Sto) : R D := match d with
  | .tup xs => .ok (.tup (cutD xs lo hi)) st
  | .str x => if x.length ≤ 16777216 then .ok (.str (cutS x lo hi)) st else .bad
  | d => match itemsD d st with
    | some xs => .ok (.frz (cutD xs lo hi)) st
    | none => .bad
def kSz (a : KE) (lo hi : Env3 → Sto → R (Option Int)) : KE := fun ρ st => (a ρ st).bind fun d st1 => (lo ρ st1).bind fun l st2 => (hi ρ st2).bind fun u st3 => slZ d l u st3
theorem slZ_lst {σ : L2.St} {H : Hp} {Q : VK} {β : List Addr} {st : Sto} {d : D} {v : V} {l u : Option Int} (S : Sim X.K X.mg β st H) (r : VR X.K β H d v) (p : PostA X.K X.mg W σ (okE X.K Q) β H (match itemsD d st with | some xs => .ok (.frz (cutD xs l u)) st | none => .bad)) :
    ∃ q vs, v = .ref q ∧ SqL X.K H q vs ∧ ∀ z, H z = none → FQ Q (.ref z) (upd H z (.lst (cutV vs l u))) := by
  split at p
  · rename_i hi
    obtain ⟨q, vs, rfl, h1, h2⟩ := items_rel S r hi
    exact ⟨q, vs, rfl, h1, fun z hz => newFz S (cutD_rel h2 l u) hz p⟩
  · exact p.elim
theorem q_sliceZ {lo hi : Option Expr} {p2 : Pos} {kl kh : Env3 → Sto → R (Option Int)} (he : PE X a (lift X.K X.mg W ka)) (hl : PO X lo (liftO X.K X.mg W kl)) (hu : PO X hi (liftO X.K X.mg W kh)) : PE X (.Subscript a (.Slice lo hi none p2) pos) (lift X.K X.mg W (kSz ka kl kh)) :=
  PE.imp (PE.fz (pe_slice (sl_tupA.or (sl_list.or sl_str)) he hl hu)) fun σ H Q ⟨β, ρ, st, S, E, p⟩ => lift.bind S E p fun d v β1 H1 st1 e1 S1 E1 r1 p1 =>
    liftO.bind S1 E1 p1 fun l β2 H2 st2 e2 S2 E2 p2 => liftO.bind S2 E2 p2 fun u β3 H3 st3 e3 S3 E3 p3 => by
      have r3 := VR.mono e3 _ _ (VR.mono e2 _ _ r1)
      cases d with
      | tup xs =>
        obtain ⟨q, vs, rfl, h1, h2⟩ := VR.tup.mp r3
        refine .inl ⟨q, vs, rfl, .inl (.inl h1), fun hw => ?_, fun _ z hz => ?_⟩
        · refine .inl (p3 β3 H3 (Ext.refl _ _) S3 _ (VR.tup.mpr ⟨q, vs, rfl, h1, ?_⟩))
          have hc : cutD xs l u = xs := by
            unfold cutD
            rw [← h2.length, hw.1, hw.2, List.drop_zero, Nat.sub_zero, h2.length]
            exact List.take_length
          rw [hc]; exact h2
        · exact .inl (p3 β3 _ (ext_new0 hz) (S3.new0 hz) _ (VR.tup.mpr ⟨z, _, rfl, upd_same, VRs.mono (ext_new0 hz) _ _ (cutD_rel h2 l u)⟩))
      | str x =>
        unfold slZ at p3
        simp only at p3
        split at p3
        · rename_i hz
          exact .inr (.inr ⟨x, VR.str.mp r3, szl hz, .inl (p3 β3 H3 (Ext.refl _ _) S3 _ (VR.str.mpr rfl))⟩)
        · exact p3.elim
      | frz xs =>
        obtain ⟨q, vs, rfl, h1, h2⟩ := slZ_lst S3 r3 p3
        exact .inr (.inl ⟨q, vs, rfl, h1, h2⟩)
      | loc n =>
        obtain ⟨q, vs, rfl, h1, h2⟩ := slZ_lst S3 r3 p3
        exact .inr (.inl ⟨q, vs, rfl, h1, h2⟩)
      | _ => exact p3.elim
/-- sorted(x) -/
def sortZ (ds : List D) (st : Sto) : R D := match ds with
  | [.tup xs] => match intsO xs with
    | some is => .ok (.frz ((sortIs is).map D.int)) st
    | none => .bad
  | [d] => match (itemsD d st).bind intsO with
    | some is => .ok (.frz ((sortIs is).map D.int)) st
    | none => .bad
  | _ => .bad
theorem sortZ_one {pins : List (Addr × Obj)} {s : Shared} {σ : L2.St} {H : Hp} {Q : VK} {β : List Addr} {st : Sto} {is : List Int} {us : List Value} {a : Addr} {T : String} {o : Obj} {n : Nat} (I : Inv X pins σ H s) (S : Sim X.K X.mg β st H) (hT : T = "list" ∨ T = "tuple") (ho : s.heap.get? a = some o) (hc : o.cls = .type T) (hd : o.data = .seq us.toArray n)
    (rv : Vals (is.map V.int) us) (hz : us.length ≤ sizeLine) (p : PostA X.K X.mg W σ (okE X.K Q) β H (.ok (.frz ((sortIs is).map D.int)) st)) : wpAny (model X.prog X.w) X.A (call (.builtin "sorted") [.ref a]) (EP X pins σ Q) X.xe s := by
  have hi := rv.ints
  refine thn (Q := EP X pins σ (FQ Q)) (sorted_seq hT ho hc hd SrtO.swo_int hz (fun h2 h1 b hb' keep => SrtO.ints_sortable hi h2) fun h1 h' d out hs hp kp1 kp2 hd' hn => ?_) fun v s' q => EP_fz q
  obtain ⟨k1, k2, k3⟩ := SrtO.ints_out hi hs hp
  have e : out.map SrtO.iv = sortIs is := by
    refine (k2.trans (List.mergeSort_perm is _).symm).eq_of_pairwise (le := fun a b => a ≤ b) (fun a b _ _ h1 h2 => by omega) k3 ?_
    have := List.pairwise_mergeSort (le := fun a b : Int => decide (a ≤ b)) (fun a b c h1 h2 => by simp only [decide_eq_true_eq] at *; omega) (fun a b => by simp only [Bool.or_eq_true, decide_eq_true_eq]; omega) is
    exact this.imp fun h => of_decide_eq_true h
  obtain ⟨m, hn⟩ := hn
  have I1 := I.kept (t' := s.toks) kp1
  have hf : H d = none := I1.hok.fresh hd'
  have hl : ((out.map SrtO.iv).map V.int).length ≤ sizeLine := by
    rw [List.length_map, List.length_map, hp.len]; exact hz
  have J : Inv X pins σ (upd H d (.lst ((out.map SrtO.iv).map V.int))) { s with heap := h', toks := s.toks } := I1.laid (t' := s.toks) kp2 hd' ⟨hl, out, m, vals_of_ints k1, hn⟩
  rw [e] at J
  exact ⟨.ref d, _, J, rfl, newFz S (vrs_ints _) hf p⟩
theorem c_sortZ : CallS X W (.builtin "sorted") sortZ := fun pins s σ H xs us Q β st ds I r S rd p => by
  unfold sortZ at p
  split at p
  · obtain ⟨v, rfl, r1⟩ := rd.one
    obtain ⟨a, ws, rfl, h1, h2⟩ := VR.tupS r1
    split at p
    · rename_i is e
      have e := intsO_eq e
      subst e
      have e := ints_vr h2
      subst e
      obtain ⟨u, rfl, ru⟩ := vals1 r
      cases ru
      obtain ⟨its, rv, ⟨o, ho, hc, n, hd⟩, hz⟩ := I.tuple h1
      exact sortZ_one I S (.inr rfl) ho hc hd rv (by rw [← rv.length]; exact hz) p
    · exact p.elim
  · obtain ⟨v, rfl, r1⟩ := rd.one
    split at p
    · rename_i is e
      obtain ⟨xs, e1, e2⟩ := Option.bind_eq_some_iff.mp e
      obtain ⟨a, ws, rfl, h1, h2⟩ := items_rel S r1 e1
      have e := intsO_eq e2
      subst e
      have e := ints_vr h2
      subst e
      obtain ⟨u, rfl, ru⟩ := vals1 r
      cases ru
      obtain ⟨its, rv, hl, hz⟩ := I.list h1
      obtain ⟨o, ho, hc, n, hd⟩ := hl.isList
      exact sortZ_one I S (.inl rfl) ho hc hd rv (by rw [← rv.length]; exact hz) p
    · exact p.elim
  · exact p.elim
/-! ### list + list -/
theorem list_add_any (l : Addr) (items : Array Value) (n : Nat) (b : Addr) (items2 : Array Value) (n2 : Nat) (sl sl2 : Array (Option Value)) (hc0 : items.size + items2.size ≤ sizeLine) :
    Meets (Builtin.«list.__add__» ⟨[.ref l, .ref b], []⟩) (fun _ R s => s.heap.get? l = some { cls := .type "list", dict := none, data := .seq items n, slots := sl } ∧ s.heap.get? b = some { cls := .type "list", dict := none, data := .seq items2 n2, slots := sl2 } ∧ R (.ok (.ret (Value.ref s.heap.objs.size))) { s with heap := s.heap.push { cls := Value.type "list", data := Data.seq (items ++ items2) }, toks := s.toks }) :=
  .of_wp fun prog w A R s h => by obtain ⟨hp, g, d, tk, os⟩ := s; obtain ⟨hl, hb, h⟩ := h; have f1 := AutoSeq1.idx_int; have f2 := AutoSeq1.sub_tuple_tuple; have f3 := AutoSeq1.sub_list_list; have f4 := AutoSeq1.sub_tuple_list; have f5 := AutoSeq1.sub_list_tuple; wp_walk using AutoSeq1.wpAny_loadPart' hl, AutoSeq1.wpAny_loadPart' hb; exact ⟨_, rfl, h⟩
def rCatS (K : PySem.W.Frag) : R2 := fun x y H Q => ∃ l b xs zs, x = .ref l ∧ y = .ref b ∧ SqL K H l xs ∧ SqL K H b zs ∧ xs.length + zs.length ≤ sizeLine ∧ ∀ p, H p = none → Q (.ref p) (upd H p (.lst (xs ++ zs)))
theorem op_catS : OpR X (binaryOp .Add) (rCatS X.K) := by
  intro pins s σ H x y v u Q I rx ry h
  obtain ⟨l, b, xs, zs, rfl, rfl, hH, hB, hz, q⟩ := h
  cases rx
  cases ry
  obtain ⟨its, r, ⟨⟨c1, d1, t1, sl⟩, n, e, g1, g2, g3⟩, hl⟩ := I.list hH
  obtain ⟨its2, r2, ⟨⟨c2, d2, t2, sl2⟩, n2, e2, k1, k2, k3⟩, hl2⟩ := I.list hB
  simp only at g1 g2 g3 k1 k2 k3
  subst g1 g2 g3 k1 k2 k3
  have hlen := r.length
  have hlen2 := r2.length
  have hsz : its.toArray.size + its2.toArray.size ≤ sizeLine := by rw [List.size_toArray, List.size_toArray]; omega
  have ea : its.toArray ++ its2.toArray = (its ++ its2).toArray := by simp
  refine concat_meets ⟨_, e, rfl⟩ ⟨_, e2, rfl⟩ noFill_list_add seq_list_add F.slot_list_add F.entry_list_add (F.args_list_add_2 _ _) (list_add_any l its.toArray n b its2.toArray n2 sl sl2 hsz) ⟨e, e2, ?_⟩
  rw [ea]
  exact ⟨.ref _, _, I.lnew (t' := s.toks) (r.append r2) (by rw [List.length_append]; omega), rfl, q _ I.fresh⟩
/-- +: a list that comes is locked -/
def addZ (x y : D) (st : Sto) : R D := match itemsD x st, itemsD y st with
  | some xs, some ys => if xs.length + ys.length ≤ 16777216 then .ok (.frz (xs ++ ys)) st else .bad
  | _, _ => addD x y st
theorem o_addZ : OpS X W (binaryOp .Add) addZ := fun pins s σ H x y v u Q β st dx dy I r1 r2 S rx ry p => by
  unfold addZ at p
  split at p
  · rename_i xs ys e1 e2
    split at p
    · rename_i hz
      obtain ⟨a, vs, rfl, h1, h2⟩ := items_rel S rx e1
      obtain ⟨b, ws, rfl, g1, g2⟩ := items_rel S ry e2
      exact thn (op_catS pins s σ H _ _ v u (FQ Q) I r1 r2 ⟨a, b, vs, ws, rfl, rfl, h1, g1, by rw [h2.length, g2.length]; exact szl hz, fun q hq => newFz S (h2.append g2) hq p⟩) fun v s' q => EP_fz q
    · exact p.elim
  · exact o_add pins s σ H x y v u Q β st dx dy I r1 r2 S rx ry p
/-- +: a list that comes is a new one of the store -/
def addL (x y : D) (st : Sto) : R D := match itemsD x st, itemsD y st with
  | some xs, some ys => if xs.length + ys.length ≤ 16777216 then .ok (.loc st.length) (st ++ [.lst (xs ++ ys)]) else .bad
  | _, _ => addD x y st
theorem o_addL : OpS X W (binaryOp .Add) addL := fun pins s σ H x y v u Q β st dx dy I r1 r2 S rx ry p => by
  unfold addL at p
  split at p
  · rename_i xs ys e1 e2
    split at p
    · rename_i hz
      obtain ⟨a, vs, rfl, h1, h2⟩ := items_rel S rx e1
      obtain ⟨b, ws, rfl, g1, g2⟩ := items_rel S ry e2
      exact op_catS pins s σ H _ _ v u Q I r1 r2 ⟨a, b, vs, ws, rfl, rfl, h1, g1, by rw [h2.length, g2.length]; exact szl hz, fun q hq => by obtain ⟨x1, x2, x3⟩ := newLst S (h2.append g2) hq; exact p _ _ x1 x2 _ x3⟩
    · exact p.elim
  · exact o_add pins s σ H x y v u Q β st dx dy I r1 r2 S rx ry p
/-! ### comprehensions -/
def kLz (vs : List Nat) (g : KG) (it : KI) (cnd : KT) (elt : KE) : KE := fun ρ st => (it ρ st).bind fun src st1 => (lcGo g cnd elt src (wipeD ρ vs) (src.fuel st1) 0 st1 []).bind fun acc st2 => .ok (.frz acc) st2
theorem lc_mainZ {is vs : List Nat} {t : TG} {g : KG} (kg : PGK X is g t) (hv : ∀ i ∈ is, i ∈ vs) {σ : L2.St} {H : Hp} {Q Q2 : VK} (hQ : ∀ x H, FQ Q x H → Q2 x H) (h : lift X.K X.mg W (kLz vs g ki kt ke) σ H Q) : tLc (liftI X.K X.mg W ki) t (liftT X.K X.mg W0 kt) (lift X.K X.mg W0 ke) vs σ H Q2 := by
  obtain ⟨β, ρ, st, S, E, p⟩ := h
  refine liftI.bind S E p fun src β1 H1 st1 J e1 S1 E1 hJ p1 => ?_
  intro D hD
  refine ⟨fun i m H => ∃ β st acc us, Ext β1 H1 β H ∧ Sim X.K X.mg β st H ∧ H D = some (.lst us) ∧ D ∉ β ∧ VRs X.K β H acc us ∧ PostA X.K X.mg W σ (okE X.K Q) β1 H1 ((lcGo g kt ke src (wipeD ρ vs) m i st acc).bind fun acc st2 => .ok (.frz acc) st2),
    ⟨_, β1, st1, [], [], ext_new0 hD, S1.new0 hD, upd_same, fun hm => ?_, VRs.nil.mpr rfl, p1⟩, ?_⟩
  · obtain ⟨n, hn, e⟩ := List.mem_iff_getElem.mp hm
    exact S1.fresh hD (n := n) (by rw [List.getElem?_eq_getElem hn, e])
  rintro i m H ⟨β, st, acc, us, ex, S, hl, hn, ra, p⟩
  cases m with
  | zero => exact p.elim
  | succ m =>
    unfold lcGo at p
    obtain ⟨j1, j2⟩ := hJ i β H st ex S
    cases hat : src.at st i with
    | none => simp only [hat] at p; exact p.elim
    | some o =>
      cases o with
      | none =>
        simp only [hat] at p
        refine .inl ⟨j2 hat, hQ _ _ (.inr ⟨D, us, rfl, hl, fun o => ?_⟩)⟩
        obtain ⟨S', e5⟩ := S.updOut (o := .frz o (.lst us)) hl hn
        exact p β _ (ex.updNew hD) S' _ (VR.frz.mpr ⟨D, us, rfl, .inl ⟨o, upd_same⟩, VRs.mono0 e5 _ _ ra⟩)
      | some d =>
        simp only [hat] at p
        obtain ⟨go, yl⟩ := j1 d hat
        refine .inr ⟨go, fun H' => ∃ β' st' acc' us', Ext β1 H1 β' H' ∧ Sim X.K X.mg β' st' H' ∧ H' D = some (.lst us') ∧ D ∉ β' ∧ VRs X.K β' H' acc' us' ∧ PostA X.K X.mg W σ (okE X.K Q) β1 H1 ((lcGo g kt ke src (wipeD ρ vs) m (i + 1) st' acc').bind fun acc st2 => .ok (.frz acc) st2),
          fun H' ⟨β', st', acc', us', q⟩ => ⟨m, Nat.lt_succ_self _, β', st', acc', us', q⟩, fun x H' y => ?_⟩
        obtain ⟨β2, e2, S2, r2⟩ := yl x H' y
        have stay : ∀ {βa βb : List Addr} {Ha Hb : Hp}, Ext βa Ha βb Hb → Ha D = some (.lst us) → D ∉ βa → Hb D = some (.lst us) ∧ D ∉ βb := fun ee hh hnn => ⟨ee.keep D _ hh hnn (fun _ z => by cases z), fun z => by
          rcases ee.new D z with z | z | ⟨ps, z⟩
          · exact hnn z
          · rw [hh] at z; cases z
          · rw [hh] at z; cases z⟩
        obtain ⟨hl2, hn2⟩ := stay e2 hl hn
        cases hgd : g d (wipeD ρ vs) with
        | none => simp only [hgd] at p; exact p.elim
        | some ρ1 =>
          simp only [hgd] at p
          refine kg d x (L2.wipe σ vs) H' (wipeD ρ vs) β2 _ ρ1 r2 ((E1.mono (ex.trans e2)).wipe vs) hgd fun σ2 E2 wp => ⟨?_, ?_⟩
          · exact (wp vs hv).trans (wipe_wipe vs fun _ h => h)
          refine ⟨β2, ρ1, st, S2, E2, ?_⟩
          cases hk : kt ρ1 st with
          | exn _ _ => simp only [hk] at p; exact p.elim
          | bad => simp only [hk] at p; exact p.elim
          | ok k st3 =>
            simp only [hk] at p
            intro β3 H3 e3 S3
            obtain ⟨hl3, hn3⟩ := stay e3 hl2 hn2
            cases k with
            | false =>
              exact iteF ⟨β3, st3, acc, us, (ex.trans e2).trans e3, S3, hl3, hn3, VRs.mono e3 _ _ (VRs.mono e2 _ _ ra), p⟩
            | true =>
              simp only [if_true] at p
              refine iteT ⟨β3, ρ1, st3, S3, E2.mono e3, ?_⟩
              cases hy : ke ρ1 st3 with
              | exn _ _ => simp only [hy] at p; exact p.elim
              | bad => simp only [hy] at p; exact p.elim
              | ok y st4 =>
                simp only [hy] at p
                split at p
                · rename_i hz
                  intro β4 H4 e4 S4 v4 r4
                  obtain ⟨hl4, hn4⟩ := stay e4 hl3 hn3
                  have ra4 := VRs.mono e4 _ _ (VRs.mono e3 _ _ (VRs.mono e2 _ _ ra))
                  obtain ⟨S5, e5⟩ := S4.updOut (o := .lst (us ++ [v4])) hl4 hn4
                  refine ⟨us, hl4, ?_, β4, st4, acc ++ [y], us ++ [v4], (((ex.trans e2).trans e3).trans e4).updNew hD, S5, upd_same, hn4, VRs.mono0 e5 _ _ (ra4.append (VRs.cons.mpr ⟨v4, [], rfl, r4, VRs.nil.mpr rfl⟩)), p⟩
                  have : us.length < 16777215 := by rw [ra4.length]; exact hz
                  rw [sizeLine_eq]; omega
                · exact p.elim
theorem q_lcZ {scope : Scope} {own : List (Str × Nat)} {is : List Nat} {g : KG} {t : TG} (hc : X.calm = true) (hN : X.N.Nodup) (hi : PI X tg iter (liftI X.K X.mg W ki)) (ok : BlkOk X.N X.env.scope scope own)
    (hg : ∀ (s : Shared) (H : Hp) (C : Addr) (cl : List (Str × Addr)) (fp : List Addr), PG (X.blk s H scope (compEnvC scope cl C X.env) fp) tg t) (kg : PGK X is g t) (hv : ∀ i ∈ is, i ∈ own.map (·.2))
    (ht : ∀ (s : Shared) (H : Hp) (C : Addr) (cl : List (Str × Addr)) (fp : List Addr), PTs (X.blk s H scope (compEnvC scope cl C X.env) fp) ifs (liftT X.K X.mg W0 kt))
    (he : ∀ (s : Shared) (H : Hp) (C : Addr) (cl : List (Str × Addr)) (fp : List Addr), PE (X.blk s H scope (compEnvC scope cl C X.env) fp) elt (lift X.K X.mg W0 ke)) (hs : ∀ x, foldedSetIterable iter X.env x = pure x := by intro _; rfl) :
    PE X (.ListComp elt [⟨tg, iter, ifs, 0⟩] scope pos) (lift X.K X.mg W (kLz (own.map (·.2)) g ki kt ke)) :=
  PE.imp (PE.fz (pe_lc hc hN hi ok hg ht he hs)) fun σ H Q h => lc_mainZ kg hv (fun _ _ z => z) h
theorem PS.fz {st : Stmt} {t : TS} (h : PS X st t) : PS X st fun D σ H => t { D with nx := fun σ' H' => D.nx σ' H' ∨ ∃ q vs, H' q = some (.lst vs) ∧ ∀ o, D.nx σ' (upd H' q (.frz o (.lst vs))) } σ H :=
  ⟨fun pins s σ H D I p => thn (h.run pins s σ H _ I p) fun f s' q => by
    cases f with
    | next =>
      obtain ⟨σ', H', J, z⟩ := q
      rcases z with z | ⟨a, vs, hl, z⟩
      · exact ⟨σ', H', J, z⟩
      · obtain ⟨o, J2⟩ := J.lock hl trivial
        exact ⟨σ', _, J2, z o⟩
    | brk => exact q
    | cont => exact q
    | ret u => exact q⟩
theorem s_setLcZ {i : Nat} {y : Str} {py spos : Pos} {scope : Scope} {own : List (Str × Nat)} {is : List Nat} {g : KG} {t : TG} (hc : X.calm = true) (hN : X.N.Nodup) (hy : X.N[i]? = some y) (hyl : X.env.scope.names.lookup y = some .local)
    (hsw : swapsWith (.ListComp elt [⟨tg, iter, ifs, 0⟩] scope pos) (some (.Name y py)) spos.line X.env = pure true) (hi : PI X tg iter (liftI X.K X.mg W ki)) (ok : BlkOk X.N X.env.scope scope own)
    (hg : ∀ (s : Shared) (H : Hp) (C : Addr) (cl : List (Str × Addr)) (fp : List Addr), PG (X.blk s H scope (compEnvC scope cl C X.env) fp) tg t) (kg : PGK X is g t) (hv : ∀ i ∈ is, i ∈ own.map (·.2))
    (ht : ∀ (s : Shared) (H : Hp) (C : Addr) (cl : List (Str × Addr)) (fp : List Addr), PTs (X.blk s H scope (compEnvC scope cl C X.env) fp) ifs (liftT X.K X.mg W0 kt))
    (he : ∀ (s : Shared) (H : Hp) (C : Addr) (cl : List (Str × Addr)) (fp : List Addr), PE (X.blk s H scope (compEnvC scope cl C X.env) fp) elt (lift X.K X.mg W0 ke)) (hs : ∀ x, foldedSetIterable iter X.env x = pure x := by intro _; rfl) :
    PS X (.Assign [.Name y py] (.ListComp elt [⟨tg, iter, ifs, 0⟩] scope pos) spos) (liftS X.K X.mg W (sSet i (kLz (own.map (·.2)) g ki kt ke))) :=
  PS.imp (PS.fz (ps_setLc hc hN hy hyl hsw hi ok hg ht he hs)) fun Dn σ H ⟨β, ρ, st, S, E, p⟩ => by
    show tLc _ _ _ _ _ σ H _
    refine lc_mainZ (Q := fun x H1 => Dn.nx (σ.set i (some x)) H1) kg hv (fun x H1 z => ?_) (lift.toS S E p fun d v β1 H1 st1 e1 S1 E1 r1 p1 => ?_)
    · rcases z with z | ⟨q, vs, rfl, hl, z⟩
      · exact .inl z
      · exact .inr ⟨q, vs, hl, z⟩
    · exact p1 β1 H1 _ (Ext.refl _ _) S1 (E1.set i r1)
end
end L3

/-! Reckoning with meanings. -/
namespace L3
open PySem L2
@[simp] theorem RS_toS_ok {α : Type} (a : α) (st : Sto) (ρ : Env3) (f : α → Sto → RS) : (R.ok a st).toS ρ f = f a st := rfl
/-- a draws' list stands at n -/
def DieAt (n : Nat) (st : Sto) : Prop := ∃ a b c : Int, st[n]? = some (.lst [.int a, .int b, .int c])
/-- all else stands, the draws' list stays one, the store grows -/
structure Step (n : Nat) (st st' : Sto) : Prop where
  keep : ∀ (m : Nat) (o : O), m ≠ n → st[m]? = some o → st'[m]? = some o
  die : DieAt n st'
  len : st.length ≤ st'.length
theorem Step.refl {n : Nat} {st : Sto} (h : DieAt n st) : Step n st st := ⟨fun _ _ _ h => h, h, Nat.le_refl _⟩
theorem Step.trans {n : Nat} {st st1 st2 : Sto} (a : Step n st st1) (b : Step n st1 st2) : Step n st st2 :=
  ⟨fun m o hm h => b.keep m o hm (a.keep m o hm h), b.die, Nat.le_trans a.len b.len⟩
theorem DieAt.lt {n : Nat} {st : Sto} (h : DieAt n st) : n < st.length := by obtain ⟨a, b, c, h⟩ := h; exact (List.getElem?_eq_some_iff.mp h).1
theorem Step.grow {n : Nat} {st : Sto} (h : DieAt n st) (g : Sto) : Step n st (st ++ g) := by
  have hl := h.lt
  obtain ⟨a, b, c, h⟩ := h
  exact ⟨fun m o hm q => by rw [List.getElem?_append_left (List.getElem?_eq_some_iff.mp q).1]; exact q, ⟨a, b, c, by rw [List.getElem?_append_left hl]; exact h⟩, by simp⟩
theorem Step.draw {n : Nat} {st : Sto} (h : DieAt n st) (a b c : Int) : Step n st (st.set n (.lst [.int a, .int b, .int c])) :=
  ⟨fun m o hm q => by rw [List.getElem?_set_ne (Ne.symm hm)]; exact q, ⟨a, b, c, by rw [List.getElem?_set_self h.lt]⟩, by simp⟩
theorem Step.new {n : Nat} {st st' : Sto} (h : Step n st st') (o : O) : Step n st (st' ++ [o]) := h.trans (Step.grow h.die _)

/-- what a draw must be -/
def CastS (r : L3.Run) : Prop := ∀ (st : Sto) (n : Nat) (tot : Int), DieAt n st → 0 < tot → tot < 1073741824 → ∃ (k : Int) (st' : Sto), 0 ≤ k ∧ k < tot ∧ r [.loc n, .int tot] st = .ok (.int k) st' ∧ st'.length = st.length ∧ Step n st st'
end L3
namespace L3
open PySem L2
section
variable {ρ : Env3} {st : Sto} {a b c : KE} {d : D}
theorem runDef_eq {n np : Nat} {body : KS} {ds : List D} (h : ds.length = np) : runDef n np body ds st = finR (body (start3 n ds) st) := by unfold runDef; rw [if_pos h]
theorem kv_ok {i : Nat} (h : ρ[i]? = some (some d)) : kv i ρ st = .ok d st := by unfold kv; rw [h]
theorem ixD_loc {n : Nat} {xs : List D} {i : Int} (h : st[n]? = some (.lst xs)) (h2 : atI xs i = some d) : ixD (.loc n) (.int i) st = .ok d st := by simp only [ixD, h, h2]
theorem ixD_tup {xs : List D} {i : Int} (h2 : atI xs i = some d) : ixD (.tup xs) (.int i) st = .ok d st := by simp only [ixD, h2]
theorem ixD_frz {xs : List D} {i : Int} (h2 : atI xs i = some d) : ixD (.frz xs) (.int i) st = .ok d st := by simp only [ixD, h2]
theorem setL_loc {n : Nat} {xs : List D} {k : Int} {j : Nat} {v : D} (h : st[n]? = some (.lst xs)) (h2 : ixN xs.length k = some j) : setL (.loc n) (.int k) v st = some (st.set n (.lst (xs.set j v))) := by simp only [setL, h, h2]
theorem atI_zero {α : Type} {x : α} {xs : List α} : atI (x :: xs) 0 = some x := atI_nat (j := 0) rfl
theorem atI_one {α : Type} {x y : α} {xs : List α} : atI (x :: y :: xs) 1 = some y := atI_nat (j := 1) rfl
theorem atI_two {α : Type} {x y z : α} {xs : List α} : atI (x :: y :: z :: xs) 2 = some z := atI_nat (j := 2) rfl
end
end L3
namespace L3
open PySem L2
/-- a text that is not long, of signs that there are -/
def strG (x : Str) : Bool := decide (x.length ≤ 1000) && x.cps.all (· < 0x110000)
/-- data without the draws' list: nothing of it is at n -/
inductive Pl (n : Nat) (st : Sto) : D → Prop
  | non : Pl n st .non
  | bl (b : Bool) : Pl n st (.bl b)
  | int (i : Int) : Pl n st (.int i)
  | str (x : Str) : strG x = true → Pl n st (.str x)
  | tup {xs : List D} : xs.length ≤ 1000 → (∀ x ∈ xs, Pl n st x) → Pl n st (.tup xs)
  | frz {xs : List D} : xs.length ≤ 1000 → (∀ x ∈ xs, Pl n st x) → Pl n st (.frz xs)
  | lst {m : Nat} {xs : List D} : m ≠ n → st[m]? = some (.lst xs) → Pl n st (.loc m)
  | dK {m : Nat} {xs : List (Key × D)} : m ≠ n → st[m]? = some (.dK xs) → Pl n st (.loc m)
theorem Pl.step {n : Nat} {st st' : Sto} (s : Step n st st') {d : D} (h : Pl n st d) : Pl n st' d := by
  induction h with
  | non => exact .non
  | bl b => exact .bl b
  | int i => exact .int i
  | str x h => exact .str x h
  | tup h _ ih => exact .tup h ih
  | frz h _ ih => exact .frz h ih
  | lst h1 h2 => exact .lst h1 (s.keep _ _ h1 h2)
  | dK h1 h2 => exact .dK h1 (s.keep _ _ h1 h2)
theorem Pl.ty {n : Nat} {st : Sto} {d : D} (h : Pl n st d) : ∃ a, tyN d st = some a ∧ a ∈ ["NoneType", "bool", "int", "str", "tuple", "list", "dict"] := by
  cases h with
  | non => exact ⟨_, rfl, by decide⟩
  | bl b => exact ⟨_, rfl, by decide⟩
  | int i => exact ⟨_, rfl, by decide⟩
  | str x => exact ⟨_, rfl, by decide⟩
  | tup _ _ => exact ⟨_, rfl, by decide⟩
  | frz _ _ => exact ⟨_, rfl, by decide⟩
  | lst h1 h2 => exact ⟨"list", by simp only [tyN, h2], by decide⟩
  | dK h1 h2 => exact ⟨"dict", by simp only [tyN, h2], by decide⟩
/-- what may be picked from -/
def seqD (d : D) (st : Sto) : Option (List D) := match d with
  | .tup xs => some xs
  | .frz xs => some xs
  | .str x => if x.length ≤ 16777216 then some (strIts x) else none
  | .loc n => match st[n]? with
    | some (.lst xs) => some xs
    | _ => none
  | _ => none
theorem seqD_step {n : Nat} {st st' : Sto} (s : Step n st st') {d : D} {xs : List D} (hd : ∀ m, d = .loc m → m ≠ n) (h : seqD d st = some xs) : seqD d st' = some xs := by
  cases d with
  | loc m =>
    unfold seqD at h ⊢
    cases ho : st[m]? with
    | none => simp only [ho] at h; cases h
    | some o =>
      have h2 := s.keep m o (hd m rfl) ho
      simp only [ho] at h
      simp only [h2]
      exact h
  | _ => exact h
theorem lenF_seq {d : D} {st : Sto} {xs : List D} (h : seqD d st = some xs) : lenF [d] st = .ok (.int xs.length) st := by
  cases d with
  | tup ys => cases h; rfl
  | frz ys => cases h; rfl
  | str x =>
    unfold seqD at h
    simp only at h
    split at h
    · rename_i hz
      cases h
      have e : (strIts x).length = x.length := by unfold strIts; simp [Str.length]
      simp only [lenF, if_pos hz, e]
    · cases h
  | loc m =>
    unfold seqD at h
    simp only at h
    split at h
    · rename_i ys he; cases h; simp only [lenF, he]
    · cases h
  | _ => cases h
theorem atI_lt {α : Type} {xs : List α} {k : Int} (h0 : 0 ≤ k) (h1 : k < xs.length) : atI xs k = some (xs[k.toNat]'(by omega)) := by
  have e : (k.toNat : Int) = k := Int.toNat_of_nonneg h0
  have h := atI_nat (xs := xs) (j := k.toNat) (List.getElem?_eq_getElem (by omega))
  rw [e] at h
  exact h
theorem ixD_seq {d : D} {st : Sto} {xs : List D} {k : Int} (h : seqD d st = some xs) (h0 : 0 ≤ k) (h1 : k < xs.length) : ∃ y, xs[k.toNat]? = some y ∧ ixD d (.int k) st = .ok y st := by
  have hl : k.toNat < xs.length := by omega
  cases d with
  | tup ys => cases h; exact ⟨xs[k.toNat], List.getElem?_eq_getElem hl, ixD_tup (atI_lt h0 h1)⟩
  | frz ys => cases h; exact ⟨xs[k.toNat], List.getElem?_eq_getElem hl, ixD_frz (atI_lt h0 h1)⟩
  | str x =>
    unfold seqD at h
    simp only at h
    split at h
    · rename_i hz
      cases h
      have e : (strIts x).length = x.cps.toList.length := by unfold strIts; simp
      have h2 : k < x.cps.toList.length := by rw [← e]; exact h1
      have h3 := atI_lt h0 h2
      refine ⟨.str ⟨#[x.cps.toList[k.toNat]'(by omega)]⟩, ?_, ?_⟩
      · unfold strIts
        rw [List.getElem?_map, List.getElem?_eq_getElem (by omega)]
        rfl
      · simp only [ixD, if_pos hz, h3]
    · cases h
  | loc m =>
    unfold seqD at h
    simp only at h
    split at h
    · rename_i ys he; cases h; exact ⟨xs[k.toNat], List.getElem?_eq_getElem hl, ixD_loc he (atI_lt h0 h1)⟩
    · cases h
  | _ => cases h
/-- what a pick must be -/
def PickS (r : L3.Run) : Prop := ∀ (st : Sto) (n : Nat) (it : D) (xs : List D), DieAt n st → seqD it st = some xs → (∀ m, it = .loc m → m ≠ n) → xs ≠ [] → xs.length < 1073741824 →
  ∃ (y : D) (st' : Sto), y ∈ xs ∧ r [.loc n, it] st = .ok y st' ∧ st'.length = st.length ∧ Step n st st'
def NumsS (r : L3.Run) : Prop := ∀ (st : Sto) (ns : List Int) (k : Int), 0 ≤ k → ∃ a b : Int, r [.frz (ns.map D.int), .int k] st = .ok (.loc st.length) (st ++ [.lst [.int a, .int b, .int 0]])
theorem pow_ok {i j : Int} {st : Sto} (h : 0 ≤ j ∧ (Builtin.Int.intBits i : Int) * j ≤ 2 ^ 27) : powD (.int i) (.int j) st = .ok (.int (i ^ j.toNat)) st := by unfold powD; simp only [if_pos h]
end L3
namespace L3
open PySem L2
theorem kb_NoneType_int : kitB "NoneType" "int" = some false := by decide +kernel
theorem kb_bool_int : kitB "bool" "int" = some true := by decide +kernel
theorem kb_int_int : kitB "int" "int" = some true := by decide +kernel
theorem kb_str_int : kitB "str" "int" = some false := by decide +kernel
theorem kb_tuple_int : kitB "tuple" "int" = some false := by decide +kernel
theorem kb_list_int : kitB "list" "int" = some false := by decide +kernel
theorem kb_dict_int : kitB "dict" "int" = some false := by decide +kernel
theorem kb_NoneType_bool : kitB "NoneType" "bool" = some false := by decide +kernel
theorem kb_bool_bool : kitB "bool" "bool" = some true := by decide +kernel
theorem kb_int_bool : kitB "int" "bool" = some false := by decide +kernel
theorem kb_str_bool : kitB "str" "bool" = some false := by decide +kernel
theorem kb_tuple_bool : kitB "tuple" "bool" = some false := by decide +kernel
theorem kb_list_bool : kitB "list" "bool" = some false := by decide +kernel
theorem kb_dict_bool : kitB "dict" "bool" = some false := by decide +kernel
theorem kb_NoneType_str : kitB "NoneType" "str" = some false := by decide +kernel
theorem kb_bool_str : kitB "bool" "str" = some false := by decide +kernel
theorem kb_int_str : kitB "int" "str" = some false := by decide +kernel
theorem kb_str_str : kitB "str" "str" = some true := by decide +kernel
theorem kb_tuple_str : kitB "tuple" "str" = some false := by decide +kernel
theorem kb_list_str : kitB "list" "str" = some false := by decide +kernel
theorem kb_dict_str : kitB "dict" "str" = some false := by decide +kernel
theorem kb_NoneType_tuple : kitB "NoneType" "tuple" = some false := by decide +kernel
theorem kb_bool_tuple : kitB "bool" "tuple" = some false := by decide +kernel
theorem kb_int_tuple : kitB "int" "tuple" = some false := by decide +kernel
theorem kb_str_tuple : kitB "str" "tuple" = some false := by decide +kernel
theorem kb_tuple_tuple : kitB "tuple" "tuple" = some true := by decide +kernel
theorem kb_list_tuple : kitB "list" "tuple" = some false := by decide +kernel
theorem kb_dict_tuple : kitB "dict" "tuple" = some false := by decide +kernel
theorem kb_NoneType_list : kitB "NoneType" "list" = some false := by decide +kernel
theorem kb_bool_list : kitB "bool" "list" = some false := by decide +kernel
theorem kb_int_list : kitB "int" "list" = some false := by decide +kernel
theorem kb_str_list : kitB "str" "list" = some false := by decide +kernel
theorem kb_tuple_list : kitB "tuple" "list" = some false := by decide +kernel
theorem kb_list_list : kitB "list" "list" = some true := by decide +kernel
theorem kb_dict_list : kitB "dict" "list" = some false := by decide +kernel
theorem kb_NoneType_dict : kitB "NoneType" "dict" = some false := by decide +kernel
theorem kb_bool_dict : kitB "bool" "dict" = some false := by decide +kernel
theorem kb_int_dict : kitB "int" "dict" = some false := by decide +kernel
theorem kb_str_dict : kitB "str" "dict" = some false := by decide +kernel
theorem kb_tuple_dict : kitB "tuple" "dict" = some false := by decide +kernel
theorem kb_list_dict : kitB "list" "dict" = some false := by decide +kernel
theorem kb_dict_dict : kitB "dict" "dict" = some true := by decide +kernel

theorem isF_of {T a : String} {b : Bool} {d : D} {st : Sto} (h : tyN d st = some a) (k : kitB a T = some b) : isF T d st = .ok (.bl b) st := by
  unfold isF
  rw [h, Option.bind_some, k]
section
variable {st : Sto} {n : Nat}
/-- whether it is an int, a bool .. -/
def isIntD : D → Bool
  | .int _ => true
  | .bl _ => true
  | _ => false
def isBlD : D → Bool
  | .bl _ => true
  | _ => false
def isStrD : D → Bool
  | .str _ => true
  | _ => false
def isTupD : D → Bool
  | .tup _ => true
  | _ => false
theorem is_int {d : D} (h : Pl n st d) : isF "int" d st = .ok (.bl (isIntD d)) st := by
  cases h with
  | non => exact isF_of rfl kb_NoneType_int
  | bl b => exact isF_of rfl kb_bool_int
  | int i => exact isF_of rfl kb_int_int
  | str x => exact isF_of rfl kb_str_int
  | tup _ _ => exact isF_of rfl kb_tuple_int
  | frz _ _ => exact isF_of rfl kb_list_int
  | lst h1 h2 => exact isF_of (by simp only [tyN, h2]) kb_list_int
  | dK h1 h2 => exact isF_of (by simp only [tyN, h2]) kb_dict_int
theorem is_bool {d : D} (h : Pl n st d) : isF "bool" d st = .ok (.bl (isBlD d)) st := by
  cases h with
  | non => exact isF_of rfl kb_NoneType_bool
  | bl b => exact isF_of rfl kb_bool_bool
  | int i => exact isF_of rfl kb_int_bool
  | str x => exact isF_of rfl kb_str_bool
  | tup _ _ => exact isF_of rfl kb_tuple_bool
  | frz _ _ => exact isF_of rfl kb_list_bool
  | lst h1 h2 => exact isF_of (by simp only [tyN, h2]) kb_list_bool
  | dK h1 h2 => exact isF_of (by simp only [tyN, h2]) kb_dict_bool
theorem is_str {d : D} (h : Pl n st d) : isF "str" d st = .ok (.bl (isStrD d)) st := by
  cases h with
  | non => exact isF_of rfl kb_NoneType_str
  | bl b => exact isF_of rfl kb_bool_str
  | int i => exact isF_of rfl kb_int_str
  | str x => exact isF_of rfl kb_str_str
  | tup _ _ => exact isF_of rfl kb_tuple_str
  | frz _ _ => exact isF_of rfl kb_list_str
  | lst h1 h2 => exact isF_of (by simp only [tyN, h2]) kb_list_str
  | dK h1 h2 => exact isF_of (by simp only [tyN, h2]) kb_dict_str
theorem is_tup {d : D} (h : Pl n st d) : isF "tuple" d st = .ok (.bl (isTupD d)) st := by
  cases h with
  | non => exact isF_of rfl kb_NoneType_tuple
  | bl b => exact isF_of rfl kb_bool_tuple
  | int i => exact isF_of rfl kb_int_tuple
  | str x => exact isF_of rfl kb_str_tuple
  | tup _ _ => exact isF_of rfl kb_tuple_tuple
  | frz _ _ => exact isF_of rfl kb_list_tuple
  | lst h1 h2 => exact isF_of (by simp only [tyN, h2]) kb_list_tuple
  | dK h1 h2 => exact isF_of (by simp only [tyN, h2]) kb_dict_tuple
end
/-! ### stores that grow -/
section
variable {st l : Sto} {k : Nat} {o : O}
theorem stA : (st ++ l)[st.length + k]? = l[k]? := by rw [List.getElem?_append_right (by omega)]; congr 1; omega
theorem stA0 : (st ++ l)[st.length]? = l[0]? := by rw [List.getElem?_append_right (by omega)]; congr 1; omega
theorem stS : (st ++ l).set (st.length + k) o = st ++ l.set k o := by rw [List.set_append_right _ _ (by omega)]; congr 2; omega
theorem stS0 : (st ++ l).set st.length o = st ++ l.set 0 o := by rw [List.set_append_right _ _ (by omega)]; congr 2; omega
end
theorem cutD_sub {xs : List D} {lo hi : Option Int} {x : D} (h : x ∈ cutD xs lo hi) : x ∈ xs := by
  unfold cutD at h
  exact List.mem_of_mem_drop (List.mem_of_mem_take h)
theorem cutD_len (xs : List D) (lo hi : Option Int) : (cutD xs lo hi).length ≤ xs.length := by
  unfold cutD
  rw [List.length_take, List.length_drop]
  omega
theorem addD_tup {xs ys : List D} {st : Sto} (h : xs.length + ys.length ≤ 16777216) : addD (.tup xs) (.tup ys) st = .ok (.tup (xs ++ ys)) st := by simp only [addD, if_pos h]
theorem addD_lst {m n : Nat} {xs ys : List D} {st : Sto} (h1 : st[m]? = some (.lst xs)) (h2 : st[n]? = some (.lst ys)) (h : xs.length + ys.length ≤ 16777216) : addD (.loc m) (.loc n) st = .ok (.loc st.length) (st ++ [.lst (xs ++ ys)]) := by simp only [addD, h1, h2, if_pos h]
theorem appendM_ok {n : Nat} {xs : List D} {y : D} {st : Sto} (h1 : st[n]? = some (.lst xs)) (h : xs.length < 16777216) : appendM (.loc n) [y] st = .ok .non (st.set n (.lst (xs ++ [y]))) := by simp only [appendM, h1, if_pos h]
theorem tyD_lst {n : Nat} {xs : List D} {st : Sto} (h1 : st[n]? = some (.lst xs)) : tyD "list" (.loc n) st = true := by simp only [tyD, h1]; rfl
/-! ### data of ints -/
theorem pd_ints (st : Sto) (n : Nat) : ∀ is : List Int, allO ((is.map D.int).map (pd st n)) = some (is.map PyData.int)
  | [] => rfl
  | i :: is => by
    show (pd st n (.int i)).bind (fun a => (allO ((is.map D.int).map (pd st n))).bind fun l => some (a :: l)) = _
    rw [pd_ints st n is]
    cases n <;> rfl
theorem canLay_ints : ∀ is : List Int, PyData.canLayAll0 (is.map PyData.int) = true
  | [] => by simp [PyData.canLayAll0]
  | i :: is => by simp [PyData.canLayAll0, PyData.canLay0, canLay_ints is]
theorem depth_ints : ∀ is : List Int, PyData.depthAll (is.map PyData.int) ≤ 1
  | [] => by simp [PyData.depthAll]
  | i :: is => by
    have := depth_ints is
    simp only [List.map_cons, PyData.depthAll, PyData.depth]
    omega
theorem shaped_tup_ints (is : List Int) : SeqAt.shaped (.tuple (is.map PyData.int)) = true := by
  have h1 := depth_ints is
  have h2 : PyData.depth (.tuple (is.map PyData.int)) ≤ 64 := by
    simp only [PyData.depth]
    omega
  show (PyData.canLay0 (.tuple (is.map PyData.int)) && decide (PyData.depth (.tuple (is.map PyData.int)) ≤ 64)) = true
  rw [Bool.and_eq_true]
  exact ⟨by simp only [PyData.canLay0]; exact canLay_ints is, decide_eq_true h2⟩
end L3
namespace L3
open PySem L2
/-- how a bent tuple of ints comes out -/
def BentS (r : L3.Run) : Prop := ∀ (st : Sto) (n : Nat) (is : List Int) (odd : D), DieAt n st → is ≠ [] → is.length ≤ 100 → Pl n st odd → ∃ (d : D) (st' : Sto), r [.loc n, .tup (is.map D.int), odd] st = .ok d st' ∧ Step n st st' ∧ Pl n st' d
def OddS (r : L3.Run) : Prop := ∀ (st : Sto) (n : Nat), DieAt n st → ∃ (d : D) (st' : Sto), r [.loc n] st = .ok d st' ∧ Step n st st' ∧ Pl n st' d
def numB (d : D) (lo hi : Int) : Bool := match d with
  | .int i => decide (lo ≤ i) && decide (i ≤ hi)
  | _ => false
def NumberS (r : L3.Run) : Prop := ∀ (st : Sto) (n : Nat) (d : D) (lo hi : Int), Pl n st d → r [d, .int lo, .int hi] st = .ok (.bl (numB d lo hi)) st
theorem pl_ints {n : Nat} {st : Sto} {is : List Int} : ∀ x ∈ is.map D.int, Pl n st x := fun x h => by
  obtain ⟨i, _, rfl⟩ := List.mem_map.mp h
  exact .int i
theorem pl_tup_ints {n : Nat} {st : Sto} {is : List Int} (h : is.length ≤ 1000) : Pl n st (.tup (is.map D.int)) := .tup (by simpa using h) pl_ints
theorem slD_tup {xs : List D} {lo hi : Option Int} {st : Sto} : slD (.tup xs) lo hi st = .ok (.tup (cutD xs lo hi)) st := rfl
theorem revD_tup {xs : List D} {st : Sto} : revD (.tup xs) st = .ok (.tup xs.reverse) st := rfl
end L3

/-! Loops, lists, texts. -/
namespace L3
open PySem L2
theorem pl_nil {n : Nat} {st : Sto} : ∀ x ∈ ([] : List D), Pl n st x := fun x h => nomatch h
theorem pl_cons {n : Nat} {st : Sto} {d : D} {l : List D} (h : Pl n st d) (hl : ∀ x ∈ l, Pl n st x) : ∀ x ∈ d :: l, Pl n st x := fun x hx => by
  rcases List.mem_cons.mp hx with rfl | hx
  · exact h
  · exact hl x hx
theorem Pl.tupD {n : Nat} {st : Sto} {l : List D} (h : ∀ x ∈ l, Pl n st x) (hl : decide (l.length ≤ 1000) = true) : Pl n st (.tup l) := .tup (of_decide_eq_true hl) h
theorem Pl.strD {n : Nat} {st : Sto} {x : Str} (hl : strG x = true) : Pl n st (.str x) := .str x hl
end L3

namespace L3
open PySem L2
theorem all_nil {α : Type} {p : α → Prop} : ∀ x ∈ ([] : List α), p x := fun x h => nomatch h
theorem all_cons {α : Type} {p : α → Prop} {a : α} {l : List α} (h : p a) (hl : ∀ x ∈ l, p x) : ∀ x ∈ a :: l, p x := fun x hx => by
  rcases List.mem_cons.mp hx with rfl | hx
  · exact h
  · exact hl x hx
theorem lc_inv {g : KG} {cnd : KT} {elt : KE} {src : Src} {ρ : Env3} {xs : List D} (Inv : Nat → Sto → List D → Prop)
    (hat : ∀ i st acc, Inv i st acc → src.at st i = some xs[i]?)
    (step : ∀ i d st acc, xs[i]? = some d → Inv i st acc → ∃ ρ1 k st1, g d ρ = some ρ1 ∧ cnd ρ1 st = .ok k st1 ∧ (k = true → ∃ y st2, elt ρ1 st1 = .ok y st2 ∧ Inv (i + 1) st2 (acc ++ [y])) ∧ (k = false → Inv (i + 1) st1 acc)) :
    ∀ (m i : Nat) (st : Sto) (acc : List D) (f : Nat), xs.length - i = m → i ≤ xs.length → m < f → acc.length ≤ i → xs.length < 16777215 → Inv i st acc → ∃ acc' st', lcGo g cnd elt src ρ f i st acc = .ok acc' st' ∧ Inv xs.length st' acc' ∧ acc'.length ≤ xs.length := by
  intro m
  induction m with
  | zero =>
    intro i st acc f hm hi hf ha hx h
    have e : i = xs.length := by omega
    subst e
    obtain ⟨f, rfl⟩ : ∃ f', f = f' + 1 := ⟨f - 1, by omega⟩
    refine ⟨acc, st, ?_, h, ha⟩
    unfold lcGo
    rw [hat _ _ _ h, List.getElem?_eq_none (Nat.le_refl _)]
  | succ m ih =>
    intro i st acc f hm hi hf ha hx h
    obtain ⟨f, rfl⟩ : ∃ f', f = f' + 1 := ⟨f - 1, by omega⟩
    have hlt : i < xs.length := by omega
    have e := List.getElem?_eq_getElem hlt
    obtain ⟨ρ1, k, st1, hg, hc, ht, hfa⟩ := step i _ st acc e h
    unfold lcGo
    rw [hat _ _ _ h, e]
    simp only [hg, hc]
    cases k with
    | true =>
      obtain ⟨y, st2, he, h2⟩ := ht rfl
      simp only [he, if_true]
      rw [if_pos (by omega)]
      exact ih (i + 1) st2 (acc ++ [y]) f (by omega) (by omega) (by omega) (by simp; omega) hx h2
    | false =>
      simp only [Bool.false_eq_true, if_false]
      exact ih (i + 1) st1 acc f (by omega) (by omega) (by omega) (by omega) hx (hfa rfl)
theorem for_inv {g : KG} {body : KS} {src : Src} {xs : List D} (Inv : Nat → Env3 → Sto → Prop)
    (hat : ∀ i ρ st, Inv i ρ st → src.at st i = some xs[i]?)
    (step : ∀ i d ρ st, xs[i]? = some d → Inv i ρ st → ∃ ρ1 ρ2 st2, g d ρ = some ρ1 ∧ (body ρ1 st = .nx ρ2 st2 ∨ body ρ1 st = .ct ρ2 st2) ∧ Inv (i + 1) ρ2 st2) :
    ∀ (m i : Nat) (ρ : Env3) (st : Sto) (f : Nat), xs.length - i = m → i ≤ xs.length → m < f → Inv i ρ st → ∃ ρ' st', forGo g body src f i ρ st = .nx ρ' st' ∧ Inv xs.length ρ' st' := by
  intro m
  induction m with
  | zero =>
    intro i ρ st f hm hi hf h
    have e : i = xs.length := by omega
    subst e
    obtain ⟨f, rfl⟩ : ∃ f', f = f' + 1 := ⟨f - 1, by omega⟩
    refine ⟨ρ, st, ?_, h⟩
    unfold forGo
    rw [hat _ _ _ h, List.getElem?_eq_none (Nat.le_refl _)]
  | succ m ih =>
    intro i ρ st f hm hi hf h
    obtain ⟨f, rfl⟩ : ∃ f', f = f' + 1 := ⟨f - 1, by omega⟩
    have hlt : i < xs.length := by omega
    have e := List.getElem?_eq_getElem hlt
    obtain ⟨ρ1, ρ2, st2, hg, hb, h2⟩ := step i _ ρ st e h
    unfold forGo
    rw [hat _ _ _ h, e]
    simp only [hg]
    rcases hb with hb | hb
    · simp only [hb]
      exact ih (i + 1) ρ2 st2 f (by omega) (by omega) (by omega) h2
    · simp only [hb]
      exact ih (i + 1) ρ2 st2 f (by omega) (by omega) (by omega) h2
/-- a list comprehension over what does not change, pure -/
theorem lc_pure {vs : List Nat} {g : KG} {it : KI} {cnd : KT} {elt : KE} {ρ : Env3} {st : Sto} {xs : List D} (p : D → Bool) (f : D → D) (hi : it ρ st = .ok (.its xs) st) (hx : xs.length < 16777215)
    (hc : ∀ d ∈ xs, ∃ ρ1, g d (wipeD ρ vs) = some ρ1 ∧ cnd ρ1 st = .ok (p d) st ∧ (p d = true → elt ρ1 st = .ok (f d) st)) :
    kLc vs g it cnd elt ρ st = .ok (.loc st.length) (st ++ [.lst ((xs.filter p).map f)]) := by
  obtain ⟨acc, st', h1, ⟨rfl, h2⟩, h3⟩ := lc_inv (g := g) (cnd := cnd) (elt := elt) (src := .its xs) (ρ := wipeD ρ vs) (xs := xs) (fun i s acc => s = st ∧ acc = ((xs.take i).filter p).map f) (fun i s acc h => rfl)
    (fun i d s acc hd ⟨hs, ha⟩ => by
      subst hs
      obtain ⟨ρ1, q1, q2, q3⟩ := hc d (List.mem_of_getElem? hd)
      have et : xs.take (i + 1) = xs.take i ++ [d] := by rw [List.take_succ, hd]; rfl
      refine ⟨ρ1, p d, s, q1, q2, fun k => ⟨f d, s, q3 k, rfl, ?_⟩, fun k => ⟨rfl, ?_⟩⟩
      · rw [et, ha]; simp [k]
      · rw [et, ha]; simp [k])
    xs.length 0 st [] (xs.length + 1) (by omega) (by omega) (by omega) (by simp) hx ⟨rfl, rfl⟩
  unfold kLc
  rw [hi]
  simp only [R.bind_ok]
  show (lcGo g cnd elt (.its xs) (wipeD ρ vs) (xs.length + 1) 0 st' []).bind _ = _
  rw [h1, R.bind_ok, h2, List.take_length]
end L3
namespace L3
open PySem L2
/-- a text of at most n signs, each below 128 -/
def strA (n : Nat) (x : Str) : Prop := x.length ≤ n ∧ ∀ c ∈ x.cps.toList, c < 128
theorem strA.le {m n : Nat} {x : Str} (h : strA m x) (hl : m ≤ n) : strA n x := ⟨Nat.le_trans h.1 hl, h.2⟩
theorem strA.app {m n : Nat} {x y : Str} (h : strA m x) (g : strA n y) : strA (m + n) (x ++ y) := by
  refine ⟨by rw [Str.length_append]; have := h.1; have := g.1; omega, fun c hc => ?_⟩
  rw [Str.cps_append, Array.toList_append] at hc
  rcases List.mem_append.mp hc with hc | hc
  · exact h.2 c hc
  · exact g.2 c hc
theorem strA.good {n : Nat} {x : Str} (h : strA n x) (hn : n ≤ 1000) : strG x = true := by
  unfold strG
  rw [Bool.and_eq_true]
  refine ⟨decide_eq_true (Nat.le_trans h.1 hn), ?_⟩
  rw [Array.all_eq_true']
  intro c hc
  have := h.2 c (by simpa using hc)
  exact decide_eq_true (by omega)
theorem upper_cps (x : Str) : (Txt.upper x).cps.toList = x.cps.toList.flatMap Unicode.upperOf := by
  unfold Txt.upper placed
  simp only [Array.toList_flatten, Array.toList_mapIdx]
  induction x.cps.toList with
  | nil => rfl
  | cons c cs ih => simp_all [List.mapIdx_cons]
theorem strA.upper {n : Nat} {x : Str} (h : strA n x) : strA n (Txt.upper x) := by
  have one : ∀ c, c < 128 → (Unicode.upperOf c).length = 1 ∧ ∀ d ∈ Unicode.upperOf c, d < 128 := by decide +kernel
  have all : ∀ cs : List Nat, (∀ c ∈ cs, c < 128) → (cs.flatMap Unicode.upperOf).length = cs.length ∧ ∀ d ∈ cs.flatMap Unicode.upperOf, d < 128 := by
    intro cs
    induction cs with
    | nil => intro _; exact ⟨rfl, fun d h => nomatch h⟩
    | cons c cs ih =>
      intro hc
      obtain ⟨h1, h2⟩ := ih fun c h => hc c (List.mem_cons_of_mem _ h)
      obtain ⟨h3, h4⟩ := one c (hc c (List.mem_cons_self ..))
      refine ⟨by rw [List.flatMap_cons, List.length_append, h1, h3, List.length_cons]; omega, fun d hd => ?_⟩
      rw [List.flatMap_cons] at hd
      rcases List.mem_append.mp hd with hd | hd
      · exact h4 d hd
      · exact h2 d hd
  obtain ⟨h1, h2⟩ := all _ h.2
  rw [← upper_cps] at h1 h2
  exact ⟨by have := h.1; simp only [Str.length] at this ⊢; simp only [Array.length_toList] at h1; omega, h2⟩
theorem strA.cut {n : Nat} {x : Str} (h : strA n x) (lo hi : Option Int) : strA n (cutS x lo hi) := by
  refine ⟨Nat.le_trans (cutS_length x lo hi) h.1, fun c hc => h.2 c ?_⟩
  unfold cutS at hc
  rw [List.toList_toArray] at hc
  exact List.mem_of_mem_drop (List.mem_of_mem_take hc)
theorem strA.one {c : Nat} (h : c < 128) : strA 1 ⟨#[c]⟩ := ⟨Nat.le_refl 1, fun d hd => (show d = c by simpa using hd) ▸ h⟩
theorem strA.join : ∀ ss : List Str, (∀ s ∈ ss, strA 1 s) → strA ss.length (Txt.join "" ss) := by
  intro ss h
  show strA _ (Builtin.Str.glued _ ss)
  have e : (Str.ofString "").cps = #[] := by decide +kernel
  have go : ∀ (ss : List Str) (acc : Array Nat) (k : Nat), (∀ s ∈ ss, strA 1 s) → strA k ⟨acc⟩ → strA (k + ss.length) ⟨ss.foldl (fun acc p => acc ++ (Str.ofString "").cps ++ p.cps) acc⟩ := by
    intro ss
    induction ss with
    | nil => intro acc k _ h; exact h
    | cons s ss ih =>
      intro acc k hs h
      have h2 := ih (acc ++ (Str.ofString "").cps ++ s.cps) (k + 1) (fun s h => hs s (List.mem_cons_of_mem _ h)) (by
        rw [e, Array.append_empty]
        exact h.app (y := s) (hs s (List.mem_cons_self ..)))
      refine h2.le ?_
      simp only [List.length_cons]; omega
  unfold Builtin.Str.glued
  cases ss with
  | nil => exact ⟨Nat.le_refl 0, fun c hc => by simp [Str.empty] at hc⟩
  | cons s ss => exact (go ss s.cps 1 (fun s h' => h s (List.mem_cons_of_mem _ h')) (h s (List.mem_cons_self ..))).le (by simp only [List.length_cons]; omega)
end L3

/-! Reckoning with lists that nobody changes. -/
namespace L3
open PySem L2
section
variable {st : Sto} {xs ys : List D} {m : Nat} {lo hi : Option Int}
theorem slZ_tup : slZ (.tup xs) lo hi st = .ok (.tup (cutD xs lo hi)) st := rfl
theorem addZ_frz (h : xs.length + ys.length ≤ 16777216) : addZ (.frz xs) (.frz ys) st = .ok (.frz (xs ++ ys)) st := by simp only [addZ, itemsD, if_pos h]
theorem addZ_loc_frz (hm : st[m]? = some (.lst xs)) (h : xs.length + ys.length ≤ 16777216) : addZ (.loc m) (.frz ys) st = .ok (.frz (xs ++ ys)) st := by simp only [addZ, itemsD, hm, if_pos h]
theorem addL_loc_frz (hm : st[m]? = some (.lst xs)) (h : xs.length + ys.length ≤ 16777216) : addL (.loc m) (.frz ys) st = .ok (.loc st.length) (st ++ [.lst (xs ++ ys)]) := by simp only [addL, itemsD, hm, if_pos h]
theorem addZ_int {i j : Int} : addZ (.int i) (.int j) st = .ok (.int (i + j)) st := rfl
end
/-- how a bent tuple comes out -/
def BentG (r : L3.Run) : Prop := ∀ (st : Sto) (n : Nat) (xs : List D) (odd : D), DieAt n st → xs ≠ [] → xs.length ≤ 100 → (∀ x ∈ xs, Pl n st x) → Pl n st odd → neD (.tup xs) (.tup []) st = .ok (.bl true) st → ∃ (d : D) (st' : Sto), r [.loc n, .tup xs, odd] st = .ok d st' ∧ Step n st st' ∧ Pl n st' d
/-- a pick from a list that nobody changes -/
theorem PickS.frz {r : L3.Run} (h : PickS r) {st : Sto} {n : Nat} (hd : DieAt n st) (xs : List D) (h1 : xs ≠ []) (h2 : xs.length < 1073741824) : ∃ (y : D) (st' : Sto), y ∈ xs ∧ r [.loc n, .frz xs] st = .ok y st' ∧ st'.length = st.length ∧ Step n st st' :=
  h st n (.frz xs) xs hd rfl (fun m e => by cases e) h1 h2
section
variable {st : Sto} {a b c : D} {xs ys : List D} {i j : Int} {x y : Str} {p q : Bool}
theorem eqD_int : eqD (.int i) (.int j) st = .ok (.bl (decide (i = j))) st := by
  show (if SeqAt.shaped (.int i) = true ∧ SeqAt.shaped (.int j) = true then R.ok (D.bl (PyData.eqv (.int i) (.int j))) st else .bad) = _
  rw [if_pos ⟨rfl, rfl⟩]; simp only [PyData.eqv]; rfl
theorem neD_int : neD (.int i) (.int j) st = .ok (.bl (!decide (i = j))) st := by
  show (if SeqAt.shaped (.int i) = true ∧ SeqAt.shaped (.int j) = true then R.ok (D.bl (!PyData.eqv (.int i) (.int j))) st else .bad) = _
  rw [if_pos ⟨rfl, rfl⟩]; simp only [PyData.eqv]; rfl
theorem eqD_str (hx : SeqAt.shaped (.str x) = true) (hy : SeqAt.shaped (.str y) = true) : eqD (.str x) (.str y) st = .ok (.bl (decide (x = y))) st := by
  show (if SeqAt.shaped (.str x) = true ∧ SeqAt.shaped (.str y) = true then R.ok (D.bl (PyData.eqv (.str x) (.str y))) st else .bad) = _
  rw [if_pos ⟨hx, hy⟩]; simp only [PyData.eqv]
  congr 2
theorem neD_str (hx : SeqAt.shaped (.str x) = true) (hy : SeqAt.shaped (.str y) = true) : neD (.str x) (.str y) st = .ok (.bl (!decide (x = y))) st := by
  show (if SeqAt.shaped (.str x) = true ∧ SeqAt.shaped (.str y) = true then R.ok (D.bl (!PyData.eqv (.str x) (.str y))) st else .bad) = _
  rw [if_pos ⟨hx, hy⟩]; simp only [PyData.eqv]
  congr 3
theorem eqD_bl : eqD (.bl p) (.bl q) st = .ok (.bl (p == q)) st := by
  show (if SeqAt.shaped (.bool p) = true ∧ SeqAt.shaped (.bool q) = true then R.ok (D.bl (PyData.eqv (.bool p) (.bool q))) st else .bad) = _
  rw [if_pos ⟨rfl, rfl⟩]; simp only [PyData.eqv]
theorem neD_bl : neD (.bl p) (.bl q) st = .ok (.bl (!(p == q))) st := by
  show (if SeqAt.shaped (.bool p) = true ∧ SeqAt.shaped (.bool q) = true then R.ok (D.bl (!PyData.eqv (.bool p) (.bool q))) st else .bad) = _
  rw [if_pos ⟨rfl, rfl⟩]; simp only [PyData.eqv]
theorem ixT0 : ixD (.tup (a :: xs)) (.int 0) st = .ok a st := ixD_tup atI_zero
theorem ixT1 : ixD (.tup (a :: b :: xs)) (.int 1) st = .ok b st := ixD_tup atI_one
theorem ixT2 : ixD (.tup (a :: b :: c :: xs)) (.int 2) st = .ok c st := ixD_tup atI_two
theorem ixF0 : ixD (.frz (a :: xs)) (.int 0) st = .ok a st := ixD_frz atI_zero
theorem ixF1 : ixD (.frz (a :: b :: xs)) (.int 1) st = .ok b st := ixD_frz atI_one
theorem ixF2 : ixD (.frz (a :: b :: c :: xs)) (.int 2) st = .ok c st := ixD_frz atI_two
theorem lenT : lenF [.tup xs] st = .ok (.int xs.length) st := rfl
theorem lenZ : lenF [.frz xs] st = .ok (.int xs.length) st := rfl
/-- in a tuple of two texts -/
theorem inD_strs {x u v : Str} : inD false (.str x) (.tup [.str u, .str v]) st = .ok (.bl (decide (u = x) || decide (v = x))) st := by
  show (if ([D.str u, .str v].all flatD) = true then R.ok (D.bl (false != ([PyData.str u, .str v].any fun z => PyData.eqv z (.str x)))) st else .bad) = _
  have h0 : ([D.str u, .str v].all flatD = true) := rfl
  rw [if_pos h0]
  simp only [List.any_cons, List.any_nil, PyData.eqv, Bool.or_false, bne_iff_ne, Bool.false_bne]
  have hb : ∀ a b : Str, (a == b) = decide (a = b) := fun a b => by rw [Bool.eq_iff_iff]; simp
  rw [hb, hb]
theorem boolsO_map {f : D → Bool} : ∀ xs : List D, boolsO (xs.map fun d => D.bl (f d)) = some (xs.map f)
  | [] => rfl
  | d :: ds => by simp only [List.map_cons, boolsO, boolsO_map ds, Option.bind_some]
theorem all_frz {f : D → Bool} : allF [.frz (xs.map fun d => D.bl (f d))] st = .ok (.bl (xs.all f)) st := by
  simp only [allF, itemsD, Option.bind_some, boolsO_map, List.all_map]
  rfl
theorem any_frz {f : D → Bool} : anyF [.frz (xs.map fun d => D.bl (f d))] st = .ok (.bl (xs.any f)) st := by
  simp only [anyF, itemsD, Option.bind_some, boolsO_map, List.any_map]
  rfl
/-- a list comprehension over what does not change, pure -/
theorem lz_pure {vs : List Nat} {g : KG} {it : KI} {cnd : KT} {elt : KE} {ρ : Env3} {st : Sto} {xs : List D} (p : D → Bool) (f : D → D) (hi : it ρ st = .ok (.its xs) st) (hx : xs.length < 16777215)
    (hc : ∀ d ∈ xs, ∃ ρ1, g d (wipeD ρ vs) = some ρ1 ∧ cnd ρ1 st = .ok (p d) st ∧ (p d = true → elt ρ1 st = .ok (f d) st)) :
    kLz vs g it cnd elt ρ st = .ok (.frz ((xs.filter p).map f)) st := by
  obtain ⟨acc, st', h1, ⟨rfl, h2⟩, h3⟩ := lc_inv (g := g) (cnd := cnd) (elt := elt) (src := .its xs) (ρ := wipeD ρ vs) (xs := xs) (fun i s acc => s = st ∧ acc = ((xs.take i).filter p).map f) (fun i s acc h => rfl)
    (fun i d s acc hd ⟨hs, ha⟩ => by
      subst hs
      obtain ⟨ρ1, q1, q2, q3⟩ := hc d (List.mem_of_getElem? hd)
      have et : xs.take (i + 1) = xs.take i ++ [d] := by rw [List.take_succ, hd]; rfl
      refine ⟨ρ1, p d, s, q1, q2, fun k => ⟨f d, s, q3 k, rfl, ?_⟩, fun k => ⟨rfl, ?_⟩⟩
      · rw [et, ha]; simp [k]
      · rw [et, ha]; simp [k])
    xs.length 0 st [] (xs.length + 1) (by omega) (by omega) (by omega) (by simp) hx ⟨rfl, rfl⟩
  unfold kLz
  rw [hi]
  simp only [R.bind_ok]
  show (lcGo g cnd elt (.its xs) (wipeD ρ vs) (xs.length + 1) 0 st' []).bind _ = _
  rw [h1, R.bind_ok, h2, List.take_length]
/-- without a test -/
theorem lz_map {vs : List Nat} {g : KG} {it : KI} {elt : KE} {ρ : Env3} {st : Sto} {xs : List D} (f : D → D) (hi : it ρ st = .ok (.its xs) st) (hx : xs.length < 16777215)
    (hc : ∀ d ∈ xs, ∃ ρ1, g d (wipeD ρ vs) = some ρ1 ∧ elt ρ1 st = .ok (f d) st) :
    kLz vs g it kTrue elt ρ st = .ok (.frz (xs.map f)) st := by
  have h := lz_pure (vs := vs) (g := g) (cnd := kTrue) (elt := elt) (fun _ => true) f hi hx fun d hd => by
    obtain ⟨ρ1, h1, h2⟩ := hc d hd
    exact ⟨ρ1, h1, rfl, fun _ => h2⟩
  rw [h]
  congr 3
  exact List.filter_eq_self.mpr fun _ _ => rfl
end
end L3

/-! The loops of laws. -/
namespace L3
open PySem L2
/-- r answers with a value, whatever the store, and leaves it -/
def Ans (r : L3.Run) (ds : List D) (d : D) : Prop := ∀ st, r ds st = .ok d st
/-- a draw goes well -/
def WellP (r : L3.Run) : Prop := ∀ (st : Sto) (n : Nat), DieAt n st → ∃ st', r [.loc n] st = .ok (.bl true) st' ∧ Step n st st'
theorem rng1_ok {j : Int} {st : Sto} (h : -(2 ^ 62) ≤ j ∧ j < 2 ^ 62) : rngF1 [.int j] st = .ok (.its (rngIts 0 j.toNat)) st := by
  unfold rngF1
  exact if_pos h
theorem rng1_nat {T : Nat} {st : Sto} (h : T < 1000) : rngF1 [.int (T : Int)] st = .ok (.its (rngIts 0 T)) st := by
  rw [rng1_ok (by omega), Int.toNat_natCast]
theorem iR1_eq {a : KA} {ρ : Env3} {st st1 : Sto} {ds : List D} (h : a ρ st = .ok ds st1) : iR1 a ρ st = rngF1 ds st1 := by
  unfold iR1
  rw [h]
  exact R.bind_ok _ _ _
theorem it_rng1 {T : Nat} {ρ : Env3} {st : Sto} (h : T < 1000) : iR1 (kA1 (kc (.int T)) kA0) ρ st = .ok (.its (rngIts 0 T)) st := by
  exact (iR1_eq rfl).trans (rng1_nat h)
theorem sFor_its {g : KG} {it : KI} {body : KS} {ρ : Env3} {st st1 : Sto} {xs : List D} {r : RS} (hi : it ρ st = .ok (.its xs) st1) (h : forGo g body (.its xs) (xs.length + 1) 0 ρ st1 = r) : sFor g it body ρ st = r := by
  unfold sFor
  rw [hi]
  exact h
/-- for turn in range(T): if not right(die): return False -/
theorem loop_in {rr : L3.Run} (h : WellP rr) {jd jt T : Nat} (hne : jt ≠ jd) (hT : T < 1000) {n : Nat} : ∀ (ρ : Env3) (st : Sto), ρ[jd]? = some (some (.loc n)) → DieAt n st →
    ∃ ρ' st', sFor (gN jt) (iR1 (kA1 (kc (.int T)) kA0)) (sIf (tNot3 (kTr (kF rr (kA1 (kv jd) kA0)))) (sRet (kc (.bl false))) sNil) ρ st = .nx ρ' st' ∧ Step n st st' ∧ ρ'.length = ρ.length ∧ ∀ i, i ≠ jt → ρ'[i]? = ρ[i]? := by
  intro ρ st hj hd
  have rl : (rngIts 0 T).length = T := by unfold rngIts; simp
  obtain ⟨ρ', st', q1, q2, q3, q4⟩ := for_inv (g := gN jt) (body := sIf (tNot3 (kTr (kF rr (kA1 (kv jd) kA0)))) (sRet (kc (.bl false))) sNil) (src := .its (rngIts 0 T)) (xs := rngIts 0 T)
    (fun i ρ1 s => Step n st s ∧ ρ1.length = ρ.length ∧ ∀ i, i ≠ jt → ρ1[i]? = ρ[i]?) (fun i ρ s h => rfl)
    (fun i x ρ1 s hx ⟨q, hl, hk⟩ => by
      obtain ⟨sa, ea, ta⟩ := h s n q.die
      have hk2 : ∀ i, i ≠ jt → (ρ1.set jt (some x))[i]? = ρ[i]? := fun i hi => by rw [List.getElem?_set_ne (Ne.symm hi)]; exact hk i hi
      refine ⟨ρ1.set jt (some x), ρ1.set jt (some x), sa, rfl, .inl ?_, q.trans ta, by simpa using hl, hk2⟩
      have hv : ∀ s, kv jd (ρ1.set jt (some x)) s = .ok (.loc n) s := fun s => kv_ok (by rw [hk2 jd (Ne.symm hne)]; exact hj)
      simp only [sIf, tNot3, kTr, kF, kA1, kA0, hv, R.bind_ok, ea, truD, R.toS_ok, Bool.not_true, Bool.false_eq_true, if_false, sNil])
    T 0 ρ st (T + 1) (by omega) (by omega) (by omega) ⟨.refl hd, rfl, fun _ _ => rfl⟩
  refine ⟨ρ', st', ?_, q2, q3, q4⟩
  exact sFor_its (it_rng1 hT) (by rw [rl]; exact q1)
/-- for at in range(max(1, min(K, len(script)))): die = numbers(script, at); G -/
theorem loop_out {rnum : L3.Run} {G : KS} (hnum : NumsS rnum) {ns : List Int} (hns : ns.length ≤ 63) {K : Nat} (hK : 1 ≤ K) (hK2 : K < 1000) {jd : Nat} (hjd : 1 < jd)
    {N : Nat} (hG : ∀ (ρ : Env3) (st : Sto) (n : Nat), ρ.length = N → ρ[0]? = some (some (.frz (ns.map D.int))) → ρ[jd]? = some (some (.loc n)) → DieAt n st → ∃ ρ' st', G ρ st = .nx ρ' st' ∧ Step n st st' ∧ ρ'.length = ρ.length ∧ ρ'[0]? = ρ[0]?) :
    ∀ (ρ : Env3), ρ.length = N → ρ[0]? = some (some (.frz (ns.map D.int))) → jd < ρ.length → ∃ ρ' st' n, sFor (gN 1) (iR1 (kA1 (kF maxF (kA1 (kc (.int 1)) (kA1 (kF minF (kA1 (kc (.int K)) (kA1 (kF lenF (kA1 (kv 0) kA0)) kA0))) kA0))) kA0))
      (sSeq (sSet jd (kF rnum (kA1 (kv 0) (kA1 (kv 1) kA0)))) G) ρ [] = .nx ρ' st' ∧ DieAt n st' ∧ ρ'.length = ρ.length ∧ ρ'[0]? = ρ[0]? := by
  intro ρ hN h0 hl
  obtain ⟨k, hk1, hk8, hk⟩ : ∃ k : Int, 1 ≤ k ∧ k ≤ 1000 ∧ kF maxF (kA1 (kc (.int 1)) (kA1 (kF minF (kA1 (kc (.int K)) (kA1 (kF lenF (kA1 (kv 0) kA0)) kA0))) kA0)) ρ [] = .ok (.int k) [] := by
    refine ⟨max 1 (min (K : Int) (ns.length : Int)), by omega, by omega, ?_⟩
    simp only [kF, kA1, kA0, kc, kv, h0, R.bind_ok, lenF, minF, maxF, List.length_map]
    congr 2
    omega
  have rl : (rngIts 0 k.toNat).length = k.toNat := by unfold rngIts; simp
  obtain ⟨ρ', st', q1, q2, q3, q4⟩ := for_inv (g := gN 1) (body := sSeq (sSet jd (kF rnum (kA1 (kv 0) (kA1 (kv 1) kA0)))) G) (src := .its (rngIts 0 k.toNat)) (xs := rngIts 0 k.toNat)
    (fun i ρ1 s => ρ1.length = ρ.length ∧ ρ1[0]? = ρ[0]? ∧ (0 < i → ∃ n, DieAt n s)) (fun i ρ s h => rfl)
    (fun i x ρ1 s hx ⟨hl1, hk1, _⟩ => by
      have hx : ∃ j : Int, 0 ≤ j ∧ x = .int j := by
        have := List.mem_of_getElem? hx
        unfold rngIts at this
        obtain ⟨j, _, rfl⟩ := List.mem_map.mp this
        exact ⟨_, by omega, rfl⟩
      obtain ⟨j, hj, rfl⟩ := hx
      obtain ⟨p, q, hn⟩ := hnum s ns j hj
      have len1 : (ρ1.set 1 (some (.int j))).length = ρ.length := by simpa using hl1
      have hv0 : ∀ s, kv 0 (ρ1.set 1 (some (.int j))) s = .ok (.frz (ns.map D.int)) s := fun s => kv_ok (by rw [List.getElem?_set_ne (by decide), hk1]; exact h0)
      have hv1 : ∀ s, kv 1 (ρ1.set 1 (some (.int j))) s = .ok (.int j) s := fun s => kv_ok (by rw [List.getElem?_set_self (by omega)])
      obtain ⟨ρ2, s2, e2, t2, l2, k2'⟩ := hG ((ρ1.set 1 (some (.int j))).set jd (some (.loc s.length))) (s ++ [.lst [.int p, .int q, .int 0]]) s.length (by simp; omega) (by rw [List.getElem?_set_ne (by omega), List.getElem?_set_ne (by decide), hk1]; exact h0) (by rw [List.getElem?_set_self (by omega)]) ⟨p, q, 0, by rw [stA0]; rfl⟩
      refine ⟨ρ1.set 1 (some (.int j)), ρ2, s2, rfl, .inl ?_, by rw [l2]; simpa using hl1, ?_, fun _ => ⟨_, t2.die⟩⟩
      · simp only [sSeq, sSet, kF, kA1, kA0, hv0, hv1, R.bind_ok, hn, R.toS_ok, RS.andThen_nx]
        exact e2
      · rw [k2', List.getElem?_set_ne (by omega), List.getElem?_set_ne (by decide), hk1])
    (rngIts 0 k.toNat).length 0 ρ [] ((rngIts 0 k.toNat).length + 1) (by omega) (by omega) (by omega) ⟨rfl, rfl, fun h => nomatch h⟩
  obtain ⟨n, hn⟩ := q4 (by omega)
  refine ⟨ρ', st', n, ?_, hn, q2, q3⟩
  have e : iR1 (kA1 (kF maxF (kA1 (kc (.int 1)) (kA1 (kF minF (kA1 (kc (.int K)) (kA1 (kF lenF (kA1 (kv 0) kA0)) kA0))) kA0))) kA0) ρ [] = .ok (.its (rngIts 0 k.toNat)) [] := by
    refine (iR1_eq (a := kA1 (kF maxF (kA1 (kc (.int 1)) (kA1 (kF minF (kA1 (kc (.int K)) (kA1 (kF lenF (kA1 (kv 0) kA0)) kA0))) kA0))) kA0) (ds := [.int k]) (st1 := []) ?_).trans (rng1_ok (by omega))
    rw [kA1]
    show (kF maxF _ ρ []).bind _ = _
    rw [hk]
    rfl
  exact sFor_its e q1
/-- a for over what does not change, that keeps something -/
theorem for_keep {g : KG} {body : KS} {it : KI} {ρ : Env3} {st st1 : Sto} {xs : List D} (P : Env3 → Sto → Prop) (hi : it ρ st = .ok (.its xs) st1) (h0 : P ρ st1)
    (step : ∀ x ∈ xs, ∀ ρ s, P ρ s → ∃ ρ1 ρ2 s2, g x ρ = some ρ1 ∧ body ρ1 s = .nx ρ2 s2 ∧ P ρ2 s2) : ∃ ρ' st', sFor g it body ρ st = .nx ρ' st' ∧ P ρ' st' := by
  obtain ⟨ρ', st', q1, q2⟩ := for_inv (g := g) (body := body) (src := .its xs) (xs := xs) (fun i ρ s => P ρ s) (fun i ρ s h => rfl)
    (fun i x ρ s hx h => by
      obtain ⟨ρ1, ρ2, s2, a, b, c⟩ := step x (List.mem_of_getElem? hx) ρ s h
      exact ⟨ρ1, ρ2, s2, a, .inl b, c⟩)
    xs.length 0 ρ st1 (xs.length + 1) (by omega) (by omega) (by omega) h0
  exact ⟨ρ', st', sFor_its hi q1, q2⟩
theorem env5 {ρ : Env3} (h : ρ.length = 5) : ∃ a b c d e, ρ = [a, b, c, d, e] := by
  match ρ, h with
  | [a, b, c, d, e], _ => exact ⟨a, b, c, d, e, rfl⟩
theorem env6 {ρ : Env3} (h : ρ.length = 6) : ∃ a b c d e f, ρ = [a, b, c, d, e, f] := by
  match ρ, h with
  | [a, b, c, d, e, f], _ => exact ⟨a, b, c, d, e, f, rfl⟩
theorem env7 {ρ : Env3} (h : ρ.length = 7) : ∃ a b c d e f g, ρ = [a, b, c, d, e, f, g] := by
  match ρ, h with
  | [a, b, c, d, e, f, g], _ => exact ⟨a, b, c, d, e, f, g, rfl⟩
theorem env9 {ρ : Env3} (h : ρ.length = 9) : ∃ a b c d e f g i j, ρ = [a, b, c, d, e, f, g, i, j] := by
  match ρ, h with
  | [a, b, c, d, e, f, g, i, j], _ => exact ⟨a, b, c, d, e, f, g, i, j, rfl⟩
end L3

/-! == of any value with a text, an int, a tuple of such. -/
namespace L3
open PySem PySem.Spec PyProof.Rows L2
section
variable {A : Around} {s : Shared}
theorem int_eq_declines_dict (b : Int) (u : Tok) (l : Addr) (c : Value) (es : Array DictEntry) (ep : Nat) (dd : Option Addr) (sl : Array (Option Value)) :
    Meets (Builtin.«int.__eq__» ⟨[.int b u, .ref l], []⟩) (fun _ R s => s.heap.get? l = some { cls := c, dict := dd, data := .dict es ep, slots := sl } ∧ R (.ok (.ret .notImplemented)) s) :=
  .of_wp fun prog w A R s h => by obtain ⟨hp, g, d, tk, os⟩ := s; obtain ⟨hl, h⟩ := h; wp_walk using wpAny_loadPart' hl, wpAny_load hl; exact ⟨_, rfl, h⟩
theorem dict_eq_declines_int (l : Addr) (es : Array DictEntry) (ep : Nat) (dd : Option Addr) (sl : Array (Option Value)) (b : Int) (u : Tok) :
    Meets (Builtin.«dict.__eq__» ⟨[.ref l, .int b u], []⟩) (fun _ R s => s.heap.get? l = some { cls := .type "dict", dict := dd, data := .dict es ep, slots := sl } ∧ R (.ok (.ret .notImplemented)) s) :=
  .of_wp fun prog w A R s h => by obtain ⟨hp, g, d, tk, os⟩ := s; obtain ⟨hl, h⟩ := h; have f1 := F.sub_int_dict; wp_walk using wpAny_loadPart' hl; exact ⟨_, rfl, h⟩
theorem dict_eq_declines_tuple (l b : Addr) (es : Array DictEntry) (ep : Nat) (dd : Option Addr) (sl : Array (Option Value)) (items2 : Array Value) (n2 : Nat) (dd2 : Option Addr) (sl2 : Array (Option Value)) :
    Meets (Builtin.«dict.__eq__» ⟨[.ref l, .ref b], []⟩) (fun _ R s => s.heap.get? l = some { cls := .type "dict", dict := dd, data := .dict es ep, slots := sl } ∧ s.heap.get? b = some { cls := .type "tuple", dict := dd2, data := .seq items2 n2, slots := sl2 } ∧ R (.ok (.ret .notImplemented)) s) :=
  .of_wp fun prog w A R s h => by obtain ⟨hp, g, d, tk, os⟩ := s; obtain ⟨hl, hb, h⟩ := h; have f1 := F.sub_tuple_dict; wp_walk using wpAny_loadPart' hl, wpAny_loadPart' hb; exact ⟨_, rfl, h⟩
theorem tuple_eq_declines_dict (l b : Addr) (es : Array DictEntry) (ep : Nat) (dd : Option Addr) (sl : Array (Option Value)) (items2 : Array Value) (n2 : Nat) (dd2 : Option Addr) (sl2 : Array (Option Value)) :
    Meets (Builtin.«tuple.__eq__» ⟨[.ref b, .ref l], []⟩) (fun _ R s => s.heap.get? l = some { cls := .type "dict", dict := dd, data := .dict es ep, slots := sl } ∧ s.heap.get? b = some { cls := .type "tuple", dict := dd2, data := .seq items2 n2, slots := sl2 } ∧ R (.ok (.ret .notImplemented)) s) :=
  .of_wp fun prog w A R s h => by obtain ⟨hp, g, d, tk, os⟩ := s; obtain ⟨hl, hb, h⟩ := h; have f1 := F.sub_dict_tuple; wp_walk using wpAny_loadPart' hl, wpAny_loadPart' hb; exact ⟨_, rfl, h⟩
theorem RcAt.dict_str {l : Addr} {o : Obj} {es : Array DictEntry} {ep : Nat} (b : Str) (u : Tok) (hl : s.heap.get? l = some o) (hc : o.cls = .type "dict") (hd : o.data = .dict es ep) (hu : A.units < cLine) : SeqAt.RcAt A s (.ref l) (.str b u) false := fun prog w E Q h => by
  obtain ⟨cls, dd, data, sl⟩ := o
  simp only at hc hd
  subst hc hd
  exact SeqAt.rc_eq_decline_or (k := false) ⟨_, hl, rfl⟩ (typeIs_str s b u) (by decide) F.sub_str_dict F.slot_dict_eq F.slot_str_eq_refl
    (fun _ hq => call_meets F.slot_dict_eq ⟨_, hl, rfl⟩ F.entry_dict_eq (F.args_dict_eq_2 _ _) (dict_eq_declines_str l es ep dd sl b u) ⟨hl, hq⟩)
    (fun _ hq => call_meets F.slot_str_eq_refl (typeIs_str s b u) F.entry_str_eq (F.args_str_eq_2 _ _) (str_eq_declines_dict b u l (.type "dict") es ep dd sl) ⟨hl, hq⟩)
    (fun _ hq => wpAny_of_eq (rfl : isSame (.ref l) (.str b u) = pure false) hq) (.inr hu) h
theorem RcAt.dict_int {l : Addr} {o : Obj} {es : Array DictEntry} {ep : Nat} (b : Int) (u : Tok) (hl : s.heap.get? l = some o) (hc : o.cls = .type "dict") (hd : o.data = .dict es ep) (hu : A.units < cLine) : SeqAt.RcAt A s (.ref l) (.int b u) false := fun prog w E Q h => by
  obtain ⟨cls, dd, data, sl⟩ := o
  simp only at hc hd
  subst hc hd
  exact SeqAt.rc_eq_decline_or (k := false) ⟨_, hl, rfl⟩ (typeIs_int s b u) (by decide) F.sub_int_dict F.slot_dict_eq F.slot_int_eq_refl
    (fun _ hq => call_meets F.slot_dict_eq ⟨_, hl, rfl⟩ F.entry_dict_eq (F.args_dict_eq_2 _ _) (dict_eq_declines_int l es ep dd sl b u) ⟨hl, hq⟩)
    (fun _ hq => call_meets F.slot_int_eq_refl (typeIs_int s b u) F.entry_int_eq (F.args_int_eq_2 _ _) (int_eq_declines_dict b u l (.type "dict") es ep dd sl) ⟨hl, hq⟩)
    (fun _ hq => wpAny_of_eq (rfl : isSame (.ref l) (.int b u) = pure false) hq) (.inr hu) h
theorem RcAt.dict_tuple {l b : Addr} {o : Obj} {es : Array DictEntry} {ep : Nat} {items : Array Value} (hl : s.heap.get? l = some o) (hc : o.cls = .type "dict") (hd : o.data = .dict es ep) (hb : s.heap.IsTuple b items) (hu : A.units < cLine) : SeqAt.RcAt A s (.ref l) (.ref b) false := fun prog w E Q h => by
  obtain ⟨cls, dd, data, sl⟩ := o
  obtain ⟨⟨cls2, dd2, data2, sl2⟩, ho2, hc2, n2, hd2⟩ := id hb
  simp only at hc hd hc2 hd2
  subst hc hd hc2 hd2
  have hne : l ≠ b := fun e => by
    subst e
    have := hl.symm.trans ho2
    injection this with z
    have z2 := congrArg Obj.cls z
    exact absurd z2 (by simp)
  exact SeqAt.rc_eq_decline_or (k := false) ⟨_, hl, rfl⟩ ⟨_, ho2, rfl⟩ (by decide) F.sub_tuple_dict F.slot_dict_eq F.slot_tuple_eq_refl
    (fun _ hq => call_meets F.slot_dict_eq ⟨_, hl, rfl⟩ F.entry_dict_eq (F.args_dict_eq_2 _ _) (dict_eq_declines_tuple l b es ep dd sl items n2 dd2 sl2) ⟨hl, ho2, hq⟩)
    (fun _ hq => call_meets F.slot_tuple_eq_refl ⟨_, ho2, rfl⟩ F.entry_tuple_eq (F.args_tuple_eq_2 _ _) (tuple_eq_declines_dict l b es ep dd sl items n2 dd2 sl2) ⟨hl, ho2, hq⟩)
    (fun _ hq => wpAny_isSame_ref_other hne hl ho2 (by simp) hq) (.inr hu) h
theorem EqAt.dict_str {l : Addr} {b : Str} {u : Tok} (h : SeqAt.RcAt A s (.ref l) (.str b u) false) : SeqAt.EqAt A s (.ref l) (.str b u) false := fun prog w E Q hq => by
  unfold eqBool
  refine wpAny_holding ?_
  refine wpAny_ite_split (fun hab => absurd (eq_of_beq hab) nofun) (fun _ => ?_)
  exact wpAny_bind (h prog w E _ (wpAny_truthy_bool hq))
theorem EqAt.dict_int {l : Addr} {b : Int} {u : Tok} (h : SeqAt.RcAt A s (.ref l) (.int b u) false) : SeqAt.EqAt A s (.ref l) (.int b u) false := fun prog w E Q hq => by
  unfold eqBool
  refine wpAny_holding ?_
  refine wpAny_ite_split (fun hab => absurd (eq_of_beq hab) nofun) (fun _ => ?_)
  exact wpAny_bind (h prog w E _ (wpAny_truthy_bool hq))
end
def eqI (x : D) (j : Int) : Bool := match x with
  | .int i => i == j
  | .bl b => (if b then 1 else 0) == j
  | _ => false
def scB : D → Bool
  | .str _ | .int _ => true
  | _ => false
/-- the other way round -/
def isT' (d : D) (b : Str) : Bool := match d with
  | .str y => y == b
  | _ => false
def eqSc (x y : D) : Bool := match y with
  | .str b => isT' x b
  | .int j => eqI x j
  | _ => false
def eqScs (xs ys : List D) : Bool := (List.range (min xs.length ys.length)).all (fun j => eqSc (xs.getD j .non) (ys.getD j .non)) && xs.length == ys.length
def eqX (x y : D) (st : Sto) : R D := match y with
  | .str b => if plW x st = true then .ok (.bl (isT' x b)) st else .bad
  | .int j => if plW x st = true then .ok (.bl (eqI x j)) st else .bad
  | .tup ys => match x with
    | .tup xs => if (xs.all fun d => plW d st) = true ∧ ys.all scB = true then .ok (.bl (eqScs xs ys)) st else .bad
    | x => if plW x st = true then .ok (.bl false) st else .bad
  | _ => eqD x y st
section
variable {X : Cx} {W : WX}
theorem dict_at {pins : List (Addr × Obj)} {s : Shared} {σ : L2.St} {H : Hp} {a : Addr} {ws : List (Key × V)} (I : Inv X pins σ H s) (h4 : H a = some (.dK ws)) : ∃ o es ep, s.heap.get? a = some o ∧ o.cls = .type "dict" ∧ o.data = .dict es ep := by
  obtain ⟨_, _, vs, _, o, es, ep, g1, g2, g3, _⟩ := (show ObjOk X.prog X.w H s.heap a (.dK ws) from I.hok a _ h4)
  exact ⟨o, es, ep, g1, g2.1, g3⟩
theorem rcAt_text {A : Around} {pins : List (Addr × Obj)} {s : Shared} {σ : L2.St} {H : Hp} {β : List Addr} {st : Sto} (I : Inv X pins σ H s) (S : Sim X.K X.mg β st H) (b : Str) (t : Tok) {d : D} {v : V} {u : Value} (hd : plW d st = true) (r : VR X.K β H d v) (ru : RelV v u) (hu : A.units < cLine) :
    SeqAt.EqAt A s u (.str b t) (isT' d b) ∧ SeqAt.RcAt A s u (.str b t) (isT' d b) := by
  have lst : ∀ {a : Addr} {ws : List V}, SqL X.K H a ws → SeqAt.EqAt A s (.ref a) (.str b t) false ∧ SeqAt.RcAt A s (.ref a) (.str b t) false := fun h => by
    obtain ⟨its, rv, hl, _⟩ := I.list h
    exact ⟨SeqAt.EqAt.list_str b t hl.isList hu, SeqAt.RcAt.list_str b t hl.isList hu⟩
  cases d with
  | non => cases VR.non.mp r; cases ru; exact ⟨SeqAt.EqAt.none_str b t, SeqAt.RcAt.none_str b t⟩
  | bl k => cases VR.bl.mp r; cases ru; exact ⟨SeqAt.EqAt.bool_str k b t, SeqAt.RcAt.bool_str k b t⟩
  | int i => cases VR.int.mp r; obtain ⟨q, rfl⟩ := (show ∃ q, u = Value.int i q from ru); exact ⟨SeqAt.EqAt.int_str i q b t, SeqAt.RcAt.int_str i q b t⟩
  | str y => cases VR.str.mp r; obtain ⟨q, rfl⟩ := (show ∃ q, u = Value.str y q from ru); exact ⟨SeqAt.EqAt.str_str y q b t, SeqAt.RcAt.str_str y q b t⟩
  | tup xs =>
    obtain ⟨a, vs, rfl, h1, h2⟩ := VR.tupS r
    cases ru
    obtain ⟨its, rv, hl, _⟩ := I.tuple h1
    exact ⟨SeqAt.EqAt.tuple_str b t hl hu, SeqAt.RcAt.tuple_str b t hl hu⟩
  | frz xs =>
    obtain ⟨a, vs, rfl, h1, h2⟩ := VR.frz.mp r
    cases ru
    exact lst h1.sq
  | cls a => cases hd
  | lam _ _ _ => cases hd
  | fn _ _ => cases hd
  | fdk _ _ => cases hd
  | loc n =>
    obtain ⟨a, h1, rfl⟩ := VR.loc.mp r
    cases ru
    obtain ⟨o, h2, h3⟩ := S.at h1
    simp only [plW, h2] at hd
    cases o with
    | lst ys => obtain ⟨ws, h4, h5⟩ := h3; exact lst (SqL.of h4)
    | dK ks =>
      obtain ⟨ws, h4, h5⟩ := h3
      obtain ⟨o, es, ep, g1, g2, g3⟩ := dict_at I h4
      have := RcAt.dict_str (A := A) b t g1 g2 g3 hu
      exact ⟨EqAt.dict_str this, this⟩
    | _ => cases hd
theorem rcAt_num {A : Around} {pins : List (Addr × Obj)} {s : Shared} {σ : L2.St} {H : Hp} {β : List Addr} {st : Sto} (I : Inv X pins σ H s) (S : Sim X.K X.mg β st H) (b : Int) (t : Tok) {d : D} {v : V} {u : Value} (hd : plW d st = true) (r : VR X.K β H d v) (ru : RelV v u) (hu : A.units < cLine) :
    SeqAt.EqAt A s u (.int b t) (eqI d b) ∧ SeqAt.RcAt A s u (.int b t) (eqI d b) := by
  have lst : ∀ {a : Addr} {ws : List V}, SqL X.K H a ws → SeqAt.EqAt A s (.ref a) (.int b t) false ∧ SeqAt.RcAt A s (.ref a) (.int b t) false := fun h => by
    obtain ⟨its, rv, hl, _⟩ := I.list h
    exact ⟨SeqAt.EqAt.list_int b t hl.isList hu, SeqAt.RcAt.list_int b t hl.isList hu⟩
  cases d with
  | non => cases VR.non.mp r; cases ru; exact ⟨SeqAt.EqAt.none_int b t, SeqAt.RcAt.none_int b t⟩
  | bl k => cases VR.bl.mp r; cases ru; exact ⟨SeqAt.EqAt.bool_int k b t, SeqAt.RcAt.bool_int k b t⟩
  | int i => cases VR.int.mp r; obtain ⟨q, rfl⟩ := (show ∃ q, u = Value.int i q from ru); exact ⟨SeqAt.EqAt.int_int i q b t, SeqAt.RcAt.int_int i q b t⟩
  | str y => cases VR.str.mp r; obtain ⟨q, rfl⟩ := (show ∃ q, u = Value.str y q from ru); exact ⟨SeqAt.EqAt.str_int y q b t, SeqAt.RcAt.str_int y q b t⟩
  | tup xs =>
    obtain ⟨a, vs, rfl, h1, h2⟩ := VR.tupS r
    cases ru
    obtain ⟨its, rv, hl, _⟩ := I.tuple h1
    exact ⟨SeqAt.EqAt.tuple_int b t hl hu, SeqAt.RcAt.tuple_int b t hl hu⟩
  | frz xs =>
    obtain ⟨a, vs, rfl, h1, h2⟩ := VR.frz.mp r
    cases ru
    exact lst h1.sq
  | cls a => cases hd
  | lam _ _ _ => cases hd
  | fn _ _ => cases hd
  | fdk _ _ => cases hd
  | loc n =>
    obtain ⟨a, h1, rfl⟩ := VR.loc.mp r
    cases ru
    obtain ⟨o, h2, h3⟩ := S.at h1
    simp only [plW, h2] at hd
    cases o with
    | lst ys => obtain ⟨ws, h4, h5⟩ := h3; exact lst (SqL.of h4)
    | dK ks =>
      obtain ⟨ws, h4, h5⟩ := h3
      obtain ⟨o, es, ep, g1, g2, g3⟩ := dict_at I h4
      have := RcAt.dict_int (A := A) b t g1 g2 g3 hu
      exact ⟨EqAt.dict_int this, this⟩
    | _ => cases hd
/-- any value but a tuple, with a tuple -/
theorem rcAt_tup {A : Around} {pins : List (Addr × Obj)} {s : Shared} {σ : L2.St} {H : Hp} {β : List Addr} {st : Sto} (I : Inv X pins σ H s) (S : Sim X.K X.mg β st H) {c : Addr} {items : Array Value} (hb : s.heap.IsTuple c items) {d : D} {v : V} {u : Value} (hd : plW d st = true) (hn : ∀ xs, d ≠ .tup xs) (r : VR X.K β H d v) (ru : RelV v u) (hu : A.units < cLine) :
    SeqAt.RcAt A s u (.ref c) false := by
  have lst : ∀ {a : Addr} {ws : List V}, SqL X.K H a ws → SeqAt.RcAt A s (.ref a) (.ref c) false := fun h => by
    obtain ⟨its, rv, hl, _⟩ := I.list h
    exact SeqAt.RcAt.list_tuple hl.isList hb hu
  cases d with
  | non => cases VR.non.mp r; cases ru; exact SeqAt.RcAt.none_tuple hb hu
  | bl k => cases VR.bl.mp r; cases ru; exact SeqAt.RcAt.bool_tuple k hb hu
  | int i => cases VR.int.mp r; obtain ⟨q, rfl⟩ := (show ∃ q, u = Value.int i q from ru); exact SeqAt.RcAt.int_tuple i q hb hu
  | str y => cases VR.str.mp r; obtain ⟨q, rfl⟩ := (show ∃ q, u = Value.str y q from ru); exact SeqAt.RcAt.str_tuple y q hb hu
  | tup xs => exact absurd rfl (hn xs)
  | frz xs =>
    obtain ⟨a, vs, rfl, h1, h2⟩ := VR.frz.mp r
    cases ru
    exact lst h1.sq
  | cls a => cases hd
  | lam _ _ _ => cases hd
  | fn _ _ => cases hd
  | fdk _ _ => cases hd
  | loc n =>
    obtain ⟨a, h1, rfl⟩ := VR.loc.mp r
    cases ru
    obtain ⟨o, h2, h3⟩ := S.at h1
    simp only [plW, h2] at hd
    cases o with
    | lst ys => obtain ⟨ws, h4, h5⟩ := h3; exact lst (SqL.of h4)
    | dK ks =>
      obtain ⟨ws, h4, h5⟩ := h3
      obtain ⟨o, es, ep, g1, g2, g3⟩ := dict_at I h4
      exact RcAt.dict_tuple g1 g2 g3 hb hu
    | _ => cases hd
theorem vals_get : ∀ {vs : List V} {us : List Value} (j : Nat) {v : V}, Vals vs us → vs[j]? = some v → ∃ u, us[j]? = some u ∧ RelV v u
  | [], us, j, v, h, e => by simp at e
  | w :: vs, us, j, v, h, e => by
    obtain ⟨u, r, rfl, h1, h2⟩ := vals_cons h
    cases j with
    | zero => simp at e; subst e; exact ⟨u, rfl, h1⟩
    | succ j => simpa using vals_get j h2 (by simpa using e)
theorem o_eqX (hu : X.A.units + 64 < cLine) : OpS X W (compareOp .Eq) eqX := fun pins s σ H x y v u Q β st dx dy I r1 r2 S rx ry p => by
  unfold eqX at p
  split at p
  · split at p
    · rename_i hp
      cases VR.str.mp ry
      obtain ⟨t, rfl⟩ := (show ∃ t, u = Value.str _ t from r2)
      exact (rcAt_text (A := X.A) I S _ t hp rx r1 (by omega)).2 _ _ _ _ ⟨.bl _, H, I, rfl, fin p S (VR.bl.mpr rfl)⟩
    · exact p.elim
  · split at p
    · rename_i hp
      cases VR.int.mp ry
      obtain ⟨t, rfl⟩ := (show ∃ t, u = Value.int _ t from r2)
      exact (rcAt_num (A := X.A) I S _ t hp rx r1 (by omega)).2 _ _ _ _ ⟨.bl _, H, I, rfl, fin p S (VR.bl.mpr rfl)⟩
    · exact p.elim
  · rename_i ys
    obtain ⟨b, ws, rfl, g1, g2⟩ := VR.tupS ry
    cases r2
    obtain ⟨its2, rv2, hb, _⟩ := I.tuple g1
    split at p
    · rename_i xs
      split at p
      · rename_i hp
        obtain ⟨a, vs, rfl, h1, h2⟩ := VR.tupS rx
        cases r1
        obtain ⟨its, rv, hl, _⟩ := I.tuple h1
        have lx : its.length = xs.length := by rw [← rv.length, h2.length]
        have ly : its2.length = ys.length := by rw [← rv2.length, g2.length]
        refine SeqAt.RcAt.tuples (A := X.A) (e := fun j => eqSc (xs.getD j .non) (ys.getD j .non)) hl hb (by omega) (fun j j1 j2 => ?_) _ _ _ _ ?_
        · have j1' : j < xs.length := by rw [← lx]; simpa using j1
          have j2' : j < ys.length := by rw [← ly]; simpa using j2
          have ex := List.getElem?_eq_getElem j1'
          have ey := List.getElem?_eq_getElem j2'
          obtain ⟨vx, q1, q2⟩ := h2.getD ex
          obtain ⟨vy, q3, q4⟩ := g2.getD ey
          obtain ⟨ux, q5, q6⟩ := vals_get j rv q1
          obtain ⟨uy, q7, q8⟩ := vals_get j rv2 q3
          have e1 : its.toArray[j] = ux := by
            have := List.getElem?_eq_some_iff.mp q5
            simpa using this.2
          have e2 : its2.toArray[j] = uy := by
            have := List.getElem?_eq_some_iff.mp q7
            simpa using this.2
          rw [e1, e2, List.getD_eq_getElem?_getD, ex, List.getD_eq_getElem?_getD, ey, Option.getD_some, Option.getD_some]
          have px : plW xs[j] st = true := List.all_eq_true.mp hp.1 _ (List.getElem_mem j1')
          have py : scB ys[j] = true := List.all_eq_true.mp hp.2 _ (List.getElem_mem j2')
          have hu1 : X.A.in1.units < cLine := by show X.A.units + 1 < cLine; omega
          generalize ys[j] = d at q4 py ⊢
          cases d with
          | str b =>
            cases VR.str.mp q4
            obtain ⟨t, rfl⟩ := (show ∃ t, uy = Value.str _ t from q8)
            exact (rcAt_text (A := X.A.in1) I S _ t px q2 q6 hu1).1
          | int b =>
            cases VR.int.mp q4
            obtain ⟨t, rfl⟩ := (show ∃ t, uy = Value.int _ t from q8)
            exact (rcAt_num (A := X.A.in1) I S _ t px q2 q6 hu1).1
          | _ => cases py
        · refine ⟨.bl _, H, I, rfl, ?_⟩
          have := fin p S (VR.bl.mpr rfl)
          unfold eqScs at this
          simp only [List.size_toArray, lx, ly]
          exact this
      · exact p.elim
    · rename_i hx
      split at p
      · rename_i hp
        exact rcAt_tup (A := X.A) I S hb hp (fun xs e => hx xs e) rx r1 (by omega) _ _ _ _ ⟨.bl _, H, I, rfl, fin p S (VR.bl.mpr rfl)⟩
      · exact p.elim
  · exact o_eq hu pins s σ H x y v u Q β st dx dy I r1 r2 S rx ry p
end
end L3

namespace L3
open PySem PySem.Spec PyProof.Rows L2
/-! ### sorted of rows, as a list that nobody changes -/
def sortRowsZ (xs : List D) (st : Sto) : R D := if (xs.all rowOk && (xs.all fun x => xs.all fun y => sameK (keyOf x) (keyOf y))) = true then .ok (.frz (sortD xs)) st else .bad
def sortFZ (ds : List D) (st : Sto) : R D := match ds with
  | [.tup xs] => sortRowsZ xs st
  | [.frz xs] => sortRowsZ xs st
  | [.loc n] => match st[n]? with
    | some (.lst xs) => sortRowsZ xs st
    | _ => .bad
  | _ => .bad
section
variable {X : Cx} {W : WX}
theorem sortFZ_one {pins : List (Addr × Obj)} {s : Shared} {σ : L2.St} {H : Hp} {Q : VK} {β : List Addr} {st : Sto} {xs : List D} {vs : List V} {us : List Value} {a : Addr} {T : String} {o : Obj} {n : Nat} (I : Inv X pins σ H s) (S : Sim X.K X.mg β st H) (hT : T = "list" ∨ T = "tuple") (ho : s.heap.get? a = some o) (hc : o.cls = .type T) (hd : o.data = .seq us.toArray n)
    (rv : Vals vs us) (rd : VRs X.K β H xs vs) (hz : us.length ≤ sizeLine) (p : PostA X.K X.mg W σ (okE X.K Q) β H (sortRowsZ xs st)) : wpAny (model X.prog X.w) X.A (call (.builtin "sorted") [.ref a]) (EP X pins σ Q) X.xe s := by
  unfold sortRowsZ at p
  split at p
  · rename_i hb
    obtain ⟨hb1, hb2⟩ := Bool.and_eq_true_iff.mp hb
    have P := pair3 rd rv
    obtain ⟨k, hk⟩ : ∃ k : Value → List Key, ∀ u ks, RowAt s.heap u ks → k u = ks := by
      classical
      refine ⟨fun u => if h : ∃ ks, RowAt s.heap u ks then h.choose else [], fun u ks h => ?_⟩
      simp only
      rw [dif_pos ⟨ks, h⟩]
      exact row_uniq (Exists.choose_spec (⟨ks, h⟩ : ∃ ks, RowAt s.heap u ks)) h
    have row : ∀ d u, d ∈ xs → (∃ v, VR X.K β H d v ∧ RelV v u) → RowAt s.heap u (keyOf d) ∧ keyOf d ≠ [] ∧ ∃ t, u = Value.ref t := fun d u hdm ⟨v, r1, r2⟩ => by
      obtain ⟨ds, ks, rfl, e1, e2, e3⟩ := row_keys (List.all_eq_true.mp hb1 d hdm)
      obtain ⟨t, ws, rfl, h1, h2⟩ := VR.tup.mp r1
      have hu : u = Value.ref t := r2
      subst hu
      rw [e2]
      refine ⟨?_, e3, t, rfl⟩
      rw [keysD_rel e1 h2] at h1
      obtain ⟨_, its, r, x, g1, g2, m, g3⟩ := (show ObjOk X.prog X.w H s.heap t (.tup (ks.map kV)) from I.hok t _ h1)
      exact ⟨t, x, its.toArray, m, rfl, g1, g2, g3, by simpa using r⟩
    have rk : ∀ u ∈ us, ∃ d ∈ xs, (∃ v, VR X.K β H d v ∧ RelV v u) ∧ k u = keyOf d ∧ RowAt s.heap u (k u) ∧ k u ≠ [] := fun u hu => by
      obtain ⟨d, hdm, q⟩ := (paired_mem P).1 u hu
      obtain ⟨g1, g2, _⟩ := row d u hdm q
      have e := hk u _ g1
      exact ⟨d, hdm, q, e, by rw [e]; exact g1, by rw [e]; exact g2⟩
    refine thn (Q := EP X pins σ (FQ Q)) ?_ fun v s' q => EP_fz q
    refine sorted_seq hT ho hc hd (swo_row k) hz (fun h2 h1 b hb' keep => row_sortable (s := { s with heap := h1 }) (by omega) (fun u hu => ?_) (fun u hu v hv => ?_) fun x e => ?_) fun h1 h' d out hs hp kp1 kp2 hd' hn => ?_
    · obtain ⟨_, _, _, _, g1, g2⟩ := rk u hu
      exact ⟨g1.keeps fun b x e _ => (keep b x e).2, g2⟩
    · obtain ⟨d1, m1, _, e1, _, _⟩ := rk u hu
      obtain ⟨d2, m2, _, e2, _, _⟩ := rk v hv
      rw [e1, e2]
      exact List.all_eq_true.mp (List.all_eq_true.mp hb2 d1 m1) d2 m2
    · have e' : some x = some (seqObj "list" us.toArray 0) := e.symm.trans hb'
      cases e'
      intro c
      exact absurd (Value.type.inj c) (by decide)
    · obtain ⟨ys, q1, q2⟩ := perm_pair hp.perm P
      have hys : ∀ y ∈ ys, y ∈ xs := fun y hy => q1.mem_iff.mp hy
      have e : ys = sortD xs := by
        refine (q1.trans (List.mergeSort_perm xs leRow).symm).eq_of_pairwise (le := fun a b => leRow a b = true) (fun a b ha hb' h1 h2 => ?_) ?_ ?_
        · exact row_eq (List.all_eq_true.mp hb1 a (hys a ha)) (List.all_eq_true.mp hb1 b ((List.mergeSort_perm xs leRow).mem_iff.mp hb')) h1 h2
        · have q3 : Paired (fun d u => d ∈ xs ∧ ∃ v, VR X.K β H d v ∧ RelV v u) ys out := by
            clear hs hp hn
            have : ∀ {l : List D} {m : List Value}, (∀ y ∈ l, y ∈ xs) → Paired (fun d u => ∃ v, VR X.K β H d v ∧ RelV v u) l m → Paired (fun d u => d ∈ xs ∧ ∃ v, VR X.K β H d v ∧ RelV v u) l m := fun hl z => by
              induction z with
              | nil => exact .nil
              | cons c z ih => exact .cons ⟨hl _ List.mem_cons_self, c⟩ (ih fun y hy => hl y (List.mem_cons_of_mem _ hy))
            exact this hys q2
          refine paired_pw (fun x y u v ⟨hx, hu⟩ ⟨hy, hv⟩ h => ?_) q3 hs
          obtain ⟨g1, _⟩ := row x u hx hu
          obtain ⟨g2, _⟩ := row y v hy hv
          have h : lexK (k v) (k u) = false := h
          rw [hk u _ g1, hk v _ g2] at h
          unfold leRow
          rw [h]
          rfl
        · exact List.pairwise_mergeSort leRow_tr leRow_tot xs
      subst e
      have h3 : ∀ u ∈ out, ∃ t, u = Value.ref t := fun u hu => by
        obtain ⟨y, hy, q⟩ := (paired_mem q2).1 u hu
        exact (row y u (hys y hy) q).2.2
      obtain ⟨m, hn⟩ := hn
      have I1 := I.kept (t' := s.toks) kp1
      have hf : H d = none := I1.hok.fresh hd'
      have hl : (out.map backV).length ≤ sizeLine := by rw [List.length_map, hp.len]; exact hz
      have J : Inv X pins σ (upd H d (.lst (out.map backV))) { s with heap := h', toks := s.toks } := I1.laid (t' := s.toks) kp2 hd' ⟨hl, out, m, vals_back h3, hn⟩
      have ex := ext_new (β := β) (o := .lst (out.map backV)) hf
      have vr : ∀ {l : List D} {r : List Value}, Paired (fun d u => ∃ v, VR X.K β H d v ∧ RelV v u) l r → (∀ u ∈ r, ∃ t, u = Value.ref t) → VRs X.K β H l (r.map backV) := fun z => by
        induction z with
        | nil => intro _; exact VRs.nil.mpr rfl
        | @cons d1 u1 l r c z ih =>
          intro hr
          obtain ⟨v1, c1, c2⟩ := c
          obtain ⟨t, rfl⟩ := hr _ List.mem_cons_self
          have ev : v1 = V.ref t := by
            cases v1 <;> first | (cases c2; rfl) | (cases c2; done) | (obtain ⟨_, c2⟩ := c2; cases c2)
          rw [List.map_cons]
          exact VRs.cons.mpr ⟨_, _, rfl, by rw [← show v1 = backV (.ref t) from ev]; exact c1, ih fun u hu => hr u (List.mem_cons_of_mem _ hu)⟩
      have h0 := vr q2 h3
      exact ⟨.ref d, _, J, rfl, newFz S h0 hf p⟩
  · exact p.elim
theorem c_sortFZ : CallS X W (.builtin "sorted") sortFZ := fun pins s σ H xs us Q β st ds I r S rd p => by
  unfold sortFZ at p
  have lst : ∀ {a : Addr} {ys : List D} {ws : List V} {z : List Value}, SqL X.K H a ws → VRs X.K β H ys ws → Vals [V.ref a] z → PostA X.K X.mg W σ (okE X.K Q) β H (sortRowsZ ys st) → wpAny (model X.prog X.w) X.A (call (.builtin "sorted") z) (EP X pins σ Q) X.xe s := fun h1 h2 rz q => by
    obtain ⟨u, rfl, ru⟩ := vals1 rz
    cases ru
    obtain ⟨its, rv, hl, hz⟩ := I.list h1
    obtain ⟨o, ho, hc, n, hd⟩ := hl.isList
    exact sortFZ_one I S (.inl rfl) ho hc hd rv h2 (by rw [← rv.length]; exact hz) q
  split at p
  · obtain ⟨v, rfl, r1⟩ := rd.one
    obtain ⟨a, ws, rfl, h1, h2⟩ := VR.tupS r1
    obtain ⟨u, rfl, ru⟩ := vals1 r
    cases ru
    obtain ⟨its, rv, ⟨o, ho, hc, n, hd⟩, hz⟩ := I.tuple h1
    exact sortFZ_one I S (.inr rfl) ho hc hd rv h2 (by rw [← rv.length]; exact hz) p
  · obtain ⟨v, rfl, r1⟩ := rd.one
    obtain ⟨a, ws, rfl, h1, h2⟩ := VR.frz.mp r1
    exact lst h1.sq h2 r p
  · obtain ⟨v, rfl, r1⟩ := rd.one
    obtain ⟨a, h1, rfl⟩ := VR.loc.mp r1
    obtain ⟨o, h2, h3⟩ := S.at h1
    simp only [h2] at p
    cases o with
    | lst ys => obtain ⟨ws, h4, h5⟩ := h3; exact lst (SqL.of h4) h5 r p
    | _ => exact p.elim
  · exact p.elim
end
end L3

namespace L3
open PySem PySem.Spec PyProof.Rows L2
/-! ### enumerate of lists and tuples -/
set_option maxHeartbeats 1000000 in
theorem meets_enum1 {v : Value} {o : Obj} {H : Heap → Prop} (B : Begins v o H) :
    Meets (Builtin.«enumerate.__new__» ⟨[.type "enumerate", v], []⟩) (fun _ R s => H s.heap ∧
      R (.ok (.ret (.ref (s.heap.push o).objs.size))) { s with heap := (s.heap.push o).push { cls := .type "enumerate", data := .fields #[.none, .bool false, .ref s.heap.objs.size, rawInt 0, .none, .none] } }) :=
  .of_wp fun prog w A R s h => by
    obtain ⟨hp, g, d, tk, os⟩ := s; obtain ⟨h1, h⟩ := h
    have hsub := sub_enumerate
    have q1 : ∀ {A' : Around} {E : Value → Shared → Prop} {Q : Value → Shared → Prop}, Q (.ref hp.objs.size) ⟨hp.push o, g, d, tk, os⟩ → wpAny (model prog w) A' (pyIter v) Q E ⟨hp, g, d, tk, os⟩ :=
      fun q => B.iter prog w _ _ ⟨hp, g, d, tk, os⟩ _ h1 q
    wp_walk using q1
    refine wpAny_stack_any fun st => wpAny_pure ?_
    split
    · rename_i c _ _ _ _ _
      cases (c == Value.type "enumerate")
      · wp_walk using q1
        exact ⟨_, rfl, h⟩
      · wp_walk using q1
        exact ⟨_, rfl, h⟩
    · wp_walk using q1
      exact ⟨_, rfl, h⟩
section
variable {prog : Program} {w : World} {A : Around} {E : Value → Shared → Prop} {s : Shared}
theorem call_enum1 {v : Value} {o : Obj} {H : Heap → Prop} {Q : Value → Shared → Prop} (B : Begins v o H) (h1 : H s.heap)
    (h : ∀ h', IsEnum h' (s.heap.objs.size + 1) s.heap.objs.size 0 .none → h'.get? s.heap.objs.size = some o → h'.objs.size = s.heap.objs.size + 2 →
      (∀ b o, s.heap.get? b = some o → h'.get? b = some o) → Q (.ref (s.heap.objs.size + 1)) { s with heap := h' }) :
    wpAny (model prog w) A (call (.type "enumerate") [v]) Q E s := by
  refine callType_new F.called_enumerate (by decide) (F.typeCall_enumerate_1 _) (F.newCall_enumerate_1 _) (fun obj => F.args_object_init_2 obj _) F.entry_enumerate_new
    (meets_enum1 B) ⟨h1, ?_⟩
  have hz : (s.heap.push o).objs.size = s.heap.objs.size + 1 := Heap.size_push ..
  show _ ∧ _
  rw [hz]
  have he : IsEnum ((s.heap.push o).push { cls := .type "enumerate", data := .fields #[.none, .bool false, .ref s.heap.objs.size, rawInt 0, .none, .none] }) (s.heap.objs.size + 1) s.heap.objs.size 0 .none := by
    have := Heap.get?_push_size (s.heap.push o) (o := { cls := .type "enumerate", data := .fields #[.none, .bool false, .ref s.heap.objs.size, rawInt 0, .none, .none] }) rfl
    rw [hz] at this; exact this
  refine ⟨⟨_, he, rfl⟩, h _ he (Heap.get?_push_of_some _ (Heap.get?_push_size _ B.free)) (by rw [Heap.size_push, hz]) fun b o x => Heap.get?_push_of_some _ (Heap.get?_push_of_some _ x)⟩
end
/-- the tuple at a, each item in a new pair -/
def Iet (K : PySem.W.Frag) (a : Addr) : It :=
  ⟨fun i H => ∃ (xs : List V) (x : V), SqT K H a xs ∧ xs[i]? = some x, fun i H v H' => ∃ T x, v = .ref T ∧ H T = none ∧ H' = upd H T (.tup [.int (i : Nat), x]) ∧ ∀ xs, SqT K H a xs → xs[i]? = some x, fun i H => ∃ xs : List V, SqT K H a xs ∧ xs.length ≤ i⟩
theorem turn_enumT {P : Program} {w : World} {K : PySem.W.Frag} {elts : List Expr} {kk : Nat} {tpos : Pos} (a e it : Addr) :
    Turn P w K (.Tuple elts kk tpos) (Iet K a) [e, it] e (fun i h => (∃ old, IsEnum h e it ((i : Nat) : Int) old) ∧ h.IsTupleIter it a i ∧ e ≠ it ∧ e ≠ a ∧ a ≠ it) where
  mem := by simp
  obj := fun i h st b hb => by
    obtain ⟨⟨old, he⟩, ⟨o, ho, hc, hd⟩, _⟩ := st
    have e' : b = e ∨ b = it := by simpa using hb
    rcases e' with z | z
    · rw [z]; exact ⟨_, he, fun v q => nomatch q⟩
    · rw [z]; exact ⟨o, ho, fun v q => by rw [hd] at q; cases q⟩
  keep := fun i h h' st k => let ⟨⟨old, he⟩, hi, hne⟩ := st; ⟨⟨old, k e (by simp) _ he⟩, hi.at fun o q => k it (by simp) o q, hne⟩
  item := by
    intro X hP hw hK hc i pins s σ H E I hf st hg
    subst hP hw hK
    obtain ⟨⟨old, he⟩, hit, hne, hea, hai⟩ := st
    obtain ⟨xs, x, hq, hx⟩ := hg
    obtain ⟨its, rv, p, hz⟩ := I.tuple hq
    have p' : s.heap.IsTuple a its.toArray := p
    obtain ⟨u, hu, ru⟩ := rv.get hx
    have hel : e < s.heap.objs.size := Heap.lt_size he
    have hil : it < s.heap.objs.size := by obtain ⟨_, q, _⟩ := hit; exact Heap.lt_size q
    have hlt : i < its.toArray.size := by have := (List.getElem?_eq_some_iff.mp hu).1; simpa using this
    refine wpAny_pyNext_enum_itemD (Draws.tuple (A := X.A.in1) (I.ok.hd hc) it a hai its.toArray) he ⟨hit, p'⟩ hlt hne (by simp [hne, hea]) fun x' h' tk hP' ho hst' hT hsz hk => ?_
    obtain rfl : x' = u := by
      have : its[i]? = some x' := by simpa using hP'
      rw [hu] at this
      exact (Option.some.inj this).symm
    refine ⟨_, rfl, wpAny_letOwnedTupleGo_enum (s := { s with heap := h', toks := tk + 1 }) ho fun h'' he' sb => ?_⟩
    have hT2 : h''.get? s.heap.objs.size = some { cls := .type "tuple", data := .seq #[.int i tk, x'] } := (sb.2 _ (Nat.ne_of_gt hel)).trans hT
    have new : ObjOk X.prog X.w (upd H s.heap.objs.size (.tup [.int (i : Nat), x])) h'' s.heap.objs.size (.tup [.int (i : Nat), x]) :=
      ⟨by show 2 ≤ sizeLine; decide, [.int i tk, x'], .cons ⟨_, rfl⟩ (.cons ru .nil), ⟨_, hT2, rfl, _, rfl⟩⟩
    have I1 : Inv X pins σ (upd H s.heap.objs.size (.tup [.int (i : Nat), x])) { s with heap := h'', toks := tk + 1 } :=
      I.turnedNew (ch := [e, it]) (fun b ob hb q => (sb.2 b (fun z => hb (by simp [z]))).trans (hk b ob (fun z => hb (by simp [z])) (fun z => hb (by simp [z])) q)) hf (Nat.le_refl _) new
    refine ⟨.ref s.heap.objs.size, _, I1, rfl, ⟨_, x, rfl, I.hok.fresh (Nat.le_refl _), rfl, fun ys hy => by rw [I.tuple_inj hy hq]; exact hx⟩, ⟨⟨x', ?_⟩, hst'.1.at fun o q => (sb.2 it (Ne.symm hne)).trans q, hne, hea, hai⟩, fun b hb => ?_⟩
    · have e1 : ((i + 1 : Nat) : Int) = (i : Int) + 1 := by omega
      rw [e1]; exact he'
    · have hb' : b < s.heap.objs.size := by
        have e' : b = e ∨ b = it := by simpa using hb
        rcases e' with z | z
        · rw [z]; exact hel
        · rw [z]; exact hil
      rw [upd_ne (Nat.ne_of_lt hb')]
      exact (hf b hb).1
  done := by
    intro X hP hw hK hc i pins s σ H E I hf st hg
    subst hP hw hK
    obtain ⟨⟨old, he⟩, hit, hne, hea, hai⟩ := st
    obtain ⟨xs, hq, hx⟩ := hg
    obtain ⟨its, rv, p, hz⟩ := I.tuple hq
    have p' : s.heap.IsTuple a its.toArray := p
    obtain ⟨f0, f1, f2, f3, f4, f5⟩ := hf it (by simp)
    have hl := rv.length
    have D := Draws.tuple (prog := X.prog) (w := X.w) (A := X.A.in1) (I.ok.hd hc) it a hai its.toArray
    unfold pyNext
    have hT : s.TypeIs (.ref e) "enumerate" := ⟨_, he, rfl⟩
    refine wpAny_bind (wpAny_attempt (wpAny_callSpecial?_slot (name := Str.ofString "__next__") hT F.slot_enumerate_next
      (wpAny_call_entry F.slot_enumerate_next hT F.entry_enumerate_next ?_ (F.args_enumerate_next_1 _))))
    show wpAny _ _ (field (.ref e) 2 >>= _) _ _ _
    refine wpAny_bind (wpAny_field he rfl (x := .ref it) rfl ?_)
    refine wpAny_bind (wpAny_nextOf_tuple_end (A := X.A.in1) (I.ok.hd hc) hit p' (by simp; omega) fun h' x he' hx' => ?_)
    obtain ⟨o, ho, hc'⟩ := hx'
    refine wpAny_bind (wpAny_isInstance (T := "StopIteration") (b := true) ⟨o, ho, hc'⟩ isSubtype_stop ?_)
    exact wpAny_pure ⟨rfl, I.turned (t' := s.toks) (fun b o hb q => he' b o hb q) f0 f1 f3 f4 f5⟩
  self := fun A i s Q E st h => let ⟨⟨_, he⟩, _⟩ := st; wpAny_pyIter_enum he h
def iEnumT (K : PySem.W.Frag) (ta : TA) : TI := fun σ H R => ta σ H fun vs H1 => ∃ a xs, vs = [.ref a] ∧ SqT K H1 a xs ∧ R (Iet K a) H1
theorem pi_enumT {X : Cx} {e : Expr} {ta : TA} {p pos tpos : Pos} {elts : List Expr} {kk : Nat} (hg : Gl X "enumerate") (hm : X.mg "enumerate" = none) (ha : PA X [e] ta) (hs : starEach [e] X.env = [(false, eval e X.env)] := by rfl) :
    PI X (.Tuple elts kk tpos) (.Call (.Name "enumerate" p) [e] [] pos) (iEnumT X.K ta) := by
  refine ⟨fun pins s σ H R I h => ?_⟩
  refine Call_ (ld_blt I hg hm boot_enumerate (PyProof.Rows.callWith_type1 (thn (ha.run pos pins s σ H _ I h) fun us s1 ⟨vs, H1, I1, r1, q1⟩ => ?_) hs rfl))
  obtain ⟨a, xs, ex, hq, q⟩ := q1
  subst ex
  cases r1 with
  | cons r rr =>
    cases rr
    cases r
    obtain ⟨its, rv, p', hz⟩ := I1.tuple hq
    have p2 : s1.heap.IsTuple a its.toArray := p'
    have hal : a < s1.heap.objs.size := by obtain ⟨_, q, _⟩ := p2; exact Heap.lt_size q
    refine call_enum1 (begins_tuple a its.toArray) p2 fun h' he hit hsz hk => wpAny_pyIter_enum he ?_
    have I2 : Inv X pins σ H1 { s1 with heap := h' } := I1.kept (t' := s1.toks) hk
    refine ⟨s1.heap.objs.size + 1, [s1.heap.objs.size + 1, s1.heap.objs.size], _, _, H1, rfl, I2, turn_enumT a (s1.heap.objs.size + 1) s1.heap.objs.size, ⟨⟨.none, he⟩, ⟨_, hit, rfl, rfl⟩, Nat.succ_ne_self _, Nat.ne_of_gt (Nat.lt_succ_of_lt hal), Nat.ne_of_lt hal⟩, fun b hb => ?_, q⟩
    have e' : b = s1.heap.objs.size + 1 ∨ b = s1.heap.objs.size := by simpa using hb
    have hle : s1.heap.objs.size ≤ b := by
      rcases e' with z | z
      · rw [z]; exact Nat.le_add_right _ _
      · rw [z]; exact Nat.le_refl _
    exact I1.fpOk hle (I1.hok.fresh hle)
/-- what enumerate yields -/
def enIts (xs : List D) : List D := xs.mapIdx fun i d => .tup [.int (i : Nat), d]
theorem enIts_get {xs : List D} {i : Nat} {d : D} (h : (enIts xs)[i]? = some d) : ∃ x, xs[i]? = some x ∧ d = .tup [.int (i : Nat), x] := by
  unfold enIts at h
  rw [List.getElem?_mapIdx] at h
  obtain ⟨x, hx, rfl⟩ := Option.map_eq_some_iff.mp h
  exact ⟨x, hx, rfl⟩
theorem enIts_len (xs : List D) : (enIts xs).length = xs.length := by unfold enIts; simp
def enD (ds : List D) (st : Sto) : R Src := match ds with
  | [.frz xs] => .ok (.its (enIts xs)) st
  | _ => .bad
def enT (ds : List D) (st : Sto) : R Src := match ds with
  | [.tup xs] => .ok (.its (enIts xs)) st
  | _ => .bad
/-- enumerate of a list that nobody changes, of a tuple -/
def iEn (a : KA) : KI := fun ρ st => (a ρ st).bind enD
def iEt (a : KA) : KI := fun ρ st => (a ρ st).bind enT
section
variable {X : Cx} {W : WX} {e : Expr} {kas : KA} {p pos tpos : Pos} {elts : List Expr} {kk : Nat}
theorem i_enum (hg : Gl X "enumerate") (hm : X.mg "enumerate" = none) (ha : PA X [e] (liftA X.K X.mg W kas)) (hs : starEach [e] X.env = [(false, eval e X.env)] := by rfl) :
    PI X (.Tuple elts kk tpos) (.Call (.Name "enumerate" p) [e] [] pos) (liftI X.K X.mg W (iEn kas)) :=
  PI.imp (pi_enum hg hm ha hs) fun σ H R ⟨β, ρ, st, S, E, p⟩ => liftA.bind S E p fun ds vs β1 H1 st1 e1 S1 E1 r1 p1 => by
    unfold enD at p1
    split at p1
    · rename_i xs
      obtain ⟨v, r, rfl, h1, h2⟩ := VRs.cons.mp r1
      cases VRs.nil.mp h2
      obtain ⟨q, us, rfl, g1, g2⟩ := VR.frz.mp h1
      refine ⟨q, us, rfl, g1.sq, p1 β1 H1 (Ext.refl _ _) S1 _ fun i β2 H2 st2 e2 S2 => ⟨fun d hd => ?_, fun hd => ?_⟩⟩
      · obtain ⟨x, hx, rfl⟩ := enIts_get (Option.some.inj hd)
        have h3 := e2.fzL g1
        have h4 := VRs.mono e2 _ _ g2
        obtain ⟨w, hw, rw'⟩ := h4.getD hx
        refine ⟨⟨us, w, h3.sq, hw⟩, fun y H' ⟨T, z, ey, hT, eH, hz⟩ => ?_⟩
        subst eH ey
        have := hz us h3.sq
        rw [hw] at this
        cases this
        exact ⟨β2, ext_new0 hT, S2.new0 hT, VR.tup.mpr ⟨T, _, rfl, upd_same, VRs.mono (ext_new0 hT) _ _ (VRs.cons.mpr ⟨_, _, rfl, VR.int.mpr rfl, VRs.cons.mpr ⟨_, _, rfl, rw', VRs.nil.mpr rfl⟩⟩)⟩⟩
      · have hd' := List.getElem?_eq_none_iff.mp (Option.some.inj hd)
        rw [enIts_len] at hd'
        exact ⟨us, (e2.fzL g1).sq, by rw [g2.length]; exact hd'⟩
    · exact p1.elim
theorem i_enumT (hg : Gl X "enumerate") (hm : X.mg "enumerate" = none) (ha : PA X [e] (liftA X.K X.mg W kas)) (hs : starEach [e] X.env = [(false, eval e X.env)] := by rfl) :
    PI X (.Tuple elts kk tpos) (.Call (.Name "enumerate" p) [e] [] pos) (liftI X.K X.mg W (iEt kas)) :=
  PI.imp (pi_enumT hg hm ha hs) fun σ H R ⟨β, ρ, st, S, E, p⟩ => liftA.bind S E p fun ds vs β1 H1 st1 e1 S1 E1 r1 p1 => by
    unfold enT at p1
    split at p1
    · rename_i xs
      obtain ⟨v, r, rfl, h1, h2⟩ := VRs.cons.mp r1
      cases VRs.nil.mp h2
      obtain ⟨q, us, rfl, g1, g2⟩ := VR.tupS h1
      refine ⟨q, us, rfl, g1, p1 β1 H1 (Ext.refl _ _) S1 _ fun i β2 H2 st2 e2 S2 => ⟨fun d hd => ?_, fun hd => ?_⟩⟩
      · obtain ⟨x, hx, rfl⟩ := enIts_get (Option.some.inj hd)
        have h3 := e2.sqT g1
        have h4 := VRs.mono e2 _ _ g2
        obtain ⟨w, hw, rw'⟩ := h4.getD hx
        refine ⟨⟨us, w, h3, hw⟩, fun y H' ⟨T, z, ey, hT, eH, hz⟩ => ?_⟩
        subst eH ey
        have := hz us h3
        rw [hw] at this
        cases this
        exact ⟨β2, ext_new0 hT, S2.new0 hT, VR.tup.mpr ⟨T, _, rfl, upd_same, VRs.mono (ext_new0 hT) _ _ (VRs.cons.mpr ⟨_, _, rfl, VR.int.mpr rfl, VRs.cons.mpr ⟨_, _, rfl, rw', VRs.nil.mpr rfl⟩⟩)⟩⟩
      · have hd' := List.getElem?_eq_none_iff.mp (Option.some.inj hd)
        rw [enIts_len] at hd'
        exact ⟨us, e2.sqT g1, by rw [g2.length]; exact hd'⟩
    · exact p1.elim
end
end L3

namespace L3
open PySem PySem.Spec PyProof.Rows L2
/-! ### [elt for .. in .. for .. in ..] -/
theorem Ext0.refl (β : List Addr) (H : Hp) : Ext0 β H β H := (Ext.refl β H).toExt0
theorem Ext0.trans {β β1 β2 : List Addr} {H H1 H2 : Hp} (a : Ext0 β H β1 H1) (b : Ext0 β1 H1 β2 H2) : Ext0 β H β2 H2 :=
  ⟨by obtain ⟨t, h1⟩ := a.pre; obtain ⟨u, h2⟩ := b.pre; exact ⟨t ++ u, by rw [h2, h1, List.append_assoc]⟩, fun x xs h => b.tups x xs (a.tups x xs h), fun x o u h => b.frzs x o u (a.frzs x o u h), fun x u h => b.exts x u (a.exts x u h)⟩
theorem ER.mono0 {K : PySem.W.Frag} {β β' : List Addr} {H H' : Hp} {ρ : Env3} {σ : L2.St} (e : Ext0 β H β' H') (h : ER K β H ρ σ) : ER K β' H' ρ σ :=
  ⟨h.1, fun i d hi => let ⟨v, h1, h2⟩ := h.2 i d hi; ⟨v, h1, VR.mono0 e _ _ h2⟩⟩
/-- what is walked stays, though other objects change -/
def ItOk0 (K : PySem.W.Frag) (mg : Str → Option Value) (β₀ : List Addr) (H₀ : Hp) (src : Src) (J : It) : Prop :=
  ∀ i β H st, Ext0 β₀ H₀ β H → Sim K mg β st H →
    (∀ d, src.at st i = some (some d) → J.go i H ∧ ∀ x H', J.yld i H x H' → ∃ β', Ext β H β' H' ∧ Sim K mg β' st H' ∧ VR K β' H' d x) ∧ (src.at st i = some none → J.stop i H)
def liftI0 (K : PySem.W.Frag) (mg : Str → Option Value) (W : WX) (k : KI) : TI := fun σ H R => ∃ β ρ st, Sim K mg β st H ∧ ER K β H ρ σ ∧ PostA K mg W σ (fun src β' H' => ∀ J, ItOk0 K mg β' H' src J → R J H') β H (k ρ st)
section
variable {X : Cx} {W : WX} {tg e a b c : Expr} {es : List Expr} {pos p : Pos} {ka kb kcc : KE} {kas : KA}
/-- a list that nobody changes -/
def iZ (a : KE) : KI := fun ρ st => (a ρ st).bind fun d st1 => match d with
  | .frz xs => .ok (.its xs) st1
  | _ => .bad
theorem i_list0 (h : PE X a (lift X.K X.mg W ka)) : PI X tg a (liftI0 X.K X.mg W (iZ ka)) :=
  PI.imp (pi_list h) fun σ H R ⟨β, ρ, st, S, E, p⟩ => lift.bind S E p fun d v β1 H1 st1 e1 S1 E1 r1 p1 => by
    cases d with
    | frz xs =>
      obtain ⟨q, vs, rfl, h1, h2⟩ := VR.frz.mp r1
      refine ⟨q, rfl, ⟨vs, h1.sq⟩, p1 β1 H1 (Ext.refl _ _) S1 _ fun i β2 H2 st2 e2 S2 => ⟨fun d hd => ?_, fun hd => ?_⟩⟩
      · have h3 := e2.fzL h1
        have h4 := VRs.mono0 e2 _ _ h2
        obtain ⟨v, hv, rv⟩ := h4.getD (Option.some.inj hd)
        exact ⟨⟨vs, v, h3.sq, hv⟩, fun x H' ⟨eH, hx⟩ => by subst eH; exact ⟨β2, Ext.refl _ _, S2, by have := hx vs h3.sq; rw [hv] at this; cases this; exact rv⟩⟩
      · exact ⟨vs, (e2.fzL h1).sq, by rw [h2.length]; exact List.getElem?_eq_none_iff.mp (Option.some.inj hd)⟩
    | _ => exact p1.elim
theorem i_tup0 (h : PE X a (lift X.K X.mg W ka)) : PI X tg a (liftI0 X.K X.mg W (iT ka)) :=
  PI.imp (pi_tup h) fun σ H R ⟨β, ρ, st, S, E, p⟩ => lift.bind S E p fun d v β1 H1 st1 e1 S1 E1 r1 p1 => by
    cases d with
    | tup xs =>
      obtain ⟨q, vs, rfl, h1, h2⟩ := VR.tupS r1
      refine ⟨q, rfl, ⟨vs, h1⟩, p1 β1 H1 (Ext.refl _ _) S1 _ fun i β2 H2 st2 e2 S2 => ⟨fun d hd => ?_, fun hd => ?_⟩⟩
      · have h3 := e2.sqT h1
        have h4 := VRs.mono0 e2 _ _ h2
        obtain ⟨v, hv, rv⟩ := h4.getD (Option.some.inj hd)
        exact ⟨⟨vs, v, h3, hv⟩, fun x H' ⟨eH, hx⟩ => by subst eH; exact ⟨β2, Ext.refl _ _, S2, by have := hx vs h3; rw [hv] at this; cases this; exact rv⟩⟩
      · exact ⟨vs, e2.sqT h1, by rw [h2.length]; exact List.getElem?_eq_none_iff.mp (Option.some.inj hd)⟩
    | _ => exact p1.elim
/-- numbers do not stand in the heap -/
theorem its_ints0 {K : PySem.W.Frag} {mg : Str → Option Value} {β : List Addr} {H : Hp} {xs : List D} {J : It} (h : ItOk K mg β H (.its xs) J) (hJ : ∀ i H1 H2, (J.go i H1 → J.go i H2) ∧ (J.stop i H1 → J.stop i H2) ∧ ∀ x H', J.yld i H1 x H' → H' = H1 ∧ J.yld i H2 x H2)
    (hx : ∀ d ∈ xs, ∃ i, d = .int i) (S0 : ∃ st, Sim K mg β st H) : ItOk0 K mg β H (.its xs) J := fun i β2 H2 st2 e2 S2 => by
  obtain ⟨st, S⟩ := S0
  obtain ⟨h1, h2⟩ := h i β H st (Ext.refl _ _) S
  refine ⟨fun d hd => ?_, fun hd => (hJ i H H2).2.1 (h2 hd)⟩
  obtain ⟨g1, g2⟩ := h1 d hd
  refine ⟨(hJ i H H2).1 g1, fun x H' y => ?_⟩
  obtain ⟨eH, y2⟩ := (hJ i H2 H).2.2 x H' y
  subst eH
  obtain ⟨β', _, _, r⟩ := g2 x H y2
  obtain ⟨j, rfl⟩ := hx d (List.mem_of_getElem? (Option.some.inj hd))
  cases VR.int.mp r
  exact ⟨β2, Ext.refl _ _, S2, VR.int.mpr rfl⟩
theorem itr_same (lo : Int) (n : Nat) : ∀ i H1 H2, ((Itr lo n).go i H1 → (Itr lo n).go i H2) ∧ ((Itr lo n).stop i H1 → (Itr lo n).stop i H2) ∧ ∀ x H', (Itr lo n).yld i H1 x H' → H' = H1 ∧ (Itr lo n).yld i H2 x H2 :=
  fun i H1 H2 => ⟨fun h => h, fun h => h, fun x H' h => ⟨h.1, rfl, h.2⟩⟩
theorem rngIts_int (lo : Int) (n : Nat) : ∀ d ∈ rngIts lo n, ∃ i, d = .int i := fun d hd => by
  unfold rngIts at hd
  obtain ⟨j, _, rfl⟩ := List.mem_map.mp hd
  exact ⟨_, rfl⟩
theorem i_rng1_0 {p : Pos} (hg : Gl X "range") (hm : X.mg "range" = none) (ha : PA X [a] (liftA X.K X.mg W kas)) (hs : starEach [a] X.env = [(false, eval a X.env)] := by rfl) : PI X tg (.Call (.Name "range" p) [a] [] pos) (liftI0 X.K X.mg W (iR1 kas)) :=
  PI.imp (pi_range1 hg hm ha hs) fun σ H R ⟨β, ρ, st, S, E, p⟩ => liftA.bind S E p fun ds vs β1 H1 st1 e1 S1 E1 r1 p1 => by
    unfold rngF1 at p1
    split at p1
    · rename_i j
      split at p1
      · rename_i hb
        obtain ⟨v, r, rfl, h1, h2⟩ := VRs.cons.mp r1
        cases VRs.nil.mp h2
        cases VR.int.mp h1
        exact ⟨j, rfl, hb.1, hb.2, p1 β1 H1 (Ext.refl _ _) S1 _ (its_ints0 (rng_ok 0 _) (itr_same _ _) (rngIts_int _ _) ⟨_, S1⟩)⟩
      · exact p1.elim
    · exact p1.elim
theorem i_rng2_0 {p : Pos} (hg : Gl X "range") (hm : X.mg "range" = none) (ha : PA X [a, b] (liftA X.K X.mg W kas)) (hs : starEach [a, b] X.env = [(false, eval a X.env), (false, eval b X.env)] := by rfl) (hs2 : starEach [b] X.env = [(false, eval b X.env)] := by rfl) : PI X tg (.Call (.Name "range" p) [a, b] [] pos) (liftI0 X.K X.mg W (iR2 kas)) :=
  PI.imp (pi_range2 hg hm ha hs hs2) fun σ H R ⟨β, ρ, st, S, E, p⟩ => liftA.bind S E p fun ds vs β1 H1 st1 e1 S1 E1 r1 p1 => by
    unfold rngF2 at p1
    split at p1
    · rename_i i j
      split at p1
      · rename_i hb
        obtain ⟨v, r, rfl, h1, h2⟩ := VRs.cons.mp r1
        obtain ⟨v', r', rfl, h1', h2'⟩ := VRs.cons.mp h2
        cases VRs.nil.mp h2'
        cases VR.int.mp h1
        cases VR.int.mp h1'
        exact ⟨i, j, rfl, hb, p1 β1 H1 (Ext.refl _ _) S1 _ (its_ints0 (rng_ok i _) (itr_same _ _) (rngIts_int _ _) ⟨_, S1⟩)⟩
      · exact p1.elim
    · exact p1.elim
end
def lc2Go (g : KG) (cnd : KT) (g1 : KG) (it1 : KI) (cnd1 : KT) (elt : KE) (vs1 : List Nat) (src : Src) (ρ : Env3) : Nat → Nat → Sto → List D → R (List D)
  | 0, _, _, _ => .bad
  | f + 1, i, st, acc => match src.at st i with
    | none => .bad
    | some none => .ok acc st
    | some (some d) => match g d ρ with
      | none => .bad
      | some ρ1 => match cnd ρ1 st with
        | .ok k st1 => if k = true then match it1 ρ1 st1 with
            | .ok src1 st2 => (lcGo g1 cnd1 elt src1 (wipeD ρ1 vs1) (src1.fuel st2) 0 st2 acc).bind fun acc2 st3 => lc2Go g cnd g1 it1 cnd1 elt vs1 src ρ f (i + 1) st3 acc2
            | _ => .bad
          else lc2Go g cnd g1 it1 cnd1 elt vs1 src ρ f (i + 1) st1 acc
        | _ => .bad
def kLz2 (vs vs1 : List Nat) (g : KG) (it : KI) (cnd : KT) (g1 : KG) (it1 : KI) (cnd1 : KT) (elt : KE) : KE := fun ρ st => (it ρ st).bind fun src st1 => (lc2Go g cnd g1 it1 cnd1 elt vs1 src (wipeD ρ vs) (src.fuel st1) 0 st1 []).bind fun acc st2 => .ok (.frz acc) st2
section
variable {X : Cx} {W : WX} {tg tg1 iter iter1 elt : Expr} {ifs ifs1 : List Expr} {pos : Pos} {ke : KE} {kt kt1 : KT} {ki ki1 : KI}
theorem R_bind_bind {α β γ : Type} {r : R α} {f : α → Sto → R β} {g : β → Sto → R γ} : (r.bind f).bind g = r.bind fun a st => (f a st).bind g := by cases r <;> rfl
theorem lc2_inner {is1 vs1 : List Nat} {t1 : TG} {g1 : KG} (kg : PGK X is1 g1 t1) (hv : ∀ i ∈ is1, i ∈ vs1) {σ σ2 : L2.St} {ρ2 : Env3} {Kc : List D → Sto → R D} {β0 β1 : List Addr} {H0 H1 : Hp} {Q : VK} {dl : Addr} {src1 : Src} {J1 : It} (hD : H1 dl = none)
    (hJ : ItOk0 X.K X.mg β0 H0 src1 J1) (E2 : ER X.K β0 H0 ρ2 σ2) (ex0 : Ext β1 H1 β0 H0) (Nx : Hp → Prop)
    (hNx : ∀ β st acc us H, Ext β1 H1 β H → Sim X.K X.mg β st H → H dl = some (.lst us) → dl ∉ β → VRs X.K β H acc us → PostA X.K X.mg W σ (okE X.K Q) β1 H1 (Kc acc st) → Nx H)
    {st0 : Sto} {m : Nat} {acc0 : List D} {us0 : List V} (S0 : Sim X.K X.mg β0 st0 H0) (hl0 : H0 dl = some (.lst us0)) (hn0 : dl ∉ β0) (ra0 : VRs X.K β0 H0 acc0 us0) (p : PostA X.K X.mg W σ (okE X.K Q) β1 H1 ((lcGo g1 kt1 ke src1 (wipeD ρ2 vs1) m 0 st0 acc0).bind Kc)) :
    ∃ W1 : Nat → Nat → Hp → Prop, (∃ m, W1 0 m H0) ∧ ∀ j k H, W1 j k H → (J1.stop j H ∧ Nx H) ∨ (J1.go j H ∧ ∃ Nx1 : Hp → Prop, (∀ H', Nx1 H' → ∃ k', k' < k ∧ W1 (j + 1) k' H') ∧ ∀ x H', J1.yld j H x H' → t1 x (L2.wipe σ2 vs1) H' fun σ3 H5 => L2.wipe σ3 vs1 = L2.wipe σ2 vs1 ∧ liftT X.K X.mg W0 kt1 σ3 H5 fun b H6 =>
        if b = true then lift X.K X.mg W0 ke σ3 H6 fun y H7 => ∃ acc, H7 dl = some (.lst acc) ∧ acc.length < sizeLine ∧ Nx1 (upd H7 dl (.lst (acc ++ [y]))) else Nx1 H6) := by
  refine ⟨fun j k H => ∃ β st acc us, Ext β1 H1 β H ∧ Ext0 β0 H0 β H ∧ Sim X.K X.mg β st H ∧ H dl = some (.lst us) ∧ dl ∉ β ∧ VRs X.K β H acc us ∧ PostA X.K X.mg W σ (okE X.K Q) β1 H1 ((lcGo g1 kt1 ke src1 (wipeD ρ2 vs1) k j st acc).bind Kc),
    ⟨m, β0, st0, acc0, us0, ex0, Ext0.refl _ _, S0, hl0, hn0, ra0, p⟩, ?_⟩
  rintro j k H ⟨β, st, acc, us, ex, ez, S, hl, hn, ra, p⟩
  cases k with
  | zero => exact p.elim
  | succ k =>
    unfold lcGo at p
    obtain ⟨j1, j2⟩ := hJ j β H st ez S
    cases hat : src1.at st j with
    | none => simp only [hat] at p; exact p.elim
    | some o =>
      cases o with
      | none =>
        simp only [hat] at p
        exact .inl ⟨j2 hat, hNx β st acc us H ex S hl hn ra p⟩
      | some d =>
        simp only [hat] at p
        obtain ⟨go, yl⟩ := j1 d hat
        refine .inr ⟨go, fun H' => ∃ β' st' acc' us', Ext β1 H1 β' H' ∧ Ext0 β0 H0 β' H' ∧ Sim X.K X.mg β' st' H' ∧ H' dl = some (.lst us') ∧ dl ∉ β' ∧ VRs X.K β' H' acc' us' ∧ PostA X.K X.mg W σ (okE X.K Q) β1 H1 ((lcGo g1 kt1 ke src1 (wipeD ρ2 vs1) k (j + 1) st' acc').bind Kc),
          fun H' ⟨β', st', acc', us', q⟩ => ⟨k, Nat.lt_succ_self _, β', st', acc', us', q⟩, fun x H' y => ?_⟩
        obtain ⟨β2, e2, S2, r2⟩ := yl x H' y
        have stay : ∀ {βa βb : List Addr} {Ha Hb : Hp}, Ext βa Ha βb Hb → Ha dl = some (.lst us) → dl ∉ βa → Hb dl = some (.lst us) ∧ dl ∉ βb := fun ee hh hnn => ⟨ee.keep dl _ hh hnn (fun _ z => by cases z), fun z => by
          rcases ee.new dl z with z | z | ⟨ps, z⟩
          · exact hnn z
          · rw [hh] at z; cases z
          · rw [hh] at z; cases z⟩
        obtain ⟨hl2, hn2⟩ := stay e2 hl hn
        cases hgd : g1 d (wipeD ρ2 vs1) with
        | none => simp only [hgd] at p; exact p.elim
        | some ρ1 =>
          simp only [hgd] at p
          refine kg d x (L2.wipe σ2 vs1) H' (wipeD ρ2 vs1) β2 _ ρ1 r2 ((E2.mono0 (ez.trans e2.toExt0)).wipe vs1) hgd fun σ3 E3 wp => ⟨?_, ?_⟩
          · exact (wp vs1 hv).trans (wipe_wipe vs1 fun _ h => h)
          refine ⟨β2, ρ1, st, S2, E3, ?_⟩
          cases hk : kt1 ρ1 st with
          | exn _ _ => simp only [hk] at p; exact p.elim
          | bad => simp only [hk] at p; exact p.elim
          | ok b st3 =>
            simp only [hk] at p
            intro β3 H3 e3 S3
            obtain ⟨hl3, hn3⟩ := stay e3 hl2 hn2
            cases b with
            | false =>
              exact iteF ⟨β3, st3, acc, us, (ex.trans e2).trans e3, (ez.trans e2.toExt0).trans e3.toExt0, S3, hl3, hn3, VRs.mono e3 _ _ (VRs.mono e2 _ _ ra), p⟩
            | true =>
              simp only [if_true] at p
              refine iteT ⟨β3, ρ1, st3, S3, E3.mono e3, ?_⟩
              cases hy : ke ρ1 st3 with
              | exn _ _ => simp only [hy] at p; exact p.elim
              | bad => simp only [hy] at p; exact p.elim
              | ok y st4 =>
                simp only [hy] at p
                split at p
                · rename_i hz
                  intro β4 H4 e4 S4 v4 r4
                  obtain ⟨hl4, hn4⟩ := stay e4 hl3 hn3
                  have ra4 := VRs.mono e4 _ _ (VRs.mono e3 _ _ (VRs.mono e2 _ _ ra))
                  obtain ⟨S5, e5⟩ := S4.updOut (o := .lst (us ++ [v4])) hl4 hn4
                  refine ⟨us, hl4, ?_, β4, st4, acc ++ [y], us ++ [v4], (((ex.trans e2).trans e3).trans e4).updNew hD, (((ez.trans e2.toExt0).trans e3.toExt0).trans e4.toExt0).trans e5, S5, upd_same, hn4, VRs.mono0 e5 _ _ (ra4.append (VRs.cons.mpr ⟨v4, [], rfl, r4, VRs.nil.mpr rfl⟩)), p⟩
                  have : us.length < 16777215 := by rw [ra4.length]; exact hz
                  rw [sizeLine_eq]; omega
                · exact p.elim
theorem lc2_mainZ {is vs is1 vs1 : List Nat} {t t1 : TG} {g g1 : KG} (kg : PGK X is g t) (hv : ∀ i ∈ is, i ∈ vs) (kg1 : PGK X is1 g1 t1) (hv1 : ∀ i ∈ is1, i ∈ vs1) {σ : L2.St} {H : Hp} {Q Q2 : VK} (hQ : ∀ x H, FQ Q x H → Q2 x H) (h : lift X.K X.mg W (kLz2 vs vs1 g ki kt g1 ki1 kt1 ke) σ H Q) :
    tLc2 (liftI X.K X.mg W ki) t (liftT X.K X.mg W0 kt) (liftI0 X.K X.mg W0 ki1) t1 (liftT X.K X.mg W0 kt1) (lift X.K X.mg W0 ke) vs vs1 σ H Q2 := by
  obtain ⟨β, ρ, st, S, E, p⟩ := h
  refine liftI.bind S E p fun src β1 H1 st1 J e1 S1 E1 hJ p1 => ?_
  intro D hD
  refine ⟨fun i m H => ∃ β st acc us, Ext β1 H1 β H ∧ Sim X.K X.mg β st H ∧ H D = some (.lst us) ∧ D ∉ β ∧ VRs X.K β H acc us ∧ PostA X.K X.mg W σ (okE X.K Q) β1 H1 ((lc2Go g kt g1 ki1 kt1 ke vs1 src (wipeD ρ vs) m i st acc).bind fun acc st2 => .ok (.frz acc) st2),
    ⟨_, β1, st1, [], [], ext_new0 hD, S1.new0 hD, upd_same, fun hm => ?_, VRs.nil.mpr rfl, p1⟩, ?_⟩
  · obtain ⟨n, hn, e⟩ := List.mem_iff_getElem.mp hm
    exact S1.fresh hD (n := n) (by rw [List.getElem?_eq_getElem hn, e])
  rintro i m H ⟨β, st, acc, us, ex, S, hl, hn, ra, p⟩
  cases m with
  | zero => exact p.elim
  | succ m =>
    unfold lc2Go at p
    obtain ⟨j1, j2⟩ := hJ i β H st ex S
    cases hat : src.at st i with
    | none => simp only [hat] at p; exact p.elim
    | some o =>
      cases o with
      | none =>
        simp only [hat] at p
        refine .inl ⟨j2 hat, hQ _ _ (.inr ⟨D, us, rfl, hl, fun o => ?_⟩)⟩
        obtain ⟨S', e5⟩ := S.updOut (o := .frz o (.lst us)) hl hn
        exact p β _ (ex.updNew hD) S' _ (VR.frz.mpr ⟨D, us, rfl, .inl ⟨o, upd_same⟩, VRs.mono0 e5 _ _ ra⟩)
      | some d =>
        simp only [hat] at p
        obtain ⟨go, yl⟩ := j1 d hat
        refine .inr ⟨go, fun H' => ∃ β' st' acc' us', Ext β1 H1 β' H' ∧ Sim X.K X.mg β' st' H' ∧ H' D = some (.lst us') ∧ D ∉ β' ∧ VRs X.K β' H' acc' us' ∧ PostA X.K X.mg W σ (okE X.K Q) β1 H1 ((lc2Go g kt g1 ki1 kt1 ke vs1 src (wipeD ρ vs) m (i + 1) st' acc').bind fun acc st2 => .ok (.frz acc) st2),
          fun H' ⟨β', st', acc', us', q⟩ => ⟨m, Nat.lt_succ_self _, β', st', acc', us', q⟩, fun x H' y => ?_⟩
        obtain ⟨β2, e2, S2, r2⟩ := yl x H' y
        have stay : ∀ {βa βb : List Addr} {Ha Hb : Hp}, Ext βa Ha βb Hb → Ha D = some (.lst us) → D ∉ βa → Hb D = some (.lst us) ∧ D ∉ βb := fun ee hh hnn => ⟨ee.keep D _ hh hnn (fun _ z => by cases z), fun z => by
          rcases ee.new D z with z | z | ⟨ps, z⟩
          · exact hnn z
          · rw [hh] at z; cases z
          · rw [hh] at z; cases z⟩
        obtain ⟨hl2, hn2⟩ := stay e2 hl hn
        cases hgd : g d (wipeD ρ vs) with
        | none => simp only [hgd] at p; exact p.elim
        | some ρ1 =>
          simp only [hgd] at p
          refine kg d x (L2.wipe σ vs) H' (wipeD ρ vs) β2 _ ρ1 r2 ((E1.mono (ex.trans e2)).wipe vs) hgd fun σ2 E2 wp => ⟨?_, ?_⟩
          · exact (wp vs hv).trans (wipe_wipe vs fun _ h => h)
          refine ⟨β2, ρ1, st, S2, E2, ?_⟩
          cases hk : kt ρ1 st with
          | exn _ _ => simp only [hk] at p; exact p.elim
          | bad => simp only [hk] at p; exact p.elim
          | ok k st3 =>
            simp only [hk] at p
            intro β3 H3 e3 S3
            obtain ⟨hl3, hn3⟩ := stay e3 hl2 hn2
            cases k with
            | false =>
              exact iteF ⟨β3, st3, acc, us, (ex.trans e2).trans e3, S3, hl3, hn3, VRs.mono e3 _ _ (VRs.mono e2 _ _ ra), p⟩
            | true =>
              simp only [if_true] at p
              refine iteT ⟨β3, ρ1, st3, S3, E2.mono e3, ?_⟩
              cases hy : ki1 ρ1 st3 with
              | exn _ _ => simp only [hy] at p; exact p.elim
              | bad => simp only [hy] at p; exact p.elim
              | ok src1 st4 =>
                simp only [hy] at p
                intro β4 H4 e4 S4 J1 hJ1
                obtain ⟨hl4, hn4⟩ := stay e4 hl3 hn3
                rw [R_bind_bind] at p
                exact lc2_inner kg1 hv1 hD hJ1 (E2.mono (e3.trans e4)) (((ex.trans e2).trans e3).trans e4) _ (fun β st acc us H x1 x2 x3 x4 x5 x6 => ⟨β, st, acc, us, x1, x2, x3, x4, x5, x6⟩) S4 hl4 hn4 (VRs.mono e4 _ _ (VRs.mono e3 _ _ (VRs.mono e2 _ _ ra))) p
theorem q_lcZ2 {scope : Scope} {own : List (Str × Nat)} {is is1 vs1 : List Nat} {g g1 : KG} {t t1 : TG} (hc : X.calm = true) (hN : X.N.Nodup) (hi : PI X tg iter (liftI X.K X.mg W ki)) (ok : BlkOk X.N X.env.scope scope own) (hvs : ∀ i ∈ vs1, i ∈ own.map (·.2))
    (hg : ∀ (s : Shared) (H : Hp) (C : Addr) (cl : List (Str × Addr)) (fp : List Addr), PG (X.blk s H scope (compEnvC scope cl C X.env) fp) tg t) (kg : PGK X is g t) (hv : ∀ i ∈ is, i ∈ own.map (·.2))
    (ht : ∀ (s : Shared) (H : Hp) (C : Addr) (cl : List (Str × Addr)) (fp : List Addr), PTs (X.blk s H scope (compEnvC scope cl C X.env) fp) ifs (liftT X.K X.mg W0 kt))
    (hi1 : ∀ (s : Shared) (H : Hp) (C : Addr) (cl : List (Str × Addr)) (fp : List Addr), PI (X.blk s H scope (compEnvC scope cl C X.env) fp) tg1 iter1 (liftI0 X.K X.mg W0 ki1))
    (hg1 : ∀ (s : Shared) (H : Hp) (C : Addr) (cl : List (Str × Addr)) (fp : List Addr), PG (X.blk s H scope (compEnvC scope cl C X.env) fp) tg1 t1) (kg1 : PGK X is1 g1 t1) (hv1 : ∀ i ∈ is1, i ∈ vs1)
    (ht1 : ∀ (s : Shared) (H : Hp) (C : Addr) (cl : List (Str × Addr)) (fp : List Addr), PTs (X.blk s H scope (compEnvC scope cl C X.env) fp) ifs1 (liftT X.K X.mg W0 kt1))
    (he : ∀ (s : Shared) (H : Hp) (C : Addr) (cl : List (Str × Addr)) (fp : List Addr), PE (X.blk s H scope (compEnvC scope cl C X.env) fp) elt (lift X.K X.mg W0 ke)) (hs : ∀ x, foldedSetIterable iter X.env x = pure x := by intro _; rfl) (hs1 : ∀ env x, foldedSetIterable iter1 env x = pure x := by intro _ _; rfl) :
    PE X (.ListComp elt [⟨tg, iter, ifs, 0⟩, ⟨tg1, iter1, ifs1, 0⟩] scope pos) (lift X.K X.mg W (kLz2 (own.map (·.2)) vs1 g ki kt g1 ki1 kt1 ke)) :=
  PE.imp (PE.fz (pe_lc2 hc hN hi ok hvs hg ht hi1 hg1 ht1 he hs hs1)) fun σ H Q h => lc2_mainZ kg hv kg1 hv1 (fun _ _ z => z) h
end
end L3

namespace L3
open PySem PySem.Spec PyProof.Rows L2
section
variable {X : Cx} {W : WX} {tg e a b c o : Expr} {es : List Expr} {pos p apos np : Pos} {ko : KE} {kas : KA} {k : Nat} {g C : Addr} {run : Run} {m : Str}
/-- cls.m(..) where cls is a local name of the class -/
def kCmV (C : Addr) (run : Run) (o : KE) (a : KA) : KE := fun ρ st => (o ρ st).bind fun d st1 => match d with
  | .cls q => if q = C then (a ρ st1).bind fun ds st2 => run (.cls C :: ds) st2 else .bad
  | _ => .bad
theorem q_cmethV {pl : Sem Bool} {mc : Value} {pd : Addr} (tk : Takes X W) (F : Pr3 X.prog X.w X.K X.mg X.base k g run) (hr : Room k X.A) (ho : PE X o (lift X.K X.mg W ko)) (rd : ClX.CRead X.K C mc) (cm : ClX.CMet X.K C mc m pd g) (ha : PA X (e :: es) (liftA X.K X.mg W kas))
    (he : starEach (e :: es) X.env = (false, eval e X.env) :: starEach es X.env := by rfl) (hpl : (backTo pos (starEach es X.env)).any (·.1) = false := by rfl)
    (ht : eval (.Call (.Attribute o m apos) (e :: es) [] pos) X.env = (do
      let ov ← eval o X.env; standAt apos.atName
      let (f, first) ← holding [ov] (getMethod ov m pl); callWith pos f first (backTo pos (starEach (e :: es) X.env)) (backToKw pos (keywordEach [] X.env))) := by rfl) :
    PE X (.Call (.Attribute o m apos) (e :: es) [] pos) (lift X.K X.mg W (kCmV C run ko kas)) := by
  constructor
  intro pins s σ H Q I ⟨β, ρ, st, S, E, hp⟩
  refine PySem.W.methodCall_KW (pl := pl) (val3 ho I S E hp fun u s1 v H1 β1 st1 d I1 ru e1 S1 E1 r1 p1 => ?_) ht
  cases d with
  | cls q =>
    cases VR.cls.mp r1
    simp only at p1
    split at p1
    · rename_i hq
      subst hq
      have hu : u = Value.ref q := ru
      subst hu
      refine ClX.getmethcm_ok I1 rd cm fun s2 I2 => ?_
      refine ClX.callwith_cm I2 (ClX.base_none I1 (Nat.le_refl _)) cm.fi (args3 ha I2 S1 E1 p1 fun us s2 vs H2 β2 st2 ds I2 rv e2 S2 E2 r2 p2 => ⟨⟨ClX.pin_at I2, I2.kIn⟩, ?_⟩) he hpl
      exact thn (wpAny_call (PySem.W.method_call (ClX.pin_at I2) (run3 (vs := V.ref q :: vs) F hr tk I2 (.cons rfl rv) S2 (VRs.cons.mpr ⟨_, _, rfl, VR.cls.mpr rfl, r2⟩) p2))) fun _ _ y => ClX.unpinE y
    · exact p1.elim
  | _ => exact p1.elim
theorem itc_same (lo d : Int) (n : Nat) : ∀ i H1 H2, ((Itc lo d n).go i H1 → (Itc lo d n).go i H2) ∧ ((Itc lo d n).stop i H1 → (Itc lo d n).stop i H2) ∧ ∀ x H', (Itc lo d n).yld i H1 x H' → H' = H1 ∧ (Itc lo d n).yld i H2 x H2 :=
  fun i H1 H2 => ⟨fun h => h, fun h => h, fun x H' h => ⟨h.1, rfl, h.2⟩⟩
theorem stepIts_int (lo d : Int) (n : Nat) : ∀ x ∈ stepIts lo d n, ∃ i, x = .int i := fun x hx => by
  unfold stepIts at hx
  obtain ⟨j, _, rfl⟩ := List.mem_map.mp hx
  exact ⟨_, rfl⟩
theorem i_rng3_0 (hg : Gl X "range") (hm : X.mg "range" = none) (ha : PA X [a, b, c] (liftA X.K X.mg W kas)) (hs : starEach [a, b, c] X.env = (false, eval a X.env) :: starEach [b, c] X.env := by rfl) (hpl : (backTo pos (starEach [b, c] X.env)).any (·.1) = false := by rfl) :
    PI X tg (.Call (.Name "range" p) [a, b, c] [] pos) (liftI0 X.K X.mg W (iR3 kas)) :=
  PI.imp (pi_range3 hg hm ha hs hpl) fun σ H R ⟨β, ρ, st, S, E, q⟩ => liftA.bind S E q fun ds vs β1 H1 st1 e1 S1 E1 r1 p1 => by
    unfold rngF3 at p1
    split at p1
    · rename_i i j d
      split at p1
      · rename_i hb
        obtain ⟨v1, r1', rfl, h1, h2⟩ := VRs.cons.mp r1
        obtain ⟨v2, r2', rfl, h3, h4⟩ := VRs.cons.mp h2
        obtain ⟨v3, r3', rfl, h5, h6⟩ := VRs.cons.mp h4
        cases VRs.nil.mp h6
        cases VR.int.mp h1
        cases VR.int.mp h3
        cases VR.int.mp h5
        exact ⟨i, j, d, rngN i j d, rfl, hb, p1 β1 H1 (Ext.refl _ _) S1 _ (its_ints0 (step_ok i d _) (itc_same _ _ _) (stepIts_int _ _ _) ⟨_, S1⟩)⟩
      · exact p1.elim
    · exact p1.elim
end
end L3

namespace L3
open PySem PySem.Spec PyProof.Rows L2
/-! ### sum of a tuple -/
section
variable {X : Cx} {W : WX}
theorem cr_sumT (hc : X.calm = true) : CallR X (.builtin "sum") fun vs H Q => ∃ (a : Addr) (ns : List Int), vs = [V.ref a] ∧ SqT X.K H a (ns.map V.int) ∧ Q (.int ns.sum) H := by
  intro pins s σ H vs us Q I r h
  obtain ⟨a, ns, rfl, hs, q⟩ := h
  obtain ⟨its, rv, hl, _⟩ := I.tuple hs
  rw [Vals.ref1 r]
  have hl2 : s.heap.IsTuple a its.toArray := hl
  obtain ⟨xs, e⟩ := rv.ints.allInts.items
  have hn : numsOf (intItems xs).toList = ns := by rw [← e]; exact rv.ints.numsOf
  rw [nums_intItems] at hn
  rw [e] at hl2
  refine PySem.W.ktm_sumG (I.ok.hd hc) hl2 fun h' tk t' hk => ?_
  rw [preSum_eq, List.take_of_length_le (by simp), hn]
  exact ⟨.int _, H, I.kept hk, ⟨_, rfl⟩, q⟩
def sumX (ds : List D) (st : Sto) : R D := match ds with
  | [.tup xs] => match intsO xs with
    | some is => .ok (.int is.sum) st
    | none => .bad
  | ds => sumF ds st
theorem f_sumX (hc : X.calm = true) : CallS X W (.builtin "sum") sumX := fun pins s σ H xs us Q β st ds I r S rd p => by
  unfold sumX at p
  split at p
  · obtain ⟨v, rfl, r1⟩ := rd.one
    split at p
    · rename_i is e
      obtain ⟨a, ws, rfl, h1, h2⟩ := VR.tupS r1
      have e := intsO_eq e
      subst e
      have e := ints_vr h2
      subst e
      exact cr_sumT hc pins s σ H _ us Q I r ⟨a, is, rfl, h1, fin p S (VR.int.mpr rfl)⟩
    · exact p.elim
  · exact f_sum hc pins s σ H xs us Q β st ds I r S rd p
end
end L3

/-! Special methods of one's own classes: len, in, str; f-strings; == and != with what is of another kind. -/
namespace L3
open PySem PySem.Spec PyProof.Rows L2
def lenC (c : Str) (run : Run) (ds : List D) (st : Sto) : R D := match ds with
  | [d] => if insOf c d st = true then (run [d] st).bind fun v st2 => match v with
      | .int n => if 0 ≤ n ∧ n < 9223372036854775808 then .ok (.int n) st2 else .bad
      | _ => .bad
    else lenF [d] st
  | _ => .bad
def inC (c : Str) (run : Run) (neg : Bool) (f : D → D → Sto → R D) (x y : D) (st : Sto) : R D :=
  if insOf c y st = true then boolR (run [y, x] st) fun b => .bl (neg != b) else f x y st
def strC (c : Str) (run : Run) (ds : List D) (st : Sto) : R D := match ds with
  | [d] => if insOf c d st = true then (run [d] st).bind fun v st2 => match v with
      | .str n => .ok (.str n) st2
      | _ => .bad
    else strF [d] st
  | _ => .bad
section
variable {X : Cx} {W : WX} {C f : Addr} {c : Str} {k : Nat} {run : Run}
theorem int_post {K : PySem.W.Frag} {mg : Str → Option Value} {σ : L2.St} {Q : VK} {β : List Addr} {H : Hp} {r : R D} (hp : PostA K mg W σ (okE K Q) β H (r.bind fun v st2 => match v with
      | .int n => if 0 ≤ n ∧ n < 9223372036854775808 then .ok (.int n) st2 else .bad
      | _ => .bad)) : PostA K mg W σ (okE K fun v H' => ∃ n : Int, v = .int n ∧ (0 ≤ n ∧ n < 9223372036854775808) ∧ Q (.int n) H') β H r := by
  cases r with
  | ok d st2 =>
    cases d with
    | int n =>
      rw [R.bind_ok] at hp
      simp only at hp
      split at hp
      · rename_i hn
        exact fun β' H' e S v rv => ⟨n, VR.int.mp rv, hn, hp β' H' e S _ (VR.int.mpr rfl)⟩
      · exact hp.elim
    | _ => exact hp.elim
  | exn z st2 => exact hp
  | bad => exact hp
theorem text_post {K : PySem.W.Frag} {mg : Str → Option Value} {σ : L2.St} {Q : VK} {β : List Addr} {H : Hp} {r : R D} (hp : PostA K mg W σ (okE K Q) β H (r.bind fun v st2 => match v with
      | .str n => .ok (.str n) st2
      | _ => .bad)) : PostA K mg W σ (okE K fun v H' => ∃ n : Str, v = .str n ∧ Q (.str n) H') β H r := by
  cases r with
  | ok d st2 =>
    cases d with
    | str n => exact fun β' H' e S v rv => ⟨n, VR.str.mp rv, hp β' H' e S _ (VR.str.mpr rfl)⟩
    | _ => exact hp.elim
  | exn z st2 => exact hp
  | bad => exact hp
theorem c_lenC (mt : mtB X.K C "__len__" f = true) (hr : Room (k + 1) X.A) (tk : Takes X W) (hc : X.mg c = some (.ref C)) (F : Pr3 X.prog X.w X.K X.mg X.base k f run) : CallS X W (.builtin "len") (lenC c run) := by
  intro pins s σ H xs us Q β st ds I vx S rd p
  unfold lenC at p
  split at p
  · rename_i d
    split at p
    · rename_i hi
      obtain ⟨v, rfl, r1⟩ := rd.one
      obtain ⟨q, dq, gs, rfl, h1⟩ := insOf_rel S r1 hc hi
      cases vx with
      | cons ra rs =>
        cases rs
        rename_i u
        cases (show u = Value.ref q from ra)
        obtain ⟨_, J1, _⟩ := ins_get I.hok h1
        obtain ⟨_, J1, _⟩ := J1.look
        obtain ⟨m, hF⟩ := I.fr
        have M := mtB_ok mt
        unfold mtB at mt
        simp only [Bool.and_eq_true] at mt
        refine PySem.W.len_K hF I.ok.mod.kin J1 (of_decide_eq_true mt.1) mt.2.1 ?_
        refine wpAny_mono (wpAny_call (runA (A := X.A.in1) (vs := [V.ref q]) F hr.in1 I.env0.in1 tk I (.cons rfl .nil) S (VRs.cons.mpr ⟨_, _, rfl, r1, VRs.nil.mpr rfl⟩) (int_post p))) (fun z s2 hz => ?_) fun _ _ hz => hz
        obtain ⟨w, H2, I2, rw', n, rfl, hn, qq⟩ := hz
        obtain ⟨t, rfl⟩ := rw'
        exact ⟨hn, V.int n, H2, I2.tok _, ⟨_, rfl⟩, qq⟩
    · exact f_len pins s σ H xs us Q β st _ I vx S rd p
  · exact p.elim
theorem o_inC {neg : Bool} {op : CmpOp} {g : D → D → Sto → R D} (ho : op = if neg = true then .NotIn else .In) (mt : mtB X.K C "__contains__" f = true) (hr : Room k X.A) (tk : Takes X W) (hc : X.mg c = some (.ref C)) (F : Pr3 X.prog X.w X.K X.mg X.base k f run) (hg : OpS X W (compareOp op) g) : OpS X W (compareOp op) (inC c run neg g) := by
  intro pins s σ H x y v u Q β st dx dy I rx ry S vx vy p
  unfold inC at p
  split at p
  · rename_i hi
    obtain ⟨q, dq, gs, rfl, h1⟩ := insOf_rel S vy hc hi
    cases (show u = Value.ref q from ry)
    obtain ⟨_, J1, _⟩ := ins_get I.hok h1
    obtain ⟨_, J1, _⟩ := J1.look
    obtain ⟨m, hF⟩ := I.fr
    unfold mtB at mt
    simp only [Bool.and_eq_true] at mt
    have go : wpAny (model X.prog X.w) X.A (call (.ref f) [.ref q, v]) (fun z s2 => ∃ b, z = .bool b ∧ EP X pins σ Q (.bool (neg != b)) s2) X.xe s := wpAny_mono (wpAny_call (run3 (vs := [V.ref q, x]) F hr tk I (.cons rfl (.cons rx .nil)) S (VRs.cons.mpr ⟨_, _, rfl, vy, VRs.cons.mpr ⟨_, _, rfl, vx, VRs.nil.mpr rfl⟩⟩) (bool_post (g := fun b => neg != b) p))) (fun z s2 hz => by
      obtain ⟨w, H2, I2, rw', b, rfl, qq⟩ := hz
      cases rw'
      exact ⟨b, rfl, V.bl (neg != b), H2, I2, rfl, qq⟩) fun _ _ hz => hz
    cases neg with
    | false =>
      subst ho
      refine PySem.W.in_K hF I.ok.mod.kin J1 (of_decide_eq_true mt.1) mt.2.1 (wpAny_mono go (fun z s2 hz => ?_) fun _ _ hz => hz)
      obtain ⟨b, rfl, hq⟩ := hz
      refine wpAny_truthy_bool ?_
      simpa using hq
    | true =>
      subst ho
      refine PySem.W.notIn_K hF I.ok.mod.kin J1 (of_decide_eq_true mt.1) mt.2.1 (wpAny_mono go (fun z s2 hz => ?_) fun _ _ hz => hz)
      obtain ⟨b, rfl, hq⟩ := hz
      refine wpAny_truthy_bool ?_
      simpa using hq
  · exact hg pins s σ H x y v u Q β st dx dy I rx ry S vx vy p
end
end L3
namespace L3
open PySem PySem.Spec PyProof.Rows L2
section
variable {X : Cx} {W : WX} {C f : Addr} {c : Str} {k : Nat} {run : Run}
theorem own_text {prog : Program} {w : World} {A : Around} {Er : Value → Shared → Prop} {s : Shared} {K : PySem.W.Frag} {q : Addr} {ox : Obj} {od : Option Obj} {Q : Value → Shared → Prop} (u2 : A.in1.in1.units < cLine) (XK : K.In s.heap) (J : PySem.W.InstAt s.heap q ox C od) (m1 : PySem.W.findIn K (.ref C) "__str__" = some (some (.ref f))) (m2 : PySem.W.isFn K (.ref f) = true)
    (go : wpAny (model prog w) A.in1.in1 (call (.ref f) [.ref q]) (PySem.W.StrBack Q) Er s) : wpAny (model prog w) A (call (.type "str") [.ref q]) Q Er s := by
  refine callType_codes (T := "str") (Bi := Builtin.«object.__init__») (Q₁ := fun o s2 => ∃ y u, o = .str y u ∧ Q o s2) PySem.F.called_str (PySem.F.typeCall_str_1 _) PySem.F.entry_object_init (codeAny_of_tree ?_) ?_
  · show wpAny (model prog w) A.in1.in1 (do checkBuiltinCall "str.__new__" ⟨[.type "str", .ref q], []⟩; again (.builtin "str.__new__" ⟨[.type "str", .ref q], []⟩)) _ _ s
    refine wpAny_bind (wpAny_of_eq (PySem.F.newCall_str_1 _) ?_)
    refine wpAny_pure ⟨plainId_quiet (by decide +kernel) _, codeAny_builtin PySem.F.entry_str_new ?_⟩
    rw [Around.under_plainId (by decide +kernel) _, str_new_tree]
    refine wpAny_bind (wpAny_pure (wpAny_bind (wpAny_of_eq isSubtype_str_str (wpAny_bind (wpAny_mono (Q := fun o s2 => ∃ y u, o = .str y u ∧ Q o s2) ?_ (fun o s2 ho => wpAny_pure ho) fun _ _ z => z)))))
    unfold PySem.Builtin.Str.strOf
    rw [show PySem.Builtin.Str.isExactStr (.ref q) = false from rfl]
    refine wpAny_bind (m := cRoomFor _ _) (wpAny_cRoomFor u2 (wpAny_bind (m := callSpecial? (.ref q) (Str.ofString "__str__")) ?_))
    refine PySem.W.special_fn XK J m1 (beq_iff_eq.mp m2) (wpAny_mono go (fun o s2 z => ?_) fun _ _ z => z)
    cases o <;> first | exact z.elim | exact wpAny_pure ⟨_, _, rfl, z⟩
  · rintro o s2 ⟨y, u, rfl, z⟩
    exact ⟨typeIs_str _ _ _, PySem.F.args_object_init_2 _ _, object_init_meets PySem.F.called_str.init.lookup PySem.F.called_str.made (by decide) prog w A.in1 _ s2 ⟨typeIs_str _ _ _, rfl, z⟩⟩
theorem c_strC (mt : mtB X.K C "__str__" f = true) (hr : Room (k + 2) X.A) (tk : Takes X W) (hc : X.mg c = some (.ref C)) (F : Pr3 X.prog X.w X.K X.mg X.base k f run) : CallS X W (.type "str") (strC c run) := by
  intro pins s σ H xs us Q β st ds I vx S rd p
  unfold strC at p
  split at p
  · rename_i d
    split at p
    · rename_i hi
      obtain ⟨v, rfl, r1⟩ := rd.one
      obtain ⟨q, dq, gs, rfl, h1⟩ := insOf_rel S r1 hc hi
      cases vx with
      | cons ra rs =>
        cases rs
        rename_i u
        cases (show u = Value.ref q from ra)
        obtain ⟨_, J1, _⟩ := ins_get I.hok h1
        obtain ⟨_, J1, _⟩ := J1.look
        unfold mtB at mt
        simp only [Bool.and_eq_true] at mt
        have r2 : Room k X.A.in1.in1 := hr.in1.in1
        refine own_text (by have := r2.units; omega) I.kIn J1 (of_decide_eq_true mt.1) mt.2.1 ?_
        refine wpAny_mono (wpAny_call (runA (A := X.A.in1.in1) (vs := [V.ref q]) F r2 I.env0.in1.in1 tk I (.cons rfl .nil) S (VRs.cons.mpr ⟨_, _, rfl, r1, VRs.nil.mpr rfl⟩) (text_post p))) (fun z s2 hz => ?_) fun _ _ hz => hz
        obtain ⟨w, H2, I2, rw', n, rfl, qq⟩ := hz
        obtain ⟨t, rfl⟩ := rw'
        exact ⟨V.str n, H2, I2, ⟨_, rfl⟩, qq⟩
    · exact f_str pins s σ H xs us Q β st _ I vx S rd p
  · exact p.elim
end
/-! ### f-strings -/
def fmtD (d : D) (st : Sto) : R D := match d with
  | .str y => if y.length ≤ 16777216 then .ok (.str y) st else .bad
  | .int i => if i.natAbs.log2 < 1920 then .ok (.str (toString i)) st else .bad
  | _ => .bad
def joinK : List KE → Str → Env3 → Sto → R D
  | [], acc, _, st => .ok (.str acc) st
  | e :: es, acc, ρ, st => (e ρ st).bind fun d st1 => match d with
      | .str y => if (acc ++ y).length ≤ 16777216 then joinK es (acc ++ y) ρ st1 else .bad
      | _ => .bad
def kJ (es : List KE) : KE := fun ρ st => joinK es Str.empty ρ st
inductive PJ3 (X : Cx) (W : WX) : List Expr → List KE → Prop where
  | nil : PJ3 X W [] []
  | cons {e : Expr} {a : KE} {es : List Expr} {as : List KE} (h : PE X e (lift X.K X.mg W a)) (r : PJ3 X W es as) : PJ3 X W (e :: es) (a :: as)
section
variable {X : Cx} {W : WX} {e : Expr} {es : List Expr} {pos : Pos} {ka : KE} {ks : List KE}
theorem q_fmt (he : PE X e (lift X.K X.mg W ka)) : PE X (.FormattedValue e (-1) none pos) (lift X.K X.mg W (k1 fmtD ka)) :=
  PE.imp (pe_fmt he) fun σ H Q ⟨β, ρ, st, S, E, p⟩ => lift.bind S E p fun d v β1 H1 st1 e1 S1 E1 r1 p1 => by
    unfold fmtD at p1
    split at p1
    · rename_i y
      split at p1
      · rename_i hz
        exact .inl ⟨y, VR.str.mp r1, szl hz, p1 β1 H1 (Ext.refl _ _) S1 _ (VR.str.mpr rfl)⟩
      · exact p1.elim
    · rename_i i
      split at p1
      · rename_i hz
        exact .inr ⟨i, VR.int.mp r1, hz, p1 β1 H1 (Ext.refl _ _) S1 _ (VR.str.mpr rfl)⟩
      · exact p1.elim
    · exact p1.elim
theorem PJ3.pj (h : PJ3 X W es ks) : PJ X es (ks.map (lift X.K X.mg W)) := by
  induction h with
  | nil => exact .nil
  | cons h _ ih => exact .cons h ih
theorem join_ok {σ : L2.St} {Q : Str → Hp → Prop} : ∀ (ks : List KE) (acc : Str) {β : List Addr} {H : Hp} {ρ : Env3} {st : Sto}, Sim X.K X.mg β st H → ER X.K β H ρ σ →
    PostA X.K X.mg W σ (okE X.K fun v H' => ∃ y, v = .str y ∧ Q y H') β H (joinK ks acc ρ st) → tJs (ks.map (lift X.K X.mg W)) acc σ H Q
  | [], acc, β, H, ρ, st, S, E, p => by
    obtain ⟨y, e1, q⟩ := p β H (Ext.refl _ _) S (.str acc) (VR.str.mpr rfl)
    cases e1
    exact q
  | e :: es, acc, β, H, ρ, st, S, E, p => by
    refine lift.bind S E p fun d v β1 H1 st1 e1 S1 E1 r1 p1 => ?_
    cases d with
    | str y =>
      simp only at p1
      split at p1
      · rename_i hz
        exact ⟨y, VR.str.mp r1, szl hz, join_ok es (acc ++ y) S1 E1 p1⟩
      · exact p1.elim
    | _ => exact p1.elim
theorem joinK_str : ∀ (ks : List KE) (acc : Str) {ρ : Env3} {st st' : Sto} {d : D}, joinK ks acc ρ st = .ok d st' → ∃ y, d = .str y
  | [], acc, ρ, st, st', d, h => by cases h; exact ⟨_, rfl⟩
  | e :: es, acc, ρ, st, st', d, h => by
    unfold joinK at h
    cases hm : e ρ st with
    | ok x st1 =>
      rw [hm, R.bind_ok] at h
      cases x with
      | str y =>
        simp only at h
        split at h
        · exact joinK_str es _ h
        · cases h
      | _ => cases h
    | exn x st1 => rw [hm] at h; cases h
    | bad => rw [hm] at h; cases h
theorem q_joined {v1 v2 : Expr} {rest : List Expr} (h : PJ3 X W (v1 :: v2 :: rest) ks) : PE X (.JoinedStr (v1 :: v2 :: rest) pos) (lift X.K X.mg W (kJ ks)) :=
  PE.imp (pe_joined h.pj) fun σ H Q ⟨β, ρ, st, S, E, p⟩ => join_ok ks Str.empty S E (by
    unfold kJ at p
    cases hm : joinK ks Str.empty ρ st with
    | ok d st' =>
      obtain ⟨y, rfl⟩ := joinK_str ks _ hm
      rw [hm] at p
      exact fun β' H' e S v r => ⟨y, VR.str.mp r, p β' H' e S _ (VR.str.mpr rfl)⟩
    | exn x st' => rw [hm] at p; exact p
    | bad => rw [hm] at p; exact p)
end
end L3

/-! Reckoning forward: what is to hold of a run, step by step. -/
namespace L3
open PySem L2
inductive Tk {α : Type} (Q : α → Prop) : Type
  | mk
def Wp {α : Type} (m : R α) (Q : R α → Prop) (_t : Tk Q := .mk) : Prop := Q m
def Ws (m : RS) (Q : RS → Prop) (_t : Tk Q := .mk) : Prop := Q m
def bQ {α γ : Type} (f : α → Sto → R γ) (Q : R γ → Prop) : R α → Prop := fun m => Q (m.bind f)
def tQ {α : Type} (ρ : Env3) (f : α → Sto → RS) (Q : RS → Prop) : R α → Prop := fun m => Q (m.toS ρ f)
def sQ (k : KS) (Q : RS → Prop) : RS → Prop := fun r => Q (r.andThen k)
def fQ (Q : R D → Prop) : RS → Prop := fun r => Q (finR r)
/-- it ends well, with a value and a store of which P holds -/
def Ok {α : Type} (P : α → Sto → Prop) : R α → Prop := fun m => ∃ a s, m = .ok a s ∧ P a s
section
variable {α γ : Type} {m : R α} {f : α → Sto → R γ} {g : α → Sto → RS} {Q : R γ → Prop} {Qs : RS → Prop} {Qd : R D → Prop} {P : α → Sto → Prop} {a : α} {s : Sto} {ρ : Env3} {x : XN} {r : RS} {k : KS} {d : D}
theorem wp_bind : Wp (m.bind f) Q = Wp m (bQ f Q) := propext Iff.rfl
theorem wp_bQ : Wp (.ok a s) (bQ f Q) = Wp (f a s) Q := propext Iff.rfl
theorem wp_bQx : Wp (.exn x s) (bQ f Q) = Wp (.exn x s) Q := propext Iff.rfl
theorem ws_toS : Ws (m.toS ρ g) Qs = Wp m (tQ ρ g Qs) := propext Iff.rfl
theorem wp_tQ : Wp (.ok a s) (tQ ρ g Qs) = Ws (g a s) Qs := propext Iff.rfl
theorem wp_tQx : Wp (.exn x s) (tQ ρ g Qs) = Ws (.exn x ρ s) Qs := propext Iff.rfl
theorem ws_then : Ws (r.andThen k) Qs = Ws r (sQ k Qs) := propext Iff.rfl
theorem ws_nx : Ws (.nx ρ s) (sQ k Qs) = Ws (k ρ s) Qs := propext Iff.rfl
theorem ws_rt : Ws (.rt d s) (sQ k Qs) = Ws (.rt d s) Qs := propext Iff.rfl
theorem ws_bk : Ws (.bk ρ s) (sQ k Qs) = Ws (.bk ρ s) Qs := propext Iff.rfl
theorem ws_ct : Ws (.ct ρ s) (sQ k Qs) = Ws (.ct ρ s) Qs := propext Iff.rfl
theorem ws_exn : Ws (.exn x ρ s) (sQ k Qs) = Ws (.exn x ρ s) Qs := propext Iff.rfl
theorem wp_fin : Wp (finR r) Qd = Ws r (fQ Qd) := propext Iff.rfl
theorem ws_fnx : Ws (.nx ρ s) (fQ Qd) = Wp (.ok .non s) Qd := propext Iff.rfl
theorem ws_frt : Ws (.rt d s) (fQ Qd) = Wp (.ok d s) Qd := propext Iff.rfl
theorem ws_fexn : Ws (.exn x ρ s) (fQ Qd) = Wp (.exn x s) Qd := propext Iff.rfl
theorem wp_Ok : Wp (.ok a s) (Ok P) = P a s := by
  unfold Wp Ok
  exact propext ⟨fun ⟨b, t, e, h⟩ => by cases e; exact h, fun h => ⟨a, s, rfl, h⟩⟩
theorem Ok.wp (h : Wp m (Ok P)) : ∃ a s, m = .ok a s ∧ P a s := h
theorem wp_run {n np : Nat} {body : KS} {ds : List D} (h : ds.length = np) (st : Sto) : Wp (runDef n np body ds st) Qd = Ws (body (start3 n ds) st) (fQ Qd) := by unfold Wp Ws fQ; rw [runDef_eq h]
theorem wp_def {n np : Nat} {body : KS} {ds : List D} {st : Sto} (h : ds.length = np) (q : Ws (body (start3 n ds) st) (fQ Qd)) : Wp (runDef n np body ds st) Qd := by rw [wp_run h]; exact q
theorem Ok.to {ds : List D} {st : Sto} {run : L3.Run} {Pd : D → Sto → Prop} (h : Wp (run ds st) (Ok Pd)) : ∃ v s, run ds st = .ok v s ∧ Pd v s := h
/-- the value of a step -/
theorem wp_use {Qa : R α → Prop} (h : m = .ok a s) (q : Wp (.ok a s) Qa) : Wp m Qa := by rw [h]; exact q
theorem wp_ite {c : Prop} [Decidable c] {m1 m2 : R α} {Qa : R α → Prop} (h1 : c → Wp m1 Qa) (h2 : ¬ c → Wp m2 Qa) : Wp (if c then m1 else m2) Qa := by
  split
  · exact h1 ‹_›
  · exact h2 ‹_›
theorem ws_ite {c : Prop} [Decidable c] {m1 m2 : RS} (h1 : c → Ws m1 Qs) (h2 : ¬ c → Ws m2 Qs) : Ws (if c then m1 else m2) Qs := by
  split
  · exact h1 ‹_›
  · exact h2 ‹_›
theorem Ws.imp {Qt : RS → Prop} (h : Ws r Qs) (i : ∀ r, Qs r → Qt r) : Ws r Qt := i _ h
theorem Wp.imp {Qa Qb : R α → Prop} (h : Wp m Qa) (i : ∀ r, Qa r → Qb r) : Wp m Qb := i _ h
/-- one statement, by what is wanted behind it -/
theorem ws_cut {Qm : RS → Prop} (h : Ws r Qm) (i : ∀ r, Qm r → Ws r Qs) : Ws r Qs := i _ h
end
/-! ### loops -/
def loopQ (N : Env3 → Sto → Prop) (Q : RS → Prop) : RS → Prop
  | .nx ρ s => N ρ s
  | .ct ρ s => N ρ s
  | .bk ρ s => Q (.nx ρ s)
  | .rt d s => Q (.rt d s)
  | .exn x ρ s => Q (.exn x ρ s)
  | .bad => False
section
variable {N : Env3 → Sto → Prop} {Q : RS → Prop} {ρ : Env3} {s : Sto} {d : D} {x : XN}
theorem ws_lnx : Ws (.nx ρ s) (loopQ N Q) = N ρ s := propext Iff.rfl
theorem ws_lct : Ws (.ct ρ s) (loopQ N Q) = N ρ s := propext Iff.rfl
theorem ws_lbk : Ws (.bk ρ s) (loopQ N Q) = Ws (.nx ρ s) Q := propext Iff.rfl
theorem ws_lrt : Ws (.rt d s) (loopQ N Q) = Ws (.rt d s) Q := propext Iff.rfl
theorem ws_lexn : Ws (.exn x ρ s) (loopQ N Q) = Ws (.exn x ρ s) Q := propext Iff.rfl
end
theorem ws_forGo {g : KG} {body : KS} {src : Src} {xs : List D} {Q : RS → Prop} (I : Nat → Env3 → Sto → Prop) (hat : ∀ i ρ s, I i ρ s → src.at s i = some xs[i]?)
    (step : ∀ (i : Nat) (x : D) (ρ : Env3) (s : Sto), xs[i]? = some x → I i ρ s → ∃ ρ1, g x ρ = some ρ1 ∧ Ws (body ρ1 s) (loopQ (I (i + 1)) Q))
    (done : ∀ (ρ : Env3) (s : Sto), I xs.length ρ s → Ws (.nx ρ s) Q) : ∀ (j i : Nat) (ρ : Env3) (s : Sto) (F : Nat), xs.length = i + j → j < F → I i ρ s → Ws (forGo g body src F i ρ s) Q
  | j, i, ρ, s, 0, hl, hF, h => absurd hF (Nat.not_lt_zero _)
  | 0, i, ρ, s, F + 1, hl, hF, h => by
    have e : xs[i]? = none := List.getElem?_eq_none (by omega)
    have z : i = xs.length := by omega
    have a := hat i ρ s h
    subst z
    unfold forGo
    simp only [a, e]
    exact done ρ s h
  | j + 1, i, ρ, s, F + 1, hl, hF, h => by
    have e := List.getElem?_eq_getElem (l := xs) (i := i) (by omega)
    obtain ⟨ρ1, h1, h2⟩ := step i _ ρ s e h
    have a := hat i ρ s h
    unfold forGo
    simp only [a, e, h1]
    unfold Ws at h2
    cases hb : body ρ1 s with
    | nx ρ2 s2 => rw [hb] at h2; exact ws_forGo I hat step done j (i + 1) ρ2 s2 F (by omega) (by omega) h2
    | ct ρ2 s2 => rw [hb] at h2; exact ws_forGo I hat step done j (i + 1) ρ2 s2 F (by omega) (by omega) h2
    | bk ρ2 s2 => rw [hb] at h2; exact h2
    | rt d s2 => rw [hb] at h2; exact h2
    | exn z ρ2 s2 => rw [hb] at h2; exact h2
    | bad => rw [hb] at h2; exact h2.elim
/-- a for over what stands: by an invariant -/
theorem ws_for {g : KG} {it : KI} {body : KS} {ρ : Env3} {s s1 : Sto} {xs : List D} {Q : RS → Prop} (I : Nat → Env3 → Sto → Prop) (hi : it ρ s = .ok (.its xs) s1) (h0 : I 0 ρ s1)
    (step : ∀ (i : Nat) (x : D) (ρ : Env3) (s : Sto), xs[i]? = some x → I i ρ s → ∃ ρ1, g x ρ = some ρ1 ∧ Ws (body ρ1 s) (loopQ (I (i + 1)) Q))
    (done : ∀ (ρ : Env3) (s : Sto), I xs.length ρ s → Ws (.nx ρ s) Q) : Ws (sFor g it body ρ s) Q := by
  unfold sFor
  rw [hi]
  exact ws_forGo I (fun _ _ _ _ => rfl) step done xs.length 0 ρ s1 _ (by omega) (Nat.lt_succ_self _) h0
/-- a for over a list of the store -/
theorem ws_forL {g : KG} {it : KI} {body : KS} {ρ : Env3} {s s1 : Sto} {m : Nat} {xs : List D} {Q : RS → Prop} (I : Nat → Env3 → Sto → Prop) (hi : it ρ s = .ok (.lv m) s1) (h0 : I 0 ρ s1) (hm : ∀ i ρ s, I i ρ s → s[m]? = some (.lst xs))
    (step : ∀ (i : Nat) (x : D) (ρ : Env3) (s : Sto), xs[i]? = some x → I i ρ s → ∃ ρ1, g x ρ = some ρ1 ∧ Ws (body ρ1 s) (loopQ (I (i + 1)) Q))
    (done : ∀ (ρ : Env3) (s : Sto), I xs.length ρ s → Ws (.nx ρ s) Q) : Ws (sFor g it body ρ s) Q := by
  unfold sFor
  rw [hi]
  refine ws_forGo (xs := xs) I (fun i ρ s h => by simp only [Src.at, hm i ρ s h]) step done xs.length 0 ρ s1 _ (by omega) ?_ h0
  simp only [Src.fuel, hm 0 ρ s1 h0]
  exact Nat.lt_succ_self _
/-- a while: by an invariant and a measure -/
theorem ws_while {c : KT} {body : KS} {Q : RS → Prop} (I : Nat → Env3 → Sto → Prop)
    (step : ∀ (n : Nat) (ρ : Env3) (s : Sto), I n ρ s → Wp (c ρ s) (Ok fun b s1 => if b = true then Ws (body ρ s1) (loopQ (fun ρ2 s2 => ∃ m, m < n ∧ I m ρ2 s2) Q) else Ws (.nx ρ s1) Q)) : ∀ (F n : Nat) (ρ : Env3) (s : Sto), n < F → I n ρ s → Ws (sWhile F c body ρ s) Q
  | 0, n, ρ, s, hF, h => absurd hF (Nat.not_lt_zero _)
  | F + 1, n, ρ, s, hF, h => by
    obtain ⟨b, s1, e, h1⟩ := step n ρ s h
    show Ws (whileGo c body (F + 1) ρ s) Q
    unfold whileGo
    rw [e, R.toS_ok]
    cases b with
    | false =>
      simp only [Bool.false_eq_true, if_false] at h1 ⊢
      exact h1
    | true =>
      simp only [if_true] at h1 ⊢
      unfold Ws at h1
      cases hb : body ρ s1 with
      | nx ρ2 s2 =>
        rw [hb] at h1
        obtain ⟨m, hm, h2⟩ := h1
        exact ws_while I step F m ρ2 s2 (by omega) h2
      | ct ρ2 s2 =>
        rw [hb] at h1
        obtain ⟨m, hm, h2⟩ := h1
        exact ws_while I step F m ρ2 s2 (by omega) h2
      | bk ρ2 s2 => rw [hb] at h1; exact h1
      | rt d s2 => rw [hb] at h1; exact h1
      | exn z ρ2 s2 => rw [hb] at h1; exact h1
      | bad => rw [hb] at h1; exact h1.elim
/-! ### each construct, where it stands in front -/
section
variable {ρ : Env3} {s : Sto} {Q : R D → Prop} {Qs : RS → Prop} {Qb : R Bool → Prop} {Ql : R (List D) → Prop} {Qi : R Src → Prop} {a b c : KE} {r as : KA} {t u : KT} {p q : KS} {i j n : Nat} {d : D} {f : D → Sto → R D} {g : D → D → Sto → R D} {h : List D → Sto → R D} {ty : D → Sto → Bool} {m : D → List D → Sto → R D} {C : Addr} {x y : Str} {run : L3.Run} {G : KG} {Gs : KGs}
theorem wp_kv : Wp (kv i ρ s) Q = Wp (match ρ[i]? with | some (some d) => .ok d s | _ => .bad) Q := propext Iff.rfl
theorem wp_kc : Wp (kc d ρ s) Q = Wp (.ok d s) Q := propext Iff.rfl
theorem wp_k1 : Wp (k1 f a ρ s) Q = Wp (a ρ s) (bQ f Q) := propext Iff.rfl
theorem wp_k2 : Wp (k2 g a b ρ s) Q = Wp (a ρ s) (bQ (fun x s1 => (b ρ s1).bind fun y s2 => g x y s2) Q) := propext Iff.rfl
theorem wp_kF : Wp (kF h r ρ s) Q = Wp (r ρ s) (bQ h Q) := propext Iff.rfl
theorem wp_kA0 : Wp (kA0 ρ s) Ql = Wp (.ok [] s) Ql := propext Iff.rfl
theorem wp_kA1 : Wp (kA1 a r ρ s) Ql = Wp (a ρ s) (bQ (fun x s1 => (r ρ s1).bind fun xs s2 => .ok (x :: xs) s2) Ql) := propext Iff.rfl
theorem wp_kM : Wp (kM ty m a r ρ s) Q = Wp (a ρ s) (bQ (fun x s1 => if ty x s1 = true then (r ρ s1).bind fun xs s2 => m x xs s2 else .bad) Q) := propext Iff.rfl
theorem wp_kTr : Wp (kTr a ρ s) Qb = Wp (a ρ s) (bQ (fun d s1 => match truD d s1 with | some b => .ok b s1 | none => .bad) Qb) := propext Iff.rfl
theorem wp_kTb : Wp (kTb a ρ s) Qb = Wp (a ρ s) (bQ (fun d s1 => match d with | .bl b => .ok b s1 | _ => .bad) Qb) := propext Iff.rfl
theorem wp_tAnd : Wp (tAnd3 t u ρ s) Qb = Wp (t ρ s) (bQ (fun c s1 => if c = true then u ρ s1 else .ok false s1) Qb) := propext Iff.rfl
theorem wp_tOr : Wp (tOr3 t u ρ s) Qb = Wp (t ρ s) (bQ (fun c s1 => if c = true then .ok true s1 else u ρ s1) Qb) := propext Iff.rfl
theorem wp_tNot : Wp (tNot3 t ρ s) Qb = Wp (t ρ s) (bQ (fun c s1 => .ok (!c) s1) Qb) := propext Iff.rfl
theorem wp_kIf : Wp (kIf t a b ρ s) Q = Wp (t ρ s) (bQ (fun k s1 => if k = true then a ρ s1 else b ρ s1) Q) := propext Iff.rfl
theorem wp_kAnd : Wp (kAndV a b ρ s) Q = Wp (a ρ s) (bQ (fun d s1 => match truD d s1 with | some true => b ρ s1 | some false => .ok d s1 | none => .bad) Q) := propext Iff.rfl
theorem wp_kOr : Wp (kOrV a b ρ s) Q = Wp (a ρ s) (bQ (fun d s1 => match truD d s1 with | some true => .ok d s1 | some false => b ρ s1 | none => .bad) Q) := propext Iff.rfl
theorem wp_kNot : Wp (kNotV a ρ s) Q = Wp (a ρ s) (bQ (fun d s1 => match truD d s1 with | some k => .ok (.bl (!k)) s1 | none => .bad) Q) := propext Iff.rfl
theorem wp_kChain {g' : D → D → Sto → R D} : Wp (kChain g g' a b c ρ s) Q = Wp (a ρ s) (bQ (fun x s1 => (b ρ s1).bind fun y s2 => (g x y s2).bind fun z s3 => match z with
  | .bl true => (c ρ s3).bind fun w s4 => g' y w s4
  | .bl false => .ok (.bl false) s3
  | _ => .bad) Q) := propext Iff.rfl
theorem wp_kCm : Wp (kCm C run r ρ s) Q = Wp (r ρ s) (bQ (fun ds s1 => run (.cls C :: ds) s1) Q) := propext Iff.rfl
theorem wp_kMkV : Wp (kMkV C x run a r ρ s) Q = Wp (a ρ s) (bQ (fun d s1 => match d with
  | .cls q => if q = C then (r ρ s1).bind (mkD x run) else .bad
  | _ => .bad) Q) := propext Iff.rfl
theorem wp_kCmV : Wp (kCmV C run a r ρ s) Q = Wp (a ρ s) (bQ (fun d s1 => match d with
  | .cls q => if q = C then (r ρ s1).bind (fun ds s2 => run (.cls C :: ds) s2) else .bad
  | _ => .bad) Q) := by
  unfold kCmV
  exact propext Iff.rfl
theorem wp_kMt : Wp (kMt x y run a r ρ s) Q = Wp (a ρ s) (bQ (fun d s1 => if insOk x y d s1 = true then (r ρ s1).bind fun ds s2 => run (d :: ds) s2 else .bad) Q) := propext Iff.rfl
theorem wp_kAS : Wp (kAS a r ρ s) Ql = Wp (kAS a r ρ s) Ql := propext Iff.rfl
theorem ws_nil : Ws (sNil ρ s) Qs = Ws (.nx ρ s) Qs := propext Iff.rfl
theorem ws_seq : Ws (sSeq p q ρ s) Qs = Ws (p ρ s) (sQ q Qs) := propext Iff.rfl
theorem ws_expr : Ws (sExpr a ρ s) Qs = Wp (a ρ s) (tQ ρ (fun _ s1 => .nx ρ s1) Qs) := propext Iff.rfl
theorem ws_set : Ws (sSet i a ρ s) Qs = Wp (a ρ s) (tQ ρ (fun d s1 => .nx (ρ.set i (some d)) s1) Qs) := propext Iff.rfl
theorem ws_ret : Ws (sRet a ρ s) Qs = Wp (a ρ s) (tQ ρ (fun d s1 => .rt d s1) Qs) := propext Iff.rfl
theorem ws_retN : Ws (sRetN ρ s) Qs = Ws (.rt .non s) Qs := propext Iff.rfl
theorem ws_if : Ws (sIf t p q ρ s) Qs = Wp (t ρ s) (tQ ρ (fun k s1 => if k = true then p ρ s1 else q ρ s1) Qs) := propext Iff.rfl
theorem ws_break : Ws (sBreak ρ s) Qs = Ws (.bk ρ s) Qs := propext Iff.rfl
theorem ws_cont : Ws (sCont ρ s) Qs = Ws (.ct ρ s) Qs := propext Iff.rfl
theorem ws_par2 : Ws (sPar2 i j a b ρ s) Qs = Wp (a ρ s) (tQ ρ (fun x s1 => (b ρ s1).toS ρ fun y s2 => .nx ((ρ.set i (some x)).set j (some y)) s2) Qs) := propext Iff.rfl
theorem ws_asg : Ws (sAsg G a ρ s) Qs = Wp (a ρ s) (tQ ρ (fun d s1 => match G d ρ with
  | some ρ' => .nx ρ' s1
  | none => .bad) Qs) := propext Iff.rfl
theorem ws_asgL : Ws (sAsgL n Gs a ρ s) Qs = Ws (sAsgL n Gs a ρ s) Qs := propext Iff.rfl
theorem ws_setix {F : D → D → D → Sto → Option Sto} : Ws (sSetIx F a b c ρ s) Qs = Wp (c ρ s) (tQ ρ (fun v s1 => (a ρ s1).toS ρ fun x s2 => (b ρ s2).toS ρ fun y s3 => match F x y v s3 with
  | some s4 => .nx ρ s4
  | none => .bad) Qs) := propext Iff.rfl
end
end L3

namespace k08
open PySem PySem.Spec PyProof.Rows L2 L3
/-- is_whole -/
def b_is_whole  : KS :=
  (sRet (kAndV (k1 (isF "int") (kv 0)) (kNotV (k1 (isF "bool") (kv 0)))))
/-- is_way -/
def b_is_way  : KS :=
  (sRet (kAndV (k1 (isF "str") (kv 0)) (k2 (inD false) (kv 0) (kF tupF (kA1 (kc (.str "across")) (kA1 (kc (.str "down")) kA0))))))
/-- is_bar -/
def b_is_bar (r_is_whole : L3.Run) (r_is_way : L3.Run) : KS :=
  (sSeq (sIf (tOr3 (tNot3 (kTr (k1 (isF "tuple") (kv 0)))) (kTb (k2 neD (kF lenF (kA1 (kv 0) kA0)) (kc (.int 3))))) (sRet (kc (.bl false))) sNil)
    (sSeq (sAsg (gT 3 (gs1 (gN 1) (gs1 (gN 2) (gs1 (gN 3) gs0)))) (kv 0))
    (sRet (kAndV (kF r_is_whole (kA1 (kv 1) kA0)) (kAndV (kF r_is_whole (kA1 (kv 2) kA0)) (kF r_is_way (kA1 (kv 3) kA0)))))))
/-- lies_within -/
def b_lies_within  : KS :=
  (sSeq (sAsg (gT 3 (gs1 (gN 2) (gs1 (gN 3) (gs1 (gN 4) gs0)))) (kv 0))
    (sSeq (sAsg (gT 3 (gs1 (gN 5) (gs1 (gN 6) (gs1 (gN 7) gs0)))) (kv 1))
    (sSeq (sIf (kTb (k2 eqD (kv 7) (kc (.str "across")))) (sRet (kAndV (kChain leD leD (kc (.int 0)) (kv 5) (k2 subD (kv 2) (kv 4))) (kChain leD ltD (kc (.int 0)) (kv 6) (kv 3)))) sNil)
    (sRet (kAndV (kChain leD ltD (kc (.int 0)) (kv 5) (kv 2)) (kChain leD leD (kc (.int 0)) (kv 6) (k2 subD (kv 3) (kv 4))))))))
/-- cells_of -/
def b_cells_of  : KS :=
  (sSeq (sAsg (gT 3 (gs1 (gN 2) (gs1 (gN 3) (gs1 (gN 4) gs0)))) (kv 0))
    (sSeq (sIf (kTb (k2 eqD (kv 4) (kc (.str "across")))) (sRet (kLz [5] (gN 5) (iR1 (kA1 (kv 1) kA0)) kTrue (kF tupF (kA1 (k2 addD (kv 2) (kv 5)) (kA1 (kv 3) kA0))))) sNil)
    (sRet (kLz [5] (gN 5) (iR1 (kA1 (kv 1) kA0)) kTrue (kF tupF (kA1 (kv 2) (kA1 (k2 addD (kv 3) (kv 5)) kA0)))))))
/-- can_hold_floor -/
def b_can_hold_floor  : KS :=
  (sSeq (sAsg (gT 3 (gs1 (gN 1) (gs1 (gN 2) (gs1 (gN 3) gs0)))) (kv 0))
    (sRet (kOrV (k2 eqD (k2 modD (kv 1) (kv 3)) (kc (.int 0))) (k2 eqD (k2 modD (kv 2) (kv 3)) (kc (.int 0))))))
/-- is_size -/
def b_is_size (r_is_whole : L3.Run) : KS :=
  (sSeq (sIf (tOr3 (tNot3 (kTr (k1 (isF "tuple") (kv 0)))) (kTb (k2 neD (kF lenF (kA1 (kv 0) kA0)) (kc (.int 3))))) (sRet (kc (.bl false))) sNil)
    (sSeq (sIf (tNot3 (kTr (kF allF (kA1 (kLz [4] (gN 4) (iT (kv 0)) kTrue (kF r_is_whole (kA1 (kv 4) kA0))) kA0)))) (sRet (kc (.bl false))) sNil)
    (sSeq (sAsg (gT 3 (gs1 (gN 1) (gs1 (gN 2) (gs1 (gN 3) gs0)))) (kv 0))
    (sRet (kAndV (kChain leD leD (kc (.int 1)) (kv 1) (kc (.int 1000000000000000000000000000000))) (kAndV (kChain leD leD (kc (.int 1)) (kv 2) (kc (.int 1000000000000000000000000000000))) (kChain leD leD (kc (.int 2)) (kv 3) (kc (.int 1000000000000000000000000000000)))))))))
/-- covered_cells -/
def b_covered_cells (r_is_size : L3.Run) (r_is_bar : L3.Run) (r_lies_within : L3.Run) (r_cells_of : L3.Run) : KS :=
  (sSeq (sIf (tOr3 (tNot3 (kTr (kF r_is_size (kA1 (kv 0) kA0)))) (kTb (k2 gtD (k2 mulD (k2 ixX (kv 0) (kc (.int 0))) (k2 ixX (kv 0) (kc (.int 1)))) (kc (.int 400))))) (sRet (kc .non)) sNil)
    (sSeq (sAsg (gT 3 (gs1 (gN 2) (gs1 (gN 3) (gs1 (gN 4) gs0)))) (kv 0))
    (sSeq (sSet 5 kDT0)
    (sSeq (sFor (gN 6) (iT (kv 1)) (sSeq (sIf (tOr3 (tNot3 (kTr (kF r_is_bar (kA1 (kv 6) kA0)))) (tNot3 (kTr (kF r_lies_within (kA1 (kv 0) (kA1 (kv 6) kA0)))))) (sRet (kc .non)) sNil)
    (sFor (gN 7) (iL (kF r_cells_of (kA1 (kv 6) (kA1 (kv 4) kA0)))) (sSeq (sIf (kTb (k2 (inX false) (kv 7) (kv 5))) (sRet (kc .non)) sNil)
    (sSetIx setX (kv 5) (kv 7) (kv 6))))))
    (sSeq (sIf (kTb (k2 neD (kF lenX (kA1 (kv 5) kA0)) (k2 mulD (kv 2) (kv 3)))) (sRet (kc .non)) sNil)
    (sRet (kv 5)))))))
/-- Floor.__init__ -/
def b_Floor___init__ (r_covered_cells : L3.Run) : KS :=
  (sSeq (sSet 3 (kF r_covered_cells (kA1 (kv 1) (kA1 (kv 2) kA0))))
    (sSeq (sIf (kTb (k1 isN (kv 3))) sNever sNil)
    (sSeq (sFldSet "Floor" "_size" (kv 0) (kv 1))
    (sSeq (sFldSet "Floor" "_bars" (kv 0) (kF tupleF (kA1 (kF sortFZ (kA1 (kv 2) kA0)) kA0)))
    (sFldSet "Floor" "_bar_of" (kv 0) (kv 3))))))
/-- Floor.of -/
def b_Floor_of (C_Floor : Addr) (r_Floor___init__ : L3.Run) : KS :=
  (sSeq (sIf (tNot3 (kTr (k1 (isF "tuple") (kv 2)))) sNever sNil)
    (sRet (kMkV C_Floor "Floor" r_Floor___init__ (kv 0) (kA1 (kv 1) (kAS (kv 2) kA0)))))
/-- Floor.size -/
def b_Floor_size  : KS :=
  (sRet (k1 (fldD "Floor" "_size") (kv 0)))
/-- Floor.width -/
def b_Floor_width  : KS :=
  (sRet (k2 ixD (k1 (fldD "Floor" "_size") (kv 0)) (kc (.int 0))))
/-- Floor.height -/
def b_Floor_height  : KS :=
  (sRet (k2 ixD (k1 (fldD "Floor" "_size") (kv 0)) (kc (.int 1))))
/-- Floor.length -/
def b_Floor_length  : KS :=
  (sRet (k2 ixD (k1 (fldD "Floor" "_size") (kv 0)) (kc (.int 2))))
/-- Floor.bars -/
def b_Floor_bars  : KS :=
  (sRet (k1 (fldD "Floor" "_bars") (kv 0)))
/-- Floor.mirrored -/
def b_Floor_mirrored (C_Floor : Addr) (r_Floor_of : L3.Run) : KS :=
  (sSeq (sAsg (gT 3 (gs1 (gN 1) (gs1 (gN 2) (gs1 (gN 3) gs0)))) (k1 (fldD "Floor" "_size") (kv 0)))
    (sSeq (sSet 4 (kF lstF kA0))
    (sSeq (sFor (gT 3 (gs1 (gN 5) (gs1 (gN 6) (gs1 (gN 7) gs0)))) (iT (k1 (fldD "Floor" "_bars") (kv 0))) (sSeq (sSet 8 (kIf (kTb (k2 eqD (kv 7) (kc (.str "across")))) (k2 subD (k2 addD (kv 5) (kv 3)) (kc (.int 1))) (kv 5)))
    (sExpr (kM (tyD "list") appendM (kv 4) (kA1 (kF tupF (kA1 (k2 subD (k2 subD (kv 1) (kc (.int 1))) (kv 8)) (kA1 (kv 6) (kA1 (kv 7) kA0)))) kA0)))))
    (sRet (kCm C_Floor r_Floor_of (kA1 (k1 (fldD "Floor" "_size") (kv 0)) (kA1 (kF tupleF (kA1 (kv 4) kA0)) kA0)))))))
/-- Floor.__len__ -/
def b_Floor___len__  : KS :=
  (sRet (kF lenF (kA1 (k1 (fldD "Floor" "_bars") (kv 0)) kA0)))
/-- is_line_way -/
def b_is_line_way  : KS :=
  (sRet (kAndV (k1 (isF "str") (kv 0)) (k2 (inD false) (kv 0) (kF tupF (kA1 (kc (.str "upright")) (kA1 (kc (.str "level")) kA0))))))
/-- side_along -/
def b_side_along  : KS :=
  (sRet (kIf (kTb (k2 eqD (kv 1) (kc (.str "upright")))) (k2 ixD (kv 0) (kc (.int 0))) (k2 ixD (kv 0) (kc (.int 1)))))
/-- side_across -/
def b_side_across  : KS :=
  (sRet (kIf (kTb (k2 eqD (kv 1) (kc (.str "upright")))) (k2 ixD (kv 0) (kc (.int 1))) (k2 ixD (kv 0) (kc (.int 0)))))
/-- is_line -/
def b_is_line (r_is_size : L3.Run) (r_is_line_way : L3.Run) (r_is_whole : L3.Run) (r_side_along : L3.Run) : KS :=
  (sSeq (sIf (tNot3 (kTr (kF r_is_size (kA1 (kv 0) kA0)))) sNever sNil)
    (sSeq (sIf (tOr3 (tNot3 (kTr (k1 (isF "tuple") (kv 1)))) (kTb (k2 neD (kF lenF (kA1 (kv 1) kA0)) (kc (.int 2))))) (sRet (kc (.bl false))) sNil)
    (sSeq (sAsg (gT 2 (gs1 (gN 2) (gs1 (gN 3) gs0))) (kv 1))
    (sRet (kAndV (kF r_is_line_way (kA1 (kv 2) kA0)) (kAndV (kF r_is_whole (kA1 (kv 3) kA0)) (kChain leD ltD (kc (.int 1)) (kv 3) (kF r_side_along (kA1 (kv 0) (kA1 (kv 2) kA0))))))))))
/-- remainder -/
def b_remainder (r_is_line : L3.Run) (r_can_hold_floor : L3.Run) (r_side_across : L3.Run) : KS :=
  (sSeq (sIf (tNot3 (kTr (kF r_is_line (kA1 (kv 0) (kA1 (kv 1) kA0))))) sNever sNil)
    (sSeq (sIf (tNot3 (kTr (kF r_can_hold_floor (kA1 (kv 0) kA0)))) sNever sNil)
    (sSeq (sAsg (gT 2 (gs1 (gN 2) (gs1 (gN 3) gs0))) (kv 1))
    (sSeq (sSet 4 (k2 ixD (kv 0) (kc (.int 2))))
    (sRet (kIf (kTb (k2 eqD (k2 modD (kv 3) (kv 4)) (kc (.int 0)))) (kc (.int 0)) (k2 modD (kF r_side_across (kA1 (kv 0) (kA1 (kv 2) kA0))) (kv 4))))))))
/-- need -/
def b_need (r_remainder : L3.Run) : KS :=
  (sRet (kOrV (kF r_remainder (kA1 (kv 0) (kA1 (kv 1) kA0))) (k2 ixD (kv 0) (kc (.int 2)))))
/-- profile -/
def b_profile (r_Floor_width : L3.Run) (r_Floor_height : L3.Run) (r_Floor_bars : L3.Run) (r_Floor_length : L3.Run) : KS :=
  (sSeq (sIf (tNot3 (kTr (k1 (isC "Floor") (kv 0)))) sNever sNil)
    (sSeq (sSet 1 (k2 mulD (kF lstF (kA1 (kc (.int 0)) kA0)) (k2 subD (kPr "Floor" "width" r_Floor_width (kv 0)) (kc (.int 1)))))
    (sSeq (sSet 2 (k2 mulD (kF lstF (kA1 (kc (.int 0)) kA0)) (k2 subD (kPr "Floor" "height" r_Floor_height (kv 0)) (kc (.int 1)))))
    (sSeq (sFor (gT 3 (gs1 (gN 3) (gs1 (gN 4) (gs1 (gN 5) gs0)))) (iT (kPr "Floor" "bars" r_Floor_bars (kv 0))) (sSeq (sSet 6 (kIf (kTb (k2 eqD (kv 5) (kc (.str "across")))) (kv 1) (kv 2)))
    (sSeq (sSet 7 (kIf (kTb (k2 eqD (kv 5) (kc (.str "across")))) (kv 3) (kv 4)))
    (sFor (gN 8) (iR2 (kA1 (kv 7) (kA1 (k2 subD (k2 addD (kv 7) (kPr "Floor" "length" r_Floor_length (kv 0))) (kc (.int 1))) kA0))) (sSetIx setL (kv 6) (kv 8) (k2 addD (k2 ixD (kv 6) (kv 8)) (kc (.int 1))))))))
    (sRet (kF tupF (kA1 (kF tupleF (kA1 (kv 1) kA0)) (kA1 (kF tupleF (kA1 (kv 2) kA0)) kA0))))))))
/-- crossings -/
def b_crossings (r_profile : L3.Run) (r_is_line : L3.Run) (r_Floor_size : L3.Run) : KS :=
  (sSeq (sAsg (gT 2 (gs1 (gN 2) (gs1 (gN 3) gs0))) (kF r_profile (kA1 (kv 0) kA0)))
    (sSeq (sIf (tNot3 (kTr (kF r_is_line (kA1 (kPr "Floor" "size" r_Floor_size (kv 0)) (kA1 (kv 1) kA0))))) sNever sNil)
    (sSeq (sAsg (gT 2 (gs1 (gN 4) (gs1 (gN 5) gs0))) (kv 1))
    (sRet (kIf (kTb (k2 eqD (kv 4) (kc (.str "upright")))) (k2 ixD (kv 2) (k2 subD (kv 5) (kc (.int 1)))) (k2 ixD (kv 3) (k2 subD (kv 5) (kc (.int 1)))))))))
/-- uncrossed -/
def b_uncrossed  : KS :=
  (sRet (kF tupleF (kA1 (kLz [2, 3] (gT 2 (gs1 (gN 2) (gs1 (gN 3) gs0))) (iEt (kA1 (kv 1) kA0)) (kTb (k2 eqD (kv 3) (kc (.int 0)))) (kF tupF (kA1 (kv 0) (kA1 (k2 addD (kv 2) (kc (.int 1))) kA0)))) kA0)))
/-- seams -/
def b_seams (r_profile : L3.Run) (r_uncrossed : L3.Run) : KS :=
  (sSeq (sAsg (gT 2 (gs1 (gN 1) (gs1 (gN 2) gs0))) (kF r_profile (kA1 (kv 0) kA0)))
    (sRet (k2 addD (kF r_uncrossed (kA1 (kc (.str "level")) (kA1 (kv 2) kA0))) (kF r_uncrossed (kA1 (kc (.str "upright")) (kA1 (kv 1) kA0))))))
/-- _law_numbers -/
def b_law_numbers  : KS :=
  (sSeq (sSet 2 (kIf (kTb (k2 ltD (kv 1) (kF lenF (kA1 (kv 0) kA0)))) (k2 ixD (kv 0) (kv 1)) (k2 addD (k2 mulD (kc (.int 67)) (kv 1)) (kc (.int 37)))))
    (sSeq (sSet 3 (k2 modD (kF intF (kA1 (kF absF (kA1 (kv 2) kA0)) kA0)) (k2 powD (k2 powD (kc (.int 10)) (kc (.int 57))) (kc (.int 11)))))
    (sSeq (sSet 4 (k2 addD (k2 addD (k2 addD (k2 mulD (kv 3) (kc (.int 1000171))) (k2 mulD (kc (.int 8377)) (kv 1))) (k2 mulD (kc (.int 53)) (kF intF (kA1 (k2 ltD (kv 2) (kc (.int 0))) kA0)))) (kc (.int 19))))
    (sRet (kF lstF (kA1 (kF maxF (kA1 (kc (.int 0)) (kA1 (k2 subD (kv 3) (k2 powD (kc (.int 10)) (kc (.int 16)))) kA0))) (kA1 (k2 modD (kF intF (kA1 (kv 4) kA0)) (kc (.int 1152921504606846917))) (kA1 (kc (.int 0)) kA0))))))))
/-- _law_cast -/
def b_law_cast  : KS :=
  (sSeq (sIf (kTb (k2 gtD (k2 ixD (kv 0) (kc (.int 0))) (kc (.int 0)))) (sSeq (sSet 4 (k2 modD (kF intF (kA1 (k2 ixD (kv 0) (kc (.int 0))) kA0)) (kv 1)))
    (sSeq (sSetIx setL (kv 0) (kc (.int 0)) (k2 fdivD (k2 ixD (kv 0) (kc (.int 0))) (kv 1)))
    (sRet (kv 4)))) sNil)
    (sSeq (sSetIx setL (kv 0) (kc (.int 2)) (k2 addD (k2 ixD (kv 0) (kc (.int 2))) (kc (.int 1))))
    (sSeq (sSet 2 (k2 modD (kF intF (kA1 (k2 addD (k2 ixD (kv 0) (kc (.int 1))) (k2 mulD (kc (.int 694847539)) (k2 ixD (kv 0) (kc (.int 2))))) kA0)) (kc (.int 2305843009213693893))))
    (sSeq (sSet 3 (k2 addD (k2 mulD (k2 modD (kF intF (kA1 (k2 mulD (kv 2) (kv 2)) kA0)) (kc (.int 1152921504606846737))) (kv 2)) (k2 mulD (kc (.int 7417)) (k2 ixD (kv 0) (kc (.int 2))))))
    (sRet (k2 modD (kF intF (kA1 (k2 fdivD (k2 modD (kF intF (kA1 (k2 addD (kv 3) (k2 ixD (kv 0) (kc (.int 1)))) kA0)) (kc (.int 8796093022127))) (kc (.int 64))) kA0)) (kv 1)))))))
/-- _law_pick -/
def b_law_pick (r_law_cast : L3.Run) : KS :=
  (sRet (k2 ixD (kv 1) (kF r_law_cast (kA1 (kv 0) (kA1 (kF lenF (kA1 (kv 1) kA0)) kA0)))))
/-- _law_plain_bars -/
def b_law_plain_bars  : KS :=
  (sSeq (sSet 3 (kF lstF kA0))
    (sSeq (sIf (kTb (k2 eqD (k2 modD (kv 0) (kv 2)) (kc (.int 0)))) (sFor (gN 4) (iR1 (kA1 (kv 1) kA0)) (sExpr (kM (tyD "list") extendM (kv 3) (kA1 (kLc [5] (gN 5) (iR3 (kA1 (kc (.int 0)) (kA1 (kv 0) (kA1 (kv 2) kA0)))) kTrue (kF tupF (kA1 (kv 5) (kA1 (kv 4) (kA1 (kc (.str "across")) kA0))))) kA0)))) (sFor (gN 4) (iR3 (kA1 (kc (.int 0)) (kA1 (kv 1) (kA1 (kv 2) kA0)))) (sExpr (kM (tyD "list") extendM (kv 3) (kA1 (kLc [5] (gN 5) (iR1 (kA1 (kv 0) kA0)) kTrue (kF tupF (kA1 (kv 5) (kA1 (kv 4) (kA1 (kc (.str "down")) kA0))))) kA0)))))
    (sRet (kv 3))))
/-- _law_turns_in -/
def b_law_turns_in  : KS :=
  (sSeq (sSet 2 (kF lstF kA0))
    (sSeq (sFor (gT 3 (gs1 (gN 3) (gs1 (gN 4) (gs1 (gN 5) gs0)))) (iL (kv 0)) (sSeq (sSet 6 (kLz [7] (gN 7) (iR1 (kA1 (kv 1) kA0)) kTrue (kF tupF (kA1 (k2 addD (kv 3) (k2 mulD (kv 7) (kF intF (kA1 (k2 eqD (kv 5) (kc (.str "down"))) kA0)))) (kA1 (k2 addD (kv 4) (k2 mulD (kv 7) (kF intF (kA1 (k2 eqD (kv 5) (kc (.str "across"))) kA0)))) (kA1 (kv 5) kA0))))))
    (sIf (kTb (k2 eqD (kLz [8] (gN 8) (iL (kv 6)) (kTb (k2 (inD true) (kv 8) (kv 0))) (kv 8)) (kF frzF kA0))) (sExpr (kM (tyD "list") appendM (kv 2) (kA1 (kF tupF (kA1 (kv 3) (kA1 (kv 4) (kA1 (kv 5) kA0)))) kA0))) sNil)))
    (sRet (kv 2))))
/-- _law_turn_of -/
def b_law_turn_of  : KS :=
  (sSeq (sAsg (gT 3 (gs1 (gN 3) (gs1 (gN 4) (gs1 (gN 5) gs0)))) (kv 2))
    (sSeq (sAsg (gT 2 (gs1 (gN 6) (gs1 (gN 7) gs0))) (kF tupF (kA1 (kF lstF kA0) (kA1 (kF lstF kA0) kA0))))
    (sSeq (sFor (gN 8) (iR1 (kA1 (kv 1) kA0)) (sSeq (sExpr (kM (tyD "list") appendM (kv 6) (kA1 (kF tupF (kA1 (k2 addD (kv 3) (k2 mulD (kv 8) (kF intF (kA1 (k2 eqD (kv 5) (kc (.str "down"))) kA0)))) (kA1 (k2 addD (kv 4) (k2 mulD (kv 8) (kF intF (kA1 (k2 eqD (kv 5) (kc (.str "across"))) kA0)))) (kA1 (kv 5) kA0)))) kA0)))
    (sSeq (sSet 9 (kIf (kTb (k2 eqD (kv 5) (kc (.str "down")))) (kc (.str "across")) (kc (.str "down"))))
    (sExpr (kM (tyD "list") appendM (kv 7) (kA1 (kF tupF (kA1 (k2 addD (kv 3) (k2 mulD (kv 8) (kF intF (kA1 (k2 eqD (kv 9) (kc (.str "down"))) kA0)))) (kA1 (k2 addD (kv 4) (k2 mulD (kv 8) (kF intF (kA1 (k2 eqD (kv 9) (kc (.str "across"))) kA0)))) (kA1 (kv 9) kA0)))) kA0))))))
    (sRet (kF sortFZ (kA1 (k2 addZ (kLz [10] (gN 10) (iL (kv 0)) (kTb (k2 (inD true) (kv 10) (kv 6))) (kv 10)) (kv 7)) kA0))))))
/-- _law_any_floor -/
def b_law_any_floor (r_law_pick : L3.Run) (r_law_cast : L3.Run) (r_law_plain_bars : L3.Run) (r_law_turns_in : L3.Run) (r_law_turn_of : L3.Run) : KS :=
  (sSeq (sSet 2 (kF r_law_pick (kA1 (kv 0) (kA1 (kF frzF (kA1 (kc (.int 2)) (kA1 (kc (.int 3)) (kA1 (kc (.int 2)) (kA1 (kc (.int 2)) (kA1 (kc (.int 4)) kA0)))))) kA0))))
    (sSeq (sPar2 3 4 (k2 mulD (kv 2) (k2 addD (kc (.int 1)) (kF r_law_cast (kA1 (kv 0) (kA1 (kc (.int 3)) kA0))))) (k2 addD (kc (.int 1)) (kF r_law_cast (kA1 (kv 0) (kA1 (kc (.int 7)) kA0)))))
    (sSeq (sAsg (gT 2 (gs1 (gN 3) (gs1 (gN 4) gs0))) (kF r_law_pick (kA1 (kv 0) (kA1 (kF frzF (kA1 (kF tupF (kA1 (kv 3) (kA1 (kv 4) kA0))) (kA1 (kF tupF (kA1 (kv 4) (kA1 (kv 3) kA0))) kA0))) kA0))))
    (sSeq (sSet 5 (kF sortFZ (kA1 (kF r_law_plain_bars (kA1 (kv 3) (kA1 (kv 4) (kA1 (kv 2) kA0)))) kA0)))
    (sSeq (sFor (gN 6) (iR1 (kA1 (kF r_law_cast (kA1 (kv 0) (kA1 (kv 1) kA0))) kA0)) (sSeq (sSet 7 (kF r_law_turns_in (kA1 (kv 5) (kA1 (kv 2) kA0))))
    (sIf (kTb (k2 neD (kv 7) (kF frzF kA0))) (sSet 5 (kF r_law_turn_of (kA1 (kv 5) (kA1 (kv 2) (kA1 (kF r_law_pick (kA1 (kv 0) (kA1 (kv 7) kA0))) kA0))))) sNil)))
    (sRet (kF lstF (kA1 (kF tupF (kA1 (kv 3) (kA1 (kv 4) (kA1 (kv 2) kA0)))) (kA1 (kv 5) kA0)))))))))
/-- _law_rest_of -/
def b_law_rest_of  : KS :=
  (sSeq (sIf (kTb (k2 eqD (k2 modD (k2 ixD (kv 1) (kc (.int 1))) (k2 ixD (kv 0) (kc (.int 2)))) (kc (.int 0)))) (sRet (kc (.int 0))) sNil)
    (sRet (k2 modD (k2 ixD (kv 0) (kIf (kTb (k2 eqD (k2 ixD (kv 1) (kc (.int 0))) (kc (.str "upright")))) (kc (.int 1)) (kc (.int 0)))) (k2 ixD (kv 0) (kc (.int 2))))))
/-- _law_lines -/
def b_law_lines  : KS :=
  (sRet (k2 addZ (kLz [1] (gN 1) (iR2 (kA1 (kc (.int 1)) (kA1 (k2 ixD (kv 0) (kc (.int 1))) kA0))) kTrue (kF tupF (kA1 (kc (.str "level")) (kA1 (kv 1) kA0)))) (kLz [1] (gN 1) (iR2 (kA1 (kc (.int 1)) (kA1 (k2 ixD (kv 0) (kc (.int 0))) kA0))) kTrue (kF tupF (kA1 (kc (.str "upright")) (kA1 (kv 1) kA0))))))
/-- _law_right -/
def b_law_right (C_Floor : Addr) (r_law_any_floor : L3.Run) (r_Floor_mirrored : L3.Run) (r_Floor_of : L3.Run) (r_law_turns_in : L3.Run) (r_law_turn_of : L3.Run) (r_law_pick : L3.Run) (r_seams : L3.Run) (r_law_lines : L3.Run) (r_crossings : L3.Run) (r_law_rest_of : L3.Run) (r_remainder : L3.Run) (r_need : L3.Run) (r_Floor___len__ : L3.Run) (r_profile : L3.Run) : KS :=
  (sSeq (sAsgL 2 (gs1 (gN 1) (gs1 (gN 2) gs0)) (kF r_law_any_floor (kA1 (kv 0) (kA1 (kc (.int 8)) kA0))))
    (sSeq (sPar2 3 4 (kF lstF (kA1 (kCm C_Floor r_Floor_of (kA1 (kv 1) (kA1 (kF tupleF (kA1 (kv 2) kA0)) kA0))) (kA1 (kMt "Floor" "mirrored" r_Floor_mirrored (kCm C_Floor r_Floor_of (kA1 (kv 1) (kA1 (kF tupleF (kA1 (kv 2) kA0)) kA0))) kA0) kA0))) (k2 ixD (kv 1) (kc (.int 2))))
    (sSeq (sFor (gN 5) (iR1 (kA1 (kc (.int 10)) kA0)) (sSeq (sSet 7 (kF r_law_turns_in (kA1 (kv 2) (kA1 (kv 4) kA0))))
    (sIf (kTb (k2 neD (kv 7) (kF frzF kA0))) (sSet 2 (kF r_law_turn_of (kA1 (kv 2) (kA1 (kv 4) (kA1 (kF r_law_pick (kA1 (kv 0) (kA1 (kv 7) kA0))) kA0))))) sNil)))
    (sSeq (sExpr (kM (tyD "list") appendM (kv 3) (kA1 (kCm C_Floor r_Floor_of (kA1 (kv 1) (kA1 (kF tupleF (kA1 (kv 2) kA0)) kA0))) kA0)))
    (sSeq (sFor (gN 6) (iL (kv 3)) (sSeq (sPar2 8 9 (kc (.int 0)) (kF r_seams (kA1 (kv 6) kA0)))
    (sSeq (sFor (gN 10) (iL (kF r_law_lines (kA1 (kv 1) kA0))) (sSeq (sSet 11 (kF r_crossings (kA1 (kv 6) (kA1 (kv 10) kA0))))
    (sSeq (sSet 12 (kF r_law_rest_of (kA1 (kv 1) (kA1 (kv 10) kA0))))
    (sSeq (sIf (kTb (k2 neD (k2 modD (kv 11) (kv 4)) (kv 12))) (sRet (kc (.bl false))) sNil)
    (sSeq (sIf (kTb (k2 neD (kF r_remainder (kA1 (kv 1) (kA1 (kv 10) kA0))) (kv 12))) (sRet (kc (.bl false))) sNil)
    (sSeq (sIf (kTb (k2 neD (k2 eqD (kv 11) (kc (.int 0))) (k2 (inY false) (kv 10) (kv 9)))) (sRet (kc (.bl false))) sNil)
    (sSeq (sIf (tAnd3 (kTb (k2 gtD (kv 11) (kc (.int 0)))) (kTb (k2 ltD (kv 11) (kF r_need (kA1 (kv 1) (kA1 (kv 10) kA0)))))) (sRet (kc (.bl false))) sNil)
    (sSet 8 (k2 addD (kv 8) (kv 11))))))))))
    (sSeq (sIf (kTb (k2 neD (kv 8) (k2 mulD (k2 subD (kv 4) (kc (.int 1))) (kF (lenC "Floor" r_Floor___len__) (kA1 (kv 6) kA0))))) (sRet (kc (.bl false))) sNil)
    (sIf (kTb (k2 neD (kv 8) (k2 addD (kF sumX (kA1 (k2 ixD (kF r_profile (kA1 (kv 6) kA0)) (kc (.int 0))) kA0)) (kF sumX (kA1 (k2 ixD (kF r_profile (kA1 (kv 6) kA0)) (kc (.int 1))) kA0))))) (sRet (kc (.bl false))) sNil)))))
    (sRet (kc (.bl true))))))))
/-- law -/
def b_law (r_law_numbers : L3.Run) (r_law_right : L3.Run) : KS :=
  (sSeq (sFor (gN 1) (iR1 (kA1 (kF maxF (kA1 (kc (.int 1)) (kA1 (kF minF (kA1 (kc (.int 6)) (kA1 (kF lenF (kA1 (kv 0) kA0)) kA0))) kA0))) kA0)) (sSeq (sSet 2 (kF r_law_numbers (kA1 (kv 0) (kA1 (kv 1) kA0))))
    (sFor (gN 3) (iR1 (kA1 (kc (.int 2)) kA0)) (sIf (tNot3 (kTr (kF r_law_right (kA1 (kv 2) kA0)))) (sRet (kc (.bl false))) sNil))))
    (sRet (kc (.bl true))))
def ids : List String := ["is_whole", "is_way", "is_bar", "lies_within", "cells_of", "can_hold_floor", "is_size", "covered_cells", "Floor.__init__", "Floor.of", "Floor.size", "Floor.width", "Floor.height", "Floor.length", "Floor.bars", "Floor.mirrored", "Floor.__len__", "is_line_way", "side_along", "side_across", "is_line", "remainder", "need", "profile", "crossings", "uncrossed", "seams", "_law_numbers", "_law_cast", "_law_pick", "_law_plain_bars", "_law_turns_in", "_law_turn_of", "_law_any_floor", "_law_rest_of", "_law_lines", "_law_right", "law"]
def callT (C_Floor : Addr) : Nat → Nat → L3.Run
  | 0, _ => runBad
  | n + 1, i => match i with
    | 0 => runDef 1 1 (b_is_whole )
    | 1 => runDef 1 1 (b_is_way )
    | 2 => runDef 4 1 (b_is_bar (callT C_Floor n 0) (callT C_Floor n 1))
    | 3 => runDef 8 2 (b_lies_within )
    | 4 => runDef 6 2 (b_cells_of )
    | 5 => runDef 4 1 (b_can_hold_floor )
    | 6 => runDef 5 1 (b_is_size (callT C_Floor n 0))
    | 7 => runDef 8 2 (b_covered_cells (callT C_Floor n 6) (callT C_Floor n 2) (callT C_Floor n 3) (callT C_Floor n 4))
    | 8 => runStar 4 2 (b_Floor___init__ (callT C_Floor n 7))
    | 9 => runDef 3 3 (b_Floor_of C_Floor (callT C_Floor n 8))
    | 10 => runDef 1 1 (b_Floor_size )
    | 11 => runDef 1 1 (b_Floor_width )
    | 12 => runDef 1 1 (b_Floor_height )
    | 13 => runDef 1 1 (b_Floor_length )
    | 14 => runDef 1 1 (b_Floor_bars )
    | 15 => runDef 9 1 (b_Floor_mirrored C_Floor (callT C_Floor n 9))
    | 16 => runDef 1 1 (b_Floor___len__ )
    | 17 => runDef 1 1 (b_is_line_way )
    | 18 => runDef 2 2 (b_side_along )
    | 19 => runDef 2 2 (b_side_across )
    | 20 => runDef 4 2 (b_is_line (callT C_Floor n 6) (callT C_Floor n 17) (callT C_Floor n 0) (callT C_Floor n 18))
    | 21 => runDef 5 2 (b_remainder (callT C_Floor n 20) (callT C_Floor n 5) (callT C_Floor n 19))
    | 22 => runDef 2 2 (b_need (callT C_Floor n 21))
    | 23 => runDef 9 1 (b_profile (callT C_Floor n 11) (callT C_Floor n 12) (callT C_Floor n 14) (callT C_Floor n 13))
    | 24 => runDef 6 2 (b_crossings (callT C_Floor n 23) (callT C_Floor n 20) (callT C_Floor n 10))
    | 25 => runDef 4 2 (b_uncrossed )
    | 26 => runDef 3 1 (b_seams (callT C_Floor n 23) (callT C_Floor n 25))
    | 27 => runDef 5 2 (b_law_numbers )
    | 28 => runDef 5 2 (b_law_cast )
    | 29 => runDef 2 2 (b_law_pick (callT C_Floor n 28))
    | 30 => runDef 6 3 (b_law_plain_bars )
    | 31 => runDef 9 2 (b_law_turns_in )
    | 32 => runDef 11 3 (b_law_turn_of )
    | 33 => runDef 8 2 (b_law_any_floor (callT C_Floor n 29) (callT C_Floor n 28) (callT C_Floor n 30) (callT C_Floor n 31) (callT C_Floor n 32))
    | 34 => runDef 2 2 (b_law_rest_of )
    | 35 => runDef 2 1 (b_law_lines )
    | 36 => runDef 13 1 (b_law_right C_Floor (callT C_Floor n 33) (callT C_Floor n 15) (callT C_Floor n 9) (callT C_Floor n 31) (callT C_Floor n 32) (callT C_Floor n 29) (callT C_Floor n 26) (callT C_Floor n 35) (callT C_Floor n 24) (callT C_Floor n 34) (callT C_Floor n 21) (callT C_Floor n 22) (callT C_Floor n 16) (callT C_Floor n 23))
    | 37 => runDef 4 1 (b_law (callT C_Floor n 27) (callT C_Floor n 36))
    | _ => runBad
end k08
namespace Fl
open PySem PySem.Spec PyProof.Rows L2 L3
def b_is_whole  : KS :=
  (sRet (kAndV (k1 (isF "int") (kv 0)) (kNotV (k1 (isF "bool") (kv 0)))))
def b_is_way  : KS :=
  (sRet (kAndV (k1 (isF "str") (kv 0)) (k2 (inD false) (kv 0) (kF tupF (kA1 (kc (.str "across")) (kA1 (kc (.str "down")) kA0))))))
def b_other_way  : KS :=
  (sRet (kIf (kTb (k2 eqD (kv 0) (kc (.str "across")))) (kc (.str "down")) (kc (.str "across"))))
def b_is_bar (r_is_whole : L3.Run) (r_is_way : L3.Run) : KS :=
  (sSeq (sIf (tOr3 (tNot3 (kTr (k1 (isF "tuple") (kv 0)))) (kTb (k2 neD (kF lenF (kA1 (kv 0) kA0)) (kc (.int 3))))) (sRet (kc (.bl false))) sNil)
    (sSeq (sAsg (gT 3 (gs1 (gN 1) (gs1 (gN 2) (gs1 (gN 3) gs0)))) (kv 0))
    (sRet (kAndV (kF r_is_whole (kA1 (kv 1) kA0)) (kAndV (kF r_is_whole (kA1 (kv 2) kA0)) (kF r_is_way (kA1 (kv 3) kA0)))))))
def b_lies_within  : KS :=
  (sSeq (sAsg (gT 3 (gs1 (gN 2) (gs1 (gN 3) (gs1 (gN 4) gs0)))) (kv 0))
    (sSeq (sAsg (gT 3 (gs1 (gN 5) (gs1 (gN 6) (gs1 (gN 7) gs0)))) (kv 1))
    (sSeq (sIf (kTb (k2 eqD (kv 7) (kc (.str "across")))) (sRet (kAndV (kChain leD leD (kc (.int 0)) (kv 5) (k2 subD (kv 2) (kv 4))) (kChain leD ltD (kc (.int 0)) (kv 6) (kv 3)))) sNil)
    (sRet (kAndV (kChain leD ltD (kc (.int 0)) (kv 5) (kv 2)) (kChain leD leD (kc (.int 0)) (kv 6) (k2 subD (kv 3) (kv 4))))))))
def b_cells_of  : KS :=
  (sSeq (sAsg (gT 3 (gs1 (gN 2) (gs1 (gN 3) (gs1 (gN 4) gs0)))) (kv 0))
    (sSeq (sIf (kTb (k2 eqD (kv 4) (kc (.str "across")))) (sRet (kLz [5] (gN 5) (iR1 (kA1 (kv 1) kA0)) kTrue (kF tupF (kA1 (k2 addD (kv 2) (kv 5)) (kA1 (kv 3) kA0))))) sNil)
    (sRet (kLz [5] (gN 5) (iR1 (kA1 (kv 1) kA0)) kTrue (kF tupF (kA1 (kv 2) (kA1 (k2 addD (kv 3) (kv 5)) kA0)))))))
def b_is_size (r_is_whole : L3.Run) : KS :=
  (sSeq (sIf (tOr3 (tNot3 (kTr (k1 (isF "tuple") (kv 0)))) (kTb (k2 neD (kF lenF (kA1 (kv 0) kA0)) (kc (.int 3))))) (sRet (kc (.bl false))) sNil)
    (sSeq (sIf (tNot3 (kTr (kF allF (kA1 (kLz [4] (gN 4) (iT (kv 0)) kTrue (kF r_is_whole (kA1 (kv 4) kA0))) kA0)))) (sRet (kc (.bl false))) sNil)
    (sSeq (sAsg (gT 3 (gs1 (gN 1) (gs1 (gN 2) (gs1 (gN 3) gs0)))) (kv 0))
    (sRet (kAndV (kChain leD leD (kc (.int 1)) (kv 1) (kc (.int 1000000000000000000000000000000))) (kAndV (kChain leD leD (kc (.int 1)) (kv 2) (kc (.int 1000000000000000000000000000000))) (kChain leD leD (kc (.int 2)) (kv 3) (kc (.int 1000000000000000000000000000000)))))))))
def b_covered_cells (r_is_size : L3.Run) (r_is_bar : L3.Run) (r_lies_within : L3.Run) (r_cells_of : L3.Run) : KS :=
  (sSeq (sIf (tOr3 (tNot3 (kTr (kF r_is_size (kA1 (kv 0) kA0)))) (kTb (k2 gtD (k2 mulD (k2 ixX (kv 0) (kc (.int 0))) (k2 ixX (kv 0) (kc (.int 1)))) (kc (.int 400))))) (sRet (kc .non)) sNil)
    (sSeq (sAsg (gT 3 (gs1 (gN 2) (gs1 (gN 3) (gs1 (gN 4) gs0)))) (kv 0))
    (sSeq (sSet 5 kDT0)
    (sSeq (sFor (gN 6) (iT (kv 1)) (sSeq (sIf (tOr3 (tNot3 (kTr (kF r_is_bar (kA1 (kv 6) kA0)))) (tNot3 (kTr (kF r_lies_within (kA1 (kv 0) (kA1 (kv 6) kA0)))))) (sRet (kc .non)) sNil)
    (sFor (gN 7) (iL (kF r_cells_of (kA1 (kv 6) (kA1 (kv 4) kA0)))) (sSeq (sIf (kTb (k2 (inX false) (kv 7) (kv 5))) (sRet (kc .non)) sNil)
    (sSetIx setX (kv 5) (kv 7) (kv 6))))))
    (sSeq (sIf (kTb (k2 neD (kF lenX (kA1 (kv 5) kA0)) (k2 mulD (kv 2) (kv 3)))) (sRet (kc .non)) sNil)
    (sRet (kv 5)))))))
def b_Floor___init__ (r_covered_cells : L3.Run) : KS :=
  (sSeq (sSet 3 (kF r_covered_cells (kA1 (kv 1) (kA1 (kv 2) kA0))))
    (sSeq (sIf (kTb (k1 isN (kv 3))) sNever sNil)
    (sSeq (sFldSet "Floor" "_size" (kv 0) (kv 1))
    (sSeq (sFldSet "Floor" "_bars" (kv 0) (kF tupleF (kA1 (kF sortFZ (kA1 (kv 2) kA0)) kA0)))
    (sFldSet "Floor" "_bar_of" (kv 0) (kv 3))))))
def b_Floor_of (C_Floor : Addr) (r_Floor___init__ : L3.Run) : KS :=
  (sSeq (sIf (tNot3 (kTr (k1 (isF "tuple") (kv 2)))) sNever sNil)
    (sRet (kMkV C_Floor "Floor" r_Floor___init__ (kv 0) (kA1 (kv 1) (kAS (kv 2) kA0)))))
def b_Floor_size  : KS :=
  (sRet (k1 (fldD "Floor" "_size") (kv 0)))
def b_Floor_bars  : KS :=
  (sRet (k1 (fldD "Floor" "_bars") (kv 0)))
def b_Floor_exchanged (C_Floor : Addr) (r_other_way : L3.Run) (r_Floor_of : L3.Run) : KS :=
  (sSeq (sAsg (gT 3 (gs1 (gN 1) (gs1 (gN 2) (gs1 (gN 3) gs0)))) (k1 (fldD "Floor" "_size") (kv 0)))
    (sSeq (sSet 4 (kLz [5, 6, 7] (gT 3 (gs1 (gN 5) (gs1 (gN 6) (gs1 (gN 7) gs0)))) (iT (k1 (fldD "Floor" "_bars") (kv 0))) kTrue (kF tupF (kA1 (kv 6) (kA1 (kv 5) (kA1 (kF r_other_way (kA1 (kv 7) kA0)) kA0))))))
    (sRet (kCm C_Floor r_Floor_of (kA1 (kF tupF (kA1 (kv 2) (kA1 (kv 1) (kA1 (kv 3) kA0)))) (kA1 (kF tupleF (kA1 (kv 4) kA0)) kA0))))))
def b_Floor_mirrored (C_Floor : Addr) (r_Floor_of : L3.Run) : KS :=
  (sSeq (sAsg (gT 3 (gs1 (gN 1) (gs1 (gN 2) (gs1 (gN 3) gs0)))) (k1 (fldD "Floor" "_size") (kv 0)))
    (sSeq (sSet 4 (kF lstF kA0))
    (sSeq (sFor (gT 3 (gs1 (gN 5) (gs1 (gN 6) (gs1 (gN 7) gs0)))) (iT (k1 (fldD "Floor" "_bars") (kv 0))) (sSeq (sSet 8 (kIf (kTb (k2 eqD (kv 7) (kc (.str "across")))) (k2 subD (k2 addD (kv 5) (kv 3)) (kc (.int 1))) (kv 5)))
    (sExpr (kM (tyD "list") appendM (kv 4) (kA1 (kF tupF (kA1 (k2 subD (k2 subD (kv 1) (kc (.int 1))) (kv 8)) (kA1 (kv 6) (kA1 (kv 7) kA0)))) kA0)))))
    (sRet (kCm C_Floor r_Floor_of (kA1 (k1 (fldD "Floor" "_size") (kv 0)) (kA1 (kF tupleF (kA1 (kv 4) kA0)) kA0)))))))
def b_Floor___eq__  : KS :=
  (sRet (kAndV (k1 (isC "Floor") (kv 1)) (kAndV (k2 eqD (k1 (fldD "Floor" "_size") (kv 0)) (k1 (fldD "Floor" "_size") (kv 1))) (k2 eqD (k1 (fldD "Floor" "_bars") (kv 0)) (k1 (fldD "Floor" "_bars") (kv 1))))))
end Fl

namespace Hd
open PySem PySem.Spec PyProof.Rows L2 L3
def b_law_numbers  : KS :=
  (sSeq (sSet 2 (kIf (kTb (k2 ltD (kv 1) (kF lenF (kA1 (kv 0) kA0)))) (k2 ixD (kv 0) (kv 1)) (k2 addD (k2 mulD (kc (.int 67)) (kv 1)) (kc (.int 37)))))
    (sSeq (sSet 3 (k2 modD (kF intF (kA1 (kF absF (kA1 (kv 2) kA0)) kA0)) (k2 powD (k2 powD (kc (.int 10)) (kc (.int 57))) (kc (.int 11)))))
    (sSeq (sSet 4 (k2 addD (k2 addD (k2 addD (k2 mulD (kv 3) (kc (.int 1000171))) (k2 mulD (kc (.int 8377)) (kv 1))) (k2 mulD (kc (.int 53)) (kF intF (kA1 (k2 ltD (kv 2) (kc (.int 0))) kA0)))) (kc (.int 19))))
    (sRet (kF lstF (kA1 (kF maxF (kA1 (kc (.int 0)) (kA1 (k2 subD (kv 3) (k2 powD (kc (.int 10)) (kc (.int 16)))) kA0))) (kA1 (k2 modD (kF intF (kA1 (kv 4) kA0)) (kc (.int 1152921504606846917))) (kA1 (kc (.int 0)) kA0))))))))
def b_law_cast  : KS :=
  (sSeq (sIf (kTb (k2 gtD (k2 ixD (kv 0) (kc (.int 0))) (kc (.int 0)))) (sSeq (sSet 4 (k2 modD (kF intF (kA1 (k2 ixD (kv 0) (kc (.int 0))) kA0)) (kv 1)))
    (sSeq (sSetIx setL (kv 0) (kc (.int 0)) (k2 fdivD (k2 ixD (kv 0) (kc (.int 0))) (kv 1)))
    (sRet (kv 4)))) sNil)
    (sSeq (sSetIx setL (kv 0) (kc (.int 2)) (k2 addD (k2 ixD (kv 0) (kc (.int 2))) (kc (.int 1))))
    (sSeq (sSet 2 (k2 modD (kF intF (kA1 (k2 addD (k2 ixD (kv 0) (kc (.int 1))) (k2 mulD (kc (.int 694847539)) (k2 ixD (kv 0) (kc (.int 2))))) kA0)) (kc (.int 2305843009213693893))))
    (sSeq (sSet 3 (k2 addD (k2 mulD (k2 modD (kF intF (kA1 (k2 mulD (kv 2) (kv 2)) kA0)) (kc (.int 1152921504606846737))) (kv 2)) (k2 mulD (kc (.int 7417)) (k2 ixD (kv 0) (kc (.int 2))))))
    (sRet (k2 modD (kF intF (kA1 (k2 fdivD (k2 modD (kF intF (kA1 (k2 addD (kv 3) (k2 ixD (kv 0) (kc (.int 1)))) kA0)) (kc (.int 8796093022127))) (kc (.int 64))) kA0)) (kv 1)))))))
def b_law_pick (r_law_cast : L3.Run) : KS :=
  (sRet (k2 ixD (kv 1) (kF r_law_cast (kA1 (kv 0) (kA1 (kF lenF (kA1 (kv 1) kA0)) kA0)))))
def b_law_covered  : KS :=
  (sSeq (sAsg (gT 3 (gs1 (gN 2) (gs1 (gN 3) (gs1 (gN 4) gs0)))) (kv 0))
    (sSeq (sIf (kTb (k2 eqD (kv 4) (kc (.str "across")))) (sRet (kLz [5] (gN 5) (iR1 (kA1 (kv 1) kA0)) kTrue (kF tupF (kA1 (k2 addD (kv 2) (kv 5)) (kA1 (kv 3) kA0))))) sNil)
    (sRet (kLz [5] (gN 5) (iR1 (kA1 (kv 1) kA0)) kTrue (kF tupF (kA1 (kv 2) (kA1 (k2 addD (kv 3) (kv 5)) kA0)))))))
def b_law_plain_bars  : KS :=
  (sSeq (sSet 3 (kF lstF kA0))
    (sSeq (sIf (kTb (k2 eqD (k2 modD (kv 0) (kv 2)) (kc (.int 0)))) (sFor (gN 4) (iR1 (kA1 (kv 1) kA0)) (sExpr (kM (tyD "list") extendM (kv 3) (kA1 (kLc [5] (gN 5) (iR3 (kA1 (kc (.int 0)) (kA1 (kv 0) (kA1 (kv 2) kA0)))) kTrue (kF tupF (kA1 (kv 5) (kA1 (kv 4) (kA1 (kc (.str "across")) kA0))))) kA0)))) (sFor (gN 4) (iR3 (kA1 (kc (.int 0)) (kA1 (kv 1) (kA1 (kv 2) kA0)))) (sExpr (kM (tyD "list") extendM (kv 3) (kA1 (kLc [5] (gN 5) (iR1 (kA1 (kv 0) kA0)) kTrue (kF tupF (kA1 (kv 5) (kA1 (kv 4) (kA1 (kc (.str "down")) kA0))))) kA0)))))
    (sRet (kv 3))))
def b_law_turns_in  : KS :=
  (sSeq (sSet 2 (kF lstF kA0))
    (sSeq (sFor (gT 3 (gs1 (gN 3) (gs1 (gN 4) (gs1 (gN 5) gs0)))) (iL (kv 0)) (sSeq (sSet 6 (kLz [7] (gN 7) (iR1 (kA1 (kv 1) kA0)) kTrue (kF tupF (kA1 (k2 addD (kv 3) (k2 mulD (kv 7) (kF intF (kA1 (k2 eqD (kv 5) (kc (.str "down"))) kA0)))) (kA1 (k2 addD (kv 4) (k2 mulD (kv 7) (kF intF (kA1 (k2 eqD (kv 5) (kc (.str "across"))) kA0)))) (kA1 (kv 5) kA0))))))
    (sIf (kTb (k2 eqD (kLz [8] (gN 8) (iL (kv 6)) (kTb (k2 (inD true) (kv 8) (kv 0))) (kv 8)) (kF frzF kA0))) (sExpr (kM (tyD "list") appendM (kv 2) (kA1 (kF tupF (kA1 (kv 3) (kA1 (kv 4) (kA1 (kv 5) kA0)))) kA0))) sNil)))
    (sRet (kv 2))))
def b_law_turn_of  : KS :=
  (sSeq (sAsg (gT 3 (gs1 (gN 3) (gs1 (gN 4) (gs1 (gN 5) gs0)))) (kv 2))
    (sSeq (sAsg (gT 2 (gs1 (gN 6) (gs1 (gN 7) gs0))) (kF tupF (kA1 (kF lstF kA0) (kA1 (kF lstF kA0) kA0))))
    (sSeq (sFor (gN 8) (iR1 (kA1 (kv 1) kA0)) (sSeq (sExpr (kM (tyD "list") appendM (kv 6) (kA1 (kF tupF (kA1 (k2 addD (kv 3) (k2 mulD (kv 8) (kF intF (kA1 (k2 eqD (kv 5) (kc (.str "down"))) kA0)))) (kA1 (k2 addD (kv 4) (k2 mulD (kv 8) (kF intF (kA1 (k2 eqD (kv 5) (kc (.str "across"))) kA0)))) (kA1 (kv 5) kA0)))) kA0)))
    (sSeq (sSet 9 (kIf (kTb (k2 eqD (kv 5) (kc (.str "down")))) (kc (.str "across")) (kc (.str "down"))))
    (sExpr (kM (tyD "list") appendM (kv 7) (kA1 (kF tupF (kA1 (k2 addD (kv 3) (k2 mulD (kv 8) (kF intF (kA1 (k2 eqD (kv 9) (kc (.str "down"))) kA0)))) (kA1 (k2 addD (kv 4) (k2 mulD (kv 8) (kF intF (kA1 (k2 eqD (kv 9) (kc (.str "across"))) kA0)))) (kA1 (kv 9) kA0)))) kA0))))))
    (sRet (kF sortFZ (kA1 (k2 addZ (kLz [10] (gN 10) (iL (kv 0)) (kTb (k2 (inD true) (kv 10) (kv 6))) (kv 10)) (kv 7)) kA0))))))
def b_law_any_floor (r_law_pick : L3.Run) (r_law_cast : L3.Run) (r_law_plain_bars : L3.Run) (r_law_turns_in : L3.Run) (r_law_turn_of : L3.Run) : KS :=
  (sSeq (sSet 2 (kF r_law_pick (kA1 (kv 0) (kA1 (kF frzF (kA1 (kc (.int 2)) (kA1 (kc (.int 3)) (kA1 (kc (.int 2)) (kA1 (kc (.int 2)) (kA1 (kc (.int 4)) kA0)))))) kA0))))
    (sSeq (sPar2 3 4 (k2 mulD (kv 2) (k2 addD (kc (.int 1)) (kF r_law_cast (kA1 (kv 0) (kA1 (kc (.int 3)) kA0))))) (k2 addD (kc (.int 1)) (kF r_law_cast (kA1 (kv 0) (kA1 (kc (.int 7)) kA0)))))
    (sSeq (sAsg (gT 2 (gs1 (gN 3) (gs1 (gN 4) gs0))) (kF r_law_pick (kA1 (kv 0) (kA1 (kF frzF (kA1 (kF tupF (kA1 (kv 3) (kA1 (kv 4) kA0))) (kA1 (kF tupF (kA1 (kv 4) (kA1 (kv 3) kA0))) kA0))) kA0))))
    (sSeq (sSet 5 (kF sortFZ (kA1 (kF r_law_plain_bars (kA1 (kv 3) (kA1 (kv 4) (kA1 (kv 2) kA0)))) kA0)))
    (sSeq (sFor (gN 6) (iR1 (kA1 (kF r_law_cast (kA1 (kv 0) (kA1 (kv 1) kA0))) kA0)) (sSeq (sSet 7 (kF r_law_turns_in (kA1 (kv 5) (kA1 (kv 2) kA0))))
    (sIf (kTb (k2 neD (kv 7) (kF frzF kA0))) (sSet 5 (kF r_law_turn_of (kA1 (kv 5) (kA1 (kv 2) (kA1 (kF r_law_pick (kA1 (kv 0) (kA1 (kv 7) kA0))) kA0))))) sNil)))
    (sRet (kF lstF (kA1 (kF tupF (kA1 (kv 3) (kA1 (kv 4) (kA1 (kv 2) kA0)))) (kA1 (kv 5) kA0)))))))))
def b_law_of_cells  : KS :=
  (sSeq (sPar2 1 2 (kF (mmX false minF) (kA1 (kv 0) kA0)) (kF (mmX true maxF) (kA1 (kv 0) kA0)))
    (sRet (kF tupF (kA1 (k2 ixD (kv 1) (kc (.int 0))) (kA1 (k2 ixD (kv 1) (kc (.int 1))) (kA1 (kIf (kTb (k2 eqD (k2 ixD (kv 1) (kc (.int 1))) (k2 ixD (kv 2) (kc (.int 1))))) (kc (.str "across")) (kc (.str "down"))) kA0))))))
end Hd

/-! Bars that cover each cell just once. -/
namespace Tile
abbrev Cell := Int × Int
abbrev Bar := Int × Int × Bool
def cells (l : Nat) (b : Bar) : List Cell := (List.range l).map fun (i : Nat) => if b.2.2 = true then (b.1 + (i : Int), b.2.1) else (b.1, b.2.1 + (i : Int))
def grid (w h : Nat) : List Cell := (List.range w).flatMap fun (i : Nat) => (List.range h).map fun (j : Nat) => ((i : Int), (j : Int))
def Cover (w h l : Nat) (bs : List Bar) : Prop := (bs.flatMap (cells l)).Perm (grid w h)
section
variable {α β γ : Type}
theorem flat_app (A B : α → List β) : ∀ l : List α, (l.flatMap fun a => A a ++ B a).Perm (l.flatMap A ++ l.flatMap B)
  | [] => .nil
  | a :: l => by
    simp only [List.flatMap_cons]
    have ih := flat_app A B l
    refine (List.Perm.append_left _ ih).trans ?_
    rw [List.append_assoc, List.append_assoc]
    refine List.Perm.append_left _ ?_
    rw [← List.append_assoc, ← List.append_assoc]
    exact List.Perm.append_right _ List.perm_append_comm
theorem flat_comm (f : α → β → List γ) : ∀ (l : List α) (m : List β), (l.flatMap fun a => m.flatMap (f a)).Perm (m.flatMap fun b => l.flatMap fun a => f a b)
  | [], m => by
    simp only [List.flatMap_nil]
    induction m with
    | nil => exact .nil
    | cons b m ih => simpa using ih
  | a :: l, m => by
    simp only [List.flatMap_cons]
    exact (List.Perm.append_left _ (flat_comm f l m)).trans (flat_app (f a) (fun b => l.flatMap fun a => f a b) m).symm
theorem flat_one (f : α → β) : ∀ l : List α, (l.flatMap fun a => [f a]) = l.map f
  | [] => rfl
  | a :: l => by rw [List.flatMap_cons, flat_one f l]; rfl
theorem flat_perm {f g : α → List β} : ∀ {l : List α}, (∀ a ∈ l, (f a).Perm (g a)) → (l.flatMap f).Perm (l.flatMap g)
  | [], _ => .nil
  | a :: l, h => by
    simp only [List.flatMap_cons]
    exact (h a List.mem_cons_self).append (flat_perm fun b hb => h b (List.mem_cons_of_mem _ hb))
theorem flat_congr {f g : α → List β} : ∀ {l : List α}, (∀ a ∈ l, f a = g a) → l.flatMap f = l.flatMap g
  | [], _ => rfl
  | a :: l, h => by
    rw [List.flatMap_cons, List.flatMap_cons, h a List.mem_cons_self, flat_congr fun b hb => h b (List.mem_cons_of_mem _ hb)]
theorem range_block (q l : Nat) : ((List.range q).flatMap fun k => (List.range l).map fun i => k * l + i) = List.range (q * l) := by
  induction q with
  | zero => simp
  | succ q ih =>
    rw [List.range_succ, List.flatMap_append, ih, List.flatMap_cons, List.flatMap_nil, List.append_nil, Nat.succ_mul, List.range_add]
end
theorem grid_swap (w h : Nat) : ((grid w h).map fun c => (c.2, c.1)).Perm (grid h w) := by
  unfold grid
  rw [List.map_flatMap]
  have e1 : (fun i : Nat => ((List.range h).map fun j : Nat => ((i : Int), (j : Int))).map fun c : Cell => (c.2, c.1)) = fun (i : Nat) => (List.range h).flatMap fun (j : Nat) => [((j : Int), (i : Int))] := by
    funext i
    rw [List.map_map, flat_one (fun j : Nat => ((j : Int), (i : Int)))]
    rfl
  rw [e1]
  refine (flat_comm (fun (i j : Nat) => [((j : Int), (i : Int))]) (List.range w) (List.range h)).trans ?_
  refine flat_perm fun j _ => ?_
  rw [flat_one (fun i : Nat => ((j : Int), (i : Int)))]
def exB (b : Bar) : Bar := (b.2.1, b.1, !b.2.2)
theorem cells_ex (l : Nat) (b : Bar) : cells l (exB b) = (cells l b).map fun c => (c.2, c.1) := by
  obtain ⟨x, y, a⟩ := b
  unfold cells exB
  rw [List.map_map]
  cases a <;> rfl
theorem cover_ex {w h l : Nat} {bs : List Bar} (c : Cover w h l bs) : Cover h w l (bs.map exB) := by
  unfold Cover at c ⊢
  have e : (bs.map exB).flatMap (cells l) = (bs.flatMap (cells l)).map fun c => (c.2, c.1) := by
    rw [List.flatMap_map, List.map_flatMap]
    congr 1
    funext b
    exact cells_ex l b
  rw [e]
  exact (c.map _).trans (grid_swap w h)
theorem range_rev (n : Nat) : ((List.range n).map fun i => n - 1 - i).Perm (List.range n) := by
  have e : (List.range n).reverse = (List.range n).map fun i => n - 1 - i := by
    apply List.ext_getElem
    · simp
    · intro i h1 h2
      simp at h1
      simp [List.getElem_reverse]
  rw [← e]
  exact List.reverse_perm _
def mirB (w l : Nat) (b : Bar) : Bar := ((w : Int) - 1 - (if b.2.2 = true then b.1 + (l : Int) - 1 else b.1), b.2.1, b.2.2)
def mirC (w : Nat) (c : Cell) : Cell := ((w : Int) - 1 - c.1, c.2)
theorem cells_mir (w l : Nat) (b : Bar) : (cells l (mirB w l b)).Perm ((cells l b).map (mirC w)) := by
  obtain ⟨x, y, a⟩ := b
  unfold cells mirB
  rw [List.map_map]
  cases a with
  | false => exact List.Perm.of_eq rfl
  | true =>
    refine List.Perm.trans ?_ ((range_rev l).map _)
    rw [List.map_map]
    refine List.Perm.of_eq (List.map_congr_left fun i hi => ?_)
    have hi : i < l := by simpa using hi
    simp only [Function.comp_apply, mirC, if_true]
    congr 1
    omega
theorem grid_mir (w h : Nat) : ((grid w h).map (mirC w)).Perm (grid w h) := by
  unfold grid
  rw [List.map_flatMap]
  have r := List.Perm.flatMap_right (fun (i : Nat) => (List.range h).map fun j : Nat => ((i : Int), (j : Int))) (range_rev w)
  refine List.Perm.trans (List.Perm.of_eq ?_) r
  rw [List.flatMap_map]
  refine flat_congr fun i hi => ?_
  have hi : i < w := by simpa using hi
  rw [List.map_map]
  refine List.map_congr_left fun j _ => ?_
  simp only [Function.comp_apply, mirC]
  congr 1
  omega
theorem cover_mir {w h l : Nat} {bs : List Bar} (c : Cover w h l bs) : Cover w h l (bs.map (mirB w l)) := by
  unfold Cover at c ⊢
  have e : ((bs.map (mirB w l)).flatMap (cells l)).Perm ((bs.flatMap (cells l)).map (mirC w)) := by
    rw [List.flatMap_map, List.map_flatMap]
    exact flat_perm fun b _ => cells_mir w l b
  exact e.trans ((c.map _).trans (grid_mir w h))
theorem cover_perm {w h l : Nat} {bs cs : List Bar} (c : Cover w h l bs) (p : cs.Perm bs) : Cover w h l cs := (p.flatMap_right _).trans c

/-! ### the plain ones -/
def plainA (h q l : Nat) : List Bar := (List.range h).flatMap fun (y : Nat) => (List.range q).map fun (k : Nat) => (((k * l : Nat) : Int), (y : Int), true)
def plainD (w q l : Nat) : List Bar := (List.range q).flatMap fun (k : Nat) => (List.range w).map fun (x : Nat) => ((x : Int), ((k * l : Nat) : Int), false)
theorem cover_plainA (h q l : Nat) : Cover (q * l) h l (plainA h q l) := by
  unfold Cover plainA
  rw [List.flatMap_assoc]
  have e : ∀ y : Nat, ((List.range q).map fun (k : Nat) => ((((k * l : Nat) : Int), (y : Int), true) : Bar)).flatMap (cells l) = (List.range (q * l)).map fun (x : Nat) => ((x : Int), (y : Int)) := fun y => by
    rw [List.flatMap_map, ← range_block, List.map_flatMap]
    refine flat_congr fun k _ => ?_
    unfold cells
    rw [List.map_map]
    refine List.map_congr_left fun i _ => ?_
    simp only [Function.comp_apply, if_true]
    rw [Int.natCast_add]
  rw [flat_congr fun y _ => e y]
  have c := flat_comm (fun (y x : Nat) => [((x : Int), (y : Int))]) (List.range h) (List.range (q * l))
  refine List.Perm.trans (List.Perm.of_eq ?_) (c.trans (List.Perm.of_eq ?_))
  · exact flat_congr fun y _ => (flat_one (fun x : Nat => ((x : Int), (y : Int))) _).symm
  · exact flat_congr fun x _ => flat_one (fun y : Nat => ((x : Int), (y : Int))) _
theorem cover_plainD (w q l : Nat) : Cover w (q * l) l (plainD w q l) := by
  unfold Cover plainD
  rw [List.flatMap_assoc]
  have e : ∀ k : Nat, ((List.range w).map fun (x : Nat) => (((x : Int), ((k * l : Nat) : Int), false) : Bar)).flatMap (cells l) = (List.range w).flatMap fun (x : Nat) => (List.range l).map fun (i : Nat) => ((x : Int), ((k * l + i : Nat) : Int)) := fun k => by
    rw [List.flatMap_map]
    refine flat_congr fun x _ => ?_
    unfold cells
    refine List.map_congr_left fun i _ => ?_
    simp only [Bool.false_eq_true, if_false]
    rw [Int.natCast_add]
  rw [flat_congr fun k _ => e k]
  refine (flat_comm (fun (k x : Nat) => (List.range l).map fun (i : Nat) => ((x : Int), ((k * l + i : Nat) : Int))) (List.range q) (List.range w)).trans (List.Perm.of_eq ?_)
  unfold grid
  refine flat_congr fun x _ => ?_
  rw [← range_block, List.map_flatMap]
  refine flat_congr fun k _ => ?_
  rw [List.map_map]
  rfl
/-! ### a square turned -/
def sqG (l : Nat) (b : Bar) : List Bar := (List.range l).map fun (i : Nat) => if b.2.2 = true then (b.1, b.2.1 + (i : Int), true) else (b.1 + (i : Int), b.2.1, false)
def sqC (l : Nat) (b : Bar) : List Bar := (List.range l).map fun (i : Nat) => if b.2.2 = true then (b.1 + (i : Int), b.2.1, false) else (b.1, b.2.1 + (i : Int), true)
theorem sq_cells (l : Nat) (b : Bar) : ((sqG l b).flatMap (cells l)).Perm ((sqC l b).flatMap (cells l)) := by
  obtain ⟨x, y, a⟩ := b
  unfold sqG sqC
  rw [List.flatMap_map, List.flatMap_map]
  cases a with
  | true =>
    have c := flat_comm (fun (i j : Nat) => [((x + (j : Int), y + (i : Int)) : Cell)]) (List.range l) (List.range l)
    refine List.Perm.trans (List.Perm.of_eq ?_) (c.trans (List.Perm.of_eq ?_))
    · refine flat_congr fun i _ => ?_
      rw [flat_one (fun j : Nat => ((x + (j : Int), y + (i : Int)) : Cell))]
      unfold cells
      simp
    · refine flat_congr fun j _ => ?_
      rw [flat_one (fun i : Nat => ((x + (j : Int), y + (i : Int)) : Cell))]
      unfold cells
      simp
  | false =>
    have c := flat_comm (fun (i j : Nat) => [((x + (i : Int), y + (j : Int)) : Cell)]) (List.range l) (List.range l)
    refine List.Perm.trans (List.Perm.of_eq ?_) (c.trans (List.Perm.of_eq ?_))
    · refine flat_congr fun i _ => ?_
      rw [flat_one (fun j : Nat => ((x + (i : Int), y + (j : Int)) : Cell))]
      unfold cells
      simp
    · refine flat_congr fun j _ => ?_
      rw [flat_one (fun i : Nat => ((x + (i : Int), y + (j : Int)) : Cell))]
      unfold cells
      simp
theorem grid_nodup (w h : Nat) : (grid w h).Nodup := by
  unfold grid
  refine List.pairwise_flatMap.mpr ⟨fun i _ => ?_, ?_⟩
  · refine List.Pairwise.map _ (fun a b hab => ?_) (List.nodup_range (n := h))
    intro e
    have := congrArg Prod.snd e
    simp only at this
    exact hab (by omega)
  · refine List.Pairwise.imp (fun {a b} hab => ?_) (List.nodup_range (n := w))
    intro c h1 d h2 e
    subst e
    obtain ⟨j, _, rfl⟩ := List.mem_map.mp h1
    obtain ⟨k, _, e⟩ := List.mem_map.mp h2
    have := congrArg Prod.fst e
    simp only at this
    exact hab (by omega)
theorem cover_nodup {w h l : Nat} {bs : List Bar} (c : Cover w h l bs) (hl : 0 < l) : bs.Nodup := by
  have n := c.nodup_iff.mpr (grid_nodup w h)
  have n2 := (List.pairwise_flatMap.mp n).2
  refine List.Pairwise.imp (fun {a b} hd => ?_) n2
  intro e
  subst e
  have m : (cells l a)[0]? ≠ none := by
    unfold cells
    rw [List.getElem?_map, List.getElem?_range hl]
    simp
  obtain ⟨z, hz⟩ := Option.ne_none_iff_exists'.mp m
  exact hd z (List.mem_of_getElem? hz) z (List.mem_of_getElem? hz) rfl
theorem sqG_nodup (l : Nat) (b : Bar) : (sqG l b).Nodup := by
  unfold sqG
  refine List.Pairwise.map _ (fun i j hij => ?_) (List.nodup_range (n := l))
  intro e
  obtain ⟨x, y, a⟩ := b
  cases a with
  | true => have := congrArg (fun z : Bar => z.2.1) e; simp at this; omega
  | false => have := congrArg (fun z : Bar => z.1) e; simp at this; omega
theorem cover_turn {w h l : Nat} {bs : List Bar} {b : Bar} (c : Cover w h l bs) (hl : 0 < l) (hs : ∀ g ∈ sqG l b, g ∈ bs) : Cover w h l (bs.filter (fun z => !decide (z ∈ sqG l b)) ++ sqC l b) := by
  have nd := cover_nodup c hl
  have p1 : (bs.filter fun z => decide (z ∈ sqG l b)).Perm (sqG l b) := by
    refine (List.perm_ext_iff_of_nodup (nd.filter _) (sqG_nodup l b)).mpr fun z => ?_
    rw [List.mem_filter, decide_eq_true_eq]
    exact ⟨fun h => h.2, fun h => ⟨hs z h, h⟩⟩
  have p2 := List.filter_append_perm (fun z => decide (z ∈ sqG l b)) bs
  unfold Cover at c ⊢
  rw [List.flatMap_append]
  have p3 : (bs.flatMap (cells l)).Perm ((sqG l b ++ bs.filter (fun z => !decide (z ∈ sqG l b))).flatMap (cells l)) := by
    refine List.Perm.flatMap_right _ (p2.symm.trans ?_)
    exact p1.append (List.Perm.of_eq rfl)
  rw [List.flatMap_append] at p3
  refine List.Perm.trans ?_ (p3.symm.trans c)
  exact (List.perm_append_comm).trans (((sq_cells l b).symm).append_right _)
end Tile

namespace Fl
open PySem L2 L3
theorem rng_mem {lo : Int} {m : Nat} {d : D} (h : d ∈ rngIts lo m) : ∃ j : Int, d = .int j ∧ lo ≤ j ∧ j < lo + m := by
  unfold rngIts at h
  obtain ⟨j, hj, rfl⟩ := List.mem_map.mp h
  have := List.mem_range.mp hj
  exact ⟨_, rfl, by omega, by omega⟩
theorem rng_get {lo : Int} {m i : Nat} {d : D} (h : (rngIts lo m)[i]? = some d) : d = .int (lo + i) ∧ i < m := by
  unfold rngIts at h
  rw [List.getElem?_map] at h
  obtain ⟨j, hj, rfl⟩ := Option.map_eq_some_iff.mp h
  have hi := (List.getElem?_eq_some_iff.mp hj).1
  rw [List.length_range] at hi
  rw [List.getElem?_range hi] at hj
  cases hj
  exact ⟨rfl, hi⟩
end Fl

namespace Hd
open PySem L2 L3
theorem cast_ok : CastS (runDef 5 2 b_law_cast) := by
  intro st n tot hd h0 h1
  obtain ⟨a, b, c, hn⟩ := id hd
  have hl := hd.lt
  have ix0 : ∀ {x y z : Int}, atI [D.int x, .int y, .int z] 0 = some (.int x) := atI_zero
  have ix1 : ∀ {x y z : Int}, atI [D.int x, .int y, .int z] 1 = some (.int y) := atI_one
  have ix2 : ∀ {x y z : Int}, atI [D.int x, .int y, .int z] 2 = some (.int z) := atI_two
  have nx0 : ixN 3 0 = some 0 := rfl
  have nx2 : ixN 3 2 = some 2 := rfl
  by_cases ha : 0 < a
  · have dt : divOk tot := ⟨h0, .inl h1⟩
    refine ⟨a % tot, st.set n (.lst [.int (a / tot), .int b, .int c]), Int.emod_nonneg _ (by omega), Int.emod_lt_of_pos _ h0, ?_, by simp, Step.draw hd _ _ _⟩
    simp only [b_law_cast, Int.cast_ofNat_Int, Nat.zero_add, Int.reduceEq, Int.reduceNe, Int.reduceLT, Int.reduceLE, Int.reduceGT, Int.reduceGE, Int.reduceAdd, Int.reduceSub, Int.reduceMul, Int.reduceNeg, Int.reduceMod, Int.reduceDiv, Nat.reduceLeDiff, slZ_tup, eqD_int, neD_int, eqD_bl, neD_bl, ixT0, ixT1, ixT2, ixF0, ixF1, ixF2, lenT, lenZ, addZ_frz, addZ_loc_frz, addL_loc_frz, beq_self_eq_true, runDef_eq, start3, finR, sSeq, sSet, sExpr, sRet, sRetN, sIf, sPar2, sAsg, sSetIx, sNil, RS.andThen_nx, RS.andThen_rt, RS.andThen_exn, R.toS_ok, R.toS_exn, kv, kc, k1, k2, kA0, kA1, kF, kM, kIf, kTr, kTb, tAnd3, tOr3, tNot3, kAndV, kOrV, kNotV, kChain, R.bind_ok, R.bind_exn, gN, gT, gs0, gs1, List.map_cons, List.map_nil, List.length_cons, List.length_nil, List.replicate, List.cons_append, List.nil_append, List.getElem?_cons_zero, List.getElem?_cons_succ, List.set_cons_zero, List.set_cons_succ, Nat.reduceAdd, Nat.reduceSub, if_true, if_false, Bool.false_eq_true, Bool.true_eq_false, reduceIte, Bool.not_true, Bool.not_false, Option.bind_some, decide_true, decide_false, frzF, listZ, addD, subD, mulD, fdivD, modD, cmpD, ltD, leD, gtD, geD, negD, lenF, absF, maxF, minF, intF, reprF, listF, tupleF, tupF, lstF, truD, tyD, ixD_loc hn ix0, ha, h0, dt, setL_loc hn nx0]
  · have hs : (st.set n (.lst [.int a, .int b, .int (c + 1)]))[n]? = some (.lst [.int a, .int b, .int (c + 1)]) := by rw [List.getElem?_set_self hl]
    have e1 : ∀ x : Int, 0 ≤ x % 2305843009213693893 ∧ x % 2305843009213693893 < 2305843009213693893 := fun x => ⟨Int.emod_nonneg _ (by omega), Int.emod_lt_of_pos _ (by omega)⟩
    have m1 : ∀ x : Int, mulOk 694847539 x := fun x => .inl (.inl ⟨by decide, by decide⟩)
    have m2 : ∀ x : Int, mulOk 7417 x := fun x => .inl (.inl ⟨by decide, by decide⟩)
    have m4 : ∀ x y : Int, mulOk x (y % 2305843009213693893) := fun x y => .inl (.inr ⟨by have := e1 y; omega, by have := e1 y; omega⟩)
    have d1 : divOk 64 := ⟨by decide, .inl (by decide)⟩
    have p1 : (0 : Int) < 2305843009213693893 := by decide
    have p2 : (0 : Int) < 1152921504606846737 := by decide
    have p3 : (0 : Int) < 8796093022127 := by decide
    obtain ⟨z, hz⟩ : ∃ z : Int, runDef 5 2 b_law_cast [D.loc n, D.int tot] st = .ok (.int (z % tot)) (st.set n (.lst [.int a, .int b, .int (c + 1)])) := by
      simp only [b_law_cast, Int.cast_ofNat_Int, Nat.zero_add, Int.reduceEq, Int.reduceNe, Int.reduceLT, Int.reduceLE, Int.reduceGT, Int.reduceGE, Int.reduceAdd, Int.reduceSub, Int.reduceMul, Int.reduceNeg, Int.reduceMod, Int.reduceDiv, Nat.reduceLeDiff, slZ_tup, eqD_int, neD_int, eqD_bl, neD_bl, ixT0, ixT1, ixT2, ixF0, ixF1, ixF2, lenT, lenZ, addZ_frz, addZ_loc_frz, addL_loc_frz, beq_self_eq_true, runDef_eq, start3, finR, sSeq, sSet, sExpr, sRet, sRetN, sIf, sPar2, sAsg, sSetIx, sNil, RS.andThen_nx, RS.andThen_rt, RS.andThen_exn, R.toS_ok, R.toS_exn, kv, kc, k1, k2, kA0, kA1, kF, kM, kIf, kTr, kTb, tAnd3, tOr3, tNot3, kAndV, kOrV, kNotV, kChain, R.bind_ok, R.bind_exn, gN, gT, gs0, gs1, List.map_cons, List.map_nil, List.length_cons, List.length_nil, List.replicate, List.cons_append, List.nil_append, List.getElem?_cons_zero, List.getElem?_cons_succ, List.set_cons_zero, List.set_cons_succ, Nat.reduceAdd, Nat.reduceSub, if_true, if_false, Bool.false_eq_true, Bool.true_eq_false, reduceIte, Bool.not_true, Bool.not_false, Option.bind_some, decide_true, decide_false, frzF, listZ, addD, subD, mulD, fdivD, modD, cmpD, ltD, leD, gtD, geD, negD, lenF, absF, maxF, minF, intF, reprF, listF, tupleF, tupF, lstF, truD, tyD, ixD_loc hn ix0, ixD_loc hn ix2, ixD_loc hs ix1, ixD_loc hs ix2, ha, h0, setL_loc hn nx2, m1, m2, m4, d1, p1, p2, p3]
      exact ⟨_, rfl⟩
    exact ⟨z % tot, _, Int.emod_nonneg _ (by omega), Int.emod_lt_of_pos _ h0, hz, by simp, Step.draw hd _ _ _⟩
theorem pick_ok {rc : L3.Run} (hc : CastS rc) : PickS (runDef 2 2 (b_law_pick rc)) := by
  intro st n it xs hd hs hm hne hl
  have hpos : 0 < xs.length := List.length_pos_iff.mpr hne
  obtain ⟨k, st1, h0, h1, hr, hlen, hstep⟩ := hc st n xs.length hd (by omega) (by omega)
  have hs1 := seqD_step hstep hm hs
  obtain ⟨y, hy, hix⟩ := ixD_seq hs1 h0 h1
  refine ⟨y, st1, List.mem_of_getElem? hy, ?_, hlen, hstep⟩
  simp only [b_law_pick, Int.cast_ofNat_Int, Nat.zero_add, Int.reduceEq, Int.reduceNe, Int.reduceLT, Int.reduceLE, Int.reduceGT, Int.reduceGE, Int.reduceAdd, Int.reduceSub, Int.reduceMul, Int.reduceNeg, Int.reduceMod, Int.reduceDiv, Nat.reduceLeDiff, slZ_tup, eqD_int, neD_int, eqD_bl, neD_bl, ixT0, ixT1, ixT2, ixF0, ixF1, ixF2, lenT, lenZ, addZ_frz, addZ_loc_frz, addL_loc_frz, beq_self_eq_true, runDef_eq, start3, finR, sSeq, sSet, sExpr, sRet, sRetN, sIf, sPar2, sAsg, sSetIx, sNil, RS.andThen_nx, RS.andThen_rt, RS.andThen_exn, R.toS_ok, R.toS_exn, kv, kc, k1, k2, kA0, kA1, kF, kM, kIf, kTr, kTb, tAnd3, tOr3, tNot3, kAndV, kOrV, kNotV, kChain, R.bind_ok, R.bind_exn, gN, gT, gs0, gs1, List.map_cons, List.map_nil, List.length_cons, List.length_nil, List.replicate, List.cons_append, List.nil_append, List.getElem?_cons_zero, List.getElem?_cons_succ, List.set_cons_zero, List.set_cons_succ, Nat.reduceAdd, Nat.reduceSub, if_true, if_false, Bool.false_eq_true, Bool.true_eq_false, reduceIte, Bool.not_true, Bool.not_false, Option.bind_some, decide_true, decide_false, lenF_seq hs, hr, hix]
theorem numbers_ok : NumsS (runDef 5 2 b_law_numbers) := by
  intro st ns k hk
  have hp1 : ∀ st : Sto, powD (.int 10) (.int 57) st = .ok (.int (10 ^ (57 : Int).toNat)) st := fun st => pow_ok (by decide +kernel)
  have hp2 : ∀ st : Sto, powD (.int (10 ^ (57 : Int).toNat)) (.int 11) st = .ok (.int ((10 ^ (57 : Int).toNat) ^ (11 : Int).toNat)) st := fun st => pow_ok (by decide +kernel)
  have hp3 : ∀ st : Sto, powD (.int 10) (.int 16) st = .ok (.int (10 ^ (16 : Int).toNat)) st := fun st => pow_ok (by decide +kernel)
  have hpos : (0 : Int) < (10 ^ (57 : Int).toNat) ^ (11 : Int).toNat := by decide +kernel
  generalize ((10 : Int) ^ (57 : Int).toNat) = P at hp1 hp2 hpos
  generalize P ^ (11 : Int).toNat = M at hp2 hpos
  generalize ((10 : Int) ^ (16 : Int).toNat) = Q at hp3
  have m1 : ∀ x : Int, mulOk x 1000171 := fun x => .inl (.inr ⟨by decide, by decide⟩)
  have m2 : ∀ x : Int, mulOk 8377 x := fun x => .inl (.inl ⟨by decide, by decide⟩)
  have m3 : ∀ x : Int, mulOk 53 x := fun x => .inl (.inl ⟨by decide, by decide⟩)
  have m4 : ∀ x : Int, mulOk 67 x := fun x => .inl (.inl ⟨by decide, by decide⟩)
  have p1 : (0 : Int) < 1152921504606846917 := by decide
  have hz : (3 : Nat) ≤ 16777216 := by decide
  have cell : ∃ c : Int, (kIf (kTb (k2 ltD (kv 1) (kF lenF (kA1 (kv 0) kA0)))) (k2 ixD (kv 0) (kv 1)) (k2 addD (k2 mulD (kc (.int 67)) (kv 1)) (kc (.int 37)))) [some (.frz (ns.map D.int)), some (.int k), none, none, none] st = .ok (.int c) st := by
    by_cases h : k < ns.length
    · have hk2 : k.toNat < ns.length := by omega
      have e : atI (ns.map D.int) k = some (.int ns[k.toNat]) := by
        rw [atI_lt hk (by simpa using h)]
        simp
      refine ⟨ns[k.toNat], ?_⟩
      simp only [Int.cast_ofNat_Int, Nat.zero_add, Int.reduceEq, Int.reduceNe, Int.reduceLT, Int.reduceLE, Int.reduceGT, Int.reduceGE, Int.reduceAdd, Int.reduceSub, Int.reduceMul, Int.reduceNeg, Int.reduceMod, Int.reduceDiv, Nat.reduceLeDiff, slZ_tup, eqD_int, neD_int, eqD_bl, neD_bl, ixT0, ixT1, ixT2, ixF0, ixF1, ixF2, lenT, lenZ, addZ_frz, addZ_loc_frz, addL_loc_frz, beq_self_eq_true, runDef_eq, start3, finR, sSeq, sSet, sExpr, sRet, sRetN, sIf, sPar2, sAsg, sSetIx, sNil, RS.andThen_nx, RS.andThen_rt, RS.andThen_exn, R.toS_ok, R.toS_exn, kv, kc, k1, k2, kA0, kA1, kF, kM, kIf, kTr, kTb, tAnd3, tOr3, tNot3, kAndV, kOrV, kNotV, kChain, R.bind_ok, R.bind_exn, gN, gT, gs0, gs1, List.map_cons, List.map_nil, List.length_cons, List.length_nil, List.replicate, List.cons_append, List.nil_append, List.getElem?_cons_zero, List.getElem?_cons_succ, List.set_cons_zero, List.set_cons_succ, Nat.reduceAdd, Nat.reduceSub, if_true, if_false, Bool.false_eq_true, Bool.true_eq_false, reduceIte, Bool.not_true, Bool.not_false, Option.bind_some, decide_true, decide_false, frzF, listZ, addD, subD, mulD, fdivD, modD, cmpD, ltD, leD, gtD, geD, negD, lenF, absF, maxF, minF, intF, reprF, listF, tupleF, tupF, lstF, truD, tyD, List.length_map, h, ixD_frz e]
    · refine ⟨67 * k + 37, ?_⟩
      simp only [Int.cast_ofNat_Int, Nat.zero_add, Int.reduceEq, Int.reduceNe, Int.reduceLT, Int.reduceLE, Int.reduceGT, Int.reduceGE, Int.reduceAdd, Int.reduceSub, Int.reduceMul, Int.reduceNeg, Int.reduceMod, Int.reduceDiv, Nat.reduceLeDiff, slZ_tup, eqD_int, neD_int, eqD_bl, neD_bl, ixT0, ixT1, ixT2, ixF0, ixF1, ixF2, lenT, lenZ, addZ_frz, addZ_loc_frz, addL_loc_frz, beq_self_eq_true, runDef_eq, start3, finR, sSeq, sSet, sExpr, sRet, sRetN, sIf, sPar2, sAsg, sSetIx, sNil, RS.andThen_nx, RS.andThen_rt, RS.andThen_exn, R.toS_ok, R.toS_exn, kv, kc, k1, k2, kA0, kA1, kF, kM, kIf, kTr, kTb, tAnd3, tOr3, tNot3, kAndV, kOrV, kNotV, kChain, R.bind_ok, R.bind_exn, gN, gT, gs0, gs1, List.map_cons, List.map_nil, List.length_cons, List.length_nil, List.replicate, List.cons_append, List.nil_append, List.getElem?_cons_zero, List.getElem?_cons_succ, List.set_cons_zero, List.set_cons_succ, Nat.reduceAdd, Nat.reduceSub, if_true, if_false, Bool.false_eq_true, Bool.true_eq_false, reduceIte, Bool.not_true, Bool.not_false, Option.bind_some, decide_true, decide_false, frzF, listZ, addD, subD, mulD, fdivD, modD, cmpD, ltD, leD, gtD, geD, negD, lenF, absF, maxF, minF, intF, reprF, listF, tupleF, tupF, lstF, truD, tyD, List.length_map, h, m4]
  obtain ⟨c, hc⟩ := cell
  simp only [runDef_eq, Nat.reduceAdd, Nat.reduceSub, start3, b_law_numbers, List.map_cons, List.map_nil, List.length_cons, List.length_nil, List.replicate, List.cons_append, List.nil_append, sSeq, sSet]
  rw [hc]
  simp only [Int.cast_ofNat_Int, Nat.zero_add, Int.reduceEq, Int.reduceNe, Int.reduceLT, Int.reduceLE, Int.reduceGT, Int.reduceGE, Int.reduceAdd, Int.reduceSub, Int.reduceMul, Int.reduceNeg, Int.reduceMod, Int.reduceDiv, Nat.reduceLeDiff, slZ_tup, eqD_int, neD_int, eqD_bl, neD_bl, ixT0, ixT1, ixT2, ixF0, ixF1, ixF2, lenT, lenZ, addZ_frz, addZ_loc_frz, addL_loc_frz, beq_self_eq_true, runDef_eq, start3, finR, sSeq, sSet, sExpr, sRet, sRetN, sIf, sPar2, sAsg, sSetIx, sNil, RS.andThen_nx, RS.andThen_rt, RS.andThen_exn, R.toS_ok, R.toS_exn, kv, kc, k1, k2, kA0, kA1, kF, kM, kIf, kTr, kTb, tAnd3, tOr3, tNot3, kAndV, kOrV, kNotV, kChain, R.bind_ok, R.bind_exn, gN, gT, gs0, gs1, List.map_cons, List.map_nil, List.length_cons, List.length_nil, List.replicate, List.cons_append, List.nil_append, List.getElem?_cons_zero, List.getElem?_cons_succ, List.set_cons_zero, List.set_cons_succ, Nat.reduceAdd, Nat.reduceSub, if_true, if_false, Bool.false_eq_true, Bool.true_eq_false, reduceIte, Bool.not_true, Bool.not_false, Option.bind_some, decide_true, decide_false, frzF, listZ, addD, subD, mulD, fdivD, modD, cmpD, ltD, leD, gtD, geD, negD, lenF, absF, maxF, minF, intF, reprF, listF, tupleF, tupF, lstF, truD, tyD, hp1, hp2, hp3, hpos, m1, m2, m3, p1, hz]
  exact ⟨_, _, rfl⟩
end Hd
namespace Fl
open PySem L2 L3 Tile
def WAY (a : Bool) : Str := if a = true then Str.ofString "across" else Str.ofString "down"
def dB (b : Bar) : D := .tup [.int b.1, .int b.2.1, .str (WAY b.2.2)]
def dC (c : Cell) : D := .tup [.int c.1, .int c.2]
theorem eq_str {x y : Str} {st : Sto} (hx : SeqAt.shaped (.str x) = true) (hy : SeqAt.shaped (.str y) = true) : eqD (.str x) (.str y) st = .ok (.bl (x == y)) st := by
  simp only [eqD, pd]
  rw [if_pos ⟨hx, hy⟩]
  simp only [PyData.eqv]
theorem way_eq {a : Bool} {st : Sto} : eqD (.str (WAY a)) (.str "across") st = .ok (.bl a) st := by
  cases a
  · rw [eq_str (by decide +kernel) (by decide +kernel)]; rfl
  · rw [eq_str (by decide +kernel) (by decide +kernel)]; rfl
theorem way_eqd {a : Bool} {st : Sto} : eqD (.str (WAY a)) (.str "down") st = .ok (.bl (!a)) st := by
  cases a
  · rw [eq_str (by decide +kernel) (by decide +kernel)]; rfl
  · rw [eq_str (by decide +kernel) (by decide +kernel)]; rfl
theorem isint_int {i : Int} {st : Sto} : isF "int" (.int i) st = .ok (.bl true) st := isF_of rfl kb_int_int
theorem isbl_int {i : Int} {st : Sto} : isF "bool" (.int i) st = .ok (.bl false) st := isF_of rfl kb_int_bool
theorem isstr_str {x : Str} {st : Sto} : isF "str" (.str x) st = .ok (.bl true) st := isF_of rfl kb_str_str
theorem istup_tup {xs : List D} {st : Sto} : isF "tuple" (.tup xs) st = .ok (.bl true) st := isF_of rfl kb_tuple_tuple
theorem whole_int {i : Int} {st : Sto} : runDef 1 1 b_is_whole [.int i] st = .ok (.bl true) st := by
  simp only [b_is_whole, Int.cast_ofNat_Int, Nat.zero_add, Int.reduceEq, Int.reduceNe, Int.reduceLT, Int.reduceLE, Int.reduceGT, Int.reduceGE, Int.reduceAdd, Int.reduceSub, Int.reduceMul, Int.reduceNeg, Int.reduceMod, Int.reduceDiv, Nat.reduceLeDiff, slZ_tup, eqD_int, neD_int, eqD_bl, neD_bl, ixT0, ixT1, ixT2, ixF0, ixF1, ixF2, lenT, lenZ, addZ_frz, addZ_loc_frz, addL_loc_frz, beq_self_eq_true, runDef_eq, start3, finR, sSeq, sSet, sExpr, sRet, sRetN, sIf, sPar2, sAsg, sSetIx, sNil, RS.andThen_nx, RS.andThen_rt, RS.andThen_exn, R.toS_ok, R.toS_exn, kv, kc, k1, k2, kA0, kA1, kF, kM, kIf, kTr, kTb, tAnd3, tOr3, tNot3, kAndV, kOrV, kNotV, kChain, R.bind_ok, R.bind_exn, gN, gT, gs0, gs1, List.map_cons, List.map_nil, List.length_cons, List.length_nil, List.replicate, List.cons_append, List.nil_append, List.getElem?_cons_zero, List.getElem?_cons_succ, List.set_cons_zero, List.set_cons_succ, Nat.reduceAdd, Nat.reduceSub, if_true, if_false, Bool.false_eq_true, Bool.true_eq_false, reduceIte, Bool.not_true, Bool.not_false, Option.bind_some, decide_true, decide_false, isint_int, isbl_int, truD]
theorem way_ok {a : Bool} {st : Sto} : runDef 1 1 b_is_way [.str (WAY a)] st = .ok (.bl true) st := by
  simp only [b_is_way, Int.cast_ofNat_Int, Nat.zero_add, Int.reduceEq, Int.reduceNe, Int.reduceLT, Int.reduceLE, Int.reduceGT, Int.reduceGE, Int.reduceAdd, Int.reduceSub, Int.reduceMul, Int.reduceNeg, Int.reduceMod, Int.reduceDiv, Nat.reduceLeDiff, slZ_tup, eqD_int, neD_int, eqD_bl, neD_bl, ixT0, ixT1, ixT2, ixF0, ixF1, ixF2, lenT, lenZ, addZ_frz, addZ_loc_frz, addL_loc_frz, beq_self_eq_true, runDef_eq, start3, finR, sSeq, sSet, sExpr, sRet, sRetN, sIf, sPar2, sAsg, sSetIx, sNil, RS.andThen_nx, RS.andThen_rt, RS.andThen_exn, R.toS_ok, R.toS_exn, kv, kc, k1, k2, kA0, kA1, kF, kM, kIf, kTr, kTb, tAnd3, tOr3, tNot3, kAndV, kOrV, kNotV, kChain, R.bind_ok, R.bind_exn, gN, gT, gs0, gs1, List.map_cons, List.map_nil, List.length_cons, List.length_nil, List.replicate, List.cons_append, List.nil_append, List.getElem?_cons_zero, List.getElem?_cons_succ, List.set_cons_zero, List.set_cons_succ, Nat.reduceAdd, Nat.reduceSub, if_true, if_false, Bool.false_eq_true, Bool.true_eq_false, reduceIte, Bool.not_true, Bool.not_false, Option.bind_some, decide_true, decide_false, isstr_str, truD, tupF, Nat.reduceLeDiff, inD, List.all_cons, List.all_nil, flatD, Bool.and_self, pd, allO, List.any_cons, List.any_nil]
  cases a <;> simp [PyData.eqv, WAY] <;> decide +kernel
theorem other_ok {a : Bool} {st : Sto} : runDef 1 1 b_other_way [.str (WAY a)] st = .ok (.str (WAY (!a))) st := by
  simp only [b_other_way, Int.cast_ofNat_Int, Nat.zero_add, Int.reduceEq, Int.reduceNe, Int.reduceLT, Int.reduceLE, Int.reduceGT, Int.reduceGE, Int.reduceAdd, Int.reduceSub, Int.reduceMul, Int.reduceNeg, Int.reduceMod, Int.reduceDiv, Nat.reduceLeDiff, slZ_tup, eqD_int, neD_int, eqD_bl, neD_bl, ixT0, ixT1, ixT2, ixF0, ixF1, ixF2, lenT, lenZ, addZ_frz, addZ_loc_frz, addL_loc_frz, beq_self_eq_true, runDef_eq, start3, finR, sSeq, sSet, sExpr, sRet, sRetN, sIf, sPar2, sAsg, sSetIx, sNil, RS.andThen_nx, RS.andThen_rt, RS.andThen_exn, R.toS_ok, R.toS_exn, kv, kc, k1, k2, kA0, kA1, kF, kM, kIf, kTr, kTb, tAnd3, tOr3, tNot3, kAndV, kOrV, kNotV, kChain, R.bind_ok, R.bind_exn, gN, gT, gs0, gs1, List.map_cons, List.map_nil, List.length_cons, List.length_nil, List.replicate, List.cons_append, List.nil_append, List.getElem?_cons_zero, List.getElem?_cons_succ, List.set_cons_zero, List.set_cons_succ, Nat.reduceAdd, Nat.reduceSub, if_true, if_false, Bool.false_eq_true, Bool.true_eq_false, reduceIte, Bool.not_true, Bool.not_false, Option.bind_some, decide_true, decide_false, way_eq]
  cases a <;> rfl
theorem bar_ok {rw' ry : L3.Run} (hw : ∀ (i : Int) (st : Sto), rw' [.int i] st = .ok (.bl true) st) (hy : ∀ (a : Bool) (st : Sto), ry [.str (WAY a)] st = .ok (.bl true) st) {b : Bar} {st : Sto} : runDef 4 1 (b_is_bar rw' ry) [dB b] st = .ok (.bl true) st := by
  simp only [b_is_bar, dB, Int.cast_ofNat_Int, Nat.zero_add, Int.reduceEq, Int.reduceNe, Int.reduceLT, Int.reduceLE, Int.reduceGT, Int.reduceGE, Int.reduceAdd, Int.reduceSub, Int.reduceMul, Int.reduceNeg, Int.reduceMod, Int.reduceDiv, Nat.reduceLeDiff, slZ_tup, eqD_int, neD_int, eqD_bl, neD_bl, ixT0, ixT1, ixT2, ixF0, ixF1, ixF2, lenT, lenZ, addZ_frz, addZ_loc_frz, addL_loc_frz, beq_self_eq_true, runDef_eq, start3, finR, sSeq, sSet, sExpr, sRet, sRetN, sIf, sPar2, sAsg, sSetIx, sNil, RS.andThen_nx, RS.andThen_rt, RS.andThen_exn, R.toS_ok, R.toS_exn, kv, kc, k1, k2, kA0, kA1, kF, kM, kIf, kTr, kTb, tAnd3, tOr3, tNot3, kAndV, kOrV, kNotV, kChain, R.bind_ok, R.bind_exn, gN, gT, gs0, gs1, List.map_cons, List.map_nil, List.length_cons, List.length_nil, List.replicate, List.cons_append, List.nil_append, List.getElem?_cons_zero, List.getElem?_cons_succ, List.set_cons_zero, List.set_cons_succ, Nat.reduceAdd, Nat.reduceSub, if_true, if_false, Bool.false_eq_true, Bool.true_eq_false, reduceIte, Bool.not_true, Bool.not_false, Option.bind_some, decide_true, decide_false, frzF, tupF, listZ, addD, subD, mulD, fdivD, modD, cmpD, ltD, leD, gtD, geD, negD, absF, maxF, minF, intF, truD, strF, istup_tup, hw, hy]
/-- lies within, as the program asks -/
def Within (w h l : Int) (b : Bar) : Prop := if b.2.2 = true then 0 ≤ b.1 ∧ b.1 ≤ w - l ∧ 0 ≤ b.2.1 ∧ b.2.1 < h else 0 ≤ b.1 ∧ b.1 < w ∧ 0 ≤ b.2.1 ∧ b.2.1 ≤ h - l
theorem within_ok {w h l : Int} {b : Bar} {st : Sto} (hb : Within w h l b) : runDef 8 2 b_lies_within [.tup [.int w, .int h, .int l], dB b] st = .ok (.bl true) st := by
  obtain ⟨x, y, a⟩ := b
  unfold Within at hb
  cases a with
  | true =>
    simp only [if_true] at hb
    obtain ⟨h1, h2, h3, h4⟩ := hb
    simp only [b_lies_within, dB, Int.cast_ofNat_Int, Nat.zero_add, Int.reduceEq, Int.reduceNe, Int.reduceLT, Int.reduceLE, Int.reduceGT, Int.reduceGE, Int.reduceAdd, Int.reduceSub, Int.reduceMul, Int.reduceNeg, Int.reduceMod, Int.reduceDiv, Nat.reduceLeDiff, slZ_tup, eqD_int, neD_int, eqD_bl, neD_bl, ixT0, ixT1, ixT2, ixF0, ixF1, ixF2, lenT, lenZ, addZ_frz, addZ_loc_frz, addL_loc_frz, beq_self_eq_true, runDef_eq, start3, finR, sSeq, sSet, sExpr, sRet, sRetN, sIf, sPar2, sAsg, sSetIx, sNil, RS.andThen_nx, RS.andThen_rt, RS.andThen_exn, R.toS_ok, R.toS_exn, kv, kc, k1, k2, kA0, kA1, kF, kM, kIf, kTr, kTb, tAnd3, tOr3, tNot3, kAndV, kOrV, kNotV, kChain, R.bind_ok, R.bind_exn, gN, gT, gs0, gs1, List.map_cons, List.map_nil, List.length_cons, List.length_nil, List.replicate, List.cons_append, List.nil_append, List.getElem?_cons_zero, List.getElem?_cons_succ, List.set_cons_zero, List.set_cons_succ, Nat.reduceAdd, Nat.reduceSub, if_true, if_false, Bool.false_eq_true, Bool.true_eq_false, reduceIte, Bool.not_true, Bool.not_false, Option.bind_some, decide_true, decide_false, sAsg, way_eq, cmpD, leD, ltD, subD, h1, h2, h3, h4, truD]
  | false =>
    simp only [Bool.false_eq_true, if_false] at hb
    obtain ⟨h1, h2, h3, h4⟩ := hb
    simp only [b_lies_within, dB, Int.cast_ofNat_Int, Nat.zero_add, Int.reduceEq, Int.reduceNe, Int.reduceLT, Int.reduceLE, Int.reduceGT, Int.reduceGE, Int.reduceAdd, Int.reduceSub, Int.reduceMul, Int.reduceNeg, Int.reduceMod, Int.reduceDiv, Nat.reduceLeDiff, slZ_tup, eqD_int, neD_int, eqD_bl, neD_bl, ixT0, ixT1, ixT2, ixF0, ixF1, ixF2, lenT, lenZ, addZ_frz, addZ_loc_frz, addL_loc_frz, beq_self_eq_true, runDef_eq, start3, finR, sSeq, sSet, sExpr, sRet, sRetN, sIf, sPar2, sAsg, sSetIx, sNil, RS.andThen_nx, RS.andThen_rt, RS.andThen_exn, R.toS_ok, R.toS_exn, kv, kc, k1, k2, kA0, kA1, kF, kM, kIf, kTr, kTb, tAnd3, tOr3, tNot3, kAndV, kOrV, kNotV, kChain, R.bind_ok, R.bind_exn, gN, gT, gs0, gs1, List.map_cons, List.map_nil, List.length_cons, List.length_nil, List.replicate, List.cons_append, List.nil_append, List.getElem?_cons_zero, List.getElem?_cons_succ, List.set_cons_zero, List.set_cons_succ, Nat.reduceAdd, Nat.reduceSub, if_true, if_false, Bool.false_eq_true, Bool.true_eq_false, reduceIte, Bool.not_true, Bool.not_false, Option.bind_some, decide_true, decide_false, sAsg, way_eq, cmpD, leD, ltD, subD, h1, h2, h3, h4, truD]
theorem rng_ok {l : Nat} (hl : l ≤ 1000) {st : Sto} : rngF1 [.int (l : Int)] st = .ok (.its (rngIts 0 l)) st := by
  rw [rng1_ok (by omega), Int.toNat_natCast]
theorem iR1_ok {l : Nat} (hl : l ≤ 1000) {a : KA} {ρ : Env3} {st st1 : Sto} (h : a ρ st = .ok [.int (l : Int)] st1) : iR1 a ρ st = .ok (.its (rngIts 0 l)) st1 :=
  (iR1_eq h).trans (rng_ok hl)
theorem arg1 {i : Nat} {ρ : Env3} {st : Sto} {d : D} (h : ρ[i]? = some (some d)) : kA1 (kv i) kA0 ρ st = .ok [d] st := by
  unfold kA1 kA0 kv
  rw [h]
  rfl
theorem lz_rng {vs : List Nat} {g : KG} {it : KI} {elt : KE} {ρ : Env3} {st : Sto} {l : Nat} (f : Nat → D) (hl : l ≤ 1000) (hi : it ρ st = .ok (.its (rngIts 0 l)) st) (he : ∀ i : Nat, i < l → ∃ ρ1, g (.int (i : Int)) (wipeD ρ vs) = some ρ1 ∧ elt ρ1 st = .ok (f i) st) :
    kLz vs g it kTrue elt ρ st = .ok (.frz ((List.range l).map f)) st := by
  rw [lz_map (xs := rngIts 0 l) (fun d => match d with | .int i => f i.toNat | d => d) hi (by unfold rngIts; rw [List.length_map, List.length_range]; omega) fun d hd => ?_]
  · unfold rngIts
    rw [List.map_map]
    have : ((fun d => match d with | .int i => f i.toNat | d => d) ∘ fun (i : Nat) => D.int ((0 : Int) + (i : Nat))) = f := by
      funext i
      simp only [Function.comp_apply]
      congr 1
      omega
    rw [this]
  · obtain ⟨j, rfl, h0, h1⟩ := rng_mem hd
    obtain ⟨ρ1, h1, h2⟩ := he j.toNat (by omega)
    have e : (j.toNat : Int) = j := Int.toNat_of_nonneg h0
    rw [e] at h1
    exact ⟨ρ1, h1, h2⟩
theorem cells_map (l : Nat) (x y : Int) : (cells l (x, y, true)).map dC = (List.range l).map (fun (i : Nat) => D.tup [.int (x + (i : Int)), .int y]) ∧ (cells l (x, y, false)).map dC = (List.range l).map fun (i : Nat) => D.tup [.int x, .int (y + (i : Int))] := by
  unfold cells
  rw [List.map_map, List.map_map]
  exact ⟨List.map_congr_left fun i _ => by simp [dC], List.map_congr_left fun i _ => by simp [dC]⟩
theorem cells_ok {l : Nat} (hl : l ≤ 1000) {b : Bar} {st : Sto} : runDef 6 2 b_cells_of [dB b, .int (l : Int)] st = .ok (.frz ((cells l b).map dC)) st := by
  obtain ⟨x, y, a⟩ := b
  obtain ⟨L1, hL1⟩ : ∃ L, kLz [5] (gN 5) (iR1 (kA1 (kv 1) kA0)) kTrue (kF tupF (kA1 (k2 addD (kv 2) (kv 5)) (kA1 (kv 3) kA0))) = L := ⟨_, rfl⟩
  obtain ⟨L2, hL2⟩ : ∃ L, kLz [5] (gN 5) (iR1 (kA1 (kv 1) kA0)) kTrue (kF tupF (kA1 (kv 2) (kA1 (k2 addD (kv 3) (kv 5)) kA0))) = L := ⟨_, rfl⟩
  have e1 : L1 [some (dB (x, y, a)), some (.int (l : Int)), some (.int x), some (.int y), some (.str (WAY a)), none] st = .ok (.frz ((cells l (x, y, true)).map dC)) st := by
    rw [(cells_map l x y).1, ← hL1]
    refine lz_rng _ hl (iR1_ok hl (arg1 rfl)) fun i hil => ⟨[some (dB (x, y, a)), some (.int (l : Int)), some (.int x), some (.int y), some (.str (WAY a)), some (.int (i : Int))], rfl, ?_⟩
    simp only [Int.cast_ofNat_Int, Nat.zero_add, Int.reduceEq, Int.reduceNe, Int.reduceLT, Int.reduceLE, Int.reduceGT, Int.reduceGE, Int.reduceAdd, Int.reduceSub, Int.reduceMul, Int.reduceNeg, Int.reduceMod, Int.reduceDiv, Nat.reduceLeDiff, slZ_tup, eqD_int, neD_int, eqD_bl, neD_bl, ixT0, ixT1, ixT2, ixF0, ixF1, ixF2, lenT, lenZ, addZ_frz, addZ_loc_frz, addL_loc_frz, beq_self_eq_true, runDef_eq, start3, finR, sSeq, sSet, sExpr, sRet, sRetN, sIf, sPar2, sAsg, sSetIx, sNil, RS.andThen_nx, RS.andThen_rt, RS.andThen_exn, R.toS_ok, R.toS_exn, kv, kc, k1, k2, kA0, kA1, kF, kM, kIf, kTr, kTb, tAnd3, tOr3, tNot3, kAndV, kOrV, kNotV, kChain, R.bind_ok, R.bind_exn, gN, gT, gs0, gs1, List.map_cons, List.map_nil, List.length_cons, List.length_nil, List.replicate, List.cons_append, List.nil_append, List.getElem?_cons_zero, List.getElem?_cons_succ, List.set_cons_zero, List.set_cons_succ, Nat.reduceAdd, Nat.reduceSub, if_true, if_false, Bool.false_eq_true, Bool.true_eq_false, reduceIte, Bool.not_true, Bool.not_false, Option.bind_some, decide_true, decide_false, frzF, tupF, listZ, addD, subD, mulD, fdivD, modD, cmpD, ltD, leD, gtD, geD, negD, absF, maxF, minF, intF, truD, strF]
  have e2 : L2 [some (dB (x, y, a)), some (.int (l : Int)), some (.int x), some (.int y), some (.str (WAY a)), none] st = .ok (.frz ((cells l (x, y, false)).map dC)) st := by
    rw [(cells_map l x y).2, ← hL2]
    refine lz_rng _ hl (iR1_ok hl (arg1 rfl)) fun i hil => ⟨[some (dB (x, y, a)), some (.int (l : Int)), some (.int x), some (.int y), some (.str (WAY a)), some (.int (i : Int))], rfl, ?_⟩
    simp only [Int.cast_ofNat_Int, Nat.zero_add, Int.reduceEq, Int.reduceNe, Int.reduceLT, Int.reduceLE, Int.reduceGT, Int.reduceGE, Int.reduceAdd, Int.reduceSub, Int.reduceMul, Int.reduceNeg, Int.reduceMod, Int.reduceDiv, Nat.reduceLeDiff, slZ_tup, eqD_int, neD_int, eqD_bl, neD_bl, ixT0, ixT1, ixT2, ixF0, ixF1, ixF2, lenT, lenZ, addZ_frz, addZ_loc_frz, addL_loc_frz, beq_self_eq_true, runDef_eq, start3, finR, sSeq, sSet, sExpr, sRet, sRetN, sIf, sPar2, sAsg, sSetIx, sNil, RS.andThen_nx, RS.andThen_rt, RS.andThen_exn, R.toS_ok, R.toS_exn, kv, kc, k1, k2, kA0, kA1, kF, kM, kIf, kTr, kTb, tAnd3, tOr3, tNot3, kAndV, kOrV, kNotV, kChain, R.bind_ok, R.bind_exn, gN, gT, gs0, gs1, List.map_cons, List.map_nil, List.length_cons, List.length_nil, List.replicate, List.cons_append, List.nil_append, List.getElem?_cons_zero, List.getElem?_cons_succ, List.set_cons_zero, List.set_cons_succ, Nat.reduceAdd, Nat.reduceSub, if_true, if_false, Bool.false_eq_true, Bool.true_eq_false, reduceIte, Bool.not_true, Bool.not_false, Option.bind_some, decide_true, decide_false, frzF, tupF, listZ, addD, subD, mulD, fdivD, modD, cmpD, ltD, leD, gtD, geD, negD, absF, maxF, minF, intF, truD, strF]
  unfold b_cells_of
  rw [hL1, hL2]
  cases a with
  | true =>
    simp only [dB] at e1
    simp only [Int.cast_ofNat_Int, Nat.zero_add, Int.reduceEq, Int.reduceNe, Int.reduceLT, Int.reduceLE, Int.reduceGT, Int.reduceGE, Int.reduceAdd, Int.reduceSub, Int.reduceMul, Int.reduceNeg, Int.reduceMod, Int.reduceDiv, Nat.reduceLeDiff, slZ_tup, eqD_int, neD_int, eqD_bl, neD_bl, ixT0, ixT1, ixT2, ixF0, ixF1, ixF2, lenT, lenZ, addZ_frz, addZ_loc_frz, addL_loc_frz, beq_self_eq_true, runDef_eq, start3, finR, sSeq, sSet, sExpr, sRet, sRetN, sIf, sPar2, sAsg, sSetIx, sNil, RS.andThen_nx, RS.andThen_rt, RS.andThen_exn, R.toS_ok, R.toS_exn, kv, kc, k1, k2, kA0, kA1, kF, kM, kIf, kTr, kTb, tAnd3, tOr3, tNot3, kAndV, kOrV, kNotV, kChain, R.bind_ok, R.bind_exn, gN, gT, gs0, gs1, List.map_cons, List.map_nil, List.length_cons, List.length_nil, List.replicate, List.cons_append, List.nil_append, List.getElem?_cons_zero, List.getElem?_cons_succ, List.set_cons_zero, List.set_cons_succ, Nat.reduceAdd, Nat.reduceSub, if_true, if_false, Bool.false_eq_true, Bool.true_eq_false, reduceIte, Bool.not_true, Bool.not_false, Option.bind_some, decide_true, decide_false, dB, way_eq, e1]
  | false =>
    simp only [dB] at e2
    simp only [Int.cast_ofNat_Int, Nat.zero_add, Int.reduceEq, Int.reduceNe, Int.reduceLT, Int.reduceLE, Int.reduceGT, Int.reduceGE, Int.reduceAdd, Int.reduceSub, Int.reduceMul, Int.reduceNeg, Int.reduceMod, Int.reduceDiv, Nat.reduceLeDiff, slZ_tup, eqD_int, neD_int, eqD_bl, neD_bl, ixT0, ixT1, ixT2, ixF0, ixF1, ixF2, lenT, lenZ, addZ_frz, addZ_loc_frz, addL_loc_frz, beq_self_eq_true, runDef_eq, start3, finR, sSeq, sSet, sExpr, sRet, sRetN, sIf, sPar2, sAsg, sSetIx, sNil, RS.andThen_nx, RS.andThen_rt, RS.andThen_exn, R.toS_ok, R.toS_exn, kv, kc, k1, k2, kA0, kA1, kF, kM, kIf, kTr, kTb, tAnd3, tOr3, tNot3, kAndV, kOrV, kNotV, kChain, R.bind_ok, R.bind_exn, gN, gT, gs0, gs1, List.map_cons, List.map_nil, List.length_cons, List.length_nil, List.replicate, List.cons_append, List.nil_append, List.getElem?_cons_zero, List.getElem?_cons_succ, List.set_cons_zero, List.set_cons_succ, Nat.reduceAdd, Nat.reduceSub, if_true, if_false, Bool.false_eq_true, Bool.true_eq_false, reduceIte, Bool.not_true, Bool.not_false, Option.bind_some, decide_true, decide_false, dB, way_eq, e2]
end Fl

namespace Fl
open PySem L2 L3 Tile
def keyC (c : Cell) : List Key := [.inl c.1, .inl c.2]
theorem keyC_inj {a b : Cell} (h : keyC a = keyC b) : a = b := by
  unfold keyC at h
  obtain ⟨h1, h2⟩ := List.cons.inj h
  obtain ⟨h2, _⟩ := List.cons.inj h2
  exact Prod.ext (Sum.inl.inj h1) (Sum.inl.inj h2)
def kvsOf (l : Nat) (bs : List Bar) : List (List Key × D) := bs.flatMap fun b => (cells l b).map fun c => (keyC c, dB b)
theorem kvs_keys (l : Nat) (bs : List Bar) : (kvsOf l bs).map (·.1) = (bs.flatMap (cells l)).map keyC := by
  unfold kvsOf
  rw [List.map_flatMap, List.map_flatMap]
  exact flat_congr fun b _ => by rw [List.map_map]; rfl
theorem not_has {kvs : List (List Key × D)} {dn : List Cell} {c : Cell} (hk : kvs.map (·.1) = dn.map keyC) (hc : c ∉ dn) : hasK kvs (keyC c) = false := by
  unfold hasK
  rw [List.any_eq_false]
  intro p hp
  rw [decide_eq_true_eq]
  intro e
  have : p.1 ∈ dn.map keyC := by rw [← hk]; exact List.mem_map.mpr ⟨p, hp, rfl⟩
  obtain ⟨c', h1, h2⟩ := List.mem_map.mp this
  rw [← h2] at e
  exact hc (keyC_inj e ▸ h1)
theorem val_none {kvs : List (List Key × D)} {k : List Key} (h : hasK kvs k = false) : valK kvs k = none := by
  unfold valK
  rw [List.find?_eq_none.mpr fun p hp => by
    have := List.any_eq_false.mp h p hp
    simpa using this]
  rfl
/-- all stands but what is at d; the store grows -/
structure Grow (d : Nat) (st st' : Sto) : Prop where
  keep : ∀ (m : Nat) (o : O), m ≠ d → st[m]? = some o → st'[m]? = some o
  len : st.length ≤ st'.length
theorem Grow.refl {d : Nat} {st : Sto} : Grow d st st := ⟨fun _ _ _ h => h, Nat.le_refl _⟩
theorem Grow.trans {d : Nat} {a b c : Sto} (h : Grow d a b) (g : Grow d b c) : Grow d a c := ⟨fun m o hm q => g.keep m o hm (h.keep m o hm q), Nat.le_trans h.len g.len⟩
theorem Grow.app {d : Nat} {st : Sto} (g : Sto) : Grow d st (st ++ g) := ⟨fun m o _ q => by rw [List.getElem?_append_left (List.getElem?_eq_some_iff.mp q).1]; exact q, by simp⟩
theorem Grow.set {d : Nat} {st : Sto} (o : O) : Grow d st (st.set d o) := ⟨fun m o' hm q => by rw [List.getElem?_set_ne (Ne.symm hm)]; exact q, by simp⟩
theorem inner_ok {w h l : Int} {q : D} {b : Bar} {d : Nat} {cs : List Cell} {kvs : List (List Key × D)} {dn : List Cell} {st : Sto} (hd : st[d]? = some (.dT kvs)) (hk : kvs.map (·.1) = dn.map keyC) (hn : (dn ++ cs).Nodup) (hlen : dn.length + cs.length < 16777216) (x7 : Option D) :
    ∃ y st', forGo (gN 7) (sSeq (sIf (kTb (k2 (inX false) (kv 7) (kv 5))) (sRet (kc .non)) sNil) (sSetIx setX (kv 5) (kv 7) (kv 6))) (.its (cs.map dC)) (cs.length + 1) 0 [some (.tup [.int w, .int h, .int l]), some q, some (.int w), some (.int h), some (.int l), some (.loc d), some (dB b), x7] st
      = .nx [some (.tup [.int w, .int h, .int l]), some q, some (.int w), some (.int h), some (.int l), some (.loc d), some (dB b), y] st' ∧ Grow d st st' ∧ st'[d]? = some (.dT (kvs ++ cs.map fun c => (keyC c, dB b))) := by
  have hl : (cs.map dC).length = cs.length := by simp
  obtain ⟨ρ', st', q1, ⟨y, q2⟩, q3, q4⟩ := for_inv (g := gN 7) (body := sSeq (sIf (kTb (k2 (inX false) (kv 7) (kv 5))) (sRet (kc .non)) sNil) (sSetIx setX (kv 5) (kv 7) (kv 6))) (src := .its (cs.map dC)) (xs := cs.map dC)
    (fun i ρ s => (∃ y, ρ = [some (.tup [.int w, .int h, .int l]), some q, some (.int w), some (.int h), some (.int l), some (.loc d), some (dB b), y]) ∧ Grow d st s ∧ s[d]? = some (.dT (kvs ++ (cs.take i).map fun c => (keyC c, dB b))))
    (fun i ρ s _ => rfl)
    (fun i x ρ s hx ⟨⟨y, hρ⟩, g, hs⟩ => by
      subst hρ
      rw [List.getElem?_map] at hx
      obtain ⟨c, hc, rfl⟩ := Option.map_eq_some_iff.mp hx
      have et : cs.take (i + 1) = cs.take i ++ [c] := by rw [List.take_succ, hc]; rfl
      have hil : i < cs.length := (List.getElem?_eq_some_iff.mp hc).1
      have keys : (kvs ++ (cs.take i).map fun c => (keyC c, dB b)).map (·.1) = (dn ++ cs.take i).map keyC := by
        rw [List.map_append, hk, List.map_append, List.map_map]
        rfl
      have nc : c ∉ dn ++ cs.take i := by
        have e : dn ++ cs = (dn ++ cs.take i) ++ cs.drop i := by rw [List.append_assoc, List.take_append_drop]
        rw [e] at hn
        intro hmem
        have hcd : c ∈ cs.drop i := by
          rw [List.drop_eq_getElem_cons hil, List.mem_cons]
          left
          have := (List.getElem?_eq_some_iff.mp hc).2
          exact this.symm
        exact (List.nodup_append.mp hn).2.2 c hmem c hcd rfl
      have nh := not_has keys nc
      have dg : dGet (.loc d) (dC c) s = some none := by
        simp only [dGet, hs, dC, keysD, keyD, Option.bind_some, Option.map_some]
        exact congrArg some (val_none nh)
      have lt : (kvs ++ (cs.take i).map fun c => (keyC c, dB b)).length < 16777216 := by
        have := congrArg List.length hk
        simp only [List.length_map] at this
        rw [List.length_append, List.length_map, List.length_take]
        omega
      have sx : setX (.loc d) (dC c) (dB b) s = some (s.set d (.dT ((kvs ++ (cs.take i).map fun c => (keyC c, dB b)) ++ [(keyC c, dB b)]))) := by
        simp only [setX, hs, dC, keysD, keyD, Option.bind_some]
        rw [if_pos lt]
        unfold putKD
        rw [show hasK _ [Sum.inl c.1, Sum.inl c.2] = false from nh]
        rfl
      refine ⟨_, [some (.tup [.int w, .int h, .int l]), some q, some (.int w), some (.int h), some (.int l), some (.loc d), some (dB b), some (dC c)], _, rfl, .inl ?_, ⟨_, rfl⟩, g.trans (Grow.set (.dT ((kvs ++ (cs.take i).map fun c => (keyC c, dB b)) ++ [(keyC c, dB b)]))), ?_⟩
      · simp only [Int.cast_ofNat_Int, Nat.zero_add, Int.reduceEq, Int.reduceNe, Int.reduceLT, Int.reduceLE, Int.reduceGT, Int.reduceGE, Int.reduceAdd, Int.reduceSub, Int.reduceMul, Int.reduceNeg, Int.reduceMod, Int.reduceDiv, Nat.reduceLeDiff, slZ_tup, eqD_int, neD_int, eqD_bl, neD_bl, ixT0, ixT1, ixT2, ixF0, ixF1, ixF2, lenT, lenZ, addZ_frz, addZ_loc_frz, addL_loc_frz, beq_self_eq_true, runDef_eq, start3, finR, sSeq, sSet, sExpr, sRet, sRetN, sIf, sPar2, sAsg, sSetIx, sNil, RS.andThen_nx, RS.andThen_rt, RS.andThen_exn, R.toS_ok, R.toS_exn, kv, kc, k1, k2, kA0, kA1, kF, kM, kIf, kTr, kTb, tAnd3, tOr3, tNot3, kAndV, kOrV, kNotV, kChain, R.bind_ok, R.bind_exn, gN, gT, gs0, gs1, List.map_cons, List.map_nil, List.length_cons, List.length_nil, List.replicate, List.cons_append, List.nil_append, List.getElem?_cons_zero, List.getElem?_cons_succ, List.set_cons_zero, List.set_cons_succ, Nat.reduceAdd, Nat.reduceSub, if_true, if_false, Bool.false_eq_true, Bool.true_eq_false, reduceIte, Bool.not_true, Bool.not_false, Option.bind_some, decide_true, decide_false, inX, dg, Option.isSome_none, bne_self_eq_false, sx]
      · rw [List.getElem?_set_self (List.getElem?_eq_some_iff.mp hs).1, et, List.map_append, List.append_assoc]
        rfl)
    cs.length 0 _ st (cs.length + 1) (by omega) (by omega) (by omega) ⟨⟨x7, rfl⟩, .refl, by simpa using hd⟩
  refine ⟨y, st', by rw [← q2]; exact q1, q3, ?_⟩
  rw [q4, hl, List.take_length]
end Fl
namespace Tile
theorem grid_len (w h : Nat) : (grid w h).length = w * h := by
  unfold grid
  rw [List.length_flatMap]
  simp only [List.length_map, List.length_range]
  rw [List.map_const', List.sum_replicate_nat, List.length_range]
theorem mem_grid {w h : Nat} {c : Cell} : c ∈ grid w h ↔ 0 ≤ c.1 ∧ c.1 < w ∧ 0 ≤ c.2 ∧ c.2 < h := by
  unfold grid
  rw [List.mem_flatMap]
  constructor
  · rintro ⟨i, hi, hc⟩
    obtain ⟨j, hj, rfl⟩ := List.mem_map.mp hc
    have hi : i < w := by simpa using hi
    have hj : j < h := by simpa using hj
    simp only
    omega
  · rintro ⟨h1, h2, h3, h4⟩
    refine ⟨c.1.toNat, by simp; omega, List.mem_map.mpr ⟨c.2.toNat, by simp; omega, ?_⟩⟩
    obtain ⟨x, y⟩ := c
    simp only at h1 h2 h3 h4 ⊢
    rw [Int.toNat_of_nonneg h1, Int.toNat_of_nonneg h3]
end Tile
namespace Fl
open PySem L2 L3 Tile
theorem cover_within {w h l : Nat} {bs : List Bar} (c : Cover w h l bs) (hl : 0 < l) {b : Bar} (hb : b ∈ bs) : Within w h l b := by
  have inn : ∀ i, i < l → (if b.2.2 = true then (b.1 + (i : Int), b.2.1) else (b.1, b.2.1 + (i : Int))) ∈ grid w h := fun i hi => by
    refine c.mem_iff.mp (List.mem_flatMap.mpr ⟨b, hb, ?_⟩)
    unfold cells
    exact List.mem_map.mpr ⟨i, by simpa using hi, rfl⟩
  have h0 := mem_grid.mp (inn 0 hl)
  have h1 := mem_grid.mp (inn (l - 1) (by omega))
  obtain ⟨x, y, a⟩ := b
  unfold Within
  cases a with
  | true =>
    simp only [if_true] at h0 h1 ⊢
    omega
  | false =>
    simp only [Bool.false_eq_true, if_false] at h0 h1 ⊢
    omega
theorem ne_int_same {i j : Int} {st : Sto} (h : i = j) : neD (.int i) (.int j) st = .ok (.bl false) st := by
  subst h
  simp only [neD, pd]
  rw [if_pos ⟨rfl, rfl⟩]
  simp [PyData.eqv]
theorem mul_small {w h : Nat} (hw : w ≤ 400) : mulOk (w : Int) (h : Int) := by
  have e : (2 ^ 64 : Int) = 18446744073709551616 := by decide +kernel
  unfold mulOk
  rw [e]
  exact .inl (.inl ⟨by omega, by omega⟩)
theorem k2_ok {f : D → D → Sto → R D} {a b : KE} {ρ : Env3} {st st1 st2 : Sto} {x y : D} (ha : a ρ st = .ok x st1) (hb : b ρ st1 = .ok y st2) : k2 f a b ρ st = f x y st2 := by
  unfold k2
  rw [ha, R.bind_ok, hb, R.bind_ok]
theorem covered_ok {rs rb rl rc : L3.Run} {w h l : Nat} {bs : List Bar} (hs : ∀ st : Sto, rs [.tup [.int w, .int h, .int l]] st = .ok (.bl true) st) (hb : ∀ (b : Bar) (st : Sto), rb [dB b] st = .ok (.bl true) st)
    (hw : ∀ (b : Bar) (st : Sto), Within w h l b → rl [.tup [.int w, .int h, .int l], dB b] st = .ok (.bl true) st) (hc : ∀ (b : Bar) (st : Sto), rc [dB b, .int l] st = .ok (.frz ((cells l b).map dC)) st)
    (c : Cover w h l bs) (hl : 0 < l) (hwh : w * h ≤ 400) (hw1 : w ≤ 400) (hh1 : h ≤ 400) (st : Sto) :
    ∃ d st', runDef 8 2 (b_covered_cells rs rb rl rc) [.tup [.int w, .int h, .int l], .tup (bs.map dB)] st = .ok (.loc d) st' ∧ st.length ≤ d ∧ (∀ (m : Nat) (o : O), st[m]? = some o → st'[m]? = some o) ∧ st.length ≤ st'.length ∧ st'[d]? = some (.dT (kvsOf l bs)) := by
  have hg := hs st
  have nd : (bs.flatMap (cells l)).Nodup := c.nodup_iff.mpr (grid_nodup w h)
  have tot : (bs.flatMap (cells l)).length = w * h := by rw [c.length_eq, grid_len]
  obtain ⟨d, hd⟩ : ∃ d, st.length = d := ⟨_, rfl⟩
  obtain ⟨s1, hs1⟩ : ∃ s, st ++ [O.dT []] = s := ⟨_, rfl⟩
  have hs1d : s1[d]? = some (.dT []) := by rw [← hs1, ← hd, stA0]; rfl
  obtain ⟨F, hF⟩ : ∃ F, sFor (gN 7) (iL (kF rc (kA1 (kv 6) (kA1 (kv 4) kA0)))) (sSeq (sIf (kTb (k2 (inX false) (kv 7) (kv 5))) (sRet (kc .non)) sNil) (sSetIx setX (kv 5) (kv 7) (kv 6))) = F := ⟨_, rfl⟩
  obtain ⟨G, hG⟩ : ∃ G, sFor (gN 6) (iT (kv 1)) (sSeq (sIf (tOr3 (tNot3 (kTr (kF rb (kA1 (kv 6) kA0)))) (tNot3 (kTr (kF rl (kA1 (kv 0) (kA1 (kv 6) kA0)))))) (sRet (kc .non)) sNil) F) = G := ⟨_, rfl⟩
  have loop : ∃ y z st', G [some (.tup [.int w, .int h, .int l]), some (.tup (bs.map dB)), some (.int w), some (.int h), some (.int l), some (.loc d), none, none] s1
      = .nx [some (.tup [.int w, .int h, .int l]), some (.tup (bs.map dB)), some (.int w), some (.int h), some (.int l), some (.loc d), y, z] st' ∧ Grow d s1 st' ∧ st'[d]? = some (.dT (kvsOf l bs)) := by
    obtain ⟨ρ', st', q1, ⟨y, z, q2⟩, q3, q4⟩ := for_inv (g := gN 6) (body := sSeq (sIf (tOr3 (tNot3 (kTr (kF rb (kA1 (kv 6) kA0)))) (tNot3 (kTr (kF rl (kA1 (kv 0) (kA1 (kv 6) kA0)))))) (sRet (kc .non)) sNil) F) (src := .its (bs.map dB)) (xs := bs.map dB)
      (fun i ρ s => (∃ y z, ρ = [some (.tup [.int w, .int h, .int l]), some (.tup (bs.map dB)), some (.int w), some (.int h), some (.int l), some (.loc d), y, z]) ∧ Grow d s1 s ∧ s[d]? = some (.dT (kvsOf l (bs.take i)))) (fun i ρ s _ => rfl)
      (fun i x ρ s hx ⟨⟨y, z, hρ⟩, gr, hsd⟩ => by
        subst hρ
        rw [List.getElem?_map] at hx
        obtain ⟨b, hbi, rfl⟩ := Option.map_eq_some_iff.mp hx
        have hil : i < bs.length := (List.getElem?_eq_some_iff.mp hbi).1
        have hbm := List.mem_of_getElem? hbi
        have et : bs.take (i + 1) = bs.take i ++ [b] := by rw [List.take_succ, hbi]; rfl
        have hdl : d < s.length := (List.getElem?_eq_some_iff.mp hsd).1
        have pre : bs.flatMap (cells l) = ((bs.take i).flatMap (cells l) ++ cells l b) ++ (bs.drop (i + 1)).flatMap (cells l) := by
          have e : bs = (bs.take i ++ [b]) ++ bs.drop (i + 1) := by rw [← et, List.take_append_drop]
          conv => lhs; rw [e]
          rw [List.flatMap_append, List.flatMap_append, List.flatMap_cons, List.flatMap_nil, List.append_nil]
        have nd2 : ((bs.take i).flatMap (cells l) ++ cells l b).Nodup := by
          rw [pre] at nd
          exact (List.nodup_append.mp nd).1
        have len2 : ((bs.take i).flatMap (cells l)).length + (cells l b).length < 16777216 := by
          have := congrArg List.length pre
          rw [tot, List.length_append, List.length_append] at this
          omega
        obtain ⟨y', s', e1, e2, e3⟩ := inner_ok (w := w) (h := h) (l := l) (q := .tup (bs.map dB)) (b := b) (d := d) (cs := cells l b) (kvs := kvsOf l (bs.take i)) (dn := (bs.take i).flatMap (cells l)) (st := s) hsd (kvs_keys l _) nd2 len2 z
        refine ⟨_, [some (.tup [.int w, .int h, .int l]), some (.tup (bs.map dB)), some (.int w), some (.int h), some (.int l), some (.loc d), some (dB b), y'], s', rfl, .inl ?_, ⟨_, _, rfl⟩, gr.trans e2, ?_⟩
        · have inn : F [some (.tup [.int w, .int h, .int l]), some (.tup (bs.map dB)), some (.int w), some (.int h), some (.int l), some (.loc d), some (dB b), z] s = .nx [some (.tup [.int w, .int h, .int l]), some (.tup (bs.map dB)), some (.int w), some (.int h), some (.int l), some (.loc d), some (dB b), y'] s' := by
            rw [← hF]
            unfold sFor
            simp only [iL, Int.cast_ofNat_Int, Nat.zero_add, Int.reduceEq, Int.reduceNe, Int.reduceLT, Int.reduceLE, Int.reduceGT, Int.reduceGE, Int.reduceAdd, Int.reduceSub, Int.reduceMul, Int.reduceNeg, Int.reduceMod, Int.reduceDiv, Nat.reduceLeDiff, slZ_tup, eqD_int, neD_int, eqD_bl, neD_bl, ixT0, ixT1, ixT2, ixF0, ixF1, ixF2, lenT, lenZ, addZ_frz, addZ_loc_frz, addL_loc_frz, beq_self_eq_true, runDef_eq, start3, finR, sSeq, sSet, sExpr, sRet, sRetN, sIf, sPar2, sAsg, sSetIx, sNil, RS.andThen_nx, RS.andThen_rt, RS.andThen_exn, R.toS_ok, R.toS_exn, kv, kc, k1, k2, kA0, kA1, kF, kM, kIf, kTr, kTb, tAnd3, tOr3, tNot3, kAndV, kOrV, kNotV, kChain, R.bind_ok, R.bind_exn, gN, gT, gs0, gs1, List.map_cons, List.map_nil, List.length_cons, List.length_nil, List.replicate, List.cons_append, List.nil_append, List.getElem?_cons_zero, List.getElem?_cons_succ, List.set_cons_zero, List.set_cons_succ, Nat.reduceAdd, Nat.reduceSub, if_true, if_false, Bool.false_eq_true, Bool.true_eq_false, reduceIte, Bool.not_true, Bool.not_false, Option.bind_some, decide_true, decide_false, hc, Src.fuel]
            have : ((cells l b).map dC).length = (cells l b).length := by simp
            rw [this]
            exact e1
          simp only [Int.cast_ofNat_Int, Nat.zero_add, Int.reduceEq, Int.reduceNe, Int.reduceLT, Int.reduceLE, Int.reduceGT, Int.reduceGE, Int.reduceAdd, Int.reduceSub, Int.reduceMul, Int.reduceNeg, Int.reduceMod, Int.reduceDiv, Nat.reduceLeDiff, slZ_tup, eqD_int, neD_int, eqD_bl, neD_bl, ixT0, ixT1, ixT2, ixF0, ixF1, ixF2, lenT, lenZ, addZ_frz, addZ_loc_frz, addL_loc_frz, beq_self_eq_true, runDef_eq, start3, finR, sSeq, sSet, sExpr, sRet, sRetN, sIf, sPar2, sAsg, sSetIx, sNil, RS.andThen_nx, RS.andThen_rt, RS.andThen_exn, R.toS_ok, R.toS_exn, kv, kc, k1, k2, kA0, kA1, kF, kM, kIf, kTr, kTb, tAnd3, tOr3, tNot3, kAndV, kOrV, kNotV, kChain, R.bind_ok, R.bind_exn, gN, gT, gs0, gs1, List.map_cons, List.map_nil, List.length_cons, List.length_nil, List.replicate, List.cons_append, List.nil_append, List.getElem?_cons_zero, List.getElem?_cons_succ, List.set_cons_zero, List.set_cons_succ, Nat.reduceAdd, Nat.reduceSub, if_true, if_false, Bool.false_eq_true, Bool.true_eq_false, reduceIte, Bool.not_true, Bool.not_false, Option.bind_some, decide_true, decide_false, hb, hw b s (cover_within c hl hbm), truD, inn]
        · rw [e3, et]
          unfold kvsOf
          rw [List.flatMap_append, List.flatMap_cons, List.flatMap_nil, List.append_nil])
      (bs.map dB).length 0 _ s1 ((bs.map dB).length + 1) (by omega) (by omega) (by omega) ⟨⟨none, none, rfl⟩, .refl, by simpa [kvsOf] using hs1d⟩
    refine ⟨y, z, st', ?_, q3, by rw [q4, List.length_map, List.take_length]⟩
    rw [← hG, ← q2]
    exact q1
  obtain ⟨y, z, st', hl1, gr, hd'⟩ := loop
  refine ⟨d, st', ?_, by omega, fun m o hm => ?_, ?_, hd'⟩
  · unfold b_covered_cells
    rw [hF, hG]
    have i0 : ∀ s : Sto, ixX (.tup [.int (w : Int), .int h, .int l]) (.int 0) s = .ok (.int w) s := fun s => by
      simp only [ixX, dGet, ixD, atI_zero]
    have i1 : ∀ s : Sto, ixX (.tup [.int (w : Int), .int h, .int l]) (.int 1) s = .ok (.int h) s := fun s => by
      simp only [ixX, dGet, ixD, atI_one]
    have mo : mulOk (w : Int) (h : Int) := mul_small (by omega)
    have ml : ∀ s : Sto, mulD (.int (w : Int)) (.int (h : Int)) s = .ok (.int ((w : Int) * (h : Int))) s := fun s => by
      unfold mulD
      simp only
      rw [if_pos mo]
    have gt : decide ((400 : Int) < (w : Int) * (h : Int)) = false := by
      rw [decide_eq_false_iff_not]
      have : ((w * h : Nat) : Int) ≤ 400 := by omega
      rw [Int.natCast_mul] at this
      omega
    have ln : lenX [.loc d] st' = .ok (.int ((kvsOf l bs).length : Int)) st' := by simp only [lenX, hd']
    have kl : ((kvsOf l bs).length : Int) = (w : Int) * (h : Int) := by
      have := congrArg List.length (kvs_keys l bs)
      rw [List.length_map, List.length_map, tot] at this
      rw [this, Int.natCast_mul]
    obtain ⟨M, hM⟩ : ∃ M, k2 mulD (k2 ixX (kv 0) (kc (.int 0))) (k2 ixX (kv 0) (kc (.int 1))) = M := ⟨_, rfl⟩
    obtain ⟨N, hN⟩ : ∃ N, k2 mulD (kv 2) (kv 3) = N := ⟨_, rfl⟩
    have hMv : ∀ s : Sto, M [some (.tup [.int (w : Int), .int h, .int l]), some (.tup (bs.map dB)), none, none, none, none, none, none] s = .ok (.int ((w : Int) * (h : Int))) s := fun s => by
      rw [← hM]
      exact (k2_ok (x := .int w) (y := .int h) (st1 := s) (st2 := s) (i0 s) (i1 s)).trans (ml s)
    have hNv : N [some (.tup [.int w, .int h, .int l]), some (.tup (bs.map dB)), some (.int w), some (.int h), some (.int l), some (.loc d), y, z] st' = .ok (.int ((w : Int) * (h : Int))) st' := by
      rw [← hN]
      exact (k2_ok (x := .int w) (y := .int h) (st1 := st') (st2 := st') rfl rfl).trans (ml st')
    rw [hM, hN]
    clear hM hN ml i0 i1
    simp only [Int.cast_ofNat_Int, Nat.zero_add, Int.reduceEq, Int.reduceNe, Int.reduceLT, Int.reduceLE, Int.reduceGT, Int.reduceGE, Int.reduceAdd, Int.reduceSub, Int.reduceMul, Int.reduceNeg, Int.reduceMod, Int.reduceDiv, Nat.reduceLeDiff, slZ_tup, eqD_int, neD_int, eqD_bl, neD_bl, ixT0, ixT1, ixT2, ixF0, ixF1, ixF2, lenT, lenZ, addZ_frz, addZ_loc_frz, addL_loc_frz, beq_self_eq_true, runDef_eq, start3, finR, sSeq, sSet, sExpr, sRet, sRetN, sIf, sPar2, sAsg, sSetIx, sNil, RS.andThen_nx, RS.andThen_rt, RS.andThen_exn, R.toS_ok, R.toS_exn, kv, kc, k1, k2, kA0, kA1, kF, kM, kIf, kTr, kTb, tAnd3, tOr3, tNot3, kAndV, kOrV, kNotV, kChain, R.bind_ok, R.bind_exn, gN, gT, gs0, gs1, List.map_cons, List.map_nil, List.length_cons, List.length_nil, List.replicate, List.cons_append, List.nil_append, List.getElem?_cons_zero, List.getElem?_cons_succ, List.set_cons_zero, List.set_cons_succ, Nat.reduceAdd, Nat.reduceSub, if_true, if_false, Bool.false_eq_true, Bool.true_eq_false, reduceIte, Bool.not_true, Bool.not_false, Option.bind_some, decide_true, decide_false, hg, truD, hMv, hNv, cmpD, gtD, gt, sAsg, kDT0, hd, hs1, hl1, ln, ne_int_same kl]
  · refine gr.keep m o (fun e => ?_) ?_
    · subst e
      have := (List.getElem?_eq_some_iff.mp hm).1
      omega
    · rw [← hs1, List.getElem?_append_left (List.getElem?_eq_some_iff.mp hm).1]
      exact hm
  · have := gr.len
    rw [← hs1] at this
    simp only [List.length_append] at this
    omega
end Fl

namespace Fl
open PySem L2 L3 Tile
def leB (a b : Bar) : Bool := leRow (dB a) (dB b)
def sortB (bs : List Bar) : List Bar := bs.mergeSort leB
theorem dB_row (b : Bar) : rowOk (dB b) = true := by
  obtain ⟨x, y, a⟩ := b
  rfl
theorem dB_inj {a b : Bar} (h : dB a = dB b) : a = b := by
  obtain ⟨x, y, p⟩ := a
  obtain ⟨u, v, q⟩ := b
  unfold dB at h
  simp only at h
  injection h with h
  injection h with h1 h
  injection h with h2 h
  injection h with h3 _
  injection h1 with h1
  injection h2 with h2
  injection h3 with h3
  subst h1 h2
  have : p = q := by
    cases p <;> cases q <;> first | rfl | (exact absurd h3 (by decide +kernel))
  rw [this]
theorem dB_same (a b : Bar) : sameK (keyOf (dB a)) (keyOf (dB b)) = true := by
  obtain ⟨x, y, p⟩ := a
  obtain ⟨u, v, q⟩ := b
  rfl
theorem sortB_perm (bs : List Bar) : (sortB bs).Perm bs := List.mergeSort_perm _ _
theorem sortB_pw (bs : List Bar) : (sortB bs).Pairwise fun a b => leB a b = true :=
  List.pairwise_mergeSort (le := leB) (fun a b c h g => leRow_tr (dB a) (dB b) (dB c) h g) (fun a b => leRow_tot (dB a) (dB b)) bs
theorem sort_eq (bs : List Bar) : sortD (bs.map dB) = (sortB bs).map dB := by
  refine ((List.mergeSort_perm _ _).trans ((sortB_perm bs).map dB).symm).eq_of_pairwise (le := fun a b => leRow a b = true) (fun a b ha hb h1 h2 => ?_) (List.pairwise_mergeSort leRow_tr leRow_tot _) ?_
  · obtain ⟨a', _, rfl⟩ := List.mem_map.mp ((List.mergeSort_perm _ _).mem_iff.mp ha)
    obtain ⟨b', _, rfl⟩ := List.mem_map.mp hb
    exact row_eq (dB_row a') (dB_row b') h1 h2
  · exact List.Pairwise.map _ (fun a b h => h) (sortB_pw bs)
theorem sortB_uniq {bs cs : List Bar} (p : bs.Perm cs) : sortB bs = sortB cs := by
  refine ((sortB_perm bs).trans (p.trans (sortB_perm cs).symm)).eq_of_pairwise (le := fun a b => leB a b = true) (fun a b _ _ h1 h2 => dB_inj (row_eq (dB_row a) (dB_row b) h1 h2)) (sortB_pw bs) (sortB_pw cs)
theorem sortRows_ok {bs : List Bar} {st : Sto} : sortRowsZ (bs.map dB) st = .ok (.frz ((sortB bs).map dB)) st := by
  unfold sortRowsZ
  rw [if_pos, sort_eq]
  rw [Bool.and_eq_true]
  refine ⟨List.all_eq_true.mpr fun d hd => ?_, List.all_eq_true.mpr fun d hd => List.all_eq_true.mpr fun e he => ?_⟩
  · obtain ⟨b, _, rfl⟩ := List.mem_map.mp hd; exact dB_row b
  · obtain ⟨b, _, rfl⟩ := List.mem_map.mp hd
    obtain ⟨c, _, rfl⟩ := List.mem_map.mp he
    exact dB_same b c
/-- a floor stands at n -/
def FloorAt (st : Sto) (n : Nat) (w h l : Nat) (bs : List Bar) : Prop := ∃ d bs0, bs0.Perm bs ∧ st[n]? = some (.ins "Floor" [("_size", .tup [.int w, .int h, .int l]), ("_bars", .tup (bs.map dB)), ("_bar_of", .loc d)]) ∧ st[d]? = some (.dT (kvsOf l bs0))
def CovS (r : L3.Run) (w h l : Nat) (bs : List Bar) : Prop := ∀ st : Sto, ∃ d st', r [.tup [.int w, .int h, .int l], .tup (bs.map dB)] st = .ok (.loc d) st' ∧ st.length ≤ d ∧ (∀ (m : Nat) (o : O), st[m]? = some o → st'[m]? = some o) ∧ st.length ≤ st'.length ∧ st'[d]? = some (.dT (kvsOf l bs))
theorem init_ok {r : L3.Run} {w h l : Nat} {bs : List Bar} (hr : CovS r w h l bs) (hbl : bs.length ≤ 1000) {st : Sto} {n : Nat} (hn : st[n]? = some (.ins "Floor" [])) :
    ∃ st', runStar 4 2 (b_Floor___init__ r) (.loc n :: .tup [.int w, .int h, .int l] :: bs.map dB) st = .ok .non st' ∧ (∀ (m : Nat) (o : O), m ≠ n → st[m]? = some o → st'[m]? = some o) ∧ st.length ≤ st'.length ∧ FloorAt st' n w h l (sortB bs) := by
  obtain ⟨d, st1, e1, hdl, kp1, l1, hdd⟩ := hr st
  have hnl0 : n < st.length := (List.getElem?_eq_some_iff.mp hn).1
  have hdn : d ≠ n := by omega
  have h1 := kp1 n _ hn
  have hnl : n < st1.length := (List.getElem?_eq_some_iff.mp h1).1
  obtain ⟨s2, hs2⟩ : ∃ s, st1.set n (.ins "Floor" [("_size", .tup [.int w, .int h, .int l])]) = s := ⟨_, rfl⟩
  have g2 : s2[n]? = some (.ins "Floor" [("_size", .tup [.int w, .int h, .int l])]) := by rw [← hs2, List.getElem?_set_self hnl]
  have l2 : s2.length = st1.length := by rw [← hs2]; simp
  obtain ⟨s3, hs3⟩ : ∃ s, s2 = s := ⟨_, rfl⟩
  have g3 : s3[n]? = some (.ins "Floor" [("_size", .tup [.int w, .int h, .int l])]) := by rw [← hs3]; exact g2
  have l3 : s3.length = s2.length := by rw [← hs3]
  obtain ⟨s4, hs4⟩ : ∃ s, s3.set n (.ins "Floor" [("_size", .tup [.int w, .int h, .int l]), ("_bars", .tup ((sortB bs).map dB))]) = s := ⟨_, rfl⟩
  have g4 : s4[n]? = some (.ins "Floor" [("_size", .tup [.int w, .int h, .int l]), ("_bars", .tup ((sortB bs).map dB))]) := by rw [← hs4, List.getElem?_set_self (by omega)]
  have l4 : s4.length = s3.length := by rw [← hs4]; simp
  obtain ⟨s5, hs5⟩ : ∃ s, s4.set n (.ins "Floor" [("_size", .tup [.int w, .int h, .int l]), ("_bars", .tup ((sortB bs).map dB)), ("_bar_of", .loc d)]) = s := ⟨_, rfl⟩
  have g5 : s5[n]? = some (.ins "Floor" [("_size", .tup [.int w, .int h, .int l]), ("_bars", .tup ((sortB bs).map dB)), ("_bar_of", .loc d)]) := by rw [← hs5, List.getElem?_set_self (by omega)]
  have f2 : setFD "Floor" "_size" (.loc n) (.tup [.int w, .int h, .int l]) st1 = some s2 := by
    simp only [setFD, h1]
    rw [if_pos ⟨trivial, by simp⟩, ← hs2]
    rfl
  have f4 : setFD "Floor" "_bars" (.loc n) (.tup ((sortB bs).map dB)) s3 = some s4 := by
    simp only [setFD, g3]
    rw [if_pos ⟨trivial, by simp⟩, ← hs4]
    rfl
  have f5 : setFD "Floor" "_bar_of" (.loc n) (.loc d) s4 = some s5 := by
    simp only [setFD, g4]
    rw [if_pos ⟨trivial, by simp⟩, ← hs5]
    rfl
  have so : sortFZ [.tup (bs.map dB)] s2 = .ok (.frz ((sortB bs).map dB)) s3 := by
    rw [← hs3]
    exact sortRows_ok
  have tu : ∀ xs : List D, tupleF [.frz xs] s3 = .ok (.tup xs) s3 := fun _ => rfl
  refine ⟨s5, ?_, fun m o hm q => ?_, by rw [← hs5]; simp; omega, ⟨d, bs, (sortB_perm bs).symm, g5, by rw [← hs5, List.getElem?_set_ne (Ne.symm hdn), ← hs4, List.getElem?_set_ne (Ne.symm hdn), ← hs3, ← hs2, List.getElem?_set_ne (Ne.symm hdn)]; exact hdd⟩⟩
  · unfold runStar
    rw [if_pos ⟨by simp, by simp; omega⟩]
    have e0 : start3 4 ((D.loc n :: .tup [.int (w : Int), .int h, .int l] :: bs.map dB).take 2 ++ [.tup ((D.loc n :: .tup [.int (w : Int), .int h, .int l] :: bs.map dB).drop 2)]) = [some (.loc n), some (.tup [.int w, .int h, .int l]), some (.tup (bs.map dB)), none] := rfl
    rw [e0]
    simp only [b_Floor___init__, Int.cast_ofNat_Int, Nat.zero_add, Int.reduceEq, Int.reduceNe, Int.reduceLT, Int.reduceLE, Int.reduceGT, Int.reduceGE, Int.reduceAdd, Int.reduceSub, Int.reduceMul, Int.reduceNeg, Int.reduceMod, Int.reduceDiv, Nat.reduceLeDiff, slZ_tup, eqD_int, neD_int, eqD_bl, neD_bl, ixT0, ixT1, ixT2, ixF0, ixF1, ixF2, lenT, lenZ, addZ_frz, addZ_loc_frz, addL_loc_frz, beq_self_eq_true, runDef_eq, start3, finR, sSeq, sSet, sExpr, sRet, sRetN, sIf, sPar2, sAsg, sSetIx, sNil, RS.andThen_nx, RS.andThen_rt, RS.andThen_exn, R.toS_ok, R.toS_exn, kv, kc, k1, k2, kA0, kA1, kF, kM, kIf, kTr, kTb, tAnd3, tOr3, tNot3, kAndV, kOrV, kNotV, kChain, R.bind_ok, R.bind_exn, gN, gT, gs0, gs1, List.map_cons, List.map_nil, List.length_cons, List.length_nil, List.replicate, List.cons_append, List.nil_append, List.getElem?_cons_zero, List.getElem?_cons_succ, List.set_cons_zero, List.set_cons_succ, Nat.reduceAdd, Nat.reduceSub, if_true, if_false, Bool.false_eq_true, Bool.true_eq_false, reduceIte, Bool.not_true, Bool.not_false, Option.bind_some, decide_true, decide_false, e1, isN, L3.isNon, sFldSet, f2, so, tu, f4, f5]
  · rw [← hs5, List.getElem?_set_ne (Ne.symm hm), ← hs4, List.getElem?_set_ne (Ne.symm hm), ← hs3]
    have q1 := kp1 m o q
    rw [← hs2, List.getElem?_set_ne (Ne.symm hm)]
    exact q1
end Fl
namespace Tile
theorem cells_len (l : Nat) (b : Bar) : (cells l b).length = l := by unfold cells; simp
theorem bars_le {l : Nat} (hl : 0 < l) : ∀ bs : List Bar, bs.length ≤ (bs.flatMap (cells l)).length
  | [] => Nat.le_refl _
  | b :: bs => by
    have := bars_le hl bs
    rw [List.flatMap_cons, List.length_append, cells_len, List.length_cons]
    omega
end Tile
namespace Fl
open PySem L2 L3 Tile
/-- all stands; the store grows -/
structure Stands (a b : Sto) : Prop where
  keep : ∀ (m : Nat) (o : O), a[m]? = some o → b[m]? = some o
  len : a.length ≤ b.length
theorem Stands.refl {a : Sto} : Stands a a := ⟨fun _ _ h => h, Nat.le_refl _⟩
theorem Stands.trans {a b c : Sto} (h : Stands a b) (g : Stands b c) : Stands a c := ⟨fun m o q => g.keep m o (h.keep m o q), Nat.le_trans h.len g.len⟩
theorem Stands.app {a : Sto} (g : Sto) : Stands a (a ++ g) := ⟨fun m o q => by rw [List.getElem?_append_left (List.getElem?_eq_some_iff.mp q).1]; exact q, by simp⟩
theorem FloorAt.stands {a b : Sto} {n w h l : Nat} {bs : List Bar} (s : Stands a b) (f : FloorAt a n w h l bs) : FloorAt b n w h l bs := let ⟨d, b0, p, e1, e2⟩ := f; ⟨d, b0, p, s.keep _ _ e1, s.keep _ _ e2⟩
structure Fits (w h l : Nat) : Prop where
  l2 : 2 ≤ l
  l4 : l ≤ 400
  w1 : 1 ≤ w
  h1 : 1 ≤ h
  w4 : w ≤ 400
  h4 : h ≤ 400
  wh : w * h ≤ 400
theorem Fits.swap {w h l : Nat} (f : Fits w h l) : Fits h w l := ⟨f.l2, f.l4, f.h1, f.w1, f.h4, f.w4, by rw [Nat.mul_comm]; exact f.wh⟩
def InitS (r : L3.Run) : Prop := ∀ (w h l : Nat) (bs : List Bar), Cover w h l bs → Fits w h l → ∀ (st : Sto) (n : Nat), st[n]? = some (.ins "Floor" []) →
  ∃ st', r (.loc n :: .tup [.int w, .int h, .int l] :: bs.map dB) st = .ok .non st' ∧ (∀ (m : Nat) (o : O), m ≠ n → st[m]? = some o → st'[m]? = some o) ∧ st.length ≤ st'.length ∧ FloorAt st' n w h l (sortB bs)
def OfS (r : L3.Run) (C : Addr) : Prop := ∀ (w h l : Nat) (bs : List Bar), Cover w h l bs → Fits w h l → ∀ st : Sto,
  ∃ st', r [.cls C, .tup [.int w, .int h, .int l], .tup (bs.map dB)] st = .ok (.loc st.length) st' ∧ Stands st st' ∧ FloorAt st' st.length w h l (sortB bs)
theorem mk_ok {r : L3.Run} (hi : InitS r) {w h l : Nat} {bs : List Bar} (c : Cover w h l bs) (f : Fits w h l) (st : Sto) : ∃ st', mkD "Floor" r (.tup [.int w, .int h, .int l] :: bs.map dB) st = .ok (.loc st.length) st' ∧ Stands st st' ∧ FloorAt st' st.length w h l (sortB bs) := by
  obtain ⟨st', e1, e2, e3, e4⟩ := hi w h l bs c f (st ++ [.ins "Floor" []]) st.length (by rw [stA0]; rfl)
  refine ⟨st', ?_, ⟨fun m o q => e2 m o (fun z => ?_) ?_, ?_⟩, e4⟩
  · unfold mkD
    rw [e1]
    rfl
  · have := (List.getElem?_eq_some_iff.mp q).1
    omega
  · rw [List.getElem?_append_left (List.getElem?_eq_some_iff.mp q).1]; exact q
  · rw [List.length_append] at e3; omega
theorem of_ok {r : L3.Run} (hi : InitS r) (C : Addr) : OfS (runDef 3 3 (b_Floor_of C r)) C := by
  intro w h l bs c f st
  obtain ⟨st', e1, e2, e3⟩ := mk_ok hi c f st
  refine ⟨st', ?_, e2, e3⟩
  have ka : kA1 (kv 1) (kAS (kv 2) kA0) [some (.cls C), some (.tup [.int w, .int h, .int l]), some (.tup (bs.map dB))] st = .ok (.tup [.int w, .int h, .int l] :: bs.map dB) st := by
    simp only [Int.cast_ofNat_Int, Nat.zero_add, Int.reduceEq, Int.reduceNe, Int.reduceLT, Int.reduceLE, Int.reduceGT, Int.reduceGE, Int.reduceAdd, Int.reduceSub, Int.reduceMul, Int.reduceNeg, Int.reduceMod, Int.reduceDiv, Nat.reduceLeDiff, slZ_tup, eqD_int, neD_int, eqD_bl, neD_bl, ixT0, ixT1, ixT2, ixF0, ixF1, ixF2, lenT, lenZ, addZ_frz, addZ_loc_frz, addL_loc_frz, beq_self_eq_true, runDef_eq, start3, finR, sSeq, sSet, sExpr, sRet, sRetN, sIf, sPar2, sAsg, sSetIx, sNil, RS.andThen_nx, RS.andThen_rt, RS.andThen_exn, R.toS_ok, R.toS_exn, kv, kc, k1, k2, kA0, kA1, kF, kM, kIf, kTr, kTb, tAnd3, tOr3, tNot3, kAndV, kOrV, kNotV, kChain, R.bind_ok, R.bind_exn, gN, gT, gs0, gs1, List.map_cons, List.map_nil, List.length_cons, List.length_nil, List.replicate, List.cons_append, List.nil_append, List.getElem?_cons_zero, List.getElem?_cons_succ, List.set_cons_zero, List.set_cons_succ, Nat.reduceAdd, Nat.reduceSub, if_true, if_false, Bool.false_eq_true, Bool.true_eq_false, reduceIte, Bool.not_true, Bool.not_false, Option.bind_some, decide_true, decide_false, kAS, List.append_nil]
  obtain ⟨A, hA⟩ : ∃ A, kA1 (kv 1) (kAS (kv 2) kA0) = A := ⟨_, rfl⟩
  rw [hA] at ka
  unfold b_Floor_of
  rw [hA]
  simp only [Int.cast_ofNat_Int, Nat.zero_add, Int.reduceEq, Int.reduceNe, Int.reduceLT, Int.reduceLE, Int.reduceGT, Int.reduceGE, Int.reduceAdd, Int.reduceSub, Int.reduceMul, Int.reduceNeg, Int.reduceMod, Int.reduceDiv, Nat.reduceLeDiff, slZ_tup, eqD_int, neD_int, eqD_bl, neD_bl, ixT0, ixT1, ixT2, ixF0, ixF1, ixF2, lenT, lenZ, addZ_frz, addZ_loc_frz, addL_loc_frz, beq_self_eq_true, runDef_eq, start3, finR, sSeq, sSet, sExpr, sRet, sRetN, sIf, sPar2, sAsg, sSetIx, sNil, RS.andThen_nx, RS.andThen_rt, RS.andThen_exn, R.toS_ok, R.toS_exn, kv, kc, k1, k2, kA0, kA1, kF, kM, kIf, kTr, kTb, tAnd3, tOr3, tNot3, kAndV, kOrV, kNotV, kChain, R.bind_ok, R.bind_exn, gN, gT, gs0, gs1, List.map_cons, List.map_nil, List.length_cons, List.length_nil, List.replicate, List.cons_append, List.nil_append, List.getElem?_cons_zero, List.getElem?_cons_succ, List.set_cons_zero, List.set_cons_succ, Nat.reduceAdd, Nat.reduceSub, if_true, if_false, Bool.false_eq_true, Bool.true_eq_false, reduceIte, Bool.not_true, Bool.not_false, Option.bind_some, decide_true, decide_false, istup_tup, truD, kMkV, ka, e1]
theorem init_S {rs rb rl rc : L3.Run} (hs : ∀ (w h l : Nat), Fits w h l → ∀ st : Sto, rs [.tup [.int w, .int h, .int l]] st = .ok (.bl true) st) (hb : ∀ (b : Bar) (st : Sto), rb [dB b] st = .ok (.bl true) st)
    (hw : ∀ (w h l : Nat) (b : Bar) (st : Sto), Within w h l b → rl [.tup [.int w, .int h, .int l], dB b] st = .ok (.bl true) st) (hc : ∀ (l : Nat) (b : Bar) (st : Sto), l ≤ 1000 → rc [dB b, .int l] st = .ok (.frz ((cells l b).map dC)) st) :
    InitS (runStar 4 2 (b_Floor___init__ (runDef 8 2 (b_covered_cells rs rb rl rc)))) := by
  intro w h l bs c f st n hn
  have hl : 0 < l := by have := f.l2; omega
  have hbl : bs.length ≤ 1000 := by
    have h1 := bars_le hl bs
    have h2 : (bs.flatMap (cells l)).length = w * h := by rw [c.length_eq, grid_len]
    have := f.wh
    omega
  exact init_ok (fun st => covered_ok (hs w h l f) hb (hw w h l) (fun b st => hc l b st (by have := f.l4; omega)) c hl f.wh f.w4 f.h4 st) hbl hn
theorem size_ok {rw' : L3.Run} (hw : ∀ (i : Int) (st : Sto), rw' [.int i] st = .ok (.bl true) st) {w h l : Nat} (f : Fits w h l) (st : Sto) : runDef 5 1 (b_is_size rw') [.tup [.int w, .int h, .int l]] st = .ok (.bl true) st := by
  obtain ⟨L, hL⟩ : ∃ L, kLz [4] (gN 4) (iT (kv 0)) kTrue (kF rw' (kA1 (kv 4) kA0)) = L := ⟨_, rfl⟩
  have lc : L [some (.tup [.int w, .int h, .int l]), none, none, none, none] st = .ok (.frz (([.int (w : Int), .int h, .int l] : List D).map fun d => D.bl ((fun _ => true) d))) st := by
    rw [← hL, lz_map (xs := [.int (w : Int), .int h, .int l]) (fun d => D.bl ((fun _ => true) d)) rfl (by simp) fun d hd => ?_]
    obtain ⟨i, rfl⟩ : ∃ i : Int, d = .int i := by
      simp only [List.mem_cons, List.not_mem_nil, or_false] at hd
      rcases hd with rfl | rfl | rfl <;> exact ⟨_, rfl⟩
    exact ⟨[some (.tup [.int w, .int h, .int l]), none, none, none, some (.int i)], rfl, by simp only [Int.cast_ofNat_Int, Nat.zero_add, Int.reduceEq, Int.reduceNe, Int.reduceLT, Int.reduceLE, Int.reduceGT, Int.reduceGE, Int.reduceAdd, Int.reduceSub, Int.reduceMul, Int.reduceNeg, Int.reduceMod, Int.reduceDiv, Nat.reduceLeDiff, slZ_tup, eqD_int, neD_int, eqD_bl, neD_bl, ixT0, ixT1, ixT2, ixF0, ixF1, ixF2, lenT, lenZ, addZ_frz, addZ_loc_frz, addL_loc_frz, beq_self_eq_true, runDef_eq, start3, finR, sSeq, sSet, sExpr, sRet, sRetN, sIf, sPar2, sAsg, sSetIx, sNil, RS.andThen_nx, RS.andThen_rt, RS.andThen_exn, R.toS_ok, R.toS_exn, kv, kc, k1, k2, kA0, kA1, kF, kM, kIf, kTr, kTb, tAnd3, tOr3, tNot3, kAndV, kOrV, kNotV, kChain, R.bind_ok, R.bind_exn, gN, gT, gs0, gs1, List.map_cons, List.map_nil, List.length_cons, List.length_nil, List.replicate, List.cons_append, List.nil_append, List.getElem?_cons_zero, List.getElem?_cons_succ, List.set_cons_zero, List.set_cons_succ, Nat.reduceAdd, Nat.reduceSub, if_true, if_false, Bool.false_eq_true, Bool.true_eq_false, reduceIte, Bool.not_true, Bool.not_false, Option.bind_some, decide_true, decide_false, hw]⟩
  unfold b_is_size
  rw [hL]
  have c1 : decide ((1 : Int) ≤ (w : Int)) = true := decide_eq_true (by have := f.w1; omega)
  have c2 : decide ((w : Int) ≤ 1000000000000000000000000000000) = true := decide_eq_true (by have := f.w4; omega)
  have c3 : decide ((1 : Int) ≤ (h : Int)) = true := decide_eq_true (by have := f.h1; omega)
  have c4 : decide ((h : Int) ≤ 1000000000000000000000000000000) = true := decide_eq_true (by have := f.h4; omega)
  have c5 : decide ((2 : Int) ≤ (l : Int)) = true := decide_eq_true (by have := f.l2; omega)
  have c6 : decide ((l : Int) ≤ 1000000000000000000000000000000) = true := decide_eq_true (by have := f.l4; omega)
  have al : ∀ st : Sto, allF [.frz (([.int (w : Int), .int h, .int l] : List D).map fun d => D.bl ((fun _ => true) d))] st = .ok (.bl true) st := fun st => by rw [all_frz]; rfl
  have e3 : ∀ st : Sto, neD (.int ((0 + 1 + 1 + 1 : Nat) : Int)) (.int 3) st = .ok (.bl false) st := fun _ => rfl
  simp only [List.map_cons, List.map_nil] at lc al
  simp only [Int.cast_ofNat_Int, Nat.zero_add, Int.reduceEq, Int.reduceNe, Int.reduceLT, Int.reduceLE, Int.reduceGT, Int.reduceGE, Int.reduceAdd, Int.reduceSub, Int.reduceMul, Int.reduceNeg, Int.reduceMod, Int.reduceDiv, Nat.reduceLeDiff, slZ_tup, eqD_int, neD_int, eqD_bl, neD_bl, ixT0, ixT1, ixT2, ixF0, ixF1, ixF2, lenT, lenZ, addZ_frz, addZ_loc_frz, addL_loc_frz, beq_self_eq_true, runDef_eq, start3, finR, sSeq, sSet, sExpr, sRet, sRetN, sIf, sPar2, sAsg, sSetIx, sNil, RS.andThen_nx, RS.andThen_rt, RS.andThen_exn, R.toS_ok, R.toS_exn, kv, kc, k1, k2, kA0, kA1, kF, kM, kIf, kTr, kTb, tAnd3, tOr3, tNot3, kAndV, kOrV, kNotV, kChain, R.bind_ok, R.bind_exn, gN, gT, gs0, gs1, List.map_cons, List.map_nil, List.length_cons, List.length_nil, List.replicate, List.cons_append, List.nil_append, List.getElem?_cons_zero, List.getElem?_cons_succ, List.set_cons_zero, List.set_cons_succ, Nat.reduceAdd, Nat.reduceSub, if_true, if_false, Bool.false_eq_true, Bool.true_eq_false, reduceIte, Bool.not_true, Bool.not_false, Option.bind_some, decide_true, decide_false, frzF, tupF, listZ, addD, subD, mulD, fdivD, modD, cmpD, ltD, leD, gtD, geD, negD, absF, maxF, minF, intF, truD, strF, istup_tup, e3, lc, al, c1, c2, c3, c4, c5, c6]
end Fl

namespace Fl
open PySem L2 L3 Tile
theorem fld_size {st : Sto} {n w h l : Nat} {bs : List Bar} (f : FloorAt st n w h l bs) : fldD "Floor" "_size" (.loc n) st = .ok (.tup [.int w, .int h, .int l]) st := by
  obtain ⟨d, b0, p, e, e2⟩ := f
  simp only [fldD, e]
  rfl
theorem fld_bars {st : Sto} {n w h l : Nat} {bs : List Bar} (f : FloorAt st n w h l bs) : fldD "Floor" "_bars" (.loc n) st = .ok (.tup (bs.map dB)) st := by
  obtain ⟨d, b0, p, e, e2⟩ := f
  simp only [fldD, e]
  rfl
def OtherS (r : L3.Run) : Prop := ∀ (a : Bool) (st : Sto), r [.str (WAY a)] st = .ok (.str (WAY (!a))) st
def MoveS (r : L3.Run) (g : Nat → Nat → Nat → Bar → Bar) (sw : Bool) : Prop := ∀ (w h l : Nat) (bs : List Bar) (st : Sto) (n : Nat), FloorAt st n w h l bs → Cover w h l bs → Fits w h l →
  ∃ n' st', r [.loc n] st = .ok (.loc n') st' ∧ Stands st st' ∧ st.length ≤ n' ∧ (if sw = true then FloorAt st' n' h w l (sortB (bs.map (g w h l))) else FloorAt st' n' w h l (sortB (bs.map (g w h l))))
theorem ex_ok {C : Addr} {ro rf : L3.Run} (ho : OtherS ro) (hf : OfS rf C) : MoveS (runDef 8 1 (b_Floor_exchanged C ro rf)) (fun _ _ _ => exB) true := by
  intro w h l bs st n fl c f
  obtain ⟨L, hL⟩ : ∃ L, kLz [5, 6, 7] (gT 3 (gs1 (gN 5) (gs1 (gN 6) (gs1 (gN 7) gs0)))) (iT (k1 (fldD "Floor" "_bars") (kv 0))) kTrue (kF tupF (kA1 (kv 6) (kA1 (kv 5) (kA1 (kF ro (kA1 (kv 7) kA0)) kA0)))) = L := ⟨_, rfl⟩
  have lc : L [some (.loc n), some (.int w), some (.int h), some (.int l), none, none, none, none] st = .ok (.frz ((bs.map exB).map dB)) st := by
    rw [← hL, lz_map (xs := bs.map dB) (fun d => match d with | .tup [.int x, .int y, .str s] => .tup [.int y, .int x, .str (if s = WAY true then WAY false else WAY true)] | d => d) ?_ ?_ fun d hd => ?_]
    · rw [List.map_map, List.map_map]
      congr 2
      refine List.map_congr_left fun b _ => ?_
      obtain ⟨x, y, a⟩ := b
      cases a with
      | true => simp [dB, exB]
      | false =>
        have : ¬ WAY false = WAY true := by decide +kernel
        simp [dB, exB, this]
    · simp only [iT, Int.cast_ofNat_Int, Nat.zero_add, Int.reduceEq, Int.reduceNe, Int.reduceLT, Int.reduceLE, Int.reduceGT, Int.reduceGE, Int.reduceAdd, Int.reduceSub, Int.reduceMul, Int.reduceNeg, Int.reduceMod, Int.reduceDiv, Nat.reduceLeDiff, slZ_tup, eqD_int, neD_int, eqD_bl, neD_bl, ixT0, ixT1, ixT2, ixF0, ixF1, ixF2, lenT, lenZ, addZ_frz, addZ_loc_frz, addL_loc_frz, beq_self_eq_true, runDef_eq, start3, finR, sSeq, sSet, sExpr, sRet, sRetN, sIf, sPar2, sAsg, sSetIx, sNil, RS.andThen_nx, RS.andThen_rt, RS.andThen_exn, R.toS_ok, R.toS_exn, kv, kc, k1, k2, kA0, kA1, kF, kM, kIf, kTr, kTb, tAnd3, tOr3, tNot3, kAndV, kOrV, kNotV, kChain, R.bind_ok, R.bind_exn, gN, gT, gs0, gs1, List.map_cons, List.map_nil, List.length_cons, List.length_nil, List.replicate, List.cons_append, List.nil_append, List.getElem?_cons_zero, List.getElem?_cons_succ, List.set_cons_zero, List.set_cons_succ, Nat.reduceAdd, Nat.reduceSub, if_true, if_false, Bool.false_eq_true, Bool.true_eq_false, reduceIte, Bool.not_true, Bool.not_false, Option.bind_some, decide_true, decide_false, fld_bars fl]
    · have hl : 0 < l := by have := f.l2; omega
      have h1 := bars_le hl bs
      have h2 : (bs.flatMap (cells l)).length = w * h := by rw [c.length_eq, grid_len]
      have := f.wh
      rw [List.length_map]
      omega
    · obtain ⟨b, _, rfl⟩ := List.mem_map.mp hd
      obtain ⟨x, y, a⟩ := b
      refine ⟨[some (.loc n), some (.int w), some (.int h), some (.int l), none, some (.int x), some (.int y), some (.str (WAY a))], rfl, ?_⟩
      simp only [Int.cast_ofNat_Int, Nat.zero_add, Int.reduceEq, Int.reduceNe, Int.reduceLT, Int.reduceLE, Int.reduceGT, Int.reduceGE, Int.reduceAdd, Int.reduceSub, Int.reduceMul, Int.reduceNeg, Int.reduceMod, Int.reduceDiv, Nat.reduceLeDiff, slZ_tup, eqD_int, neD_int, eqD_bl, neD_bl, ixT0, ixT1, ixT2, ixF0, ixF1, ixF2, lenT, lenZ, addZ_frz, addZ_loc_frz, addL_loc_frz, beq_self_eq_true, runDef_eq, start3, finR, sSeq, sSet, sExpr, sRet, sRetN, sIf, sPar2, sAsg, sSetIx, sNil, RS.andThen_nx, RS.andThen_rt, RS.andThen_exn, R.toS_ok, R.toS_exn, kv, kc, k1, k2, kA0, kA1, kF, kM, kIf, kTr, kTb, tAnd3, tOr3, tNot3, kAndV, kOrV, kNotV, kChain, R.bind_ok, R.bind_exn, gN, gT, gs0, gs1, List.map_cons, List.map_nil, List.length_cons, List.length_nil, List.replicate, List.cons_append, List.nil_append, List.getElem?_cons_zero, List.getElem?_cons_succ, List.set_cons_zero, List.set_cons_succ, Nat.reduceAdd, Nat.reduceSub, if_true, if_false, Bool.false_eq_true, Bool.true_eq_false, reduceIte, Bool.not_true, Bool.not_false, Option.bind_some, decide_true, decide_false, ho a, tupF, Nat.reduceLeDiff, dB]
      cases a with
      | true => simp
      | false =>
        have : ¬ WAY false = WAY true := by decide +kernel
        simp [this]
  obtain ⟨st', e1, e2, e3⟩ := hf h w l (bs.map exB) (cover_ex c) f.swap st
  refine ⟨st.length, st', ?_, e2, by simp, by simpa using e3⟩
  have tu : tupleF [.frz ((bs.map exB).map dB)] st = .ok (.tup ((bs.map exB).map dB)) st := rfl
  unfold b_Floor_exchanged
  rw [hL]
  simp only [Int.cast_ofNat_Int, Nat.zero_add, Int.reduceEq, Int.reduceNe, Int.reduceLT, Int.reduceLE, Int.reduceGT, Int.reduceGE, Int.reduceAdd, Int.reduceSub, Int.reduceMul, Int.reduceNeg, Int.reduceMod, Int.reduceDiv, Nat.reduceLeDiff, slZ_tup, eqD_int, neD_int, eqD_bl, neD_bl, ixT0, ixT1, ixT2, ixF0, ixF1, ixF2, lenT, lenZ, addZ_frz, addZ_loc_frz, addL_loc_frz, beq_self_eq_true, runDef_eq, start3, finR, sSeq, sSet, sExpr, sRet, sRetN, sIf, sPar2, sAsg, sSetIx, sNil, RS.andThen_nx, RS.andThen_rt, RS.andThen_exn, R.toS_ok, R.toS_exn, kv, kc, k1, k2, kA0, kA1, kF, kM, kIf, kTr, kTb, tAnd3, tOr3, tNot3, kAndV, kOrV, kNotV, kChain, R.bind_ok, R.bind_exn, gN, gT, gs0, gs1, List.map_cons, List.map_nil, List.length_cons, List.length_nil, List.replicate, List.cons_append, List.nil_append, List.getElem?_cons_zero, List.getElem?_cons_succ, List.set_cons_zero, List.set_cons_succ, Nat.reduceAdd, Nat.reduceSub, if_true, if_false, Bool.false_eq_true, Bool.true_eq_false, reduceIte, Bool.not_true, Bool.not_false, Option.bind_some, decide_true, decide_false, fld_size fl, sAsg, lc, kCm, tupF, Nat.reduceLeDiff, tu, e1]
theorem mir_ok {C : Addr} {rf : L3.Run} (hf : OfS rf C) : MoveS (runDef 9 1 (b_Floor_mirrored C rf)) (fun w _ l => mirB w l) false := by
  intro w h l bs st n fl c f
  have hl : 0 < l := by have := f.l2; omega
  have hbl : bs.length ≤ 1000 := by
    have h1 := bars_le hl bs
    have h2 : (bs.flatMap (cells l)).length = w * h := by rw [c.length_eq, grid_len]
    have := f.wh
    omega
  have hnl : n < st.length := let ⟨_, _, _, e, _⟩ := fl; (List.getElem?_eq_some_iff.mp e).1
  obtain ⟨G, hG⟩ : ∃ G, sFor (gT 3 (gs1 (gN 5) (gs1 (gN 6) (gs1 (gN 7) gs0)))) (iT (k1 (fldD "Floor" "_bars") (kv 0))) (sSeq (sSet 8 (kIf (kTb (k2 eqD (kv 7) (kc (.str "across")))) (k2 subD (k2 addD (kv 5) (kv 3)) (kc (.int 1))) (kv 5)))
    (sExpr (kM (tyD "list") appendM (kv 4) (kA1 (kF tupF (kA1 (k2 subD (k2 subD (kv 1) (kc (.int 1))) (kv 8)) (kA1 (kv 6) (kA1 (kv 7) kA0)))) kA0)))) = G := ⟨_, rfl⟩
  have fl1 : FloorAt (st ++ [.lst []]) n w h l bs := fl.stands (Stands.app _)
  have loop : ∃ x5 x6 x7 x8 st', G [some (.loc n), some (.int w), some (.int h), some (.int l), some (.loc st.length), none, none, none, none] (st ++ [.lst []])
      = .nx [some (.loc n), some (.int w), some (.int h), some (.int l), some (.loc st.length), x5, x6, x7, x8] st' ∧ Grow st.length (st ++ [.lst []]) st' ∧ st'[st.length]? = some (.lst ((bs.map (mirB w l)).map dB)) := by
    obtain ⟨ρ', st', q1, ⟨x5, x6, x7, x8, q2⟩, q3, q4⟩ := for_inv (g := gT 3 (gs1 (gN 5) (gs1 (gN 6) (gs1 (gN 7) gs0)))) (body := sSeq (sSet 8 (kIf (kTb (k2 eqD (kv 7) (kc (.str "across")))) (k2 subD (k2 addD (kv 5) (kv 3)) (kc (.int 1))) (kv 5)))
        (sExpr (kM (tyD "list") appendM (kv 4) (kA1 (kF tupF (kA1 (k2 subD (k2 subD (kv 1) (kc (.int 1))) (kv 8)) (kA1 (kv 6) (kA1 (kv 7) kA0)))) kA0)))) (src := .its (bs.map dB)) (xs := bs.map dB)
      (fun i ρ s => (∃ x5 x6 x7 x8, ρ = [some (.loc n), some (.int w), some (.int h), some (.int l), some (.loc st.length), x5, x6, x7, x8]) ∧ Grow st.length (st ++ [.lst []]) s ∧ s[st.length]? = some (.lst (((bs.take i).map (mirB w l)).map dB))) (fun i ρ s _ => rfl)
      (fun i d ρ s hx ⟨⟨x5, x6, x7, x8, hρ⟩, gr, hs⟩ => by
        subst hρ
        rw [List.getElem?_map] at hx
        obtain ⟨b, hbi, rfl⟩ := Option.map_eq_some_iff.mp hx
        have hil : i < bs.length := (List.getElem?_eq_some_iff.mp hbi).1
        have et : bs.take (i + 1) = bs.take i ++ [b] := by rw [List.take_succ, hbi]; rfl
        have ap : ∀ y : D, appendM (.loc st.length) [y] s = .ok .non (s.set st.length (.lst (((bs.take i).map (mirB w l)).map dB ++ [y]))) := fun y => appendM_ok hs (by simp; omega)
        have ty : tyD "list" (.loc st.length) s = true := tyD_lst hs
        obtain ⟨x, y, a⟩ := b
        refine ⟨_, [some (.loc n), some (.int w), some (.int h), some (.int l), some (.loc st.length), some (.int x), some (.int y), some (.str (WAY a)), some (.int (if a = true then x + (l : Int) - 1 else x))], s.set st.length (.lst (((bs.take i).map (mirB w l)).map dB ++ [dB (mirB w l (x, y, a))])), rfl, .inl ?_, ⟨_, _, _, _, rfl⟩, gr.trans (Grow.set _), ?_⟩
        · cases a with
          | true => simp only [Int.cast_ofNat_Int, Nat.zero_add, Int.reduceEq, Int.reduceNe, Int.reduceLT, Int.reduceLE, Int.reduceGT, Int.reduceGE, Int.reduceAdd, Int.reduceSub, Int.reduceMul, Int.reduceNeg, Int.reduceMod, Int.reduceDiv, Nat.reduceLeDiff, slZ_tup, eqD_int, neD_int, eqD_bl, neD_bl, ixT0, ixT1, ixT2, ixF0, ixF1, ixF2, lenT, lenZ, addZ_frz, addZ_loc_frz, addL_loc_frz, beq_self_eq_true, runDef_eq, start3, finR, sSeq, sSet, sExpr, sRet, sRetN, sIf, sPar2, sAsg, sSetIx, sNil, RS.andThen_nx, RS.andThen_rt, RS.andThen_exn, R.toS_ok, R.toS_exn, kv, kc, k1, k2, kA0, kA1, kF, kM, kIf, kTr, kTb, tAnd3, tOr3, tNot3, kAndV, kOrV, kNotV, kChain, R.bind_ok, R.bind_exn, gN, gT, gs0, gs1, List.map_cons, List.map_nil, List.length_cons, List.length_nil, List.replicate, List.cons_append, List.nil_append, List.getElem?_cons_zero, List.getElem?_cons_succ, List.set_cons_zero, List.set_cons_succ, Nat.reduceAdd, Nat.reduceSub, if_true, if_false, Bool.false_eq_true, Bool.true_eq_false, reduceIte, Bool.not_true, Bool.not_false, Option.bind_some, decide_true, decide_false, dB, way_eq, addD, subD, tupF, Nat.reduceLeDiff, ty, ap, mirB]
          | false => simp only [Int.cast_ofNat_Int, Nat.zero_add, Int.reduceEq, Int.reduceNe, Int.reduceLT, Int.reduceLE, Int.reduceGT, Int.reduceGE, Int.reduceAdd, Int.reduceSub, Int.reduceMul, Int.reduceNeg, Int.reduceMod, Int.reduceDiv, Nat.reduceLeDiff, slZ_tup, eqD_int, neD_int, eqD_bl, neD_bl, ixT0, ixT1, ixT2, ixF0, ixF1, ixF2, lenT, lenZ, addZ_frz, addZ_loc_frz, addL_loc_frz, beq_self_eq_true, runDef_eq, start3, finR, sSeq, sSet, sExpr, sRet, sRetN, sIf, sPar2, sAsg, sSetIx, sNil, RS.andThen_nx, RS.andThen_rt, RS.andThen_exn, R.toS_ok, R.toS_exn, kv, kc, k1, k2, kA0, kA1, kF, kM, kIf, kTr, kTb, tAnd3, tOr3, tNot3, kAndV, kOrV, kNotV, kChain, R.bind_ok, R.bind_exn, gN, gT, gs0, gs1, List.map_cons, List.map_nil, List.length_cons, List.length_nil, List.replicate, List.cons_append, List.nil_append, List.getElem?_cons_zero, List.getElem?_cons_succ, List.set_cons_zero, List.set_cons_succ, Nat.reduceAdd, Nat.reduceSub, if_true, if_false, Bool.false_eq_true, Bool.true_eq_false, reduceIte, Bool.not_true, Bool.not_false, Option.bind_some, decide_true, decide_false, dB, way_eq, addD, subD, tupF, Nat.reduceLeDiff, ty, ap, mirB]
        · rw [List.getElem?_set_self (List.getElem?_eq_some_iff.mp hs).1, et, List.map_append, List.map_append]
          rfl)
      (bs.map dB).length 0 _ (st ++ [.lst []]) ((bs.map dB).length + 1) (by omega) (by omega) (by omega) ⟨⟨none, none, none, none, rfl⟩, .refl, by rw [stA0]; rfl⟩
    refine ⟨x5, x6, x7, x8, st', ?_, q3, by rw [q4, List.length_map, List.take_length]⟩
    rw [← hG, ← q2]
    unfold sFor
    simp only [iT, Int.cast_ofNat_Int, Nat.zero_add, Int.reduceEq, Int.reduceNe, Int.reduceLT, Int.reduceLE, Int.reduceGT, Int.reduceGE, Int.reduceAdd, Int.reduceSub, Int.reduceMul, Int.reduceNeg, Int.reduceMod, Int.reduceDiv, Nat.reduceLeDiff, slZ_tup, eqD_int, neD_int, eqD_bl, neD_bl, ixT0, ixT1, ixT2, ixF0, ixF1, ixF2, lenT, lenZ, addZ_frz, addZ_loc_frz, addL_loc_frz, beq_self_eq_true, runDef_eq, start3, finR, sSeq, sSet, sExpr, sRet, sRetN, sIf, sPar2, sAsg, sSetIx, sNil, RS.andThen_nx, RS.andThen_rt, RS.andThen_exn, R.toS_ok, R.toS_exn, kv, kc, k1, k2, kA0, kA1, kF, kM, kIf, kTr, kTb, tAnd3, tOr3, tNot3, kAndV, kOrV, kNotV, kChain, R.bind_ok, R.bind_exn, gN, gT, gs0, gs1, List.map_cons, List.map_nil, List.length_cons, List.length_nil, List.replicate, List.cons_append, List.nil_append, List.getElem?_cons_zero, List.getElem?_cons_succ, List.set_cons_zero, List.set_cons_succ, Nat.reduceAdd, Nat.reduceSub, if_true, if_false, Bool.false_eq_true, Bool.true_eq_false, reduceIte, Bool.not_true, Bool.not_false, Option.bind_some, decide_true, decide_false, fld_bars fl1, Src.fuel]
    exact q1
  obtain ⟨x5, x6, x7, x8, s1, l1, gr, l3⟩ := loop
  have stn : Stands st s1 := ⟨fun m o q => gr.keep m o (by have := (List.getElem?_eq_some_iff.mp q).1; omega) (by rw [List.getElem?_append_left (List.getElem?_eq_some_iff.mp q).1]; exact q), by have := gr.len; rw [List.length_append] at this; omega⟩
  obtain ⟨st', e1, e2, e3⟩ := hf w h l (bs.map (mirB w l)) (cover_mir c) f s1
  refine ⟨s1.length, st', ?_, stn.trans e2, stn.len, by simpa using e3⟩
  have tu : tupleF [.loc st.length] s1 = .ok (.tup ((bs.map (mirB w l)).map dB)) s1 := by simp only [tupleF, l3]
  unfold b_Floor_mirrored
  rw [hG]
  simp only [Int.cast_ofNat_Int, Nat.zero_add, Int.reduceEq, Int.reduceNe, Int.reduceLT, Int.reduceLE, Int.reduceGT, Int.reduceGE, Int.reduceAdd, Int.reduceSub, Int.reduceMul, Int.reduceNeg, Int.reduceMod, Int.reduceDiv, Nat.reduceLeDiff, slZ_tup, eqD_int, neD_int, eqD_bl, neD_bl, ixT0, ixT1, ixT2, ixF0, ixF1, ixF2, lenT, lenZ, addZ_frz, addZ_loc_frz, addL_loc_frz, beq_self_eq_true, runDef_eq, start3, finR, sSeq, sSet, sExpr, sRet, sRetN, sIf, sPar2, sAsg, sSetIx, sNil, RS.andThen_nx, RS.andThen_rt, RS.andThen_exn, R.toS_ok, R.toS_exn, kv, kc, k1, k2, kA0, kA1, kF, kM, kIf, kTr, kTb, tAnd3, tOr3, tNot3, kAndV, kOrV, kNotV, kChain, R.bind_ok, R.bind_exn, gN, gT, gs0, gs1, List.map_cons, List.map_nil, List.length_cons, List.length_nil, List.replicate, List.cons_append, List.nil_append, List.getElem?_cons_zero, List.getElem?_cons_succ, List.set_cons_zero, List.set_cons_succ, Nat.reduceAdd, Nat.reduceSub, if_true, if_false, Bool.false_eq_true, Bool.true_eq_false, reduceIte, Bool.not_true, Bool.not_false, Option.bind_some, decide_true, decide_false, fld_size fl, fld_size (fl.stands stn), sAsg, lstF, Nat.zero_le, l1, kCm, tu, e1]
end Fl

namespace L3
open PySem L2
theorem minRow_least : ∀ (xs : List D) (x : D), ∀ z ∈ x :: xs, lexK (keyOf z) (keyOf (minRow x xs)) = false
  | [], x, z, hz => by
    rw [List.mem_singleton.mp hz]
    exact lexK_irr _
  | y :: ys, x, z, hz => by
    have O := swo_row (α := D) keyOf
    have e : minRow x (y :: ys) = minRow (if lexK (keyOf y) (keyOf x) = true then y else x) ys := rfl
    rw [e]
    have ih := minRow_least ys (if lexK (keyOf y) (keyOf x) = true then y else x)
    have h0 := ih _ List.mem_cons_self
    rcases List.mem_cons.mp hz with rfl | hz
    · cases h : lexK (keyOf y) (keyOf z) with
      | true => simp only [h, if_true] at h0 ⊢; exact O.tr _ _ _ h0 (O.asym _ _ h)
      | false => simp only [h, Bool.false_eq_true, if_false] at h0 ⊢; exact h0
    · rcases List.mem_cons.mp hz with rfl | hz
      · cases h : lexK (keyOf z) (keyOf x) with
        | true => simp only [h, if_true] at h0 ⊢; exact h0
        | false => simp only [h, Bool.false_eq_true, if_false] at h0 ⊢; exact O.tr _ _ _ h0 h
      · exact ih z (List.mem_cons_of_mem _ hz)
theorem maxRow_most : ∀ (xs : List D) (x : D), ∀ z ∈ x :: xs, lexK (keyOf (maxRow x xs)) (keyOf z) = false
  | [], x, z, hz => by
    rw [List.mem_singleton.mp hz]
    exact lexK_irr _
  | y :: ys, x, z, hz => by
    have O := swo_row (α := D) keyOf
    have e : maxRow x (y :: ys) = maxRow (if lexK (keyOf x) (keyOf y) = true then y else x) ys := rfl
    rw [e]
    have ih := maxRow_most ys (if lexK (keyOf x) (keyOf y) = true then y else x)
    have h0 := ih _ List.mem_cons_self
    rcases List.mem_cons.mp hz with rfl | hz
    · cases h : lexK (keyOf z) (keyOf y) with
      | true => simp only [h, if_true] at h0 ⊢; exact O.tr _ _ _ (O.asym _ _ h) h0
      | false => simp only [h, Bool.false_eq_true, if_false] at h0 ⊢; exact h0
    · rcases List.mem_cons.mp hz with rfl | hz
      · cases h : lexK (keyOf x) (keyOf z) with
        | true => simp only [h, if_true] at h0 ⊢; exact h0
        | false => simp only [h, Bool.false_eq_true, if_false] at h0 ⊢; exact O.tr _ _ _ h h0
      · exact ih z (List.mem_cons_of_mem _ hz)
theorem min_is {xs : List D} {x c : D} (hc : c ∈ x :: xs) (ok : ∀ z ∈ x :: xs, rowOk z = true) (h : ∀ z ∈ x :: xs, lexK (keyOf z) (keyOf c) = false) : minRow x xs = c := by
  refine row_eq (ok _ (minRow_mem xs x)) (ok _ hc) ?_ ?_
  · unfold leRow; rw [minRow_least xs x c hc]; rfl
  · unfold leRow; rw [h _ (minRow_mem xs x)]; rfl
theorem max_is {xs : List D} {x c : D} (hc : c ∈ x :: xs) (ok : ∀ z ∈ x :: xs, rowOk z = true) (h : ∀ z ∈ x :: xs, lexK (keyOf c) (keyOf z) = false) : maxRow x xs = c := by
  refine row_eq (ok _ (maxRow_mem xs x)) (ok _ hc) ?_ ?_
  · unfold leRow; rw [h _ (maxRow_mem xs x)]; rfl
  · unfold leRow; rw [maxRow_most xs x c hc]; rfl
end L3
namespace Fl
open PySem L2 L3 Tile
theorem lexC {a b : Cell} : lexK (keyOf (dC a)) (keyOf (dC b)) = decide (a.1 < b.1 ∨ (a.1 = b.1 ∧ a.2 < b.2)) := by
  obtain ⟨x, y⟩ := a
  obtain ⟨u, v⟩ := b
  show lexK [.inl x, .inl y] [.inl u, .inl v] = _
  unfold lexK
  by_cases h : x = u
  · subst h
    rw [if_pos rfl]
    unfold lexK
    by_cases h2 : y = v
    · subst h2; simp [lexK]
    · rw [if_neg (fun z => h2 (Sum.inl.inj z))]; simp [ltKey]
  · rw [if_neg (fun z => h (Sum.inl.inj z))]
    simp [ltKey, h]
theorem dC_row (c : Cell) : rowOk (dC c) = true := rfl
theorem eq_int {i j : Int} {st : Sto} : eqD (.int i) (.int j) st = .ok (.bl (decide (i = j))) st := by
  simp only [eqD, pd]
  rw [if_pos ⟨rfl, rfl⟩]
  simp only [PyData.eqv]
  congr 2
theorem mm_ok {mx : Bool} {f : List D → Sto → R D} {cs : List Cell} {st : Sto} {c : Cell} (hc : c ∈ cs) (h : ∀ z ∈ cs, if mx = true then ¬ (c.1 < z.1 ∨ (c.1 = z.1 ∧ c.2 < z.2)) else ¬ (z.1 < c.1 ∨ (z.1 = c.1 ∧ z.2 < c.2))) : mmX mx f [.frz (cs.map dC)] st = .ok (dC c) st := by
  cases cs with
  | nil => cases hc
  | cons a as =>
    have e : mmX mx f [.frz ((a :: as).map dC)] st = mmRows mx (dC a :: as.map dC) st := rfl
    rw [e]
    have okc : ∀ z ∈ dC a :: as.map dC, rowOk z = true := fun z hz => by
      rw [← List.map_cons] at hz
      obtain ⟨c', _, rfl⟩ := List.mem_map.mp hz
      rfl
    have hc' : dC c ∈ dC a :: as.map dC := by rw [← List.map_cons]; exact List.mem_map.mpr ⟨c, hc, rfl⟩
    unfold mmRows
    simp only
    rw [if_pos]
    · cases mx with
      | true =>
        rw [if_pos rfl, max_is hc' okc fun z hz => ?_]
        rw [← List.map_cons] at hz
        obtain ⟨c', h1, rfl⟩ := List.mem_map.mp hz
        rw [lexC]
        exact decide_eq_false (by simpa using h c' h1)
      | false =>
        rw [if_neg (by simp), min_is hc' okc fun z hz => ?_]
        rw [← List.map_cons] at hz
        obtain ⟨c', h1, rfl⟩ := List.mem_map.mp hz
        rw [lexC]
        exact decide_eq_false (by simpa using h c' h1)
    · rw [Bool.and_eq_true]
      refine ⟨List.all_eq_true.mpr okc, List.all_eq_true.mpr fun z hz => List.all_eq_true.mpr fun y hy => ?_⟩
      rw [← List.map_cons] at hz hy
      obtain ⟨c1, _, rfl⟩ := List.mem_map.mp hz
      obtain ⟨c2, _, rfl⟩ := List.mem_map.mp hy
      rfl
theorem ofcells_ok {cs : List Cell} {st : Sto} {lo hi : Cell} (h1 : lo ∈ cs) (h2 : hi ∈ cs) (hl : ∀ z ∈ cs, ¬ (z.1 < lo.1 ∨ (z.1 = lo.1 ∧ z.2 < lo.2))) (hh : ∀ z ∈ cs, ¬ (hi.1 < z.1 ∨ (hi.1 = z.1 ∧ hi.2 < z.2))) :
    runDef 3 1 Hd.b_law_of_cells [.frz (cs.map dC)] st = .ok (dB (lo.1, lo.2, decide (lo.2 = hi.2))) st := by
  have e1 : mmX false minF [.frz (cs.map dC)] st = .ok (.tup [.int lo.1, .int lo.2]) st := mm_ok h1 (by simpa using hl)
  have e2 : mmX true maxF [.frz (cs.map dC)] st = .ok (.tup [.int hi.1, .int hi.2]) st := mm_ok h2 (by simpa using hh)
  have i0 : ∀ (a b : Int), ixD (.tup [.int a, .int b]) (.int 0) st = .ok (.int a) st := fun a b => ixD_tup atI_zero
  have i1 : ∀ (a b : Int), ixD (.tup [.int a, .int b]) (.int 1) st = .ok (.int b) st := fun a b => ixD_tup atI_one
  simp only [Hd.b_law_of_cells, Int.cast_ofNat_Int, Nat.zero_add, Int.reduceEq, Int.reduceNe, Int.reduceLT, Int.reduceLE, Int.reduceGT, Int.reduceGE, Int.reduceAdd, Int.reduceSub, Int.reduceMul, Int.reduceNeg, Int.reduceMod, Int.reduceDiv, Nat.reduceLeDiff, slZ_tup, eqD_int, neD_int, eqD_bl, neD_bl, ixT0, ixT1, ixT2, ixF0, ixF1, ixF2, lenT, lenZ, addZ_frz, addZ_loc_frz, addL_loc_frz, beq_self_eq_true, runDef_eq, start3, finR, sSeq, sSet, sExpr, sRet, sRetN, sIf, sPar2, sAsg, sSetIx, sNil, RS.andThen_nx, RS.andThen_rt, RS.andThen_exn, R.toS_ok, R.toS_exn, kv, kc, k1, k2, kA0, kA1, kF, kM, kIf, kTr, kTb, tAnd3, tOr3, tNot3, kAndV, kOrV, kNotV, kChain, R.bind_ok, R.bind_exn, gN, gT, gs0, gs1, List.map_cons, List.map_nil, List.length_cons, List.length_nil, List.replicate, List.cons_append, List.nil_append, List.getElem?_cons_zero, List.getElem?_cons_succ, List.set_cons_zero, List.set_cons_succ, Nat.reduceAdd, Nat.reduceSub, if_true, if_false, Bool.false_eq_true, Bool.true_eq_false, reduceIte, Bool.not_true, Bool.not_false, Option.bind_some, decide_true, decide_false, e1, e2, i0, i1, eq_int]
  cases decide (lo.2 = hi.2) <;> simp only [Int.cast_ofNat_Int, Nat.zero_add, Int.reduceEq, Int.reduceNe, Int.reduceLT, Int.reduceLE, Int.reduceGT, Int.reduceGE, Int.reduceAdd, Int.reduceSub, Int.reduceMul, Int.reduceNeg, Int.reduceMod, Int.reduceDiv, Nat.reduceLeDiff, slZ_tup, eqD_int, neD_int, eqD_bl, neD_bl, ixT0, ixT1, ixT2, ixF0, ixF1, ixF2, lenT, lenZ, addZ_frz, addZ_loc_frz, addL_loc_frz, beq_self_eq_true, runDef_eq, start3, finR, sSeq, sSet, sExpr, sRet, sRetN, sIf, sPar2, sAsg, sSetIx, sNil, RS.andThen_nx, RS.andThen_rt, RS.andThen_exn, R.toS_ok, R.toS_exn, kv, kc, k1, k2, kA0, kA1, kF, kM, kIf, kTr, kTb, tAnd3, tOr3, tNot3, kAndV, kOrV, kNotV, kChain, R.bind_ok, R.bind_exn, gN, gT, gs0, gs1, List.map_cons, List.map_nil, List.length_cons, List.length_nil, List.replicate, List.cons_append, List.nil_append, List.getElem?_cons_zero, List.getElem?_cons_succ, List.set_cons_zero, List.set_cons_succ, Nat.reduceAdd, Nat.reduceSub, if_true, if_false, Bool.false_eq_true, Bool.true_eq_false, reduceIte, Bool.not_true, Bool.not_false, Option.bind_some, decide_true, decide_false, tupF, Nat.reduceLeDiff, dB, WAY]
end Fl

namespace Fl
open PySem L2 L3 Tile
theorem same_eq {d : D} {p : PyData} {st : Sto} (h : pd st 40 d = some p) (hs : SeqAt.shaped p = true) : eqD d d st = .ok (.bl true) st ∧ neD d d st = .ok (.bl false) st := by
  have e : PyData.eqv p p = true := SeqAt.eqv_refl p (SeqAt.canLay_of_shaped hs)
  constructor
  · simp only [eqD, h]; rw [if_pos ⟨hs, hs⟩, e]
  · simp only [neD, h]; rw [if_pos ⟨hs, hs⟩, e]; rfl
def pB (b : Bar) : PyData := .tuple [.int b.1, .int b.2.1, .str (WAY b.2.2)]
theorem way_lay (a : Bool) : PyData.strOk (WAY a) = true := by cases a <;> decide +kernel
theorem pB_lay : ∀ bs : List Bar, PyData.canLayAll0 (bs.map pB) = true
  | [] => by simp [PyData.canLayAll0]
  | b :: bs => by simp [PyData.canLayAll0, PyData.canLay0, pB, way_lay, pB_lay bs]
theorem pB_depth : ∀ bs : List Bar, PyData.depthAll (bs.map pB) ≤ 3
  | [] => by simp [PyData.depthAll]
  | b :: bs => by
    have := pB_depth bs
    simp only [List.map_cons, PyData.depthAll, pB, PyData.depth]
    omega
theorem shaped_bars (bs : List Bar) : SeqAt.shaped (.tuple (bs.map pB)) = true := by
  have h1 := pB_depth bs
  have h2 : PyData.depth (.tuple (bs.map pB)) ≤ 64 := by simp only [PyData.depth]; omega
  show (PyData.canLay0 (.tuple (bs.map pB)) && decide (PyData.depth (.tuple (bs.map pB)) ≤ 64)) = true
  rw [Bool.and_eq_true]
  exact ⟨by simp only [PyData.canLay0]; exact pB_lay bs, decide_eq_true h2⟩
theorem pd_bar (st : Sto) (n : Nat) (b : Bar) : pd st (n + 1) (dB b) = some (pB b) := by
  obtain ⟨x, y, a⟩ := b
  cases n <;> rfl
theorem pd_bars (st : Sto) (n : Nat) : ∀ bs : List Bar, allO ((bs.map dB).map (pd st (n + 1))) = some (bs.map pB)
  | [] => rfl
  | b :: bs => by
    show (pd st (n + 1) (dB b)).bind (fun a => (allO ((bs.map dB).map (pd st (n + 1)))).bind fun l => some (a :: l)) = _
    rw [pd_bar, pd_bars st n bs]
    rfl
theorem bars_same {bs : List Bar} {st : Sto} : eqD (.tup (bs.map dB)) (.tup (bs.map dB)) st = .ok (.bl true) st ∧ neD (.tup (bs.map dB)) (.tup (bs.map dB)) st = .ok (.bl false) st := by
  refine same_eq (p := .tuple (bs.map pB)) ?_ (shaped_bars bs)
  show (allO ((bs.map dB).map (pd st 39))).bind _ = _
  rw [pd_bars st 38 bs]
  rfl
theorem size_same {a b c : Int} {st : Sto} : eqD (.tup [.int a, .int b, .int c]) (.tup [.int a, .int b, .int c]) st = .ok (.bl true) st ∧ neD (.tup [.int a, .int b, .int c]) (.tup [.int a, .int b, .int c]) st = .ok (.bl false) st :=
  same_eq (p := .tuple [.int a, .int b, .int c]) rfl (shaped_tup_ints [a, b, c])
theorem eq_ok {m n w h l : Nat} {bs : List Bar} {st : Sto} (f : FloorAt st m w h l bs) (g : FloorAt st n w h l bs) : runDef 2 2 b_Floor___eq__ [.loc m, .loc n] st = .ok (.bl true) st := by
  have ic : isC "Floor" (.loc n) st = .ok (.bl true) st := by
    obtain ⟨d, b0, p, e, _⟩ := g
    simp only [isC, e]
    rfl
  simp only [b_Floor___eq__, Int.cast_ofNat_Int, Nat.zero_add, Int.reduceEq, Int.reduceNe, Int.reduceLT, Int.reduceLE, Int.reduceGT, Int.reduceGE, Int.reduceAdd, Int.reduceSub, Int.reduceMul, Int.reduceNeg, Int.reduceMod, Int.reduceDiv, Nat.reduceLeDiff, slZ_tup, eqD_int, neD_int, eqD_bl, neD_bl, ixT0, ixT1, ixT2, ixF0, ixF1, ixF2, lenT, lenZ, addZ_frz, addZ_loc_frz, addL_loc_frz, beq_self_eq_true, runDef_eq, start3, finR, sSeq, sSet, sExpr, sRet, sRetN, sIf, sPar2, sAsg, sSetIx, sNil, RS.andThen_nx, RS.andThen_rt, RS.andThen_exn, R.toS_ok, R.toS_exn, kv, kc, k1, k2, kA0, kA1, kF, kM, kIf, kTr, kTb, tAnd3, tOr3, tNot3, kAndV, kOrV, kNotV, kChain, R.bind_ok, R.bind_exn, gN, gT, gs0, gs1, List.map_cons, List.map_nil, List.length_cons, List.length_nil, List.replicate, List.cons_append, List.nil_append, List.getElem?_cons_zero, List.getElem?_cons_succ, List.set_cons_zero, List.set_cons_succ, Nat.reduceAdd, Nat.reduceSub, if_true, if_false, Bool.false_eq_true, Bool.true_eq_false, reduceIte, Bool.not_true, Bool.not_false, Option.bind_some, decide_true, decide_false, ic, truD, fld_size f, fld_size g, fld_bars f, fld_bars g, (size_same).1, (bars_same).1]
theorem insOf_fl {m w h l : Nat} {bs : List Bar} {st : Sto} (f : FloorAt st m w h l bs) : insOf "Floor" (.loc m) st = true := by
  obtain ⟨d, b0, p, e, _⟩ := f
  simp only [insOf, e]
  decide
theorem eqC_ok {r : L3.Run} {m n : Nat} {st : Sto} (h1 : insOf "Floor" (.loc m) st = true) (h2 : insOf "Floor" (.loc n) st = true) (hr : r [.loc m, .loc n] st = .ok (.bl true) st) : eqC "Floor" r (.loc m) (.loc n) st = .ok (.bl true) st ∧ neC "Floor" r (.loc m) (.loc n) st = .ok (.bl false) st := by
  constructor
  · unfold eqC; rw [h1, h2, Bool.and_self, if_pos rfl, hr]; rfl
  · unfold neC; rw [h1, h2, Bool.and_self, if_pos rfl, hr]; rfl
theorem cov_ok {l : Nat} (hl : l ≤ 1000) {b : Bar} {st : Sto} : runDef 6 2 Hd.b_law_covered [dB b, .int (l : Int)] st = .ok (.frz ((cells l b).map dC)) st := cells_ok hl
theorem mem_cells {l : Nat} {b : Bar} {z : Cell} : z ∈ cells l b ↔ ∃ i : Nat, i < l ∧ z = if b.2.2 = true then (b.1 + (i : Int), b.2.1) else (b.1, b.2.1 + (i : Int)) := by
  unfold cells
  rw [List.mem_map]
  exact ⟨fun ⟨i, h1, h2⟩ => ⟨i, by simpa using h1, h2.symm⟩, fun ⟨i, h1, h2⟩ => ⟨i, by simpa using h1, h2.symm⟩⟩
theorem sw_ok {l : Nat} (hl : 2 ≤ l) {b : Bar} {st : Sto} : runDef 3 1 Hd.b_law_of_cells [.frz (((cells l b).map fun c => (c.2, c.1)).map dC)] st = .ok (dB (exB b)) st := by
  obtain ⟨x, y, a⟩ := b
  have mem : ∀ z : Cell, z ∈ (cells l (x, y, a)).map (fun c => (c.2, c.1)) → ∃ i : Nat, i < l ∧ z = if a = true then (y, x + (i : Int)) else (y + (i : Int), x) := fun z hz => by
    obtain ⟨c, h1, rfl⟩ := List.mem_map.mp hz
    obtain ⟨i, hi, rfl⟩ := mem_cells.mp h1
    exact ⟨i, hi, by cases a <;> rfl⟩
  have has : ∀ i : Nat, i < l → (if a = true then (y, x + (i : Int)) else (y + (i : Int), x)) ∈ (cells l (x, y, a)).map (fun c => (c.2, c.1)) := fun i hi =>
    List.mem_map.mpr ⟨_, mem_cells.mpr ⟨i, hi, rfl⟩, by cases a <;> rfl⟩
  have h0 := has 0 (by omega)
  have h1 := has (l - 1) (by omega)
  rw [ofcells_ok h0 h1 (fun z hz => ?_) fun z hz => ?_]
  · cases a with
    | true =>
      have : ¬ x = x + ((l - 1 : Nat) : Int) := by omega
      simp [exB, this]
    | false => simp [exB]
  · obtain ⟨i, hi, rfl⟩ := mem z hz
    cases a <;> simp <;> omega
  · obtain ⟨i, hi, rfl⟩ := mem z hz
    cases a <;> simp <;> omega
theorem mi_ok {w l : Nat} (hl : 2 ≤ l) {b : Bar} {st : Sto} : runDef 3 1 Hd.b_law_of_cells [.frz (((cells l b).map (mirC w)).map dC)] st = .ok (dB (mirB w l b)) st := by
  obtain ⟨x, y, a⟩ := b
  have mem : ∀ z : Cell, z ∈ (cells l (x, y, a)).map (mirC w) → ∃ i : Nat, i < l ∧ z = if a = true then ((w : Int) - 1 - (x + (i : Int)), y) else ((w : Int) - 1 - x, y + (i : Int)) := fun z hz => by
    obtain ⟨c, h1, rfl⟩ := List.mem_map.mp hz
    obtain ⟨i, hi, rfl⟩ := mem_cells.mp h1
    exact ⟨i, hi, by cases a <;> rfl⟩
  have has : ∀ i : Nat, i < l → (if a = true then ((w : Int) - 1 - (x + (i : Int)), y) else ((w : Int) - 1 - x, y + (i : Int))) ∈ (cells l (x, y, a)).map (mirC w) := fun i hi =>
    List.mem_map.mpr ⟨_, mem_cells.mpr ⟨i, hi, rfl⟩, by cases a <;> rfl⟩
  have h0 := has 0 (by omega)
  have h1 := has (l - 1) (by omega)
  cases a with
  | true =>
    rw [ofcells_ok h1 h0 (fun z hz => ?_) fun z hz => ?_]
    · simp [mirB]; congr 2; omega
    · obtain ⟨i, hi, rfl⟩ := mem z hz
      simp; omega
    · obtain ⟨i, hi, rfl⟩ := mem z hz
      simp; omega
  | false =>
    rw [ofcells_ok h0 h1 (fun z hz => ?_) fun z hz => ?_]
    · have : ¬ y = y + ((l - 1 : Nat) : Int) := by omega
      simp [mirB, this]
    · obtain ⟨i, hi, rfl⟩ := mem z hz
      simp
      try omega
    · obtain ⟨i, hi, rfl⟩ := mem z hz
      simp
      try omega
end Fl

namespace Tile
theorem ex_ex (b : Bar) : exB (exB b) = b := by obtain ⟨x, y, a⟩ := b; simp [exB]
theorem mir_mir (w l : Nat) (b : Bar) : mirB w l (mirB w l b) = b := by
  obtain ⟨x, y, a⟩ := b
  cases a <;> simp [mirB] <;> omega
def qB (h l : Nat) (b : Bar) : Bar := mirB h l (exB b)
theorem q_four (w h l : Nat) (b : Bar) : qB w l (qB h l (qB w l (qB h l b))) = b := by
  obtain ⟨x, y, a⟩ := b
  cases a <;> simp [qB, mirB, exB] <;> constructor <;> omega
end Tile
namespace Fl
open PySem L2 L3 Tile
theorem insOk_fl {m w h l : Nat} {bs : List Bar} {st : Sto} {n : Str} (hn : ([("_size", D.tup [.int w, .int h, .int l]), ("_bars", .tup (bs.map dB)), ("_bar_of", .non)] : List (Str × D)).lookup n = none) (f : FloorAt st m w h l bs) : insOk "Floor" n (.loc m) st = true := by
  obtain ⟨d, b0, p, e, _⟩ := f
  simp only [insOk, e]
  have : ([("_size", D.tup [.int w, .int h, .int l]), ("_bars", .tup (bs.map dB)), ("_bar_of", .loc d)] : List (Str × D)).lookup n = none := by
    simp only [List.lookup_cons] at hn ⊢
    cases h1 : n == Str.ofString "_size" <;> simp only [h1] at hn ⊢
    cases h2 : n == Str.ofString "_bars" <;> simp only [h2] at hn ⊢
    cases h3 : n == Str.ofString "_bar_of" <;> simp only [h3] at hn ⊢
    all_goals first | rfl | cases hn
  rw [this]
  rfl
theorem map_sort {bs : List Bar} (g : Bar → Bar) : sortB ((sortB bs).map g) = sortB (bs.map g) := sortB_uniq ((sortB_perm bs).map g)
def AnyS (r : L3.Run) : Prop := ∀ (st : Sto) (n most : Nat), DieAt n st → 0 < most → most < 1000 → ∃ (w h l : Nat) (bs : List Bar) (m : Nat) (st' : Sto), r [.loc n, .int most] st = .ok (.loc m) st' ∧ Step n st st' ∧ st.length ≤ m ∧ st'[m]? = some (.lst [.tup [.int w, .int h, .int l], .frz (bs.map dB)]) ∧ Cover w h l bs ∧ Fits w h l ∧ sortB bs = bs
theorem turn_ok {re rm : L3.Run} (he : MoveS re (fun _ _ _ => exB) true) (hm : MoveS rm (fun w _ l => mirB w l) false) {w h l n : Nat} {bs : List Bar} {st : Sto} (f : FloorAt st n w h l bs) (c : Cover w h l bs) (ft : Fits w h l) :
    ∃ n1 s1 n2 s2, re [.loc n] st = .ok (.loc n1) s1 ∧ rm [.loc n1] s1 = .ok (.loc n2) s2 ∧ Stands st s2 ∧ insOk "Floor" "exchanged" (.loc n) st = true ∧ insOk "Floor" "mirrored" (.loc n1) s1 = true ∧ FloorAt s2 n2 h w l (sortB (bs.map (qB h l))) ∧ Cover h w l (sortB (bs.map (qB h l))) := by
  obtain ⟨n1, s1, e1, g1, _, f1⟩ := he w h l bs st n f c ft
  simp only [if_true] at f1
  have c1 : Cover h w l (sortB (bs.map exB)) := cover_perm (cover_ex c) (sortB_perm _)
  obtain ⟨n2, s2, e2, g2, _, f2⟩ := hm h w l _ s1 n1 f1 c1 ft.swap
  simp only [Bool.false_eq_true, if_false] at f2
  have eq : sortB ((sortB (bs.map exB)).map (mirB h l)) = sortB (bs.map (qB h l)) := by rw [map_sort, List.map_map]; rfl
  rw [eq] at f2
  have c2 : Cover h w l (sortB (bs.map (qB h l))) := by rw [← eq]; exact cover_perm (cover_mir c1) (sortB_perm _)
  exact ⟨n1, s1, n2, s2, e1, e2, g1.trans g2, insOk_fl (by rfl) f, insOk_fl (by rfl) f1, f2, c2⟩
end Fl
namespace Fl
open PySem L2 L3 Tile
theorem kMt_ok {m : Str} {r : L3.Run} {i x y : Nat} {ρ : Env3} {s s' : Sto} (h : ρ[i]? = some (some (.loc x))) (hi : insOk "Floor" m (.loc x) s = true) (hr : r [.loc x] s = .ok (.loc y) s') : kMt "Floor" m r (kv i) kA0 ρ s = .ok (.loc y) s' := by
  unfold kMt kv
  rw [h]
  simp only [R.bind_ok, hi, if_true]
  exact hr
theorem kMt_go {m : Str} {r : L3.Run} {o : KE} {x y : Nat} {ρ : Env3} {t s s' : Sto} (h : o ρ t = .ok (.loc x) s) (hi : insOk "Floor" m (.loc x) s = true) (hr : r [.loc x] s = .ok (.loc y) s') : kMt "Floor" m r o kA0 ρ t = .ok (.loc y) s' := by
  unfold kMt
  rw [h]
  simp only [R.bind_ok, hi, if_true]
  exact hr
theorem forGo_step {g : KG} {body : KS} {src : Src} {f i : Nat} {ρ ρ1 ρ2 : Env3} {st st2 : Sto} {d : D} (h1 : src.at st i = some (some d)) (h2 : g d ρ = some ρ1) (h3 : body ρ1 st = .nx ρ2 st2) : forGo g body src (f + 1) i ρ st = forGo g body src f (i + 1) ρ2 st2 := by
  conv => lhs; unfold forGo
  simp only [h1, h2, h3]
theorem forGo_end {g : KG} {body : KS} {src : Src} {f i : Nat} {ρ : Env3} {st : Sto} (h1 : src.at st i = some none) : forGo g body src (f + 1) i ρ st = .nx ρ st := by
  unfold forGo
  simp only [h1]
theorem kPr_size {i x w h l : Nat} {bs : List Bar} {ρ : Env3} {s : Sto} (hx : ρ[i]? = some (some (.loc x))) (f : FloorAt s x w h l bs) : kPr "Floor" "size" (runDef 1 1 b_Floor_size) (kv i) ρ s = .ok (.tup [.int w, .int h, .int l]) s := by
  unfold kPr kv
  rw [hx]
  have e : runDef 1 1 b_Floor_size [.loc x] s = .ok (.tup [.int w, .int h, .int l]) s := by simp only [b_Floor_size, Int.cast_ofNat_Int, Nat.zero_add, Int.reduceEq, Int.reduceNe, Int.reduceLT, Int.reduceLE, Int.reduceGT, Int.reduceGE, Int.reduceAdd, Int.reduceSub, Int.reduceMul, Int.reduceNeg, Int.reduceMod, Int.reduceDiv, Nat.reduceLeDiff, slZ_tup, eqD_int, neD_int, eqD_bl, neD_bl, ixT0, ixT1, ixT2, ixF0, ixF1, ixF2, lenT, lenZ, addZ_frz, addZ_loc_frz, addL_loc_frz, beq_self_eq_true, runDef_eq, start3, finR, sSeq, sSet, sExpr, sRet, sRetN, sIf, sPar2, sAsg, sSetIx, sNil, RS.andThen_nx, RS.andThen_rt, RS.andThen_exn, R.toS_ok, R.toS_exn, kv, kc, k1, k2, kA0, kA1, kF, kM, kIf, kTr, kTb, tAnd3, tOr3, tNot3, kAndV, kOrV, kNotV, kChain, R.bind_ok, R.bind_exn, gN, gT, gs0, gs1, List.map_cons, List.map_nil, List.length_cons, List.length_nil, List.replicate, List.cons_append, List.nil_append, List.getElem?_cons_zero, List.getElem?_cons_succ, List.set_cons_zero, List.set_cons_succ, Nat.reduceAdd, Nat.reduceSub, if_true, if_false, Bool.false_eq_true, Bool.true_eq_false, reduceIte, Bool.not_true, Bool.not_false, Option.bind_some, decide_true, decide_false, fld_size f]
  obtain ⟨d, b0, p, fe, _⟩ := f
  simp only [R.bind_ok, fe, if_true, e, noX]
theorem kPr_bars {i x w h l : Nat} {bs : List Bar} {ρ : Env3} {s : Sto} (hx : ρ[i]? = some (some (.loc x))) (f : FloorAt s x w h l bs) : kPr "Floor" "bars" (runDef 1 1 b_Floor_bars) (kv i) ρ s = .ok (.tup (bs.map dB)) s := by
  unfold kPr kv
  rw [hx]
  have e : runDef 1 1 b_Floor_bars [.loc x] s = .ok (.tup (bs.map dB)) s := by simp only [b_Floor_bars, Int.cast_ofNat_Int, Nat.zero_add, Int.reduceEq, Int.reduceNe, Int.reduceLT, Int.reduceLE, Int.reduceGT, Int.reduceGE, Int.reduceAdd, Int.reduceSub, Int.reduceMul, Int.reduceNeg, Int.reduceMod, Int.reduceDiv, Nat.reduceLeDiff, slZ_tup, eqD_int, neD_int, eqD_bl, neD_bl, ixT0, ixT1, ixT2, ixF0, ixF1, ixF2, lenT, lenZ, addZ_frz, addZ_loc_frz, addL_loc_frz, beq_self_eq_true, runDef_eq, start3, finR, sSeq, sSet, sExpr, sRet, sRetN, sIf, sPar2, sAsg, sSetIx, sNil, RS.andThen_nx, RS.andThen_rt, RS.andThen_exn, R.toS_ok, R.toS_exn, kv, kc, k1, k2, kA0, kA1, kF, kM, kIf, kTr, kTb, tAnd3, tOr3, tNot3, kAndV, kOrV, kNotV, kChain, R.bind_ok, R.bind_exn, gN, gT, gs0, gs1, List.map_cons, List.map_nil, List.length_cons, List.length_nil, List.replicate, List.cons_append, List.nil_append, List.getElem?_cons_zero, List.getElem?_cons_succ, List.set_cons_zero, List.set_cons_succ, Nat.reduceAdd, Nat.reduceSub, if_true, if_false, Bool.false_eq_true, Bool.true_eq_false, reduceIte, Bool.not_true, Bool.not_false, Option.bind_some, decide_true, decide_false, fld_bars f]
  obtain ⟨d, b0, p, fe, _⟩ := f
  simp only [R.bind_ok, fe, if_true, e, noX]
theorem sorted_tuple {i x : Nat} {bs : List Bar} {ρ : Env3} {s : Sto} (hx : ρ[i]? = some (some (.loc x))) (h : s[x]? = some (.lst (bs.map dB))) : kF tupleF (kA1 (kF sortFZ (kA1 (kv i) kA0)) kA0) ρ s = .ok (.tup ((sortB bs).map dB)) s := by
  have e1 : sortFZ [.loc x] s = .ok (.frz ((sortB bs).map dB)) s := by simp only [sortFZ, h]; exact sortRows_ok
  have e2 : tupleF [.frz ((sortB bs).map dB)] s = .ok (.tup ((sortB bs).map dB)) s := rfl
  simp only [kF, kA1, kA0, kv, hx, R.bind_ok, e1, e2]
theorem Stands.step {n : Nat} {st s1 s2 : Sto} (h : Step n st s1) (g : Stands s1 s2) : Step n st s2 := by
  obtain ⟨x, y, z, hd⟩ := h.die
  exact ⟨fun m o hm q => g.keep m o (h.keep m o hm q), ⟨x, y, z, g.keep _ _ hd⟩, Nat.le_trans h.len g.len⟩
end Fl

namespace Fl

open PySem L2 L3 Tile
theorem rsize {q l : Nat} (hl : 0 < l) : Builtin.Range.rangeSize 0 ((q * l : Nat) : Int) (l : Int) = (q : Int) := by
  unfold Builtin.Range.rangeSize
  rw [if_pos (by omega)]
  cases q with
  | zero => simp
  | succ q =>
    have hp : (0 : Int) < ((q + 1) * l : Nat) := by
      have : 0 < (q + 1) * l := Nat.mul_pos (Nat.succ_pos _) hl
      omega
    rw [if_pos hp]
    have e : (((q + 1) * l : Nat) : Int) - 0 - 1 = ((q * l + (l - 1) : Nat) : Int) := by
      rw [Nat.succ_mul]
      omega
    rw [e]
    have d : ((q * l + (l - 1) : Nat) : Int) / (l : Int) = (q : Int) := by
      rw [← Int.natCast_ediv]
      congr 1
      rw [Nat.mul_comm, Nat.mul_add_div hl, Nat.div_eq_of_lt (by omega)]
      rfl
    rw [d]
    omega
theorem rng3_ok {q l : Nat} (hl : 0 < l) (hl4 : l ≤ 400) (hw : q * l ≤ 400) {st : Sto} : rngF3 [.int 0, .int ((q * l : Nat) : Int), .int (l : Int)] st = .ok (.its (stepIts 0 l q)) st := by
  have hs : Builtin.Range.small 0 ((q * l : Nat) : Int) (l : Int) = true := by
    have fit : ∀ n : Int, 0 ≤ n → n ≤ 1000 → Builtin.Range.rangeFitsLong n = true := fun n h0 h1 => by
      unfold Builtin.Range.rangeFitsLong
      simp
      omega
    have hq : q ≤ q * l := Nat.le_mul_of_pos_right q hl
    unfold Builtin.Range.small
    simp only [Bool.and_eq_true]
    rw [rsize hl, if_pos (by omega : (l : Int) > 0)]
    exact ⟨⟨⟨⟨fit _ (by omega) (by omega), fit _ (by omega) (by omega)⟩, fit _ (by omega) (by omega)⟩, fit _ (by omega) (by omega)⟩, by rw [fit _ (by omega) (by omega), Bool.or_true]⟩
  have hn : rngN 0 ((q * l : Nat) : Int) (l : Int) = q := by unfold rngN; rw [rsize hl]; omega
  unfold rngF3
  simp only
  rw [hn, if_pos ⟨by omega, by omega, hs, rsize hl⟩]

theorem lz_enc {α : Type} {vs : List Nat} {g : KG} {it : KI} {cnd : KT} {elt : KE} {ρ : Env3} {st : Sto} {cs : List α} (enc : α → D) (p : α → Bool) (f : α → D) (hi : it ρ st = .ok (.its (cs.map enc)) st) (hx : cs.length < 16777215)
    (hc : ∀ c ∈ cs, ∃ ρ1, g (enc c) (wipeD ρ vs) = some ρ1 ∧ cnd ρ1 st = .ok (p c) st ∧ (p c = true → elt ρ1 st = .ok (f c) st)) :
    kLz vs g it cnd elt ρ st = .ok (.frz ((cs.filter p).map f)) st := by
  obtain ⟨acc, st', h1, ⟨rfl, h2⟩, h3⟩ := lc_inv (g := g) (cnd := cnd) (elt := elt) (src := .its (cs.map enc)) (ρ := wipeD ρ vs) (xs := cs.map enc) (fun i s acc => s = st ∧ acc = ((cs.take i).filter p).map f) (fun i s acc h => rfl)
    (fun i d s acc hd ⟨hs, ha⟩ => by
      subst hs
      rw [List.getElem?_map] at hd
      obtain ⟨c, hc0, rfl⟩ := Option.map_eq_some_iff.mp hd
      obtain ⟨ρ1, q1, q2, q3⟩ := hc c (List.mem_of_getElem? hc0)
      have et : cs.take (i + 1) = cs.take i ++ [c] := by rw [List.take_succ, hc0]; rfl
      refine ⟨ρ1, p c, s, q1, q2, fun k => ⟨f c, s, q3 k, rfl, ?_⟩, fun k => ⟨rfl, ?_⟩⟩
      · rw [et, ha]; simp [k]
      · rw [et, ha]; simp [k])
    (cs.map enc).length 0 st [] ((cs.map enc).length + 1) (by omega) (by omega) (by omega) (by simp) (by rw [List.length_map]; exact hx) ⟨rfl, rfl⟩
  unfold kLz
  rw [hi]
  simp only [R.bind_ok]
  show (lcGo g cnd elt (.its (cs.map enc)) (wipeD ρ vs) ((cs.map enc).length + 1) 0 st' []).bind _ = _
  rw [h1, R.bind_ok, h2, List.length_map, List.take_length]
theorem lc_enc {α : Type} {vs : List Nat} {g : KG} {it : KI} {cnd : KT} {elt : KE} {ρ : Env3} {st : Sto} {cs : List α} (enc : α → D) (p : α → Bool) (f : α → D) (hi : it ρ st = .ok (.its (cs.map enc)) st) (hx : cs.length < 16777215)
    (hc : ∀ c ∈ cs, ∃ ρ1, g (enc c) (wipeD ρ vs) = some ρ1 ∧ cnd ρ1 st = .ok (p c) st ∧ (p c = true → elt ρ1 st = .ok (f c) st)) :
    kLc vs g it cnd elt ρ st = .ok (.loc st.length) (st ++ [.lst ((cs.filter p).map f)]) := by
  obtain ⟨acc, st', h1, ⟨rfl, h2⟩, h3⟩ := lc_inv (g := g) (cnd := cnd) (elt := elt) (src := .its (cs.map enc)) (ρ := wipeD ρ vs) (xs := cs.map enc) (fun i s acc => s = st ∧ acc = ((cs.take i).filter p).map f) (fun i s acc h => rfl)
    (fun i d s acc hd ⟨hs, ha⟩ => by
      subst hs
      rw [List.getElem?_map] at hd
      obtain ⟨c, hc0, rfl⟩ := Option.map_eq_some_iff.mp hd
      obtain ⟨ρ1, q1, q2, q3⟩ := hc c (List.mem_of_getElem? hc0)
      have et : cs.take (i + 1) = cs.take i ++ [c] := by rw [List.take_succ, hc0]; rfl
      refine ⟨ρ1, p c, s, q1, q2, fun k => ⟨f c, s, q3 k, rfl, ?_⟩, fun k => ⟨rfl, ?_⟩⟩
      · rw [et, ha]; simp [k]
      · rw [et, ha]; simp [k])
    (cs.map enc).length 0 st [] ((cs.map enc).length + 1) (by omega) (by omega) (by omega) (by simp) (by rw [List.length_map]; exact hx) ⟨rfl, rfl⟩
  unfold kLc
  rw [hi]
  simp only [R.bind_ok]
  show (lcGo g cnd elt (.its (cs.map enc)) (wipeD ρ vs) ((cs.map enc).length + 1) 0 st' []).bind _ = _
  rw [h1, R.bind_ok, h2, List.length_map, List.take_length]
theorem rngIts_enc (n : Nat) : rngIts 0 n = (List.range n).map fun (i : Nat) => D.int (i : Int) := by
  unfold rngIts
  exact List.map_congr_left fun i _ => by rw [Int.zero_add]
theorem stepIts_enc (l n : Nat) : stepIts 0 (l : Int) n = (List.range n).map fun (i : Nat) => D.int ((i * l : Nat) : Int) := by
  unfold stepIts
  exact List.map_congr_left fun i _ => by rw [Int.zero_add, Int.natCast_mul]
theorem iR3_eq {a : KA} {ρ : Env3} {st st1 : Sto} {ds : List D} (h : a ρ st = .ok ds st1) : iR3 a ρ st = rngF3 ds st1 := by
  unfold iR3
  rw [h]
  exact R.bind_ok _ _ _
/-- a bar in bars -/
theorem eqv_pB (a b : Bar) : PyData.eqv (pB a) (pB b) = decide (a = b) := by
  obtain ⟨x, y, p⟩ := a
  obtain ⟨u, v, q⟩ := b
  have hw : (WAY p == WAY q) = decide (p = q) := by
    cases p <;> cases q <;> decide +kernel
  simp only [pB, PyData.eqv, PyData.eqvAll, hw, Bool.and_true]
  rw [Bool.eq_iff_iff]
  simp [Prod.ext_iff]
theorem pd_frz_bars (st : Sto) (bs : List Bar) : pd st 40 (.frz (bs.map dB)) = some (.list (bs.map pB)) := by
  show (allO ((bs.map dB).map (pd st 39))).bind _ = _
  rw [pd_bars st 38 bs]; rfl
theorem pd_loc_bars {st : Sto} {m : Nat} {bs : List Bar} (h : st[m]? = some (.lst (bs.map dB))) : pd st 40 (.loc m) = some (.list (bs.map pB)) := by
  show (match st[m]? with | some (.lst xs) => (allO (xs.map (pd st 39))).bind fun l => some (PyData.list l) | _ => none) = _
  rw [h]
  show (allO ((bs.map dB).map (pd st 39))).bind _ = _
  rw [pd_bars st 38 bs]; rfl
theorem shaped_lbars (bs : List Bar) : SeqAt.shaped (.list (bs.map pB)) = true := by
  have h1 := pB_depth bs
  have h2 : PyData.depth (.list (bs.map pB)) ≤ 64 := by simp only [PyData.depth]; omega
  show (PyData.canLay0 (.list (bs.map pB)) && decide (PyData.depth (.list (bs.map pB)) ≤ 64)) = true
  rw [Bool.and_eq_true]
  exact ⟨by simp only [PyData.canLay0]; exact pB_lay bs, decide_eq_true h2⟩
theorem shaped_pB (b : Bar) : SeqAt.shaped (pB b) = true := by
  obtain ⟨x, y, p⟩ := b
  have h2 : PyData.depth (pB (x, y, p)) ≤ 64 := by simp [PyData.depth, pB, PyData.depthAll]
  show (PyData.canLay0 (pB (x, y, p)) && decide (PyData.depth (pB (x, y, p)) ≤ 64)) = true
  rw [Bool.and_eq_true]
  exact ⟨by simp [pB, PyData.canLay0, PyData.canLayAll0, way_lay], decide_eq_true h2⟩
theorem any_pB (b : Bar) (bs : List Bar) : ((bs.map pB).any fun z => PyData.eqv z (pB b)) = decide (b ∈ bs) := by
  rw [Bool.eq_iff_iff, List.any_eq_true, decide_eq_true_eq]
  constructor
  · rintro ⟨z, hz, he⟩
    obtain ⟨c, hc, rfl⟩ := List.mem_map.mp hz
    rw [eqv_pB, decide_eq_true_eq] at he
    exact he ▸ hc
  · intro h
    exact ⟨_, List.mem_map.mpr ⟨b, h, rfl⟩, by rw [eqv_pB]; exact decide_eq_true rfl⟩
theorem inD_frz_bars {neg : Bool} {b : Bar} {bs : List Bar} {st : Sto} : inD neg (dB b) (.frz (bs.map dB)) st = .ok (.bl (neg != decide (b ∈ bs))) st := by
  show (match pd st 40 (dB b), pd st 40 (.frz (bs.map dB)) with
    | some d, some (.list ds) => if SeqAt.shaped d = true ∧ SeqAt.shaped (.list ds) = true then R.ok (D.bl (neg != ds.any fun z => PyData.eqv z d)) st else .bad
    | _, _ => .bad) = _
  rw [pd_frz_bars, pd_bar st 39 b]
  simp only
  rw [if_pos ⟨shaped_pB b, shaped_lbars bs⟩, any_pB]
theorem inD_loc_bars {neg : Bool} {b : Bar} {bs : List Bar} {m : Nat} {st : Sto} (h : st[m]? = some (.lst (bs.map dB))) : inD neg (dB b) (.loc m) st = .ok (.bl (neg != decide (b ∈ bs))) st := by
  show (match pd st 40 (dB b), pd st 40 (.loc m) with
    | some d, some (.list ds) => if SeqAt.shaped d = true ∧ SeqAt.shaped (.list ds) = true then R.ok (D.bl (neg != ds.any fun z => PyData.eqv z d)) st else .bad
    | _, _ => .bad) = _
  rw [pd_loc_bars h, pd_bar st 39 b]
  simp only
  rw [if_pos ⟨shaped_pB b, shaped_lbars bs⟩, any_pB]
theorem eqv_nil (bs : List Bar) : PyData.eqv (.list (bs.map pB)) (.list []) = decide (bs = []) := by
  cases bs <;> simp [PyData.eqv, PyData.eqvAll]
theorem eqD_frz_nil {bs : List Bar} {st : Sto} : eqD (.frz (bs.map dB)) (.frz []) st = .ok (.bl (decide (bs = []))) st := by
  have e0 : pd st 40 (.frz []) = some (.list []) := rfl
  simp only [eqD, pd_frz_bars, e0]
  rw [if_pos ⟨shaped_lbars bs, shaped_lbars []⟩, eqv_nil]
theorem neD_loc_nil {bs : List Bar} {m : Nat} {st : Sto} (h : st[m]? = some (.lst (bs.map dB))) : neD (.loc m) (.frz []) st = .ok (.bl (!decide (bs = []))) st := by
  have e0 : pd st 40 (.frz []) = some (.list []) := rfl
  simp only [neD, pd_loc_bars h, e0]
  rw [if_pos ⟨shaped_lbars bs, shaped_lbars []⟩, eqv_nil]
end Fl

namespace Fl
open PySem L2 L3 Tile
theorem flat_le {A : Nat → List Bar} {K : Nat} : ∀ N : Nat, (∀ i, i < N → (A i).length ≤ K) → ((List.range N).flatMap A).length ≤ N * K
  | 0, _ => by simp
  | N + 1, h => by
    have ih := flat_le N fun i hi => h i (by omega)
    have h1 := h N (by omega)
    rw [List.range_succ, List.flatMap_append, List.length_append, List.flatMap_cons, List.flatMap_nil, List.append_nil, Nat.succ_mul]
    omega
/-- found.extend(..) again and again -/
theorem ext_loop {N : Nat} (hN : N ≤ 1000) {A : Nat → List Bar} (hA : ∀ i, i < N → (A i).length ≤ 1000) {p : Nat → Int} {it : KI} {L : KE} {v0 v1 v2 : D} {st : Sto} {d : Nat} (hd : st[d]? = some (.lst []))
    (hi : it [some v0, some v1, some v2, some (.loc d), none, none] st = .ok (.its ((List.range N).map fun i => D.int (p i))) st)
    (hL : ∀ i, i < N → ∀ s : Sto, L [some v0, some v1, some v2, some (.loc d), some (.int (p i)), none] s = .ok (.loc s.length) (s ++ [.lst ((A i).map dB)])) :
    ∃ x4 st', sFor (gN 4) it (sExpr (kM (tyD "list") extendM (kv 3) (kA1 L kA0))) [some v0, some v1, some v2, some (.loc d), none, none] st = .nx [some v0, some v1, some v2, some (.loc d), x4, none] st' ∧ Grow d st st' ∧ st'[d]? = some (.lst (((List.range N).flatMap A).map dB)) := by
  obtain ⟨ρ', st', q1, ⟨x4, q2⟩, q3, q4⟩ := for_inv (g := gN 4) (body := sExpr (kM (tyD "list") extendM (kv 3) (kA1 L kA0))) (src := .its ((List.range N).map fun i => D.int (p i))) (xs := (List.range N).map fun i => D.int (p i))
    (fun i ρ s => (∃ x4, ρ = [some v0, some v1, some v2, some (.loc d), x4, none]) ∧ Grow d st s ∧ s[d]? = some (.lst (((List.range i).flatMap A).map dB))) (fun i ρ s _ => rfl)
    (fun i x ρ s hx ⟨⟨x4, hρ⟩, gr, hs⟩ => by
      subst hρ
      rw [List.getElem?_map] at hx
      obtain ⟨j, hj, rfl⟩ := Option.map_eq_some_iff.mp hx
      have hjN : i < N := by have := (List.getElem?_eq_some_iff.mp hj).1; simpa using this
      have hji : j = i := by rw [List.getElem?_range hjN] at hj; exact (Option.some.inj hj).symm
      subst hji
      have hdl : d < s.length := (List.getElem?_eq_some_iff.mp hs).1
      have e1 := hL j hjN s
      have ty : tyD "list" (.loc d) s = true := tyD_lst hs
      have b1 := flat_le (A := A) (K := 1000) j fun i hi => hA i (by omega)
      have b2 := hA j hjN
      have sz : (((List.range j).flatMap A).map dB).length + ((A j).map dB).length ≤ 16777216 := by
        rw [List.length_map, List.length_map]
        omega
      have e2 : extendM (.loc d) [.loc s.length] (s ++ [.lst ((A j).map dB)]) = .ok .non ((s ++ [O.lst ((A j).map dB)]).set d (O.lst (((List.range j).flatMap A).map dB ++ (A j).map dB))) := by
        have h1 : (s ++ [O.lst ((A j).map dB)])[d]? = some (.lst (((List.range j).flatMap A).map dB)) := by rw [List.getElem?_append_left hdl]; exact hs
        have h2 : (s ++ [O.lst ((A j).map dB)])[s.length]? = some (.lst ((A j).map dB)) := by rw [stA0]; rfl
        simp only [extendM, h1, h2, if_pos sz]
      refine ⟨_, [some v0, some v1, some v2, some (.loc d), some (.int (p j)), none], _, rfl, .inl ?_, ⟨_, rfl⟩, gr.trans ((Grow.app [O.lst ((A j).map dB)]).trans (Grow.set (.lst (((List.range j).flatMap A).map dB ++ (A j).map dB)))), ?_⟩
      · simp only [Int.cast_ofNat_Int, Nat.zero_add, Int.reduceEq, Int.reduceNe, Int.reduceLT, Int.reduceLE, Int.reduceGT, Int.reduceGE, Int.reduceAdd, Int.reduceSub, Int.reduceMul, Int.reduceNeg, Int.reduceMod, Int.reduceDiv, Nat.reduceLeDiff, slZ_tup, eqD_int, neD_int, eqD_bl, neD_bl, ixT0, ixT1, ixT2, ixF0, ixF1, ixF2, lenT, lenZ, addZ_frz, addZ_loc_frz, addL_loc_frz, beq_self_eq_true, runDef_eq, start3, finR, sSeq, sSet, sExpr, sRet, sRetN, sIf, sPar2, sAsg, sSetIx, sNil, RS.andThen_nx, RS.andThen_rt, RS.andThen_exn, R.toS_ok, R.toS_exn, kv, kc, k1, k2, kA0, kA1, kF, kM, kIf, kTr, kTb, tAnd3, tOr3, tNot3, kAndV, kOrV, kNotV, kChain, R.bind_ok, R.bind_exn, gN, gT, gs0, gs1, List.map_cons, List.map_nil, List.length_cons, List.length_nil, List.replicate, List.cons_append, List.nil_append, List.getElem?_cons_zero, List.getElem?_cons_succ, List.set_cons_zero, List.set_cons_succ, Nat.reduceAdd, Nat.reduceSub, if_true, if_false, Bool.false_eq_true, Bool.true_eq_false, reduceIte, Bool.not_true, Bool.not_false, Option.bind_some, decide_true, decide_false, ty, e1, e2]
      · rw [List.getElem?_set_self (by rw [List.length_append]; omega), List.range_succ, List.flatMap_append, List.map_append, List.flatMap_cons, List.flatMap_nil, List.append_nil])
    N 0 _ st (N + 1) (by simp) (by omega) (by omega) ⟨⟨none, rfl⟩, .refl, by simpa using hd⟩
  refine ⟨x4, st', ?_, q3, by rw [q4]; simp⟩
  rw [← q2]
  exact sFor_its hi (by rw [List.length_map, List.length_range]; exact q1)
def PlainS (r : L3.Run) : Prop := ∀ (w h l : Nat), Fits w h l → (w % l = 0 ∨ h % l = 0) → ∀ st : Sto, ∃ bs st', r [.int w, .int h, .int l] st = .ok (.loc st.length) st' ∧ Stands st st' ∧ st'[st.length]? = some (.lst (bs.map dB)) ∧ Cover w h l bs
theorem grow_stands {st s1 : Sto} {o : O} (g : Grow st.length (st ++ [o]) s1) : Stands st s1 :=
  ⟨fun m o q => g.keep m o (by have := (List.getElem?_eq_some_iff.mp q).1; omega) (by rw [List.getElem?_append_left (List.getElem?_eq_some_iff.mp q).1]; exact q), by have := g.len; rw [List.length_append] at this; omega⟩
theorem plain_ok : PlainS (runDef 6 3 Hd.b_law_plain_bars) := by
  intro w h l f hdv st
  have hl := f.l2
  have hl4 := f.l4
  have hw4 := f.w4
  have hh4 := f.h4
  have lp : (0 : Int) < (l : Int) := by omega
  have d0 : (st ++ [O.lst []])[st.length]? = some (.lst []) := by rw [stA0]; rfl
  obtain ⟨F1, hF1⟩ : ∃ F, sFor (gN 4) (iR1 (kA1 (kv 1) kA0)) (sExpr (kM (tyD "list") extendM (kv 3) (kA1 (kLc [5] (gN 5) (iR3 (kA1 (kc (.int 0)) (kA1 (kv 0) (kA1 (kv 2) kA0)))) kTrue (kF tupF (kA1 (kv 5) (kA1 (kv 4) (kA1 (kc (.str "across")) kA0))))) kA0))) = F := ⟨_, rfl⟩
  obtain ⟨F2, hF2⟩ : ∃ F, sFor (gN 4) (iR3 (kA1 (kc (.int 0)) (kA1 (kv 1) (kA1 (kv 2) kA0)))) (sExpr (kM (tyD "list") extendM (kv 3) (kA1 (kLc [5] (gN 5) (iR1 (kA1 (kv 0) kA0)) kTrue (kF tupF (kA1 (kv 5) (kA1 (kv 4) (kA1 (kc (.str "down")) kA0))))) kA0))) = F := ⟨_, rfl⟩
  have wa : (D.str "across") = .str (WAY true) := rfl
  have wd : (D.str "down") = .str (WAY false) := rfl
  by_cases hwl : w % l = 0
  · obtain ⟨q, rfl⟩ : ∃ q, w = q * l := ⟨w / l, by have := Nat.div_add_mod w l; rw [hwl, Nat.add_zero, Nat.mul_comm] at this; exact this.symm⟩
    have hq : q ≤ q * l := Nat.le_mul_of_pos_right q (by omega)
    obtain ⟨x4, s1, e1, g1, r1⟩ := ext_loop (N := h) (by omega) (A := fun y => (List.range q).map fun (k : Nat) => (((k * l : Nat) : Int), (y : Int), true)) (fun i _ => by simp; omega) (p := fun i => (i : Int)) (it := iR1 (kA1 (kv 1) kA0))
      (L := kLc [5] (gN 5) (iR3 (kA1 (kc (.int 0)) (kA1 (kv 0) (kA1 (kv 2) kA0)))) kTrue (kF tupF (kA1 (kv 5) (kA1 (kv 4) (kA1 (kc (.str "across")) kA0))))) (v0 := .int ((q * l : Nat) : Int)) (v1 := .int h) (v2 := .int l) (st := st ++ [.lst []]) (d := st.length) d0
      ((iR1_ok (by omega) (arg1 rfl)).trans (by rw [rngIts_enc])) (fun i hi s => by
        rw [lc_enc (cs := List.range q) (fun (k : Nat) => D.int ((k * l : Nat) : Int)) (fun _ => true) (fun k => dB (((k * l : Nat) : Int), (i : Int), true)) ?_ (by simp; omega) fun k hk => ?_]
        · rw [List.filter_eq_self.mpr fun _ _ => rfl, List.map_map]
          rfl
        · rw [iR3_eq (ds := [.int 0, .int ((q * l : Nat) : Int), .int l]) rfl, rng3_ok (by omega) hl4 (by omega), stepIts_enc]
        · exact ⟨[some (.int ((q * l : Nat) : Int)), some (.int h), some (.int l), some (.loc st.length), some (.int (i : Int)), some (.int ((k * l : Nat) : Int))], rfl, rfl, fun _ => by simp only [Int.cast_ofNat_Int, Nat.zero_add, Int.reduceEq, Int.reduceNe, Int.reduceLT, Int.reduceLE, Int.reduceGT, Int.reduceGE, Int.reduceAdd, Int.reduceSub, Int.reduceMul, Int.reduceNeg, Int.reduceMod, Int.reduceDiv, Nat.reduceLeDiff, slZ_tup, eqD_int, neD_int, eqD_bl, neD_bl, ixT0, ixT1, ixT2, ixF0, ixF1, ixF2, lenT, lenZ, addZ_frz, addZ_loc_frz, addL_loc_frz, beq_self_eq_true, runDef_eq, start3, finR, sSeq, sSet, sExpr, sRet, sRetN, sIf, sPar2, sAsg, sSetIx, sNil, RS.andThen_nx, RS.andThen_rt, RS.andThen_exn, R.toS_ok, R.toS_exn, kv, kc, k1, k2, kA0, kA1, kF, kM, kIf, kTr, kTb, tAnd3, tOr3, tNot3, kAndV, kOrV, kNotV, kChain, R.bind_ok, R.bind_exn, gN, gT, gs0, gs1, List.map_cons, List.map_nil, List.length_cons, List.length_nil, List.replicate, List.cons_append, List.nil_append, List.getElem?_cons_zero, List.getElem?_cons_succ, List.set_cons_zero, List.set_cons_succ, Nat.reduceAdd, Nat.reduceSub, if_true, if_false, Bool.false_eq_true, Bool.true_eq_false, reduceIte, Bool.not_true, Bool.not_false, Option.bind_some, decide_true, decide_false, frzF, tupF, listZ, addD, subD, mulD, fdivD, modD, cmpD, ltD, leD, gtD, geD, negD, absF, maxF, minF, intF, truD, strF, dB, wa]⟩)
    rw [hF1] at e1
    refine ⟨_, s1, ?_, grow_stands g1, r1, cover_plainA h q l⟩
    have m0 : (((q * l : Nat) : Int) % (l : Int)) = 0 := by rw [← Int.natCast_emod, hwl]; rfl
    unfold Hd.b_law_plain_bars
    rw [hF1, hF2]
    simp only [Int.cast_ofNat_Int, Nat.zero_add, Int.reduceEq, Int.reduceNe, Int.reduceLT, Int.reduceLE, Int.reduceGT, Int.reduceGE, Int.reduceAdd, Int.reduceSub, Int.reduceMul, Int.reduceNeg, Int.reduceMod, Int.reduceDiv, Nat.reduceLeDiff, slZ_tup, eqD_int, neD_int, eqD_bl, neD_bl, ixT0, ixT1, ixT2, ixF0, ixF1, ixF2, lenT, lenZ, addZ_frz, addZ_loc_frz, addL_loc_frz, beq_self_eq_true, runDef_eq, start3, finR, sSeq, sSet, sExpr, sRet, sRetN, sIf, sPar2, sAsg, sSetIx, sNil, RS.andThen_nx, RS.andThen_rt, RS.andThen_exn, R.toS_ok, R.toS_exn, kv, kc, k1, k2, kA0, kA1, kF, kM, kIf, kTr, kTb, tAnd3, tOr3, tNot3, kAndV, kOrV, kNotV, kChain, R.bind_ok, R.bind_exn, gN, gT, gs0, gs1, List.map_cons, List.map_nil, List.length_cons, List.length_nil, List.replicate, List.cons_append, List.nil_append, List.getElem?_cons_zero, List.getElem?_cons_succ, List.set_cons_zero, List.set_cons_succ, Nat.reduceAdd, Nat.reduceSub, if_true, if_false, Bool.false_eq_true, Bool.true_eq_false, reduceIte, Bool.not_true, Bool.not_false, Option.bind_some, decide_true, decide_false, frzF, tupF, listZ, addD, subD, mulD, fdivD, modD, cmpD, ltD, leD, gtD, geD, negD, absF, maxF, minF, intF, truD, strF, lstF, Nat.zero_le, lp, m0, e1]
  · have hhl : h % l = 0 := by rcases hdv with h1 | h1; exact absurd h1 hwl; exact h1
    obtain ⟨q, rfl⟩ : ∃ q, h = q * l := ⟨h / l, by have := Nat.div_add_mod h l; rw [hhl, Nat.add_zero, Nat.mul_comm] at this; exact this.symm⟩
    have hq : q ≤ q * l := Nat.le_mul_of_pos_right q (by omega)
    obtain ⟨x4, s1, e1, g1, r1⟩ := ext_loop (N := q) (by omega) (A := fun k => (List.range w).map fun (x : Nat) => ((x : Int), ((k * l : Nat) : Int), false)) (fun i _ => by simp; omega) (p := fun k => ((k * l : Nat) : Int)) (it := iR3 (kA1 (kc (.int 0)) (kA1 (kv 1) (kA1 (kv 2) kA0))))
      (L := kLc [5] (gN 5) (iR1 (kA1 (kv 0) kA0)) kTrue (kF tupF (kA1 (kv 5) (kA1 (kv 4) (kA1 (kc (.str "down")) kA0))))) (v0 := .int w) (v1 := .int ((q * l : Nat) : Int)) (v2 := .int l) (st := st ++ [.lst []]) (d := st.length) d0
      (by rw [iR3_eq (ds := [.int 0, .int ((q * l : Nat) : Int), .int l]) rfl, rng3_ok (by omega) hl4 (by omega), stepIts_enc]) (fun i hi s => by
        rw [lc_enc (cs := List.range w) (fun (k : Nat) => D.int (k : Int)) (fun _ => true) (fun k => dB ((k : Int), ((i * l : Nat) : Int), false)) ?_ (by simp; omega) fun k hk => ?_]
        · rw [List.filter_eq_self.mpr fun _ _ => rfl, List.map_map]
          rfl
        · exact (iR1_ok (by omega) (arg1 rfl)).trans (by rw [rngIts_enc])
        · exact ⟨[some (.int w), some (.int ((q * l : Nat) : Int)), some (.int l), some (.loc st.length), some (.int ((i * l : Nat) : Int)), some (.int (k : Int))], rfl, rfl, fun _ => by simp only [Int.cast_ofNat_Int, Nat.zero_add, Int.reduceEq, Int.reduceNe, Int.reduceLT, Int.reduceLE, Int.reduceGT, Int.reduceGE, Int.reduceAdd, Int.reduceSub, Int.reduceMul, Int.reduceNeg, Int.reduceMod, Int.reduceDiv, Nat.reduceLeDiff, slZ_tup, eqD_int, neD_int, eqD_bl, neD_bl, ixT0, ixT1, ixT2, ixF0, ixF1, ixF2, lenT, lenZ, addZ_frz, addZ_loc_frz, addL_loc_frz, beq_self_eq_true, runDef_eq, start3, finR, sSeq, sSet, sExpr, sRet, sRetN, sIf, sPar2, sAsg, sSetIx, sNil, RS.andThen_nx, RS.andThen_rt, RS.andThen_exn, R.toS_ok, R.toS_exn, kv, kc, k1, k2, kA0, kA1, kF, kM, kIf, kTr, kTb, tAnd3, tOr3, tNot3, kAndV, kOrV, kNotV, kChain, R.bind_ok, R.bind_exn, gN, gT, gs0, gs1, List.map_cons, List.map_nil, List.length_cons, List.length_nil, List.replicate, List.cons_append, List.nil_append, List.getElem?_cons_zero, List.getElem?_cons_succ, List.set_cons_zero, List.set_cons_succ, Nat.reduceAdd, Nat.reduceSub, if_true, if_false, Bool.false_eq_true, Bool.true_eq_false, reduceIte, Bool.not_true, Bool.not_false, Option.bind_some, decide_true, decide_false, frzF, tupF, listZ, addD, subD, mulD, fdivD, modD, cmpD, ltD, leD, gtD, geD, negD, absF, maxF, minF, intF, truD, strF, dB, wd]⟩)
    rw [hF2] at e1
    refine ⟨_, s1, ?_, grow_stands g1, r1, cover_plainD w q l⟩
    have m0 : ¬ ((w : Int) % (l : Int)) = 0 := by rw [← Int.natCast_emod]; omega
    unfold Hd.b_law_plain_bars
    rw [hF1, hF2]
    simp only [Int.cast_ofNat_Int, Nat.zero_add, Int.reduceEq, Int.reduceNe, Int.reduceLT, Int.reduceLE, Int.reduceGT, Int.reduceGE, Int.reduceAdd, Int.reduceSub, Int.reduceMul, Int.reduceNeg, Int.reduceMod, Int.reduceDiv, Nat.reduceLeDiff, slZ_tup, eqD_int, neD_int, eqD_bl, neD_bl, ixT0, ixT1, ixT2, ixF0, ixF1, ixF2, lenT, lenZ, addZ_frz, addZ_loc_frz, addL_loc_frz, beq_self_eq_true, runDef_eq, start3, finR, sSeq, sSet, sExpr, sRet, sRetN, sIf, sPar2, sAsg, sSetIx, sNil, RS.andThen_nx, RS.andThen_rt, RS.andThen_exn, R.toS_ok, R.toS_exn, kv, kc, k1, k2, kA0, kA1, kF, kM, kIf, kTr, kTb, tAnd3, tOr3, tNot3, kAndV, kOrV, kNotV, kChain, R.bind_ok, R.bind_exn, gN, gT, gs0, gs1, List.map_cons, List.map_nil, List.length_cons, List.length_nil, List.replicate, List.cons_append, List.nil_append, List.getElem?_cons_zero, List.getElem?_cons_succ, List.set_cons_zero, List.set_cons_succ, Nat.reduceAdd, Nat.reduceSub, if_true, if_false, Bool.false_eq_true, Bool.true_eq_false, reduceIte, Bool.not_true, Bool.not_false, Option.bind_some, decide_true, decide_false, frzF, tupF, listZ, addD, subD, mulD, fdivD, modD, cmpD, ltD, leD, gtD, geD, negD, absF, maxF, minF, intF, truD, strF, lstF, Nat.zero_le, lp, m0, e1]
end Fl

namespace Fl
open PySem L2 L3 Tile
/-- the i-th bar of a square, as it is and turned -/
def gB (b : Bar) (i : Nat) : Bar := if b.2.2 = true then (b.1, b.2.1 + (i : Int), true) else (b.1 + (i : Int), b.2.1, false)
def cB (b : Bar) (i : Nat) : Bar := if b.2.2 = true then (b.1 + (i : Int), b.2.1, false) else (b.1, b.2.1 + (i : Int), true)
theorem sqG_eq (l : Nat) (b : Bar) : sqG l b = (List.range l).map (gB b) := rfl
theorem sqC_eq (l : Nat) (b : Bar) : sqC l b = (List.range l).map (cB b) := rfl
def nopes (bs cs : List Bar) : List Bar := cs.filter fun g => true != decide (g ∈ bs)
def TurnsS (r : L3.Run) : Prop := ∀ (l : Nat) (bs : List Bar) (st : Sto), l ≤ 400 → bs.length ≤ 1000 → ∃ st', r [.frz (bs.map dB), .int l] st = .ok (.loc st.length) st' ∧ Stands st st' ∧ st'[st.length]? = some (.lst ((bs.filter fun b => decide (nopes bs (sqG l b) = [])).map dB))
theorem mO0 : ∀ x : Int, mulOk x 0 := fun x => .inl (.inr ⟨by decide, by decide⟩)
theorem mO1 : ∀ x : Int, mulOk x 1 := fun x => .inl (.inr ⟨by decide, by decide⟩)
theorem mD0 {x : Int} {st : Sto} : mulD (.int x) (.int 0) st = .ok (.int 0) st := by
  unfold mulD
  simp only
  rw [if_pos (mO0 x), Int.mul_zero]
theorem mD1 {x : Int} {st : Sto} : mulD (.int x) (.int 1) st = .ok (.int x) st := by
  unfold mulD
  simp only
  rw [if_pos (mO1 x), Int.mul_one]
theorem dirD {ρ : Env3} {w j : Nat} {a : Bool} {i : Int} {s : Sto} (h5 : ρ[w]? = some (some (.str (WAY a)))) (h7 : ρ[j]? = some (some (.int i))) : k2 mulD (kv j) (kF intF (kA1 (k2 eqD (kv w) (kc (.str "down"))) kA0)) ρ s = .ok (.int (if a = true then 0 else i)) s := by
  have e1 : kF intF (kA1 (k2 eqD (kv w) (kc (.str "down"))) kA0) ρ s = .ok (.int (if (!a) = true then 1 else 0)) s := by
    simp only [kF, kA1, kA0, k2, kv, kc, h5, R.bind_ok, way_eqd]
    rfl
  refine (k2_ok (kv_ok h7) e1).trans ?_
  cases a
  · exact mD1
  · exact mD0
theorem dirA {ρ : Env3} {w j : Nat} {a : Bool} {i : Int} {s : Sto} (h5 : ρ[w]? = some (some (.str (WAY a)))) (h7 : ρ[j]? = some (some (.int i))) : k2 mulD (kv j) (kF intF (kA1 (k2 eqD (kv w) (kc (.str "across"))) kA0)) ρ s = .ok (.int (if a = true then i else 0)) s := by
  have e1 : kF intF (kA1 (k2 eqD (kv w) (kc (.str "across"))) kA0) ρ s = .ok (.int (if a = true then 1 else 0)) s := by
    simp only [kF, kA1, kA0, k2, kv, kc, h5, R.bind_ok, way_eq]
    rfl
  refine (k2_ok (kv_ok h7) e1).trans ?_
  cases a
  · exact mD0
  · exact mD1
/-- a bar of a square, as the law writes it -/
theorem el_sq {ρ : Env3} {w j u v : Nat} {a : Bool} {x y i : Int} {s : Sto} (h5 : ρ[w]? = some (some (.str (WAY a)))) (h7 : ρ[j]? = some (some (.int i))) (hx : ρ[u]? = some (some (.int x))) (hy : ρ[v]? = some (some (.int y))) :
    (kF tupF (kA1 (k2 addD (kv u) (k2 mulD (kv j) (kF intF (kA1 (k2 eqD (kv w) (kc (.str "down"))) kA0)))) (kA1 (k2 addD (kv v) (k2 mulD (kv j) (kF intF (kA1 (k2 eqD (kv w) (kc (.str "across"))) kA0)))) (kA1 (kv w) kA0)))) ρ s = .ok (dB (x + (if a = true then 0 else i), y + (if a = true then i else 0), a)) s := by
  have e1 := k2_ok (f := addD) (kv_ok (st := s) hx) (dirD (s := s) h5 h7)
  have e2 := k2_ok (f := addD) (kv_ok (st := s) hy) (dirA (s := s) h5 h7)
  obtain ⟨A, hA⟩ : ∃ A, k2 addD (kv u) (k2 mulD (kv j) (kF intF (kA1 (k2 eqD (kv w) (kc (.str "down"))) kA0))) = A := ⟨_, rfl⟩
  obtain ⟨B, hB⟩ : ∃ B, k2 addD (kv v) (k2 mulD (kv j) (kF intF (kA1 (k2 eqD (kv w) (kc (.str "across"))) kA0))) = B := ⟨_, rfl⟩
  rw [hA] at e1 ⊢
  rw [hB] at e2 ⊢
  simp only [kF, kA1, kA0, e1, e2, addD, R.bind_ok, kv_ok h5]
  rfl
theorem gB_eq (x y : Int) (a : Bool) (i : Nat) : gB (x, y, a) i = (x + (if a = true then 0 else (i : Int)), y + (if a = true then (i : Int) else 0), a) := by
  cases a <;> simp [gB]
theorem cB_eq (x y : Int) (a : Bool) (i : Nat) : cB (x, y, a) i = (x + (if (!a) = true then 0 else (i : Int)), y + (if (!a) = true then (i : Int) else 0), !a) := by
  cases a <;> simp [cB]
theorem turns_e1 {l : Nat} {bs : List Bar} (hl : l ≤ 400) (b : Bar) (x6 : Option D) (d : Nat) (s : Sto) : (kLz [7] (gN 7) (iR1 (kA1 (kv 1) kA0)) kTrue (kF tupF (kA1 (k2 addD (kv 3) (k2 mulD (kv 7) (kF intF (kA1 (k2 eqD (kv 5) (kc (.str "down"))) kA0)))) (kA1 (k2 addD (kv 4) (k2 mulD (kv 7) (kF intF (kA1 (k2 eqD (kv 5) (kc (.str "across"))) kA0)))) (kA1 (kv 5) kA0))))) [some (.frz (bs.map dB)), some (.int (l : Int)), some (.loc d), some (.int b.1), some (.int b.2.1), some (.str (WAY b.2.2)), x6, none, none] s = .ok (.frz ((sqG l b).map dB)) s := by
  rw [sqG_eq, List.map_map]
  refine lz_rng (fun i => dB (gB b i)) (by omega) (iR1_ok (by omega) (arg1 rfl)) fun i hil => ⟨[some (.frz (bs.map dB)), some (.int (l : Int)), some (.loc d), some (.int b.1), some (.int b.2.1), some (.str (WAY b.2.2)), x6, some (.int (i : Int)), none], rfl, ?_⟩
  obtain ⟨x, y, a⟩ := b
  rw [gB_eq]
  exact el_sq rfl rfl rfl rfl
theorem turns_e2 {l : Nat} {bs : List Bar} (hl : l ≤ 400) (b : Bar) (d : Nat) (s : Sto) : (kLz [8] (gN 8) (iL (kv 6)) (kTb (k2 (inD true) (kv 8) (kv 0))) (kv 8)) [some (.frz (bs.map dB)), some (.int (l : Int)), some (.loc d), some (.int b.1), some (.int b.2.1), some (.str (WAY b.2.2)), some (.frz ((sqG l b).map dB)), none, none] s = .ok (.frz ((nopes bs (sqG l b)).map dB)) s := by
  refine lz_enc (cs := sqG l b) dB (fun g => true != decide (g ∈ bs)) dB rfl (by simp [sqG]; omega) fun g hg => ⟨[some (.frz (bs.map dB)), some (.int (l : Int)), some (.loc d), some (.int b.1), some (.int b.2.1), some (.str (WAY b.2.2)), some (.frz ((sqG l b).map dB)), none, some (dB g)], rfl, ?_, fun _ => rfl⟩
  simp only [Int.cast_ofNat_Int, Nat.zero_add, Int.reduceEq, Int.reduceNe, Int.reduceLT, Int.reduceLE, Int.reduceGT, Int.reduceGE, Int.reduceAdd, Int.reduceSub, Int.reduceMul, Int.reduceNeg, Int.reduceMod, Int.reduceDiv, Nat.reduceLeDiff, slZ_tup, eqD_int, neD_int, eqD_bl, neD_bl, ixT0, ixT1, ixT2, ixF0, ixF1, ixF2, lenT, lenZ, addZ_frz, addZ_loc_frz, addL_loc_frz, beq_self_eq_true, runDef_eq, start3, finR, sSeq, sSet, sExpr, sRet, sRetN, sIf, sPar2, sAsg, sSetIx, sNil, RS.andThen_nx, RS.andThen_rt, RS.andThen_exn, R.toS_ok, R.toS_exn, kv, kc, k1, k2, kA0, kA1, kF, kM, kIf, kTr, kTb, tAnd3, tOr3, tNot3, kAndV, kOrV, kNotV, kChain, R.bind_ok, R.bind_exn, gN, gT, gs0, gs1, List.map_cons, List.map_nil, List.length_cons, List.length_nil, List.replicate, List.cons_append, List.nil_append, List.getElem?_cons_zero, List.getElem?_cons_succ, List.set_cons_zero, List.set_cons_succ, Nat.reduceAdd, Nat.reduceSub, if_true, if_false, Bool.false_eq_true, Bool.true_eq_false, reduceIte, Bool.not_true, Bool.not_false, Option.bind_some, decide_true, decide_false, inD_frz_bars, truD]
theorem turns_ok : TurnsS (runDef 9 2 Hd.b_law_turns_in) := by
  intro l bs st hl hbl
  obtain ⟨L1, hL1⟩ : ∃ L, kLz [7] (gN 7) (iR1 (kA1 (kv 1) kA0)) kTrue (kF tupF (kA1 (k2 addD (kv 3) (k2 mulD (kv 7) (kF intF (kA1 (k2 eqD (kv 5) (kc (.str "down"))) kA0)))) (kA1 (k2 addD (kv 4) (k2 mulD (kv 7) (kF intF (kA1 (k2 eqD (kv 5) (kc (.str "across"))) kA0)))) (kA1 (kv 5) kA0)))) = L := ⟨_, rfl⟩
  obtain ⟨L2, hL2⟩ : ∃ L, kLz [8] (gN 8) (iL (kv 6)) (kTb (k2 (inD true) (kv 8) (kv 0))) (kv 8) = L := ⟨_, rfl⟩
  have e1 : ∀ (b : Bar) (x6 : Option D) (d : Nat) (s : Sto), L1 [some (.frz (bs.map dB)), some (.int (l : Int)), some (.loc d), some (.int b.1), some (.int b.2.1), some (.str (WAY b.2.2)), x6, none, none] s = .ok (.frz ((sqG l b).map dB)) s := fun b x6 d s => by
    rw [← hL1]; exact turns_e1 hl b x6 d s
  have e2 : ∀ (b : Bar) (d : Nat) (s : Sto), L2 [some (.frz (bs.map dB)), some (.int (l : Int)), some (.loc d), some (.int b.1), some (.int b.2.1), some (.str (WAY b.2.2)), some (.frz ((sqG l b).map dB)), none, none] s = .ok (.frz ((nopes bs (sqG l b)).map dB)) s := fun b d s => by
    rw [← hL2]; exact turns_e2 hl b d s
  have d0 : (st ++ [O.lst []])[st.length]? = some (.lst []) := by rw [stA0]; rfl
  obtain ⟨B, hB⟩ : ∃ B, sSeq (sSet 6 L1) (sIf (kTb (k2 eqD L2 (kF frzF kA0))) (sExpr (kM (tyD "list") appendM (kv 2) (kA1 (kF tupF (kA1 (kv 3) (kA1 (kv 4) (kA1 (kv 5) kA0)))) kA0))) sNil) = B := ⟨_, rfl⟩
  have step : ∀ (b : Bar) (x6 : Option D) (ys : List Bar) (s : Sto), ys.length ≤ 1000 → s[st.length]? = some (.lst (ys.map dB)) →
      ∃ s', B [some (.frz (bs.map dB)), some (.int (l : Int)), some (.loc st.length), some (.int b.1), some (.int b.2.1), some (.str (WAY b.2.2)), x6, none, none] s = .nx [some (.frz (bs.map dB)), some (.int (l : Int)), some (.loc st.length), some (.int b.1), some (.int b.2.1), some (.str (WAY b.2.2)), some (.frz ((sqG l b).map dB)), none, none] s' ∧ Grow st.length s s' ∧ s'[st.length]? = some (.lst ((ys ++ [b].filter fun b => decide (nopes bs (sqG l b) = [])).map dB)) := fun b x6 ys s hy hs => by
    have f1 := e1 b x6 st.length s
    have f2 := e2 b st.length s
    have ty : tyD "list" (.loc st.length) s = true := tyD_lst hs
    by_cases hn : nopes bs (sqG l b) = []
    · refine ⟨s.set st.length (.lst (ys.map dB ++ [dB b])), ?_, Grow.set _, ?_⟩
      · have ap : appendM (.loc st.length) [dB b] s = .ok .non (s.set st.length (.lst (ys.map dB ++ [dB b]))) := appendM_ok hs (by simp; omega)
        simp only [dB] at ap
        rw [← hB]
        simp only [Int.cast_ofNat_Int, Nat.zero_add, Int.reduceEq, Int.reduceNe, Int.reduceLT, Int.reduceLE, Int.reduceGT, Int.reduceGE, Int.reduceAdd, Int.reduceSub, Int.reduceMul, Int.reduceNeg, Int.reduceMod, Int.reduceDiv, Nat.reduceLeDiff, slZ_tup, eqD_int, neD_int, eqD_bl, neD_bl, ixT0, ixT1, ixT2, ixF0, ixF1, ixF2, lenT, lenZ, addZ_frz, addZ_loc_frz, addL_loc_frz, beq_self_eq_true, runDef_eq, start3, finR, sSeq, sSet, sExpr, sRet, sRetN, sIf, sPar2, sAsg, sSetIx, sNil, RS.andThen_nx, RS.andThen_rt, RS.andThen_exn, R.toS_ok, R.toS_exn, kv, kc, k1, k2, kA0, kA1, kF, kM, kIf, kTr, kTb, tAnd3, tOr3, tNot3, kAndV, kOrV, kNotV, kChain, R.bind_ok, R.bind_exn, gN, gT, gs0, gs1, List.map_cons, List.map_nil, List.length_cons, List.length_nil, List.replicate, List.cons_append, List.nil_append, List.getElem?_cons_zero, List.getElem?_cons_succ, List.set_cons_zero, List.set_cons_succ, Nat.reduceAdd, Nat.reduceSub, if_true, if_false, Bool.false_eq_true, Bool.true_eq_false, reduceIte, Bool.not_true, Bool.not_false, Option.bind_some, decide_true, decide_false, frzF, tupF, listZ, addD, subD, mulD, fdivD, modD, cmpD, ltD, leD, gtD, geD, negD, absF, maxF, minF, intF, truD, strF, f1, f2, eqD_frz_nil, decide_eq_true hn, ty, ap, dB]
      · rw [List.getElem?_set_self (List.getElem?_eq_some_iff.mp hs).1]
        simp [hn]
    · refine ⟨s, ?_, .refl, by simpa [hn] using hs⟩
      rw [← hB]
      simp only [Int.cast_ofNat_Int, Nat.zero_add, Int.reduceEq, Int.reduceNe, Int.reduceLT, Int.reduceLE, Int.reduceGT, Int.reduceGE, Int.reduceAdd, Int.reduceSub, Int.reduceMul, Int.reduceNeg, Int.reduceMod, Int.reduceDiv, Nat.reduceLeDiff, slZ_tup, eqD_int, neD_int, eqD_bl, neD_bl, ixT0, ixT1, ixT2, ixF0, ixF1, ixF2, lenT, lenZ, addZ_frz, addZ_loc_frz, addL_loc_frz, beq_self_eq_true, runDef_eq, start3, finR, sSeq, sSet, sExpr, sRet, sRetN, sIf, sPar2, sAsg, sSetIx, sNil, RS.andThen_nx, RS.andThen_rt, RS.andThen_exn, R.toS_ok, R.toS_exn, kv, kc, k1, k2, kA0, kA1, kF, kM, kIf, kTr, kTb, tAnd3, tOr3, tNot3, kAndV, kOrV, kNotV, kChain, R.bind_ok, R.bind_exn, gN, gT, gs0, gs1, List.map_cons, List.map_nil, List.length_cons, List.length_nil, List.replicate, List.cons_append, List.nil_append, List.getElem?_cons_zero, List.getElem?_cons_succ, List.set_cons_zero, List.set_cons_succ, Nat.reduceAdd, Nat.reduceSub, if_true, if_false, Bool.false_eq_true, Bool.true_eq_false, reduceIte, Bool.not_true, Bool.not_false, Option.bind_some, decide_true, decide_false, frzF, tupF, listZ, addD, subD, mulD, fdivD, modD, cmpD, ltD, leD, gtD, geD, negD, absF, maxF, minF, intF, truD, strF, f1, f2, eqD_frz_nil, decide_eq_false hn]
  obtain ⟨F, hF⟩ : ∃ F, sFor (gT 3 (gs1 (gN 3) (gs1 (gN 4) (gs1 (gN 5) gs0)))) (iL (kv 0)) B = F := ⟨_, rfl⟩
  have loop : ∃ x3 x4 x5 x6 s1, F [some (.frz (bs.map dB)), some (.int (l : Int)), some (.loc st.length), none, none, none, none, none, none] (st ++ [.lst []]) = .nx [some (.frz (bs.map dB)), some (.int (l : Int)), some (.loc st.length), x3, x4, x5, x6, none, none] s1 ∧ Grow st.length (st ++ [.lst []]) s1 ∧ s1[st.length]? = some (.lst ((bs.filter fun b => decide (nopes bs (sqG l b) = [])).map dB)) := by
    obtain ⟨ρ', st', q1, ⟨x3, x4, x5, x6, q2⟩, q3, q4⟩ := for_inv (g := gT 3 (gs1 (gN 3) (gs1 (gN 4) (gs1 (gN 5) gs0)))) (body := B) (src := .its (bs.map dB)) (xs := bs.map dB)
      (fun i ρ s => (∃ x3 x4 x5 x6, ρ = [some (.frz (bs.map dB)), some (.int (l : Int)), some (.loc st.length), x3, x4, x5, x6, none, none]) ∧ Grow st.length (st ++ [.lst []]) s ∧ s[st.length]? = some (.lst (((bs.take i).filter fun b => decide (nopes bs (sqG l b) = [])).map dB))) (fun i ρ s _ => rfl)
      (fun i d ρ s hx ⟨⟨x3, x4, x5, x6, hρ⟩, gr, hs⟩ => by
        subst hρ
        rw [List.getElem?_map] at hx
        obtain ⟨b, hbi, rfl⟩ := Option.map_eq_some_iff.mp hx
        have et : bs.take (i + 1) = bs.take i ++ [b] := by rw [List.take_succ, hbi]; rfl
        have hy : ((bs.take i).filter fun b => decide (nopes bs (sqG l b) = [])).length ≤ 1000 := by
          have h1 := List.length_filter_le (fun b => decide (nopes bs (sqG l b) = [])) (bs.take i)
          rw [List.length_take] at h1
          omega
        obtain ⟨s', c1, c2, c3⟩ := step b x6 _ s hy hs
        refine ⟨_, _, s', rfl, .inl c1, ⟨_, _, _, _, rfl⟩, gr.trans c2, ?_⟩
        rw [c3, et, List.filter_append])
      (bs.map dB).length 0 _ (st ++ [.lst []]) ((bs.map dB).length + 1) (by omega) (by omega) (by omega) ⟨⟨none, none, none, none, rfl⟩, .refl, by simpa using d0⟩
    refine ⟨x3, x4, x5, x6, st', ?_, q3, by rw [q4, List.length_map, List.take_length]⟩
    rw [← hF, ← q2]
    exact sFor_its rfl q1
  obtain ⟨x3, x4, x5, x6, s1, l1, l2, l3⟩ := loop
  refine ⟨s1, ?_, grow_stands l2, l3⟩
  unfold Hd.b_law_turns_in
  rw [hL1, hL2, hB, hF]
  simp only [Int.cast_ofNat_Int, Nat.zero_add, Int.reduceEq, Int.reduceNe, Int.reduceLT, Int.reduceLE, Int.reduceGT, Int.reduceGE, Int.reduceAdd, Int.reduceSub, Int.reduceMul, Int.reduceNeg, Int.reduceMod, Int.reduceDiv, Nat.reduceLeDiff, slZ_tup, eqD_int, neD_int, eqD_bl, neD_bl, ixT0, ixT1, ixT2, ixF0, ixF1, ixF2, lenT, lenZ, addZ_frz, addZ_loc_frz, addL_loc_frz, beq_self_eq_true, runDef_eq, start3, finR, sSeq, sSet, sExpr, sRet, sRetN, sIf, sPar2, sAsg, sSetIx, sNil, RS.andThen_nx, RS.andThen_rt, RS.andThen_exn, R.toS_ok, R.toS_exn, kv, kc, k1, k2, kA0, kA1, kF, kM, kIf, kTr, kTb, tAnd3, tOr3, tNot3, kAndV, kOrV, kNotV, kChain, R.bind_ok, R.bind_exn, gN, gT, gs0, gs1, List.map_cons, List.map_nil, List.length_cons, List.length_nil, List.replicate, List.cons_append, List.nil_append, List.getElem?_cons_zero, List.getElem?_cons_succ, List.set_cons_zero, List.set_cons_succ, Nat.reduceAdd, Nat.reduceSub, if_true, if_false, Bool.false_eq_true, Bool.true_eq_false, reduceIte, Bool.not_true, Bool.not_false, Option.bind_some, decide_true, decide_false, lstF, Nat.zero_le, l1]
end Fl

namespace Fl
open PySem L2 L3 Tile
/-- all stands but what is at a and b -/
structure Grow2 (a b : Nat) (st st' : Sto) : Prop where
  keep : ∀ (m : Nat) (o : O), m ≠ a → m ≠ b → st[m]? = some o → st'[m]? = some o
  len : st.length ≤ st'.length
theorem Grow2.refl {a b : Nat} {st : Sto} : Grow2 a b st st := ⟨fun _ _ _ _ h => h, Nat.le_refl _⟩
theorem Grow2.trans {a b : Nat} {x y z : Sto} (h : Grow2 a b x y) (g : Grow2 a b y z) : Grow2 a b x z := ⟨fun m o ha hb q => g.keep m o ha hb (h.keep m o ha hb q), Nat.le_trans h.len g.len⟩
theorem Grow2.setA {a b : Nat} {st : Sto} (o : O) : Grow2 a b st (st.set a o) := ⟨fun m o' ha _ q => by rw [List.getElem?_set_ne (Ne.symm ha)]; exact q, by simp⟩
theorem Grow2.setB {a b : Nat} {st : Sto} (o : O) : Grow2 a b st (st.set b o) := ⟨fun m o' _ hb q => by rw [List.getElem?_set_ne (Ne.symm hb)]; exact q, by simp⟩
def tbars (l : Nat) (b : Bar) (bs : List Bar) : List Bar := sortB (bs.filter (fun z => !decide (z ∈ sqG l b)) ++ sqC l b)
def TurnOfS (r : L3.Run) : Prop := ∀ (l : Nat) (bs : List Bar) (b : Bar) (st : Sto), l ≤ 400 → bs.length ≤ 1000 → ∃ st', r [.frz (bs.map dB), .int l, dB b] st = .ok (.frz ((tbars l b bs).map dB)) st' ∧ Stands st st'
theorem oth_ok {ρ : Env3} {w : Nat} {a : Bool} {s : Sto} (h5 : ρ[w]? = some (some (.str (WAY a)))) : kIf (kTb (k2 eqD (kv w) (kc (.str "down")))) (kc (.str "across")) (kc (.str "down")) ρ s = .ok (.str (WAY (!a))) s := by
  simp only [kIf, kTb, k2, kv, kc, h5, R.bind_ok, way_eqd]
  cases a <;> rfl
theorem turnof_ok : TurnOfS (runDef 11 3 Hd.b_law_turn_of) := by
  intro l bs b st hl hbl
  obtain ⟨x, y, a⟩ := b
  obtain ⟨A1, hA1⟩ : ∃ A, (kF tupF (kA1 (k2 addD (kv 3) (k2 mulD (kv 8) (kF intF (kA1 (k2 eqD (kv 5) (kc (.str "down"))) kA0)))) (kA1 (k2 addD (kv 4) (k2 mulD (kv 8) (kF intF (kA1 (k2 eqD (kv 5) (kc (.str "across"))) kA0)))) (kA1 (kv 5) kA0)))) = A := ⟨_, rfl⟩
  obtain ⟨A2, hA2⟩ : ∃ A, (kF tupF (kA1 (k2 addD (kv 3) (k2 mulD (kv 8) (kF intF (kA1 (k2 eqD (kv 9) (kc (.str "down"))) kA0)))) (kA1 (k2 addD (kv 4) (k2 mulD (kv 8) (kF intF (kA1 (k2 eqD (kv 9) (kc (.str "across"))) kA0)))) (kA1 (kv 9) kA0)))) = A := ⟨_, rfl⟩
  obtain ⟨O1, hO1⟩ : ∃ A, (kIf (kTb (k2 eqD (kv 5) (kc (.str "down")))) (kc (.str "across")) (kc (.str "down"))) = A := ⟨_, rfl⟩
  obtain ⟨L, hL⟩ : ∃ L, kLz [10] (gN 10) (iL (kv 0)) (kTb (k2 (inD true) (kv 10) (kv 6))) (kv 10) = L := ⟨_, rfl⟩
  obtain ⟨p, hp⟩ : ∃ p, st.length = p := ⟨_, rfl⟩
  obtain ⟨s0, hs0⟩ : ∃ s, st ++ [O.lst [], O.lst []] = s := ⟨_, rfl⟩
  have a0 : s0[p]? = some (.lst []) := by rw [← hs0, ← hp, stA0]; rfl
  have b0 : s0[p + 1]? = some (.lst []) := by rw [← hs0, ← hp, stA]; rfl
  have v1 : ∀ (i : Nat) (x9 : Option D) (s : Sto), A1 [some (.frz (bs.map dB)), some (.int (l : Int)), some (dB (x, y, a)), some (.int x), some (.int y), some (.str (WAY a)), some (.loc p), some (.loc (p + 1)), some (.int (i : Int)), x9, none] s = .ok (dB (gB (x, y, a) i)) s := fun i x9 s => by
    rw [← hA1, gB_eq]; exact el_sq rfl rfl rfl rfl
  have v2 : ∀ (i : Nat) (s : Sto), A2 [some (.frz (bs.map dB)), some (.int (l : Int)), some (dB (x, y, a)), some (.int x), some (.int y), some (.str (WAY a)), some (.loc p), some (.loc (p + 1)), some (.int (i : Int)), some (.str (WAY (!a))), none] s = .ok (dB (cB (x, y, a) i)) s := fun i s => by
    rw [← hA2, cB_eq]; exact el_sq rfl rfl rfl rfl
  have v3 : ∀ (i : Nat) (x9 : Option D) (s : Sto), O1 [some (.frz (bs.map dB)), some (.int (l : Int)), some (dB (x, y, a)), some (.int x), some (.int y), some (.str (WAY a)), some (.loc p), some (.loc (p + 1)), some (.int (i : Int)), x9, none] s = .ok (.str (WAY (!a))) s := fun i x9 s => by
    rw [← hO1]; exact oth_ok rfl
  obtain ⟨B, hB⟩ : ∃ B, sSeq (sExpr (kM (tyD "list") appendM (kv 6) (kA1 A1 kA0))) (sSeq (sSet 9 O1) (sExpr (kM (tyD "list") appendM (kv 7) (kA1 A2 kA0)))) = B := ⟨_, rfl⟩
  obtain ⟨F, hF⟩ : ∃ F, sFor (gN 8) (iR1 (kA1 (kv 1) kA0)) B = F := ⟨_, rfl⟩
  have loop : ∃ x8 x9 s1, F [some (.frz (bs.map dB)), some (.int (l : Int)), some (dB (x, y, a)), some (.int x), some (.int y), some (.str (WAY a)), some (.loc p), some (.loc (p + 1)), none, none, none] s0 = .nx [some (.frz (bs.map dB)), some (.int (l : Int)), some (dB (x, y, a)), some (.int x), some (.int y), some (.str (WAY a)), some (.loc p), some (.loc (p + 1)), x8, x9, none] s1 ∧ Grow2 p (p + 1) s0 s1 ∧ s1[p]? = some (.lst ((sqG l (x, y, a)).map dB)) ∧ s1[p + 1]? = some (.lst ((sqC l (x, y, a)).map dB)) := by
    obtain ⟨ρ', st', q1, ⟨x8, x9, q2⟩, q3, q4, q5⟩ := for_inv (g := gN 8) (body := B) (src := .its (rngIts 0 l)) (xs := rngIts 0 l)
      (fun i ρ s => (∃ x8 x9, ρ = [some (.frz (bs.map dB)), some (.int (l : Int)), some (dB (x, y, a)), some (.int x), some (.int y), some (.str (WAY a)), some (.loc p), some (.loc (p + 1)), x8, x9, none]) ∧ Grow2 p (p + 1) s0 s ∧ s[p]? = some (.lst (((List.range i).map (gB (x, y, a))).map dB)) ∧ s[p + 1]? = some (.lst (((List.range i).map (cB (x, y, a))).map dB))) (fun i ρ s _ => rfl)
      (fun i d ρ s hx ⟨⟨x8, x9, hρ⟩, gr, h1, h2⟩ => by
        subst hρ
        obtain ⟨rfl, hil⟩ := rng_get hx
        rw [Int.zero_add]
        have t1 : tyD "list" (.loc p) s = true := tyD_lst h1
        obtain ⟨s2, hs2⟩ : ∃ z, s.set p (.lst (((List.range i).map (gB (x, y, a))).map dB ++ [dB (gB (x, y, a) i)])) = z := ⟨_, rfl⟩
        have p1 : appendM (.loc p) [dB (gB (x, y, a) i)] s = .ok .non s2 := by rw [← hs2]; exact appendM_ok h1 (by simp; omega)
        have g2 : s2[p + 1]? = some (.lst (((List.range i).map (cB (x, y, a))).map dB)) := by rw [← hs2, List.getElem?_set_ne (by omega)]; exact h2
        have g1 : s2[p]? = some (.lst (((List.range (i + 1)).map (gB (x, y, a))).map dB)) := by rw [← hs2, List.getElem?_set_self (List.getElem?_eq_some_iff.mp h1).1, List.range_succ]; simp
        have t2 : tyD "list" (.loc (p + 1)) s2 = true := tyD_lst g2
        obtain ⟨s3, hs3⟩ : ∃ z, s2.set (p + 1) (.lst (((List.range i).map (cB (x, y, a))).map dB ++ [dB (cB (x, y, a) i)])) = z := ⟨_, rfl⟩
        have p2 : appendM (.loc (p + 1)) [dB (cB (x, y, a) i)] s2 = .ok .non s3 := by rw [← hs3]; exact appendM_ok g2 (by simp; omega)
        refine ⟨_, [some (.frz (bs.map dB)), some (.int (l : Int)), some (dB (x, y, a)), some (.int x), some (.int y), some (.str (WAY a)), some (.loc p), some (.loc (p + 1)), some (.int (i : Int)), some (.str (WAY (!a))), none], s3, rfl, .inl ?_, ⟨_, _, rfl⟩, gr.trans (by rw [← hs3, ← hs2]; exact (Grow2.setA _).trans (Grow2.setB _)), ?_, ?_⟩
        · rw [← hB]
          simp only [Int.cast_ofNat_Int, Nat.zero_add, Int.reduceEq, Int.reduceNe, Int.reduceLT, Int.reduceLE, Int.reduceGT, Int.reduceGE, Int.reduceAdd, Int.reduceSub, Int.reduceMul, Int.reduceNeg, Int.reduceMod, Int.reduceDiv, Nat.reduceLeDiff, slZ_tup, eqD_int, neD_int, eqD_bl, neD_bl, ixT0, ixT1, ixT2, ixF0, ixF1, ixF2, lenT, lenZ, addZ_frz, addZ_loc_frz, addL_loc_frz, beq_self_eq_true, runDef_eq, start3, finR, sSeq, sSet, sExpr, sRet, sRetN, sIf, sPar2, sAsg, sSetIx, sNil, RS.andThen_nx, RS.andThen_rt, RS.andThen_exn, R.toS_ok, R.toS_exn, kv, kc, k1, k2, kA0, kA1, kF, kM, kIf, kTr, kTb, tAnd3, tOr3, tNot3, kAndV, kOrV, kNotV, kChain, R.bind_ok, R.bind_exn, gN, gT, gs0, gs1, List.map_cons, List.map_nil, List.length_cons, List.length_nil, List.replicate, List.cons_append, List.nil_append, List.getElem?_cons_zero, List.getElem?_cons_succ, List.set_cons_zero, List.set_cons_succ, Nat.reduceAdd, Nat.reduceSub, if_true, if_false, Bool.false_eq_true, Bool.true_eq_false, reduceIte, Bool.not_true, Bool.not_false, Option.bind_some, decide_true, decide_false, v1, v2, v3, t1, p1, t2, p2]
        · rw [← hs3, List.getElem?_set_ne (by omega)]; exact g1
        · rw [← hs3, List.getElem?_set_self (List.getElem?_eq_some_iff.mp g2).1, List.range_succ]; simp)
      l 0 _ s0 (l + 1) (by unfold rngIts; simp) (by omega) (by omega) ⟨⟨none, none, rfl⟩, .refl, by simpa using a0, by simpa using b0⟩
    have rl : (rngIts 0 l).length = l := by unfold rngIts; simp
    rw [rl] at q4 q5
    refine ⟨x8, x9, st', ?_, q3, q4, q5⟩
    rw [← hF, ← q2]
    exact sFor_its (iR1_ok (by omega) (arg1 rfl)) (by rw [rl]; exact q1)
  obtain ⟨x8, x9, s1, l1, l2, l3, l4⟩ := loop
  have e5 : L [some (.frz (bs.map dB)), some (.int (l : Int)), some (dB (x, y, a)), some (.int x), some (.int y), some (.str (WAY a)), some (.loc p), some (.loc (p + 1)), x8, x9, none] s1 = .ok (.frz ((bs.filter (fun z => !decide (z ∈ sqG l (x, y, a)))).map dB)) s1 := by
    rw [← hL]
    refine lz_enc (cs := bs) dB (fun z => !decide (z ∈ sqG l (x, y, a))) dB rfl (by omega) fun g hg => ⟨[some (.frz (bs.map dB)), some (.int (l : Int)), some (dB (x, y, a)), some (.int x), some (.int y), some (.str (WAY a)), some (.loc p), some (.loc (p + 1)), x8, x9, some (dB g)], rfl, ?_, fun _ => rfl⟩
    simp only [Int.cast_ofNat_Int, Nat.zero_add, Int.reduceEq, Int.reduceNe, Int.reduceLT, Int.reduceLE, Int.reduceGT, Int.reduceGE, Int.reduceAdd, Int.reduceSub, Int.reduceMul, Int.reduceNeg, Int.reduceMod, Int.reduceDiv, Nat.reduceLeDiff, slZ_tup, eqD_int, neD_int, eqD_bl, neD_bl, ixT0, ixT1, ixT2, ixF0, ixF1, ixF2, lenT, lenZ, addZ_frz, addZ_loc_frz, addL_loc_frz, beq_self_eq_true, runDef_eq, start3, finR, sSeq, sSet, sExpr, sRet, sRetN, sIf, sPar2, sAsg, sSetIx, sNil, RS.andThen_nx, RS.andThen_rt, RS.andThen_exn, R.toS_ok, R.toS_exn, kv, kc, k1, k2, kA0, kA1, kF, kM, kIf, kTr, kTb, tAnd3, tOr3, tNot3, kAndV, kOrV, kNotV, kChain, R.bind_ok, R.bind_exn, gN, gT, gs0, gs1, List.map_cons, List.map_nil, List.length_cons, List.length_nil, List.replicate, List.cons_append, List.nil_append, List.getElem?_cons_zero, List.getElem?_cons_succ, List.set_cons_zero, List.set_cons_succ, Nat.reduceAdd, Nat.reduceSub, if_true, if_false, Bool.false_eq_true, Bool.true_eq_false, reduceIte, Bool.not_true, Bool.not_false, Option.bind_some, decide_true, decide_false, inD_loc_bars l3, truD, Bool.true_bne]
  have lenc : (sqC l (x, y, a)).length = l := by simp [sqC]
  have lenf := List.length_filter_le (fun z => !decide (z ∈ sqG l (x, y, a))) bs
  have e6 : addZ (.frz ((bs.filter (fun z => !decide (z ∈ sqG l (x, y, a)))).map dB)) (.loc (p + 1)) s1 = .ok (.frz ((bs.filter (fun z => !decide (z ∈ sqG l (x, y, a))) ++ sqC l (x, y, a)).map dB)) s1 := by
    simp only [addZ, itemsD, l4]
    rw [if_pos (by rw [List.length_map, List.length_map, lenc]; omega), List.map_append]
  have e7 : sortFZ [.frz ((bs.filter (fun z => !decide (z ∈ sqG l (x, y, a))) ++ sqC l (x, y, a)).map dB)] s1 = .ok (.frz ((tbars l (x, y, a) bs).map dB)) s1 := sortRows_ok
  refine ⟨s1, ?_, fun m o q => l2.keep m o ?_ ?_ ?_, ?_⟩
  · unfold Hd.b_law_turn_of
    rw [hA1, hA2, hO1, hL, hB, hF]
    simp only [dB] at l1 e5 ⊢
    simp only [Int.cast_ofNat_Int, Nat.zero_add, Int.reduceEq, Int.reduceNe, Int.reduceLT, Int.reduceLE, Int.reduceGT, Int.reduceGE, Int.reduceAdd, Int.reduceSub, Int.reduceMul, Int.reduceNeg, Int.reduceMod, Int.reduceDiv, Nat.reduceLeDiff, slZ_tup, eqD_int, neD_int, eqD_bl, neD_bl, ixT0, ixT1, ixT2, ixF0, ixF1, ixF2, lenT, lenZ, addZ_frz, addZ_loc_frz, addL_loc_frz, beq_self_eq_true, runDef_eq, start3, finR, sSeq, sSet, sExpr, sRet, sRetN, sIf, sPar2, sAsg, sSetIx, sNil, RS.andThen_nx, RS.andThen_rt, RS.andThen_exn, R.toS_ok, R.toS_exn, kv, kc, k1, k2, kA0, kA1, kF, kM, kIf, kTr, kTb, tAnd3, tOr3, tNot3, kAndV, kOrV, kNotV, kChain, R.bind_ok, R.bind_exn, gN, gT, gs0, gs1, List.map_cons, List.map_nil, List.length_cons, List.length_nil, List.replicate, List.cons_append, List.nil_append, List.getElem?_cons_zero, List.getElem?_cons_succ, List.set_cons_zero, List.set_cons_succ, Nat.reduceAdd, Nat.reduceSub, if_true, if_false, Bool.false_eq_true, Bool.true_eq_false, reduceIte, Bool.not_true, Bool.not_false, Option.bind_some, decide_true, decide_false, frzF, tupF, listZ, addD, subD, mulD, fdivD, modD, cmpD, ltD, leD, gtD, geD, negD, absF, maxF, minF, intF, truD, strF, lstF, Nat.zero_le, List.append_assoc, List.length_append, hp, hs0, l1, e5, e6, e7]
  · have := (List.getElem?_eq_some_iff.mp q).1; omega
  · have := (List.getElem?_eq_some_iff.mp q).1; omega
  · rw [← hs0, List.getElem?_append_left (List.getElem?_eq_some_iff.mp q).1]; exact q
  · have := l2.len
    rw [← hs0, List.length_append] at this
    omega
end Fl

namespace Fl
open PySem L2 L3 Tile
theorem sortB_idem (bs : List Bar) : sortB (sortB bs) = sortB bs := sortB_uniq (sortB_perm bs)
theorem cover_len {w h l : Nat} {bs : List Bar} (c : Cover w h l bs) (f : Fits w h l) : bs.length ≤ 400 := by
  have h1 := bars_le (l := l) (by have := f.l2; omega) bs
  have h2 : (bs.flatMap (cells l)).length = w * h := by rw [c.length_eq, grid_len]
  have := f.wh
  omega
/-- some = turns_in(bars, long); if some != []: bars = turn_of(bars, long, pick(die, some)) -/
theorem turn_step {rp rti rto : L3.Run} (hp : PickS rp) (hti : TurnsS rti) (hto : TurnOfS rto) {w h l n : Nat} {bs : List Bar} {v1 : D} {x6 x7 : Option D} {st : Sto} (hd : DieAt n st) (c : Cover w h l bs) (f : Fits w h l) (hsb : sortB bs = bs) :
    ∃ bs' x7' st', sSeq (sSet 7 (kF rti (kA1 (kv 5) (kA1 (kv 2) kA0)))) (sIf (kTb (k2 neD (kv 7) (kF frzF kA0))) (sSet 5 (kF rto (kA1 (kv 5) (kA1 (kv 2) (kA1 (kF rp (kA1 (kv 0) (kA1 (kv 7) kA0))) kA0))))) sNil)
      [some (.loc n), some v1, some (.int l), some (.int w), some (.int h), some (.frz (bs.map dB)), x6, x7] st = .nx [some (.loc n), some v1, some (.int l), some (.int w), some (.int h), some (.frz (bs'.map dB)), x6, x7'] st' ∧ Step n st st' ∧ Cover w h l bs' ∧ sortB bs' = bs' := by
  have hbl := cover_len c f
  have hl4 := f.l4
  have hl2 := f.l2
  obtain ⟨s1, e1, g1, t1⟩ := hti l bs st hl4 (by omega)
  have st1 : Step n st s1 := Stands.step (.refl hd) g1
  by_cases hn : (bs.filter fun b => decide (nopes bs (sqG l b) = [])) = []
  · refine ⟨bs, some (.loc st.length), s1, ?_, st1, c, hsb⟩
    have e2 : neD (.loc st.length) (.frz []) s1 = .ok (.bl false) s1 := by rw [neD_loc_nil t1, hn]; rfl
    simp only [Int.cast_ofNat_Int, Nat.zero_add, Int.reduceEq, Int.reduceNe, Int.reduceLT, Int.reduceLE, Int.reduceGT, Int.reduceGE, Int.reduceAdd, Int.reduceSub, Int.reduceMul, Int.reduceNeg, Int.reduceMod, Int.reduceDiv, Nat.reduceLeDiff, slZ_tup, eqD_int, neD_int, eqD_bl, neD_bl, ixT0, ixT1, ixT2, ixF0, ixF1, ixF2, lenT, lenZ, addZ_frz, addZ_loc_frz, addL_loc_frz, beq_self_eq_true, runDef_eq, start3, finR, sSeq, sSet, sExpr, sRet, sRetN, sIf, sPar2, sAsg, sSetIx, sNil, RS.andThen_nx, RS.andThen_rt, RS.andThen_exn, R.toS_ok, R.toS_exn, kv, kc, k1, k2, kA0, kA1, kF, kM, kIf, kTr, kTb, tAnd3, tOr3, tNot3, kAndV, kOrV, kNotV, kChain, R.bind_ok, R.bind_exn, gN, gT, gs0, gs1, List.map_cons, List.map_nil, List.length_cons, List.length_nil, List.replicate, List.cons_append, List.nil_append, List.getElem?_cons_zero, List.getElem?_cons_succ, List.set_cons_zero, List.set_cons_succ, Nat.reduceAdd, Nat.reduceSub, if_true, if_false, Bool.false_eq_true, Bool.true_eq_false, reduceIte, Bool.not_true, Bool.not_false, Option.bind_some, decide_true, decide_false, frzF, Nat.zero_le, e1, e2]
  · have e2 : neD (.loc st.length) (.frz []) s1 = .ok (.bl true) s1 := by rw [neD_loc_nil t1, decide_eq_false hn]; rfl
    have sd : seqD (.loc st.length) s1 = some ((bs.filter fun b => decide (nopes bs (sqG l b) = [])).map dB) := by simp only [seqD, t1]
    have hlt := hd.lt
    have lf := List.length_filter_le (fun b => decide (nopes bs (sqG l b) = [])) bs
    obtain ⟨y, s2, hy, e3, _, st2⟩ := hp s1 n (.loc st.length) _ st1.die sd (fun m e => by cases e; omega) (by simpa using hn) (by rw [List.length_map]; omega)
    obtain ⟨b, hb, rfl⟩ := List.mem_map.mp hy
    have hb2 := (List.mem_filter.mp hb).2
    rw [decide_eq_true_eq] at hb2
    have hs : ∀ g ∈ sqG l b, g ∈ bs := fun g hg => by
      by_cases hgb : g ∈ bs
      · exact hgb
      · have : g ∈ nopes bs (sqG l b) := List.mem_filter.mpr ⟨hg, by simp [hgb]⟩
        rw [hb2] at this
        cases this
    obtain ⟨s3, e4, g4⟩ := hto l bs b s2 hl4 (by omega)
    refine ⟨tbars l b bs, some (.loc st.length), s3, ?_, Stands.step (st1.trans st2) g4, cover_perm (cover_turn c (by omega) hs) (sortB_perm _), sortB_idem _⟩
    simp only [Int.cast_ofNat_Int, Nat.zero_add, Int.reduceEq, Int.reduceNe, Int.reduceLT, Int.reduceLE, Int.reduceGT, Int.reduceGE, Int.reduceAdd, Int.reduceSub, Int.reduceMul, Int.reduceNeg, Int.reduceMod, Int.reduceDiv, Nat.reduceLeDiff, slZ_tup, eqD_int, neD_int, eqD_bl, neD_bl, ixT0, ixT1, ixT2, ixF0, ixF1, ixF2, lenT, lenZ, addZ_frz, addZ_loc_frz, addL_loc_frz, beq_self_eq_true, runDef_eq, start3, finR, sSeq, sSet, sExpr, sRet, sRetN, sIf, sPar2, sAsg, sSetIx, sNil, RS.andThen_nx, RS.andThen_rt, RS.andThen_exn, R.toS_ok, R.toS_exn, kv, kc, k1, k2, kA0, kA1, kF, kM, kIf, kTr, kTb, tAnd3, tOr3, tNot3, kAndV, kOrV, kNotV, kChain, R.bind_ok, R.bind_exn, gN, gT, gs0, gs1, List.map_cons, List.map_nil, List.length_cons, List.length_nil, List.replicate, List.cons_append, List.nil_append, List.getElem?_cons_zero, List.getElem?_cons_succ, List.set_cons_zero, List.set_cons_succ, Nat.reduceAdd, Nat.reduceSub, if_true, if_false, Bool.false_eq_true, Bool.true_eq_false, reduceIte, Bool.not_true, Bool.not_false, Option.bind_some, decide_true, decide_false, frzF, Nat.zero_le, e1, e2, e3, e4]
theorem any_ok {rp rc rpl rti rto : L3.Run} (hp : PickS rp) (hc : CastS rc) (hpl : PlainS rpl) (hti : TurnsS rti) (hto : TurnOfS rto) : AnyS (runDef 8 2 (Hd.b_law_any_floor rp rc rpl rti rto)) := by
  intro st n most hd hm0 hm1
  obtain ⟨y, s1, hy, e1, _, g1⟩ := hp.frz hd [.int 2, .int 3, .int 2, .int 2, .int 4] (by simp) (by decide)
  obtain ⟨l, rfl, hl2, hl4⟩ : ∃ l : Nat, y = .int (l : Int) ∧ 2 ≤ l ∧ l ≤ 4 := by
    simp only [List.mem_cons, List.not_mem_nil, or_false] at hy
    rcases hy with rfl | rfl | rfl | rfl | rfl
    · exact ⟨2, rfl, by omega, by omega⟩
    · exact ⟨3, rfl, by omega, by omega⟩
    · exact ⟨2, rfl, by omega, by omega⟩
    · exact ⟨2, rfl, by omega, by omega⟩
    · exact ⟨4, rfl, by omega, by omega⟩
  obtain ⟨a, s2, ha0, ha3, e2, _, g2⟩ := hc s1 n 3 g1.die (by decide) (by decide)
  obtain ⟨b, s3, hb0, hb7, e3, _, g3⟩ := hc s2 n 7 g2.die (by decide) (by decide)
  obtain ⟨a', rfl⟩ := Int.eq_ofNat_of_zero_le ha0
  obtain ⟨b', rfl⟩ := Int.eq_ofNat_of_zero_le hb0
  have ha' : a' < 3 := by omega
  have hb' : b' < 7 := by omega
  obtain ⟨W, hW⟩ : ∃ W : Nat, W = l * (1 + a') := ⟨_, rfl⟩
  have hW2 : W ≤ 12 := by rw [hW]; exact Nat.mul_le_mul (by omega : l ≤ 4) (by omega : 1 + a' ≤ 3)
  have hW1 : 2 ≤ W := by rw [hW]; exact Nat.mul_le_mul hl2 (by omega : 1 ≤ 1 + a')
  have hWl : W % l = 0 := by rw [hW]; exact Nat.mul_mod_right l _
  have hWH : W * (1 + b') ≤ 84 := Nat.mul_le_mul hW2 (by omega : 1 + b' ≤ 7)
  have ft0 : Fits W (1 + b') l := ⟨hl2, by omega, by omega, by omega, by omega, by omega, by omega⟩
  have mo : mulOk (l : Int) (1 + (a' : Int)) := .inl (.inl ⟨by omega, by omega⟩)
  have wE : (l : Int) * (1 + (a' : Int)) = (W : Int) := by rw [hW, Int.natCast_mul, Int.natCast_add]; rfl
  have hE : (1 : Int) + (b' : Int) = ((1 + b' : Nat) : Int) := by omega
  have ml : ∀ s : Sto, mulD (.int (l : Int)) (.int (1 + (a' : Int))) s = .ok (.int (W : Int)) s := fun s => by
    unfold mulD
    simp only
    rw [if_pos mo, wE]
  obtain ⟨H, hH⟩ : ∃ H : Nat, H = 1 + b' := ⟨_, rfl⟩
  rw [← hH] at ft0 hE
  obtain ⟨y, s4, hy, e4, _, g4⟩ := hp.frz g3.die [.tup [.int (W : Int), .int (H : Int)], .tup [.int (H : Int), .int (W : Int)]] (by simp) (by decide : 2 < 1073741824)
  have G4 : Step n st s4 := g1.trans (g2.trans (g3.trans g4))
  obtain ⟨w, h, rfl, ft, hdv⟩ : ∃ w h : Nat, y = .tup [.int (w : Int), .int (h : Int)] ∧ Fits w h l ∧ (w % l = 0 ∨ h % l = 0) := by
    simp only [List.mem_cons, List.not_mem_nil, or_false] at hy
    rcases hy with rfl | rfl
    · exact ⟨W, H, rfl, ft0, .inl hWl⟩
    · exact ⟨H, W, rfl, ft0.swap, .inr hWl⟩
  obtain ⟨bs0, s5, e5, g5, t5, c0⟩ := hpl w h l ft hdv s4
  have G5 : Step n st s5 := Stands.step G4 g5
  have e6 : sortFZ [.loc s4.length] s5 = .ok (.frz ((sortB bs0).map dB)) s5 := by simp only [sortFZ, t5]; exact sortRows_ok
  have c1 : Cover w h l (sortB bs0) := cover_perm c0 (sortB_perm _)
  obtain ⟨T, s6, hT0, hT1, e7, _, g7⟩ := hc s5 n most G5.die (by omega) (by omega)
  obtain ⟨T', rfl⟩ := Int.eq_ofNat_of_zero_le hT0
  have G6 : Step n st s6 := G5.trans g7
  obtain ⟨B, hB⟩ : ∃ B, sSeq (sSet 7 (kF rti (kA1 (kv 5) (kA1 (kv 2) kA0)))) (sIf (kTb (k2 neD (kv 7) (kF frzF kA0))) (sSet 5 (kF rto (kA1 (kv 5) (kA1 (kv 2) (kA1 (kF rp (kA1 (kv 0) (kA1 (kv 7) kA0))) kA0))))) sNil) = B := ⟨_, rfl⟩
  obtain ⟨F, hF⟩ : ∃ F, sFor (gN 6) (iR1 (kA1 (kF rc (kA1 (kv 0) (kA1 (kv 1) kA0))) kA0)) B = F := ⟨_, rfl⟩
  have loop : ∃ bs x6 x7 s7, F [some (.loc n), some (.int (most : Int)), some (.int (l : Int)), some (.int (w : Int)), some (.int (h : Int)), some (.frz ((sortB bs0).map dB)), none, none] s5 = .nx [some (.loc n), some (.int (most : Int)), some (.int (l : Int)), some (.int (w : Int)), some (.int (h : Int)), some (.frz (bs.map dB)), x6, x7] s7 ∧ Step n st s7 ∧ Cover w h l bs ∧ sortB bs = bs := by
    have hi : iR1 (kA1 (kF rc (kA1 (kv 0) (kA1 (kv 1) kA0))) kA0) [some (.loc n), some (.int (most : Int)), some (.int (l : Int)), some (.int (w : Int)), some (.int (h : Int)), some (.frz ((sortB bs0).map dB)), none, none] s5 = .ok (.its (rngIts 0 T')) s6 :=
      iR1_ok (by omega) (by simp only [Int.cast_ofNat_Int, Nat.zero_add, Int.reduceEq, Int.reduceNe, Int.reduceLT, Int.reduceLE, Int.reduceGT, Int.reduceGE, Int.reduceAdd, Int.reduceSub, Int.reduceMul, Int.reduceNeg, Int.reduceMod, Int.reduceDiv, Nat.reduceLeDiff, slZ_tup, eqD_int, neD_int, eqD_bl, neD_bl, ixT0, ixT1, ixT2, ixF0, ixF1, ixF2, lenT, lenZ, addZ_frz, addZ_loc_frz, addL_loc_frz, beq_self_eq_true, runDef_eq, start3, finR, sSeq, sSet, sExpr, sRet, sRetN, sIf, sPar2, sAsg, sSetIx, sNil, RS.andThen_nx, RS.andThen_rt, RS.andThen_exn, R.toS_ok, R.toS_exn, kv, kc, k1, k2, kA0, kA1, kF, kM, kIf, kTr, kTb, tAnd3, tOr3, tNot3, kAndV, kOrV, kNotV, kChain, R.bind_ok, R.bind_exn, gN, gT, gs0, gs1, List.map_cons, List.map_nil, List.length_cons, List.length_nil, List.replicate, List.cons_append, List.nil_append, List.getElem?_cons_zero, List.getElem?_cons_succ, List.set_cons_zero, List.set_cons_succ, Nat.reduceAdd, Nat.reduceSub, if_true, if_false, Bool.false_eq_true, Bool.true_eq_false, reduceIte, Bool.not_true, Bool.not_false, Option.bind_some, decide_true, decide_false, e7])
    obtain ⟨ρ', s7, q1, bs, x6, x7, rfl, q2, q3, q4⟩ := for_keep (g := gN 6) (body := B) (fun ρ s => ∃ bs x6 x7, ρ = [some (.loc n), some (.int (most : Int)), some (.int (l : Int)), some (.int (w : Int)), some (.int (h : Int)), some (.frz (bs.map dB)), x6, x7] ∧ Step n st s ∧ Cover w h l bs ∧ sortB bs = bs) hi ⟨_, _, _, rfl, G6, c1, sortB_idem _⟩
      (fun x hx ρ s ⟨bs, x6, x7, hρ, q, cc, qs⟩ => by
        subst hρ
        obtain ⟨bs', x7', s', d1, d2, d3, d4⟩ := turn_step hp hti hto (v1 := .int (most : Int)) (x6 := some x) (x7 := x7) q.die cc ft qs
        rw [hB] at d1
        exact ⟨_, _, s', rfl, d1, _, _, _, rfl, q.trans d2, d3, d4⟩)
    exact ⟨bs, x6, x7, s7, by rw [← hF]; exact q1, q2, q3, q4⟩
  obtain ⟨bs, x6, x7, s7, l1, l2, l3, l4⟩ := loop
  refine ⟨w, h, l, bs, s7.length, s7 ++ [.lst [.tup [.int (w : Int), .int (h : Int), .int (l : Int)], .frz (bs.map dB)]], ?_, l2.new _, l2.len, by rw [stA0]; rfl, l3, ft, l4⟩
  obtain ⟨M, hM⟩ : ∃ M, k2 mulD (kv 2) (k2 addD (kc (.int 1)) (kF rc (kA1 (kv 0) (kA1 (kc (.int 3)) kA0)))) = M := ⟨_, rfl⟩
  have vM : M [some (.loc n), some (.int (most : Int)), some (.int (l : Int)), none, none, none, none, none] s1 = .ok (.int (W : Int)) s2 := by
    rw [← hM]
    exact (k2_ok (x := .int (l : Int)) (y := .int (1 + (a' : Int))) (st1 := s1) (st2 := s2) rfl (by simp only [Int.cast_ofNat_Int, Nat.zero_add, Int.reduceEq, Int.reduceNe, Int.reduceLT, Int.reduceLE, Int.reduceGT, Int.reduceGE, Int.reduceAdd, Int.reduceSub, Int.reduceMul, Int.reduceNeg, Int.reduceMod, Int.reduceDiv, Nat.reduceLeDiff, slZ_tup, eqD_int, neD_int, eqD_bl, neD_bl, ixT0, ixT1, ixT2, ixF0, ixF1, ixF2, lenT, lenZ, addZ_frz, addZ_loc_frz, addL_loc_frz, beq_self_eq_true, runDef_eq, start3, finR, sSeq, sSet, sExpr, sRet, sRetN, sIf, sPar2, sAsg, sSetIx, sNil, RS.andThen_nx, RS.andThen_rt, RS.andThen_exn, R.toS_ok, R.toS_exn, kv, kc, k1, k2, kA0, kA1, kF, kM, kIf, kTr, kTb, tAnd3, tOr3, tNot3, kAndV, kOrV, kNotV, kChain, R.bind_ok, R.bind_exn, gN, gT, gs0, gs1, List.map_cons, List.map_nil, List.length_cons, List.length_nil, List.replicate, List.cons_append, List.nil_append, List.getElem?_cons_zero, List.getElem?_cons_succ, List.set_cons_zero, List.set_cons_succ, Nat.reduceAdd, Nat.reduceSub, if_true, if_false, Bool.false_eq_true, Bool.true_eq_false, reduceIte, Bool.not_true, Bool.not_false, Option.bind_some, decide_true, decide_false, addD, e2])).trans (ml s2)
  clear ml mo
  unfold Hd.b_law_any_floor
  rw [hB, hF, hM]
  simp only [Int.cast_ofNat_Int, Nat.zero_add, Int.reduceEq, Int.reduceNe, Int.reduceLT, Int.reduceLE, Int.reduceGT, Int.reduceGE, Int.reduceAdd, Int.reduceSub, Int.reduceMul, Int.reduceNeg, Int.reduceMod, Int.reduceDiv, Nat.reduceLeDiff, slZ_tup, eqD_int, neD_int, eqD_bl, neD_bl, ixT0, ixT1, ixT2, ixF0, ixF1, ixF2, lenT, lenZ, addZ_frz, addZ_loc_frz, addL_loc_frz, beq_self_eq_true, runDef_eq, start3, finR, sSeq, sSet, sExpr, sRet, sRetN, sIf, sPar2, sAsg, sSetIx, sNil, RS.andThen_nx, RS.andThen_rt, RS.andThen_exn, R.toS_ok, R.toS_exn, kv, kc, k1, k2, kA0, kA1, kF, kM, kIf, kTr, kTb, tAnd3, tOr3, tNot3, kAndV, kOrV, kNotV, kChain, R.bind_ok, R.bind_exn, gN, gT, gs0, gs1, List.map_cons, List.map_nil, List.length_cons, List.length_nil, List.replicate, List.cons_append, List.nil_append, List.getElem?_cons_zero, List.getElem?_cons_succ, List.set_cons_zero, List.set_cons_succ, Nat.reduceAdd, Nat.reduceSub, if_true, if_false, Bool.false_eq_true, Bool.true_eq_false, reduceIte, Bool.not_true, Bool.not_false, Option.bind_some, decide_true, decide_false, frzF, tupF, lstF, addD, e1, vM, e3, hE, e4, e5, e6, l1]
end Fl

namespace Fl
open PySem L2 L3 Tile
theorem sortB_sorted {bs : List Bar} (h : bs.Pairwise fun a b => leB a b = true) : sortB bs = bs :=
  (sortB_perm bs).eq_of_pairwise (le := fun a b => leB a b = true) (fun a b _ _ h1 h2 => dB_inj (row_eq (dB_row a) (dB_row b) h1 h2)) (sortB_pw bs) h
theorem sortB_is {bs cs : List Bar} (p : bs.Perm cs) (h : cs.Pairwise fun a b => leB a b = true) : sortB bs = cs := (sortB_uniq p).trans (sortB_sorted h)
instance {w h l : Nat} {bs : List Bar} : Decidable (Cover w h l bs) := by unfold Cover; infer_instance
theorem kPr_size' {o : KE} {x w h l : Nat} {bs : List Bar} {ρ : Env3} {s t : Sto} (hx : o ρ t = .ok (.loc x) s) (f : FloorAt s x w h l bs) : kPr "Floor" "size" (runDef 1 1 b_Floor_size) o ρ t = .ok (.tup [.int w, .int h, .int l]) s := by
  unfold kPr
  rw [hx]
  have e : runDef 1 1 b_Floor_size [.loc x] s = .ok (.tup [.int w, .int h, .int l]) s := by simp only [b_Floor_size, Int.cast_ofNat_Int, Nat.zero_add, Int.reduceEq, Int.reduceNe, Int.reduceLT, Int.reduceLE, Int.reduceGT, Int.reduceGE, Int.reduceAdd, Int.reduceSub, Int.reduceMul, Int.reduceNeg, Int.reduceMod, Int.reduceDiv, Nat.reduceLeDiff, slZ_tup, eqD_int, neD_int, eqD_bl, neD_bl, ixT0, ixT1, ixT2, ixF0, ixF1, ixF2, lenT, lenZ, addZ_frz, addZ_loc_frz, addL_loc_frz, beq_self_eq_true, runDef_eq, start3, finR, sSeq, sSet, sExpr, sRet, sRetN, sIf, sPar2, sAsg, sSetIx, sNil, RS.andThen_nx, RS.andThen_rt, RS.andThen_exn, R.toS_ok, R.toS_exn, kv, kc, k1, k2, kA0, kA1, kF, kM, kIf, kTr, kTb, tAnd3, tOr3, tNot3, kAndV, kOrV, kNotV, kChain, R.bind_ok, R.bind_exn, gN, gT, gs0, gs1, List.map_cons, List.map_nil, List.length_cons, List.length_nil, List.replicate, List.cons_append, List.nil_append, List.getElem?_cons_zero, List.getElem?_cons_succ, List.set_cons_zero, List.set_cons_succ, Nat.reduceAdd, Nat.reduceSub, if_true, if_false, Bool.false_eq_true, Bool.true_eq_false, reduceIte, Bool.not_true, Bool.not_false, Option.bind_some, decide_true, decide_false, fld_size f]
  obtain ⟨d, b0, p, fe, _⟩ := f
  simp only [R.bind_ok, fe, if_true, e, noX]
theorem kPr_bars' {o : KE} {x w h l : Nat} {bs : List Bar} {ρ : Env3} {s t : Sto} (hx : o ρ t = .ok (.loc x) s) (f : FloorAt s x w h l bs) : kPr "Floor" "bars" (runDef 1 1 b_Floor_bars) o ρ t = .ok (.tup (bs.map dB)) s := by
  unfold kPr
  rw [hx]
  have e : runDef 1 1 b_Floor_bars [.loc x] s = .ok (.tup (bs.map dB)) s := by simp only [b_Floor_bars, Int.cast_ofNat_Int, Nat.zero_add, Int.reduceEq, Int.reduceNe, Int.reduceLT, Int.reduceLE, Int.reduceGT, Int.reduceGE, Int.reduceAdd, Int.reduceSub, Int.reduceMul, Int.reduceNeg, Int.reduceMod, Int.reduceDiv, Nat.reduceLeDiff, slZ_tup, eqD_int, neD_int, eqD_bl, neD_bl, ixT0, ixT1, ixT2, ixF0, ixF1, ixF2, lenT, lenZ, addZ_frz, addZ_loc_frz, addL_loc_frz, beq_self_eq_true, runDef_eq, start3, finR, sSeq, sSet, sExpr, sRet, sRetN, sIf, sPar2, sAsg, sSetIx, sNil, RS.andThen_nx, RS.andThen_rt, RS.andThen_exn, R.toS_ok, R.toS_exn, kv, kc, k1, k2, kA0, kA1, kF, kM, kIf, kTr, kTb, tAnd3, tOr3, tNot3, kAndV, kOrV, kNotV, kChain, R.bind_ok, R.bind_exn, gN, gT, gs0, gs1, List.map_cons, List.map_nil, List.length_cons, List.length_nil, List.replicate, List.cons_append, List.nil_append, List.getElem?_cons_zero, List.getElem?_cons_succ, List.set_cons_zero, List.set_cons_succ, Nat.reduceAdd, Nat.reduceSub, if_true, if_false, Bool.false_eq_true, Bool.true_eq_false, reduceIte, Bool.not_true, Bool.not_false, Option.bind_some, decide_true, decide_false, fld_bars f]
  obtain ⟨d, b0, p, fe, _⟩ := f
  simp only [R.bind_ok, fe, if_true, e, noX]
/-- the law's last floor -/
def ex3 : List Bar := [(0, 0, false), (1, 0, true), (1, 1, true)]
theorem ex3_cover : Cover 3 2 2 ex3 := by decide +kernel
theorem ex3_fits : Fits 3 2 2 := ⟨by decide, by decide, by decide, by decide, by decide, by decide, by decide⟩
theorem ex3_sorted : sortB ex3 = ex3 := sortB_sorted (by decide +kernel)
theorem ex3_mir : sortB (ex3.map (mirB 3 2)) = [(0, 0, true), (0, 1, true), (2, 0, false)] := sortB_is (by decide +kernel) (by decide +kernel)
theorem ex3_ex : sortB (ex3.map exB) = [(0, 0, true), (0, 1, false), (1, 1, false)] := sortB_is (by decide +kernel) (by decide +kernel)
end Fl

namespace Fl
open PySem PySem.Spec PyProof.Rows L2 L3
def b_Floor_width  : KS :=
  (sRet (k2 ixD (k1 (fldD "Floor" "_size") (kv 0)) (kc (.int 0))))
def b_Floor_height  : KS :=
  (sRet (k2 ixD (k1 (fldD "Floor" "_size") (kv 0)) (kc (.int 1))))
def b_Floor_length  : KS :=
  (sRet (k2 ixD (k1 (fldD "Floor" "_size") (kv 0)) (kc (.int 2))))
def b_profile (r_Floor_width : L3.Run) (r_Floor_height : L3.Run) (r_Floor_bars : L3.Run) (r_Floor_length : L3.Run) : KS :=
  (sSeq (sIf (tNot3 (kTr (k1 (isC "Floor") (kv 0)))) sNever sNil)
    (sSeq (sSet 1 (k2 mulD (kF lstF (kA1 (kc (.int 0)) kA0)) (k2 subD (kPr "Floor" "width" r_Floor_width (kv 0)) (kc (.int 1)))))
    (sSeq (sSet 2 (k2 mulD (kF lstF (kA1 (kc (.int 0)) kA0)) (k2 subD (kPr "Floor" "height" r_Floor_height (kv 0)) (kc (.int 1)))))
    (sSeq (sFor (gT 3 (gs1 (gN 3) (gs1 (gN 4) (gs1 (gN 5) gs0)))) (iT (kPr "Floor" "bars" r_Floor_bars (kv 0))) (sSeq (sSet 6 (kIf (kTb (k2 eqD (kv 5) (kc (.str "across")))) (kv 1) (kv 2)))
    (sSeq (sSet 7 (kIf (kTb (k2 eqD (kv 5) (kc (.str "across")))) (kv 3) (kv 4)))
    (sFor (gN 8) (iR2 (kA1 (kv 7) (kA1 (k2 subD (k2 addD (kv 7) (kPr "Floor" "length" r_Floor_length (kv 0))) (kc (.int 1))) kA0))) (sSetIx setL (kv 6) (kv 8) (k2 addD (k2 ixD (kv 6) (kv 8)) (kc (.int 1))))))))
    (sRet (kF tupF (kA1 (kF tupleF (kA1 (kv 1) kA0)) (kA1 (kF tupleF (kA1 (kv 2) kA0)) kA0))))))))
def b_uncrossed  : KS :=
  (sRet (kF tupleF (kA1 (kLz [2, 3] (gT 2 (gs1 (gN 2) (gs1 (gN 3) gs0))) (iEt (kA1 (kv 1) kA0)) (kTb (k2 eqD (kv 3) (kc (.int 0)))) (kF tupF (kA1 (kv 0) (kA1 (k2 addD (kv 2) (kc (.int 1))) kA0)))) kA0)))
def b_seams (r_profile : L3.Run) (r_uncrossed : L3.Run) : KS :=
  (sSeq (sAsg (gT 2 (gs1 (gN 1) (gs1 (gN 2) gs0))) (kF r_profile (kA1 (kv 0) kA0)))
    (sRet (k2 addD (kF r_uncrossed (kA1 (kc (.str "level")) (kA1 (kv 2) kA0))) (kF r_uncrossed (kA1 (kc (.str "upright")) (kA1 (kv 1) kA0))))))
def b_is_bond (r_seams : L3.Run) : KS :=
  (sRet (k2 eqD (kF lenF (kA1 (kF r_seams (kA1 (kv 0) kA0)) kA0)) (kc (.int 0))))
def b_strength (r_profile : L3.Run) : KS :=
  (sSeq (sAsg (gT 2 (gs1 (gN 1) (gs1 (gN 2) gs0))) (kF r_profile (kA1 (kv 0) kA0)))
    (sRet (kF (mmI false minF) (kA1 (k2 addD (kv 1) (kv 2)) kA0))))
def b_side_along  : KS :=
  (sRet (kIf (kTb (k2 eqD (kv 1) (kc (.str "upright")))) (k2 ixD (kv 0) (kc (.int 0))) (k2 ixD (kv 0) (kc (.int 1)))))
def b_is_line_way  : KS :=
  (sRet (kAndV (k1 (isF "str") (kv 0)) (k2 (inD false) (kv 0) (kF tupF (kA1 (kc (.str "upright")) (kA1 (kc (.str "level")) kA0))))))
def b_is_line (r_is_size : L3.Run) (r_is_line_way : L3.Run) (r_is_whole : L3.Run) (r_side_along : L3.Run) : KS :=
  (sSeq (sIf (tNot3 (kTr (kF r_is_size (kA1 (kv 0) kA0)))) sNever sNil)
    (sSeq (sIf (tOr3 (tNot3 (kTr (k1 (isF "tuple") (kv 1)))) (kTb (k2 neD (kF lenF (kA1 (kv 1) kA0)) (kc (.int 2))))) (sRet (kc (.bl false))) sNil)
    (sSeq (sAsg (gT 2 (gs1 (gN 2) (gs1 (gN 3) gs0))) (kv 1))
    (sRet (kAndV (kF r_is_line_way (kA1 (kv 2) kA0)) (kAndV (kF r_is_whole (kA1 (kv 3) kA0)) (kChain leD ltD (kc (.int 1)) (kv 3) (kF r_side_along (kA1 (kv 0) (kA1 (kv 2) kA0))))))))))
def b_crossings (r_profile : L3.Run) (r_is_line : L3.Run) (r_Floor_size : L3.Run) : KS :=
  (sSeq (sAsg (gT 2 (gs1 (gN 2) (gs1 (gN 3) gs0))) (kF r_profile (kA1 (kv 0) kA0)))
    (sSeq (sIf (tNot3 (kTr (kF r_is_line (kA1 (kPr "Floor" "size" r_Floor_size (kv 0)) (kA1 (kv 1) kA0))))) sNever sNil)
    (sSeq (sAsg (gT 2 (gs1 (gN 4) (gs1 (gN 5) gs0))) (kv 1))
    (sRet (kIf (kTb (k2 eqD (kv 4) (kc (.str "upright")))) (k2 ixD (kv 2) (k2 subD (kv 5) (kc (.int 1)))) (k2 ixD (kv 3) (k2 subD (kv 5) (kc (.int 1)))))))))
end Fl

namespace Fl
open PySem L2 L3 Tile
theorem mulD_lst {m : Nat} {xs : List D} {k : Int} {st : Sto} (h : st[m]? = some (.lst xs)) (h0 : 0 ≤ k ∧ k ≤ 1000) (hl : xs.length * k.toNat ≤ 16777216) : mulD (.loc m) (.int k) st = .ok (.loc st.length) (st ++ [.lst (List.replicate k.toNat xs).flatten]) := by
  unfold mulD
  simp only [h]
  rw [if_pos ⟨by omega, by omega, hl⟩]
theorem iR2_eq {a : KA} {ρ : Env3} {st st1 : Sto} {ds : List D} (h : a ρ st = .ok ds st1) : iR2 a ρ st = rngF2 ds st1 := by
  unfold iR2
  rw [h]
  exact R.bind_ok _ _ _
theorem rng2_ok {i j : Int} {st : Sto} (h : -(2 ^ 62) ≤ i ∧ i < 2 ^ 62 ∧ -(2 ^ 62) ≤ j ∧ j < 2 ^ 62) : rngF2 [.int i, .int j] st = .ok (.its (rngIts i (j - i).toNat)) st := by
  unfold rngF2
  exact if_pos h
/-- counts, one for each line -/
def cnts (N : Nat) (f : Nat → Int) : List D := (List.range N).map fun c => D.int (f c)
theorem cnts_len (N : Nat) (f : Nat → Int) : (cnts N f).length = N := by simp [cnts]
theorem cnts_congr {N : Nat} {f g : Nat → Int} (h : ∀ c, c < N → f c = g c) : cnts N f = cnts N g := by
  unfold cnts
  exact List.map_congr_left fun c hc => by rw [h c (List.mem_range.mp hc)]
theorem cnts_set {N k : Nat} {f : Nat → Int} {v : Int} (hk : k < N) : (cnts N f).set k (.int v) = cnts N fun c => if c = k then v else f c := by
  apply List.ext_getElem
  · simp [cnts]
  · intro i h1 h2
    rw [List.getElem_set]
    simp only [cnts, List.getElem_map, List.getElem_range]
    by_cases h : k = i
    · subst h; simp
    · rw [if_neg h, if_neg (fun z => h z.symm)]
theorem cnts_at {N k : Nat} {f : Nat → Int} (hk : k < N) : atI (cnts N f) ((k : Nat) : Int) = some (.int (f k)) := by
  rw [atI_lt (by omega) (by rw [cnts_len]; omega)]
  simp [cnts]
theorem rep_cnts (n : Nat) : (List.replicate n [D.int 0]).flatten = cnts n fun _ => 0 := by
  unfold cnts
  induction n with
  | zero => rfl
  | succ n ih =>
    rw [List.replicate_succ, List.flatten_cons, ih, List.range_succ_eq_map]
    simp
theorem ixN_lt {N k : Nat} (hk : k < N) : ixN N ((k : Nat) : Int) = some k := by
  unfold ixN
  rw [if_pos (by omega)]
  simp only [Int.toNat_natCast]
  rw [if_pos (by omega)]
theorem kPr_w {o : KE} {x w h l : Nat} {bs : List Bar} {ρ : Env3} {s t : Sto} (hx : o ρ t = .ok (.loc x) s) (f : FloorAt s x w h l bs) : kPr "Floor" "width" (runDef 1 1 b_Floor_width) o ρ t = .ok (.int w) s := by
  unfold kPr
  rw [hx]
  have e : runDef 1 1 b_Floor_width [.loc x] s = .ok (.int w) s := by simp only [b_Floor_width, Int.cast_ofNat_Int, Nat.zero_add, Int.reduceEq, Int.reduceNe, Int.reduceLT, Int.reduceLE, Int.reduceGT, Int.reduceGE, Int.reduceAdd, Int.reduceSub, Int.reduceMul, Int.reduceNeg, Int.reduceMod, Int.reduceDiv, Nat.reduceLeDiff, slZ_tup, eqD_int, neD_int, eqD_bl, neD_bl, ixT0, ixT1, ixT2, ixF0, ixF1, ixF2, lenT, lenZ, addZ_frz, addZ_loc_frz, addL_loc_frz, beq_self_eq_true, runDef_eq, start3, finR, sSeq, sSet, sExpr, sRet, sRetN, sIf, sPar2, sAsg, sSetIx, sNil, RS.andThen_nx, RS.andThen_rt, RS.andThen_exn, R.toS_ok, R.toS_exn, kv, kc, k1, k2, kA0, kA1, kF, kM, kIf, kTr, kTb, tAnd3, tOr3, tNot3, kAndV, kOrV, kNotV, kChain, R.bind_ok, R.bind_exn, gN, gT, gs0, gs1, List.map_cons, List.map_nil, List.length_cons, List.length_nil, List.replicate, List.cons_append, List.nil_append, List.getElem?_cons_zero, List.getElem?_cons_succ, List.set_cons_zero, List.set_cons_succ, Nat.reduceAdd, Nat.reduceSub, if_true, if_false, Bool.false_eq_true, Bool.true_eq_false, reduceIte, Bool.not_true, Bool.not_false, Option.bind_some, decide_true, decide_false, fld_size f]
  obtain ⟨d, b0, p, fe, _⟩ := f
  simp only [R.bind_ok, fe, if_true, e, noX]
theorem kPr_h {o : KE} {x w h l : Nat} {bs : List Bar} {ρ : Env3} {s t : Sto} (hx : o ρ t = .ok (.loc x) s) (f : FloorAt s x w h l bs) : kPr "Floor" "height" (runDef 1 1 b_Floor_height) o ρ t = .ok (.int h) s := by
  unfold kPr
  rw [hx]
  have e : runDef 1 1 b_Floor_height [.loc x] s = .ok (.int h) s := by simp only [b_Floor_height, Int.cast_ofNat_Int, Nat.zero_add, Int.reduceEq, Int.reduceNe, Int.reduceLT, Int.reduceLE, Int.reduceGT, Int.reduceGE, Int.reduceAdd, Int.reduceSub, Int.reduceMul, Int.reduceNeg, Int.reduceMod, Int.reduceDiv, Nat.reduceLeDiff, slZ_tup, eqD_int, neD_int, eqD_bl, neD_bl, ixT0, ixT1, ixT2, ixF0, ixF1, ixF2, lenT, lenZ, addZ_frz, addZ_loc_frz, addL_loc_frz, beq_self_eq_true, runDef_eq, start3, finR, sSeq, sSet, sExpr, sRet, sRetN, sIf, sPar2, sAsg, sSetIx, sNil, RS.andThen_nx, RS.andThen_rt, RS.andThen_exn, R.toS_ok, R.toS_exn, kv, kc, k1, k2, kA0, kA1, kF, kM, kIf, kTr, kTb, tAnd3, tOr3, tNot3, kAndV, kOrV, kNotV, kChain, R.bind_ok, R.bind_exn, gN, gT, gs0, gs1, List.map_cons, List.map_nil, List.length_cons, List.length_nil, List.replicate, List.cons_append, List.nil_append, List.getElem?_cons_zero, List.getElem?_cons_succ, List.set_cons_zero, List.set_cons_succ, Nat.reduceAdd, Nat.reduceSub, if_true, if_false, Bool.false_eq_true, Bool.true_eq_false, reduceIte, Bool.not_true, Bool.not_false, Option.bind_some, decide_true, decide_false, fld_size f]
  obtain ⟨d, b0, p, fe, _⟩ := f
  simp only [R.bind_ok, fe, if_true, e, noX]
theorem kPr_l {o : KE} {x w h l : Nat} {bs : List Bar} {ρ : Env3} {s t : Sto} (hx : o ρ t = .ok (.loc x) s) (f : FloorAt s x w h l bs) : kPr "Floor" "length" (runDef 1 1 b_Floor_length) o ρ t = .ok (.int l) s := by
  unfold kPr
  rw [hx]
  have e : runDef 1 1 b_Floor_length [.loc x] s = .ok (.int l) s := by simp only [b_Floor_length, Int.cast_ofNat_Int, Nat.zero_add, Int.reduceEq, Int.reduceNe, Int.reduceLT, Int.reduceLE, Int.reduceGT, Int.reduceGE, Int.reduceAdd, Int.reduceSub, Int.reduceMul, Int.reduceNeg, Int.reduceMod, Int.reduceDiv, Nat.reduceLeDiff, slZ_tup, eqD_int, neD_int, eqD_bl, neD_bl, ixT0, ixT1, ixT2, ixF0, ixF1, ixF2, lenT, lenZ, addZ_frz, addZ_loc_frz, addL_loc_frz, beq_self_eq_true, runDef_eq, start3, finR, sSeq, sSet, sExpr, sRet, sRetN, sIf, sPar2, sAsg, sSetIx, sNil, RS.andThen_nx, RS.andThen_rt, RS.andThen_exn, R.toS_ok, R.toS_exn, kv, kc, k1, k2, kA0, kA1, kF, kM, kIf, kTr, kTb, tAnd3, tOr3, tNot3, kAndV, kOrV, kNotV, kChain, R.bind_ok, R.bind_exn, gN, gT, gs0, gs1, List.map_cons, List.map_nil, List.length_cons, List.length_nil, List.replicate, List.cons_append, List.nil_append, List.getElem?_cons_zero, List.getElem?_cons_succ, List.set_cons_zero, List.set_cons_succ, Nat.reduceAdd, Nat.reduceSub, if_true, if_false, Bool.false_eq_true, Bool.true_eq_false, reduceIte, Bool.not_true, Bool.not_false, Option.bind_some, decide_true, decide_false, fld_size f]
  obtain ⟨d, b0, p, fe, _⟩ := f
  simp only [R.bind_ok, fe, if_true, e, noX]
/-- for at in range(first, first + length - 1): counts[at] = counts[at] + 1 -/
theorem bump_ok {N P K a : Nat} {f : Nat → Int} {v0 v1 v2 v3 v4 v5 : Option D} {x8 : Option D} {st : Sto} (hP : P + K ≤ N) (ha : st[a]? = some (.lst (cnts N f))) :
    ∃ y st', forGo (gN 8) (sSetIx setL (kv 6) (kv 8) (k2 addD (k2 ixD (kv 6) (kv 8)) (kc (.int 1)))) (.its (rngIts (P : Int) K)) (K + 1) 0 [v0, v1, v2, v3, v4, v5, some (.loc a), some (.int (P : Int)), x8] st
      = .nx [v0, v1, v2, v3, v4, v5, some (.loc a), some (.int (P : Int)), y] st' ∧ Grow a st st' ∧ st'[a]? = some (.lst (cnts N fun c => f c + if P ≤ c ∧ c < P + K then 1 else 0)) := by
  have rl : (rngIts (P : Int) K).length = K := by unfold rngIts; simp
  obtain ⟨ρ', st', q1, ⟨y, q2⟩, q3, q4⟩ := for_inv (g := gN 8) (body := sSetIx setL (kv 6) (kv 8) (k2 addD (k2 ixD (kv 6) (kv 8)) (kc (.int 1)))) (src := .its (rngIts (P : Int) K)) (xs := rngIts (P : Int) K)
    (fun i ρ s => (∃ y, ρ = [v0, v1, v2, v3, v4, v5, some (.loc a), some (.int (P : Int)), y]) ∧ Grow a st s ∧ s[a]? = some (.lst (cnts N fun c => f c + if P ≤ c ∧ c < P + i then 1 else 0))) (fun i ρ s _ => rfl)
    (fun i d ρ s hx ⟨⟨y, hρ⟩, g, hs⟩ => by
      subst hρ
      obtain ⟨rfl, hi⟩ := rng_get hx
      have hk : P + i < N := by omega
      have e1 : ((P : Int) + (i : Nat)) = ((P + i : Nat) : Int) := by omega
      rw [e1]
      have r1 : ixD (.loc a) (.int ((P + i : Nat) : Int)) s = .ok (.int (f (P + i) + if P ≤ P + i ∧ P + i < P + i then 1 else 0)) s := ixD_loc hs (cnts_at hk)
      have z0 : (if P ≤ P + i ∧ P + i < P + i then (1 : Int) else 0) = 0 := if_neg (by omega)
      rw [z0, Int.add_zero] at r1
      have r2 : setL (.loc a) (.int ((P + i : Nat) : Int)) (.int (f (P + i) + 1)) s = some (s.set a (.lst ((cnts N fun c => f c + if P ≤ c ∧ c < P + i then 1 else 0).set (P + i) (.int (f (P + i) + 1))))) := setL_loc hs (by rw [cnts_len]; exact ixN_lt hk)
      refine ⟨_, [v0, v1, v2, v3, v4, v5, some (.loc a), some (.int (P : Int)), some (.int ((P + i : Nat) : Int))], _, rfl, .inl ?_, ⟨_, rfl⟩, g.trans (Grow.set (.lst ((cnts N fun c => f c + if P ≤ c ∧ c < P + i then 1 else 0).set (P + i) (.int (f (P + i) + 1))))), ?_⟩
      · simp only [Int.cast_ofNat_Int, Nat.zero_add, Int.reduceEq, Int.reduceNe, Int.reduceLT, Int.reduceLE, Int.reduceGT, Int.reduceGE, Int.reduceAdd, Int.reduceSub, Int.reduceMul, Int.reduceNeg, Int.reduceMod, Int.reduceDiv, Nat.reduceLeDiff, slZ_tup, eqD_int, neD_int, eqD_bl, neD_bl, ixT0, ixT1, ixT2, ixF0, ixF1, ixF2, lenT, lenZ, addZ_frz, addZ_loc_frz, addL_loc_frz, beq_self_eq_true, runDef_eq, start3, finR, sSeq, sSet, sExpr, sRet, sRetN, sIf, sPar2, sAsg, sSetIx, sNil, RS.andThen_nx, RS.andThen_rt, RS.andThen_exn, R.toS_ok, R.toS_exn, kv, kc, k1, k2, kA0, kA1, kF, kM, kIf, kTr, kTb, tAnd3, tOr3, tNot3, kAndV, kOrV, kNotV, kChain, R.bind_ok, R.bind_exn, gN, gT, gs0, gs1, List.map_cons, List.map_nil, List.length_cons, List.length_nil, List.replicate, List.cons_append, List.nil_append, List.getElem?_cons_zero, List.getElem?_cons_succ, List.set_cons_zero, List.set_cons_succ, Nat.reduceAdd, Nat.reduceSub, if_true, if_false, Bool.false_eq_true, Bool.true_eq_false, reduceIte, Bool.not_true, Bool.not_false, Option.bind_some, decide_true, decide_false, r1, addD, r2]
      · rw [List.getElem?_set_self (List.getElem?_eq_some_iff.mp hs).1, cnts_set hk]
        congr 2
        refine cnts_congr fun c hc => ?_
        by_cases h : c = P + i
        · subst h
          rw [if_pos rfl, if_pos (by omega)]
        · rw [if_neg h]
          congr 1
          by_cases h2 : P ≤ c ∧ c < P + i
          · rw [if_pos h2, if_pos (by omega)]
          · rw [if_neg h2, if_neg (by omega)])
    K 0 _ st (K + 1) (by rw [rl]; omega) (by omega) (by omega) ⟨⟨x8, rfl⟩, .refl, by
      rw [ha]
      congr 2
      refine cnts_congr fun c hc => ?_
      rw [if_neg (by omega), Int.add_zero]⟩
  rw [rl] at q4
  refine ⟨y, st', ?_, q3, q4⟩
  rw [← q2]
  exact q1
end Fl

namespace Fl
open PySem L2 L3 Tile
/-- whether a bar goes over the line c + 1 -/
def crU (l : Nat) (b : Bar) (c : Nat) : Prop := b.2.2 = true ∧ b.1 ≤ (c : Int) ∧ (c : Int) + 1 < b.1 + (l : Int)
def crL (l : Nat) (b : Bar) (c : Nat) : Prop := b.2.2 = false ∧ b.2.1 ≤ (c : Int) ∧ (c : Int) + 1 < b.2.1 + (l : Int)
instance (l : Nat) (b : Bar) (c : Nat) : Decidable (crU l b c) := by unfold crU; infer_instance
instance (l : Nat) (b : Bar) (c : Nat) : Decidable (crL l b c) := by unfold crL; infer_instance
def upF (l : Nat) (bs : List Bar) (c : Nat) : Int := (bs.map fun b => if crU l b c then (1 : Int) else 0).sum
def lvF (l : Nat) (bs : List Bar) (c : Nat) : Int := (bs.map fun b => if crL l b c then (1 : Int) else 0).sum
theorem upF_snoc (l : Nat) (bs : List Bar) (b : Bar) (c : Nat) : upF l (bs ++ [b]) c = upF l bs c + if crU l b c then 1 else 0 := by
  unfold upF; rw [List.map_append, List.sum_append]; simp
theorem lvF_snoc (l : Nat) (bs : List Bar) (b : Bar) (c : Nat) : lvF l (bs ++ [b]) c = lvF l bs c + if crL l b c then 1 else 0 := by
  unfold lvF; rw [List.map_append, List.sum_append]; simp
theorem crU_if {P l c : Nat} {y : Int} (hl : 2 ≤ l) : (if crU l (Int.ofNat P, y, true) c then (1 : Int) else 0) = if P ≤ c ∧ c < P + (l - 1) then 1 else 0 := by
  have e : crU l (Int.ofNat P, y, true) c ↔ (P ≤ c ∧ c < P + (l - 1)) := by
    unfold crU
    simp only [true_and, Int.ofNat_eq_natCast]
    omega
  simp only [e]
theorem crL_if {P l c : Nat} {x : Int} (hl : 2 ≤ l) : (if crL l (x, Int.ofNat P, false) c then (1 : Int) else 0) = if P ≤ c ∧ c < P + (l - 1) then 1 else 0 := by
  have e : crL l (x, Int.ofNat P, false) c ↔ (P ≤ c ∧ c < P + (l - 1)) := by
    unfold crL
    simp only [true_and, Int.ofNat_eq_natCast]
    omega
  simp only [e]
abbrev profD (w h l : Nat) (bs : List Bar) : D := .tup [.tup (cnts (w - 1) (upF l bs)), .tup (cnts (h - 1) (lvF l bs))]
def ProfS (r : L3.Run) : Prop := ∀ (w h l : Nat) (bs : List Bar) (st : Sto) (n : Nat), FloorAt st n w h l bs → Cover w h l bs → Fits w h l → ∃ st', r [.loc n] st = .ok (profD w h l bs) st' ∧ Stands st st'
theorem isC_fl {m w h l : Nat} {bs : List Bar} {st : Sto} (f : FloorAt st m w h l bs) : isC "Floor" (.loc m) st = .ok (.bl true) st := by
  obtain ⟨d, b0, p, e, _⟩ := f
  simp only [isC, e]
  rfl
theorem prof_ok : ProfS (runDef 9 1 (b_profile (runDef 1 1 b_Floor_width) (runDef 1 1 b_Floor_height) (runDef 1 1 b_Floor_bars) (runDef 1 1 b_Floor_length))) := by
  intro w h l bs st n fl c ft
  have hl2 := ft.l2
  have hl4 := ft.l4
  have hw1 := ft.w1
  have hh1 := ft.h1
  have hw4 := ft.w4
  have hh4 := ft.h4
  have hnl : n < st.length := by obtain ⟨_, _, _, e, _⟩ := fl; exact (List.getElem?_eq_some_iff.mp e).1
  obtain ⟨U1, hU1⟩ : ∃ A, k2 mulD (kF lstF (kA1 (kc (.int 0)) kA0)) (k2 subD (kPr "Floor" "width" (runDef 1 1 b_Floor_width) (kv 0)) (kc (.int 1))) = A := ⟨_, rfl⟩
  obtain ⟨U2, hU2⟩ : ∃ A, k2 mulD (kF lstF (kA1 (kc (.int 0)) kA0)) (k2 subD (kPr "Floor" "height" (runDef 1 1 b_Floor_height) (kv 0)) (kc (.int 1))) = A := ⟨_, rfl⟩
  -- the two lists
  have mk : ∀ (s : Sto) (N : Nat) (o : KE) (ρ : Env3), N ≤ 400 → 1 ≤ N → o ρ (s ++ [.lst [.int 0]]) = .ok (.int (N : Int)) (s ++ [.lst [.int 0]]) →
      k2 mulD (kF lstF (kA1 (kc (.int 0)) kA0)) (k2 subD o (kc (.int 1))) ρ s = .ok (.loc (s.length + 1)) (s ++ [.lst [.int 0], .lst (cnts (N - 1) fun _ => 0)]) := fun s N o ρ h4 h1 ho => by
    have e1 : (kF lstF (kA1 (kc (.int 0)) kA0)) ρ s = .ok (.loc s.length) (s ++ [.lst [.int 0]]) := by simp only [Int.cast_ofNat_Int, Nat.zero_add, Int.reduceEq, Int.reduceNe, Int.reduceLT, Int.reduceLE, Int.reduceGT, Int.reduceGE, Int.reduceAdd, Int.reduceSub, Int.reduceMul, Int.reduceNeg, Int.reduceMod, Int.reduceDiv, Nat.reduceLeDiff, slZ_tup, eqD_int, neD_int, eqD_bl, neD_bl, ixT0, ixT1, ixT2, ixF0, ixF1, ixF2, lenT, lenZ, addZ_frz, addZ_loc_frz, addL_loc_frz, beq_self_eq_true, runDef_eq, start3, finR, sSeq, sSet, sExpr, sRet, sRetN, sIf, sPar2, sAsg, sSetIx, sNil, RS.andThen_nx, RS.andThen_rt, RS.andThen_exn, R.toS_ok, R.toS_exn, kv, kc, k1, k2, kA0, kA1, kF, kM, kIf, kTr, kTb, tAnd3, tOr3, tNot3, kAndV, kOrV, kNotV, kChain, R.bind_ok, R.bind_exn, gN, gT, gs0, gs1, List.map_cons, List.map_nil, List.length_cons, List.length_nil, List.replicate, List.cons_append, List.nil_append, List.getElem?_cons_zero, List.getElem?_cons_succ, List.set_cons_zero, List.set_cons_succ, Nat.reduceAdd, Nat.reduceSub, if_true, if_false, Bool.false_eq_true, Bool.true_eq_false, reduceIte, Bool.not_true, Bool.not_false, Option.bind_some, decide_true, decide_false, lstF]
    have e2 : k2 subD o (kc (.int 1)) ρ (s ++ [.lst [.int 0]]) = .ok (.int ((N - 1 : Nat) : Int)) (s ++ [.lst [.int 0]]) := by
      have : ((N : Int) - 1) = ((N - 1 : Nat) : Int) := by omega
      simp only [k2, kc, ho, R.bind_ok, subD, this]
    refine (k2_ok e1 e2).trans ?_
    have g0 : (s ++ [O.lst [.int 0]])[s.length]? = some (.lst [.int 0]) := by rw [stA0]; rfl
    rw [mulD_lst g0 (by omega) (by simp; omega), Int.toNat_natCast, rep_cnts, List.append_assoc, List.length_append]
    rfl
  obtain ⟨p, hp⟩ : ∃ p, st.length = p := ⟨_, rfl⟩
  obtain ⟨s1, hs1⟩ : ∃ s, st ++ [.lst [.int 0], .lst (cnts (w - 1) fun _ => 0)] = s := ⟨_, rfl⟩
  have u1 : U1 [some (.loc n), none, none, none, none, none, none, none, none] st = .ok (.loc (p + 1)) s1 := by
    rw [← hU1, ← hs1, ← hp]
    exact mk st w _ _ hw4 hw1 (kPr_w rfl (fl.stands (Stands.app _)))
  have g1 : Stands st s1 := by rw [← hs1]; exact Stands.app _
  have l1 : s1.length = p + 2 := by rw [← hs1, List.length_append, hp]; rfl
  obtain ⟨s2, hs2⟩ : ∃ s, s1 ++ [.lst [.int 0], .lst (cnts (h - 1) fun _ => 0)] = s := ⟨_, rfl⟩
  have u2 : U2 [some (.loc n), some (.loc (p + 1)), none, none, none, none, none, none, none] s1 = .ok (.loc (p + 3)) s2 := by
    have e : p + 3 = s1.length + 1 := by omega
    rw [← hU2, ← hs2, e]
    exact mk s1 h _ _ hh4 hh1 (kPr_h rfl (fl.stands (g1.trans (Stands.app _))))
  have g2 : Stands s1 s2 := by rw [← hs2]; exact Stands.app _
  have a2 : s2[p + 1]? = some (.lst (cnts (w - 1) fun _ => 0)) := g2.keep _ _ (by rw [← hs1, ← hp, stA]; rfl)
  have b2 : s2[p + 3]? = some (.lst (cnts (h - 1) fun _ => 0)) := by
    have e : p + 3 = s1.length + 1 := by omega
    rw [← hs2, e, stA]; rfl
  have fl2 := fl.stands (g1.trans g2)
  obtain ⟨B8, hB8⟩ : ∃ B, sFor (gN 8) (iR2 (kA1 (kv 7) (kA1 (k2 subD (k2 addD (kv 7) (kPr "Floor" "length" (runDef 1 1 b_Floor_length) (kv 0))) (kc (.int 1))) kA0))) (sSetIx setL (kv 6) (kv 8) (k2 addD (k2 ixD (kv 6) (kv 8)) (kc (.int 1)))) = B := ⟨_, rfl⟩
  have inner : ∀ (v1 v2 v3 v4 v5 x8 : Option D) (N P a : Nat) (f : Nat → Int) (s : Sto), FloorAt s n w h l bs → P + (l - 1) ≤ N → N ≤ 400 → s[a]? = some (.lst (cnts N f)) →
      ∃ y s', B8 [some (.loc n), v1, v2, v3, v4, v5, some (.loc a), some (.int (P : Int)), x8] s = .nx [some (.loc n), v1, v2, v3, v4, v5, some (.loc a), some (.int (P : Int)), y] s' ∧ Grow a s s' ∧ s'[a]? = some (.lst (cnts N fun c => f c + if P ≤ c ∧ c < P + (l - 1) then 1 else 0)) := fun v1 v2 v3 v4 v5 x8 N P a f s hf hP hN ha => by
    obtain ⟨y, s', q1, q2, q3⟩ := bump_ok (v0 := some (.loc n)) (v1 := v1) (v2 := v2) (v3 := v3) (v4 := v4) (v5 := v5) (x8 := x8) hP ha
    refine ⟨y, s', ?_, q2, q3⟩
    rw [← hB8]
    have hi : iR2 (kA1 (kv 7) (kA1 (k2 subD (k2 addD (kv 7) (kPr "Floor" "length" (runDef 1 1 b_Floor_length) (kv 0))) (kc (.int 1))) kA0)) [some (.loc n), v1, v2, v3, v4, v5, some (.loc a), some (.int (P : Int)), x8] s = .ok (.its (rngIts (P : Int) (l - 1))) s := by
      have e : (((P : Int) + (l : Int)) - 1 - (P : Int)).toNat = l - 1 := by omega
      rw [← e]
      refine (iR2_eq (ds := [.int (P : Int), .int ((P : Int) + (l : Int) - 1)]) (st1 := s) ?_).trans (rng2_ok (by omega))
      have e3 : kPr "Floor" "length" (runDef 1 1 b_Floor_length) (kv 0) [some (.loc n), v1, v2, v3, v4, v5, some (.loc a), some (.int (P : Int)), x8] s = .ok (.int l) s := kPr_l rfl hf
      obtain ⟨Z, hZ⟩ : ∃ Z, kPr "Floor" "length" (runDef 1 1 b_Floor_length) (kv 0) = Z := ⟨_, rfl⟩
      rw [hZ] at e3 ⊢
      simp only [kA1, kA0, k2, kv, kc, List.getElem?_cons_zero, List.getElem?_cons_succ, R.bind_ok, e3, addD, subD]
    have rl : (rngIts (P : Int) (l - 1)).length = l - 1 := by unfold rngIts; simp
    exact sFor_its hi (by rw [rl]; exact q1)
  obtain ⟨B, hB⟩ : ∃ B, sSeq (sSet 6 (kIf (kTb (k2 eqD (kv 5) (kc (.str "across")))) (kv 1) (kv 2))) (sSeq (sSet 7 (kIf (kTb (k2 eqD (kv 5) (kc (.str "across")))) (kv 3) (kv 4))) B8) = B := ⟨_, rfl⟩
  obtain ⟨F, hF⟩ : ∃ F, sFor (gT 3 (gs1 (gN 3) (gs1 (gN 4) (gs1 (gN 5) gs0)))) (iT (kPr "Floor" "bars" (runDef 1 1 b_Floor_bars) (kv 0))) B = F := ⟨_, rfl⟩
  have loop : ∃ x3 x4 x5 x6 x7 x8 s3, F [some (.loc n), some (.loc (p + 1)), some (.loc (p + 3)), none, none, none, none, none, none] s2 = .nx [some (.loc n), some (.loc (p + 1)), some (.loc (p + 3)), x3, x4, x5, x6, x7, x8] s3 ∧ Grow2 (p + 1) (p + 3) s2 s3 ∧ s3[p + 1]? = some (.lst (cnts (w - 1) (upF l bs))) ∧ s3[p + 3]? = some (.lst (cnts (h - 1) (lvF l bs))) := by
    obtain ⟨ρ', st', q1, ⟨x3, x4, x5, x6, x7, x8, q2⟩, q3, q4, q5⟩ := for_inv (g := gT 3 (gs1 (gN 3) (gs1 (gN 4) (gs1 (gN 5) gs0)))) (body := B) (src := .its (bs.map dB)) (xs := bs.map dB)
      (fun i ρ s => (∃ x3 x4 x5 x6 x7 x8, ρ = [some (.loc n), some (.loc (p + 1)), some (.loc (p + 3)), x3, x4, x5, x6, x7, x8]) ∧ Grow2 (p + 1) (p + 3) s2 s ∧ s[p + 1]? = some (.lst (cnts (w - 1) (upF l (bs.take i)))) ∧ s[p + 3]? = some (.lst (cnts (h - 1) (lvF l (bs.take i))))) (fun i ρ s _ => rfl)
      (fun i d ρ s hx ⟨⟨x3, x4, x5, x6, x7, x8, hρ⟩, g, ga, gb⟩ => by
        subst hρ
        rw [List.getElem?_map] at hx
        obtain ⟨b, hbi, rfl⟩ := Option.map_eq_some_iff.mp hx
        have et : bs.take (i + 1) = bs.take i ++ [b] := by rw [List.take_succ, hbi]; rfl
        have wi := cover_within c (by omega) (List.mem_of_getElem? hbi)
        have fs : FloorAt s n w h l bs := by
          obtain ⟨dd, b0, pp, e, e2⟩ := fl
          have hdl := (List.getElem?_eq_some_iff.mp e2).1
          exact ⟨dd, b0, pp, g.keep _ _ (by omega) (by omega) (g2.keep _ _ (g1.keep _ _ e)), g.keep _ _ (by omega) (by omega) (g2.keep _ _ (g1.keep _ _ e2))⟩
        obtain ⟨x, y, a⟩ := b
        unfold Within at wi
        cases a with
        | true =>
          simp only [if_true] at wi
          obtain ⟨P, rfl⟩ := Int.eq_ofNat_of_zero_le wi.1
          obtain ⟨y8, s', e8, g8, r8⟩ := inner (some (.loc (p + 1))) (some (.loc (p + 3))) (some (.int (P : Int))) (some (.int y)) (some (.str (WAY true))) x8 (w - 1) P (p + 1) _ s fs (by omega) (by omega) ga
          refine ⟨_, [some (.loc n), some (.loc (p + 1)), some (.loc (p + 3)), some (.int (P : Int)), some (.int y), some (.str (WAY true)), some (.loc (p + 1)), some (.int (P : Int)), y8], s', rfl, .inl ?_, ⟨_, _, _, _, _, _, rfl⟩, g.trans ⟨fun m o h1 _ q => g8.keep m o h1 q, g8.len⟩, ?_, ?_⟩
          · rw [← hB]
            simp only [Int.cast_ofNat_Int, Nat.zero_add, Int.reduceEq, Int.reduceNe, Int.reduceLT, Int.reduceLE, Int.reduceGT, Int.reduceGE, Int.reduceAdd, Int.reduceSub, Int.reduceMul, Int.reduceNeg, Int.reduceMod, Int.reduceDiv, Nat.reduceLeDiff, slZ_tup, eqD_int, neD_int, eqD_bl, neD_bl, ixT0, ixT1, ixT2, ixF0, ixF1, ixF2, lenT, lenZ, addZ_frz, addZ_loc_frz, addL_loc_frz, beq_self_eq_true, runDef_eq, start3, finR, sSeq, sSet, sExpr, sRet, sRetN, sIf, sPar2, sAsg, sSetIx, sNil, RS.andThen_nx, RS.andThen_rt, RS.andThen_exn, R.toS_ok, R.toS_exn, kv, kc, k1, k2, kA0, kA1, kF, kM, kIf, kTr, kTb, tAnd3, tOr3, tNot3, kAndV, kOrV, kNotV, kChain, R.bind_ok, R.bind_exn, gN, gT, gs0, gs1, List.map_cons, List.map_nil, List.length_cons, List.length_nil, List.replicate, List.cons_append, List.nil_append, List.getElem?_cons_zero, List.getElem?_cons_succ, List.set_cons_zero, List.set_cons_succ, Nat.reduceAdd, Nat.reduceSub, if_true, if_false, Bool.false_eq_true, Bool.true_eq_false, reduceIte, Bool.not_true, Bool.not_false, Option.bind_some, decide_true, decide_false, dB, way_eq, e8]
          · rw [r8, et]
            congr 2
            refine cnts_congr fun cc hc => ?_
            rw [upF_snoc]
            exact congrArg _ (crU_if hl2).symm
          · rw [g8.keep _ _ (by omega) gb, et]
            congr 2
            refine cnts_congr fun cc hc => ?_
            rw [lvF_snoc, if_neg (by unfold crL; simp), Int.add_zero]
        | false =>
          simp only [Bool.false_eq_true, if_false] at wi
          obtain ⟨P, rfl⟩ := Int.eq_ofNat_of_zero_le wi.2.2.1
          obtain ⟨y8, s', e8, g8, r8⟩ := inner (some (.loc (p + 1))) (some (.loc (p + 3))) (some (.int x)) (some (.int (P : Int))) (some (.str (WAY false))) x8 (h - 1) P (p + 3) _ s fs (by omega) (by omega) gb
          refine ⟨_, [some (.loc n), some (.loc (p + 1)), some (.loc (p + 3)), some (.int x), some (.int (P : Int)), some (.str (WAY false)), some (.loc (p + 3)), some (.int (P : Int)), y8], s', rfl, .inl ?_, ⟨_, _, _, _, _, _, rfl⟩, g.trans ⟨fun m o _ h1 q => g8.keep m o h1 q, g8.len⟩, ?_, ?_⟩
          · rw [← hB]
            simp only [Int.cast_ofNat_Int, Nat.zero_add, Int.reduceEq, Int.reduceNe, Int.reduceLT, Int.reduceLE, Int.reduceGT, Int.reduceGE, Int.reduceAdd, Int.reduceSub, Int.reduceMul, Int.reduceNeg, Int.reduceMod, Int.reduceDiv, Nat.reduceLeDiff, slZ_tup, eqD_int, neD_int, eqD_bl, neD_bl, ixT0, ixT1, ixT2, ixF0, ixF1, ixF2, lenT, lenZ, addZ_frz, addZ_loc_frz, addL_loc_frz, beq_self_eq_true, runDef_eq, start3, finR, sSeq, sSet, sExpr, sRet, sRetN, sIf, sPar2, sAsg, sSetIx, sNil, RS.andThen_nx, RS.andThen_rt, RS.andThen_exn, R.toS_ok, R.toS_exn, kv, kc, k1, k2, kA0, kA1, kF, kM, kIf, kTr, kTb, tAnd3, tOr3, tNot3, kAndV, kOrV, kNotV, kChain, R.bind_ok, R.bind_exn, gN, gT, gs0, gs1, List.map_cons, List.map_nil, List.length_cons, List.length_nil, List.replicate, List.cons_append, List.nil_append, List.getElem?_cons_zero, List.getElem?_cons_succ, List.set_cons_zero, List.set_cons_succ, Nat.reduceAdd, Nat.reduceSub, if_true, if_false, Bool.false_eq_true, Bool.true_eq_false, reduceIte, Bool.not_true, Bool.not_false, Option.bind_some, decide_true, decide_false, dB, way_eq, e8]
          · rw [g8.keep _ _ (by omega) ga, et]
            congr 2
            refine cnts_congr fun cc hc => ?_
            rw [upF_snoc, if_neg (by unfold crU; simp), Int.add_zero]
          · rw [r8, et]
            congr 2
            refine cnts_congr fun cc hc => ?_
            rw [lvF_snoc]
            exact congrArg _ (crL_if hl2).symm)
      (bs.map dB).length 0 _ s2 ((bs.map dB).length + 1) (by omega) (by omega) (by omega) ⟨⟨none, none, none, none, none, none, rfl⟩, .refl, by rw [a2]; rfl, by rw [b2]; rfl⟩
    refine ⟨x3, x4, x5, x6, x7, x8, st', ?_, q3, by rw [q4, List.length_map, List.take_length], by rw [q5, List.length_map, List.take_length]⟩
    rw [← hF, ← q2]
    have hi : iT (kPr "Floor" "bars" (runDef 1 1 b_Floor_bars) (kv 0)) [some (.loc n), some (.loc (p + 1)), some (.loc (p + 3)), none, none, none, none, none, none] s2 = .ok (.its (bs.map dB)) s2 := by
      unfold iT
      rw [kPr_bars' (x := n) rfl fl2]
      rfl
    exact sFor_its hi q1
  obtain ⟨x3, x4, x5, x6, x7, x8, s3, e3, g3, a3, b3⟩ := loop
  refine ⟨s3, ?_, ⟨fun m o q => g3.keep m o ?_ ?_ (g2.keep _ _ (g1.keep _ _ q)), Nat.le_trans (g1.trans g2).len g3.len⟩⟩
  · have ic := isC_fl fl
    have t1 : tupleF [.loc (p + 1)] s3 = .ok (.tup (cnts (w - 1) (upF l bs))) s3 := by simp only [tupleF, a3]
    have t2 : tupleF [.loc (p + 3)] s3 = .ok (.tup (cnts (h - 1) (lvF l bs))) s3 := by simp only [tupleF, b3]
    unfold b_profile
    rw [hU1, hU2, hB8, hB, hF]
    simp only [Int.cast_ofNat_Int, Nat.zero_add, Int.reduceEq, Int.reduceNe, Int.reduceLT, Int.reduceLE, Int.reduceGT, Int.reduceGE, Int.reduceAdd, Int.reduceSub, Int.reduceMul, Int.reduceNeg, Int.reduceMod, Int.reduceDiv, Nat.reduceLeDiff, slZ_tup, eqD_int, neD_int, eqD_bl, neD_bl, ixT0, ixT1, ixT2, ixF0, ixF1, ixF2, lenT, lenZ, addZ_frz, addZ_loc_frz, addL_loc_frz, beq_self_eq_true, runDef_eq, start3, finR, sSeq, sSet, sExpr, sRet, sRetN, sIf, sPar2, sAsg, sSetIx, sNil, RS.andThen_nx, RS.andThen_rt, RS.andThen_exn, R.toS_ok, R.toS_exn, kv, kc, k1, k2, kA0, kA1, kF, kM, kIf, kTr, kTb, tAnd3, tOr3, tNot3, kAndV, kOrV, kNotV, kChain, R.bind_ok, R.bind_exn, gN, gT, gs0, gs1, List.map_cons, List.map_nil, List.length_cons, List.length_nil, List.replicate, List.cons_append, List.nil_append, List.getElem?_cons_zero, List.getElem?_cons_succ, List.set_cons_zero, List.set_cons_succ, Nat.reduceAdd, Nat.reduceSub, if_true, if_false, Bool.false_eq_true, Bool.true_eq_false, reduceIte, Bool.not_true, Bool.not_false, Option.bind_some, decide_true, decide_false, frzF, tupF, listZ, addD, subD, mulD, fdivD, modD, cmpD, ltD, leD, gtD, geD, negD, absF, maxF, minF, intF, truD, strF, ic, u1, u2, e3, t1, t2]
  · have := (List.getElem?_eq_some_iff.mp q).1; omega
  · have := (List.getElem?_eq_some_iff.mp q).1; omega
end Fl

namespace Fl
open PySem L2 L3 Tile
def LWAY (a : Bool) : Str := if a = true then Str.ofString "upright" else Str.ofString "level"
def lineD (a : Bool) (c : Nat) : D := .tup [.str (LWAY a), .int ((c + 1 : Nat) : Int)]
theorem lway_eq {a : Bool} {st : Sto} : eqD (.str (LWAY a)) (.str "upright") st = .ok (.bl a) st := by
  cases a
  · rw [eq_str (by decide +kernel) (by decide +kernel)]; rfl
  · rw [eq_str (by decide +kernel) (by decide +kernel)]; rfl
theorem enIts_cnts (N : Nat) (f : Nat → Int) : enIts (cnts N f) = (List.range N).map fun (c : Nat) => D.tup [.int (c : Int), .int (f c)] := by
  apply List.ext_getElem
  · simp [enIts, cnts]
  · intro i h1 h2
    simp [enIts, cnts]
/-- the lines without crossings -/
def zeros (a : Bool) (N : Nat) (f : Nat → Int) : List D := ((List.range N).filter fun c => decide (f c = 0)).map (lineD a)
theorem uncrossed_ok {a : Bool} {N : Nat} {f : Nat → Int} {st : Sto} (hN : N ≤ 1000) : runDef 4 2 b_uncrossed [.str (LWAY a), .tup (cnts N f)] st = .ok (.tup (zeros a N f)) st := by
  obtain ⟨L, hL⟩ : ∃ L, kLz [2, 3] (gT 2 (gs1 (gN 2) (gs1 (gN 3) gs0))) (iEt (kA1 (kv 1) kA0)) (kTb (k2 eqD (kv 3) (kc (.int 0)))) (kF tupF (kA1 (kv 0) (kA1 (k2 addD (kv 2) (kc (.int 1))) kA0))) = L := ⟨_, rfl⟩
  have e : L [some (.str (LWAY a)), some (.tup (cnts N f)), none, none] st = .ok (.frz (zeros a N f)) st := by
    rw [← hL]
    refine lz_enc (cs := List.range N) (fun (c : Nat) => D.tup [.int (c : Int), .int (f c)]) (fun c => decide (f c = 0)) (lineD a) ?_ (by simp; omega) fun c hc => ⟨[some (.str (LWAY a)), some (.tup (cnts N f)), some (.int (c : Int)), some (.int (f c))], rfl, ?_, fun _ => ?_⟩
    · have : iEt (kA1 (kv 1) kA0) [some (.str (LWAY a)), some (.tup (cnts N f)), none, none] st = .ok (.its (enIts (cnts N f))) st := by
        unfold iEt
        rw [arg1 (d := .tup (cnts N f)) rfl]
        rfl
      rw [← enIts_cnts]
      exact this
    · simp only [Int.cast_ofNat_Int, Nat.zero_add, Int.reduceEq, Int.reduceNe, Int.reduceLT, Int.reduceLE, Int.reduceGT, Int.reduceGE, Int.reduceAdd, Int.reduceSub, Int.reduceMul, Int.reduceNeg, Int.reduceMod, Int.reduceDiv, Nat.reduceLeDiff, slZ_tup, eqD_int, neD_int, eqD_bl, neD_bl, ixT0, ixT1, ixT2, ixF0, ixF1, ixF2, lenT, lenZ, addZ_frz, addZ_loc_frz, addL_loc_frz, beq_self_eq_true, runDef_eq, start3, finR, sSeq, sSet, sExpr, sRet, sRetN, sIf, sPar2, sAsg, sSetIx, sNil, RS.andThen_nx, RS.andThen_rt, RS.andThen_exn, R.toS_ok, R.toS_exn, kv, kc, k1, k2, kA0, kA1, kF, kM, kIf, kTr, kTb, tAnd3, tOr3, tNot3, kAndV, kOrV, kNotV, kChain, R.bind_ok, R.bind_exn, gN, gT, gs0, gs1, List.map_cons, List.map_nil, List.length_cons, List.length_nil, List.replicate, List.cons_append, List.nil_append, List.getElem?_cons_zero, List.getElem?_cons_succ, List.set_cons_zero, List.set_cons_succ, Nat.reduceAdd, Nat.reduceSub, if_true, if_false, Bool.false_eq_true, Bool.true_eq_false, reduceIte, Bool.not_true, Bool.not_false, Option.bind_some, decide_true, decide_false, frzF, tupF, listZ, addD, subD, mulD, fdivD, modD, cmpD, ltD, leD, gtD, geD, negD, absF, maxF, minF, intF, truD, strF]
    · simp only [Int.cast_ofNat_Int, Nat.zero_add, Int.reduceEq, Int.reduceNe, Int.reduceLT, Int.reduceLE, Int.reduceGT, Int.reduceGE, Int.reduceAdd, Int.reduceSub, Int.reduceMul, Int.reduceNeg, Int.reduceMod, Int.reduceDiv, Nat.reduceLeDiff, slZ_tup, eqD_int, neD_int, eqD_bl, neD_bl, ixT0, ixT1, ixT2, ixF0, ixF1, ixF2, lenT, lenZ, addZ_frz, addZ_loc_frz, addL_loc_frz, beq_self_eq_true, runDef_eq, start3, finR, sSeq, sSet, sExpr, sRet, sRetN, sIf, sPar2, sAsg, sSetIx, sNil, RS.andThen_nx, RS.andThen_rt, RS.andThen_exn, R.toS_ok, R.toS_exn, kv, kc, k1, k2, kA0, kA1, kF, kM, kIf, kTr, kTb, tAnd3, tOr3, tNot3, kAndV, kOrV, kNotV, kChain, R.bind_ok, R.bind_exn, gN, gT, gs0, gs1, List.map_cons, List.map_nil, List.length_cons, List.length_nil, List.replicate, List.cons_append, List.nil_append, List.getElem?_cons_zero, List.getElem?_cons_succ, List.set_cons_zero, List.set_cons_succ, Nat.reduceAdd, Nat.reduceSub, if_true, if_false, Bool.false_eq_true, Bool.true_eq_false, reduceIte, Bool.not_true, Bool.not_false, Option.bind_some, decide_true, decide_false, frzF, tupF, listZ, addD, subD, mulD, fdivD, modD, cmpD, ltD, leD, gtD, geD, negD, absF, maxF, minF, intF, truD, strF, lineD]
      rfl
  unfold b_uncrossed
  rw [hL]
  have tu : ∀ xs : List D, tupleF [.frz xs] st = .ok (.tup xs) st := fun _ => rfl
  simp only [Int.cast_ofNat_Int, Nat.zero_add, Int.reduceEq, Int.reduceNe, Int.reduceLT, Int.reduceLE, Int.reduceGT, Int.reduceGE, Int.reduceAdd, Int.reduceSub, Int.reduceMul, Int.reduceNeg, Int.reduceMod, Int.reduceDiv, Nat.reduceLeDiff, slZ_tup, eqD_int, neD_int, eqD_bl, neD_bl, ixT0, ixT1, ixT2, ixF0, ixF1, ixF2, lenT, lenZ, addZ_frz, addZ_loc_frz, addL_loc_frz, beq_self_eq_true, runDef_eq, start3, finR, sSeq, sSet, sExpr, sRet, sRetN, sIf, sPar2, sAsg, sSetIx, sNil, RS.andThen_nx, RS.andThen_rt, RS.andThen_exn, R.toS_ok, R.toS_exn, kv, kc, k1, k2, kA0, kA1, kF, kM, kIf, kTr, kTb, tAnd3, tOr3, tNot3, kAndV, kOrV, kNotV, kChain, R.bind_ok, R.bind_exn, gN, gT, gs0, gs1, List.map_cons, List.map_nil, List.length_cons, List.length_nil, List.replicate, List.cons_append, List.nil_append, List.getElem?_cons_zero, List.getElem?_cons_succ, List.set_cons_zero, List.set_cons_succ, Nat.reduceAdd, Nat.reduceSub, if_true, if_false, Bool.false_eq_true, Bool.true_eq_false, reduceIte, Bool.not_true, Bool.not_false, Option.bind_some, decide_true, decide_false, e, tu]
def seamsL (w h l : Nat) (bs : List Bar) : List D := zeros false (h - 1) (lvF l bs) ++ zeros true (w - 1) (upF l bs)
theorem zeros_len (a : Bool) (N : Nat) (f : Nat → Int) : (zeros a N f).length ≤ N := by
  unfold zeros
  rw [List.length_map]
  have := List.length_filter_le (fun c => decide (f c = 0)) (List.range N)
  rwa [List.length_range] at this
def SeamsS (r : L3.Run) : Prop := ∀ (w h l : Nat) (bs : List Bar) (st : Sto) (n : Nat), FloorAt st n w h l bs → Cover w h l bs → Fits w h l → ∃ st', r [.loc n] st = .ok (.tup (seamsL w h l bs)) st' ∧ Stands st st'
theorem seams_ok {rp ru : L3.Run} (hp : ProfS rp) (hu : ∀ (a : Bool) (N : Nat) (f : Nat → Int) (st : Sto), N ≤ 1000 → ru [.str (LWAY a), .tup (cnts N f)] st = .ok (.tup (zeros a N f)) st) : SeamsS (runDef 3 1 (b_seams rp ru)) := by
  intro w h l bs st n fl c ft
  obtain ⟨s1, e1, g1⟩ := hp w h l bs st n fl c ft
  have hw4 := ft.w4
  have hh4 := ft.h4
  have z1 := zeros_len false (h - 1) (lvF l bs)
  have z2 := zeros_len true (w - 1) (upF l bs)
  have e2 := hu false (h - 1) (lvF l bs) s1 (by omega)
  have e3 := hu true (w - 1) (upF l bs) s1 (by omega)
  have l1 : (D.str "level") = .str (LWAY false) := rfl
  have l2 : (D.str "upright") = .str (LWAY true) := rfl
  have ad : addD (.tup (zeros false (h - 1) (lvF l bs))) (.tup (zeros true (w - 1) (upF l bs))) s1 = .ok (.tup (seamsL w h l bs)) s1 := by
    unfold addD
    simp only
    rw [if_pos (by omega)]
    rfl
  refine ⟨s1, ?_, g1⟩
  simp only [b_seams, Int.cast_ofNat_Int, Nat.zero_add, Int.reduceEq, Int.reduceNe, Int.reduceLT, Int.reduceLE, Int.reduceGT, Int.reduceGE, Int.reduceAdd, Int.reduceSub, Int.reduceMul, Int.reduceNeg, Int.reduceMod, Int.reduceDiv, Nat.reduceLeDiff, slZ_tup, eqD_int, neD_int, eqD_bl, neD_bl, ixT0, ixT1, ixT2, ixF0, ixF1, ixF2, lenT, lenZ, addZ_frz, addZ_loc_frz, addL_loc_frz, beq_self_eq_true, runDef_eq, start3, finR, sSeq, sSet, sExpr, sRet, sRetN, sIf, sPar2, sAsg, sSetIx, sNil, RS.andThen_nx, RS.andThen_rt, RS.andThen_exn, R.toS_ok, R.toS_exn, kv, kc, k1, k2, kA0, kA1, kF, kM, kIf, kTr, kTb, tAnd3, tOr3, tNot3, kAndV, kOrV, kNotV, kChain, R.bind_ok, R.bind_exn, gN, gT, gs0, gs1, List.map_cons, List.map_nil, List.length_cons, List.length_nil, List.replicate, List.cons_append, List.nil_append, List.getElem?_cons_zero, List.getElem?_cons_succ, List.set_cons_zero, List.set_cons_succ, Nat.reduceAdd, Nat.reduceSub, if_true, if_false, Bool.false_eq_true, Bool.true_eq_false, reduceIte, Bool.not_true, Bool.not_false, Option.bind_some, decide_true, decide_false, e1, l1, l2, e2, e3, ad]
theorem isbond_ok {r : L3.Run} (hs : SeamsS r) {w h l n : Nat} {bs : List Bar} {st : Sto} (fl : FloorAt st n w h l bs) (c : Cover w h l bs) (ft : Fits w h l) : ∃ st', runDef 1 1 (b_is_bond r) [.loc n] st = .ok (.bl (decide (seamsL w h l bs = []))) st' ∧ Stands st st' := by
  obtain ⟨s1, e1, g1⟩ := hs w h l bs st n fl c ft
  refine ⟨s1, ?_, g1⟩
  have e : decide (((seamsL w h l bs).length : Int) = 0) = decide (seamsL w h l bs = []) := by
    cases seamsL w h l bs <;> simp
    omega
  simp only [b_is_bond, Int.cast_ofNat_Int, Nat.zero_add, Int.reduceEq, Int.reduceNe, Int.reduceLT, Int.reduceLE, Int.reduceGT, Int.reduceGE, Int.reduceAdd, Int.reduceSub, Int.reduceMul, Int.reduceNeg, Int.reduceMod, Int.reduceDiv, Nat.reduceLeDiff, slZ_tup, eqD_int, neD_int, eqD_bl, neD_bl, ixT0, ixT1, ixT2, ixF0, ixF1, ixF2, lenT, lenZ, addZ_frz, addZ_loc_frz, addL_loc_frz, beq_self_eq_true, runDef_eq, start3, finR, sSeq, sSet, sExpr, sRet, sRetN, sIf, sPar2, sAsg, sSetIx, sNil, RS.andThen_nx, RS.andThen_rt, RS.andThen_exn, R.toS_ok, R.toS_exn, kv, kc, k1, k2, kA0, kA1, kF, kM, kIf, kTr, kTb, tAnd3, tOr3, tNot3, kAndV, kOrV, kNotV, kChain, R.bind_ok, R.bind_exn, gN, gT, gs0, gs1, List.map_cons, List.map_nil, List.length_cons, List.length_nil, List.replicate, List.cons_append, List.nil_append, List.getElem?_cons_zero, List.getElem?_cons_succ, List.set_cons_zero, List.set_cons_succ, Nat.reduceAdd, Nat.reduceSub, if_true, if_false, Bool.false_eq_true, Bool.true_eq_false, reduceIte, Bool.not_true, Bool.not_false, Option.bind_some, decide_true, decide_false, frzF, tupF, listZ, addD, subD, mulD, fdivD, modD, cmpD, ltD, leD, gtD, geD, negD, absF, maxF, minF, intF, truD, strF, e1, e]
theorem ints_cnts : ∀ (is : List Int), intsO (is.map D.int) = some is
  | [] => rfl
  | i :: is => by simp only [List.map_cons, intsO, ints_cnts is, Option.bind_some]
def cntI (N : Nat) (f : Nat → Int) : List Int := (List.range N).map f
theorem cnts_ints (N : Nat) (f : Nat → Int) : cnts N f = (cntI N f).map D.int := by unfold cnts cntI; rw [List.map_map]; rfl
def minL (is : List Int) : Int := match is with
  | [] => 0
  | i :: is => minI i is
theorem mm_tup {is : List Int} (h : is ≠ []) {st : Sto} : mmI false minF [.tup (is.map D.int)] st = .ok (.int (minL is)) st := by
  cases is with
  | nil => exact absurd rfl h
  | cons i is =>
    show mmInts false ((i :: is).map D.int) st = _
    unfold mmInts
    rw [ints_cnts]
    rfl
theorem mm_frz {is : List Int} (h : is ≠ []) {st : Sto} : mmI false minF [.frz (is.map D.int)] st = .ok (.int (minL is)) st := by
  cases is with
  | nil => exact absurd rfl h
  | cons i is =>
    show mmInts false ((i :: is).map D.int) st = _
    unfold mmInts
    rw [ints_cnts]
    rfl
def allI (w h l : Nat) (bs : List Bar) : List Int := cntI (w - 1) (upF l bs) ++ cntI (h - 1) (lvF l bs)
theorem allI_ne {w h l : Nat} {bs : List Bar} (c : Cover w h l bs) (ft : Fits w h l) : allI w h l bs ≠ [] := by
  have hl := ft.l2
  intro e
  have e2 := congrArg List.length e
  have wh : w = 1 ∧ h = 1 := by
    have := ft.w1; have := ft.h1
    simp [allI, cntI] at e2
    omega
  obtain ⟨rfl, rfl⟩ := wh
  cases bs with
  | nil => have := c.length_eq; simp [grid_len] at this
  | cons b bs =>
    have := cover_within c (by omega) List.mem_cons_self
    unfold Within at this
    split at this <;> omega
theorem strength_ok {rp : L3.Run} (hp : ProfS rp) {w h l n : Nat} {bs : List Bar} {st : Sto} (fl : FloorAt st n w h l bs) (c : Cover w h l bs) (ft : Fits w h l) : ∃ st', runDef 3 1 (b_strength rp) [.loc n] st = .ok (.int (minL (allI w h l bs))) st' ∧ Stands st st' := by
  obtain ⟨s1, e1, g1⟩ := hp w h l bs st n fl c ft
  have hw4 := ft.w4
  have hh4 := ft.h4
  have ad : addD (.tup (cnts (w - 1) (upF l bs))) (.tup (cnts (h - 1) (lvF l bs))) s1 = .ok (.tup ((allI w h l bs).map D.int)) s1 := by
    unfold addD
    simp only
    rw [if_pos (by rw [cnts_len, cnts_len]; omega), cnts_ints, cnts_ints]
    unfold allI
    rw [List.map_append]
  have m := mm_tup (allI_ne c ft) (st := s1)
  refine ⟨s1, ?_, g1⟩
  simp only [b_strength, Int.cast_ofNat_Int, Nat.zero_add, Int.reduceEq, Int.reduceNe, Int.reduceLT, Int.reduceLE, Int.reduceGT, Int.reduceGE, Int.reduceAdd, Int.reduceSub, Int.reduceMul, Int.reduceNeg, Int.reduceMod, Int.reduceDiv, Nat.reduceLeDiff, slZ_tup, eqD_int, neD_int, eqD_bl, neD_bl, ixT0, ixT1, ixT2, ixF0, ixF1, ixF2, lenT, lenZ, addZ_frz, addZ_loc_frz, addL_loc_frz, beq_self_eq_true, runDef_eq, start3, finR, sSeq, sSet, sExpr, sRet, sRetN, sIf, sPar2, sAsg, sSetIx, sNil, RS.andThen_nx, RS.andThen_rt, RS.andThen_exn, R.toS_ok, R.toS_exn, kv, kc, k1, k2, kA0, kA1, kF, kM, kIf, kTr, kTb, tAnd3, tOr3, tNot3, kAndV, kOrV, kNotV, kChain, R.bind_ok, R.bind_exn, gN, gT, gs0, gs1, List.map_cons, List.map_nil, List.length_cons, List.length_nil, List.replicate, List.cons_append, List.nil_append, List.getElem?_cons_zero, List.getElem?_cons_succ, List.set_cons_zero, List.set_cons_succ, Nat.reduceAdd, Nat.reduceSub, if_true, if_false, Bool.false_eq_true, Bool.true_eq_false, reduceIte, Bool.not_true, Bool.not_false, Option.bind_some, decide_true, decide_false, e1, ad, m]
/-- the side along which lines of a way are numbered -/
theorem side_ok {a : Bool} {w h l : Int} {st : Sto} : runDef 2 2 b_side_along [.tup [.int w, .int h, .int l], .str (LWAY a)] st = .ok (.int (if a = true then w else h)) st := by
  simp only [b_side_along, Int.cast_ofNat_Int, Nat.zero_add, Int.reduceEq, Int.reduceNe, Int.reduceLT, Int.reduceLE, Int.reduceGT, Int.reduceGE, Int.reduceAdd, Int.reduceSub, Int.reduceMul, Int.reduceNeg, Int.reduceMod, Int.reduceDiv, Nat.reduceLeDiff, slZ_tup, eqD_int, neD_int, eqD_bl, neD_bl, ixT0, ixT1, ixT2, ixF0, ixF1, ixF2, lenT, lenZ, addZ_frz, addZ_loc_frz, addL_loc_frz, beq_self_eq_true, runDef_eq, start3, finR, sSeq, sSet, sExpr, sRet, sRetN, sIf, sPar2, sAsg, sSetIx, sNil, RS.andThen_nx, RS.andThen_rt, RS.andThen_exn, R.toS_ok, R.toS_exn, kv, kc, k1, k2, kA0, kA1, kF, kM, kIf, kTr, kTb, tAnd3, tOr3, tNot3, kAndV, kOrV, kNotV, kChain, R.bind_ok, R.bind_exn, gN, gT, gs0, gs1, List.map_cons, List.map_nil, List.length_cons, List.length_nil, List.replicate, List.cons_append, List.nil_append, List.getElem?_cons_zero, List.getElem?_cons_succ, List.set_cons_zero, List.set_cons_succ, Nat.reduceAdd, Nat.reduceSub, if_true, if_false, Bool.false_eq_true, Bool.true_eq_false, reduceIte, Bool.not_true, Bool.not_false, Option.bind_some, decide_true, decide_false, frzF, tupF, listZ, addD, subD, mulD, fdivD, modD, cmpD, ltD, leD, gtD, geD, negD, absF, maxF, minF, intF, truD, strF, lway_eq]
  cases a <;> rfl
theorem lineway_ok {a : Bool} {st : Sto} : runDef 1 1 b_is_line_way [.str (LWAY a)] st = .ok (.bl true) st := by
  simp only [b_is_line_way, Int.cast_ofNat_Int, Nat.zero_add, Int.reduceEq, Int.reduceNe, Int.reduceLT, Int.reduceLE, Int.reduceGT, Int.reduceGE, Int.reduceAdd, Int.reduceSub, Int.reduceMul, Int.reduceNeg, Int.reduceMod, Int.reduceDiv, Nat.reduceLeDiff, slZ_tup, eqD_int, neD_int, eqD_bl, neD_bl, ixT0, ixT1, ixT2, ixF0, ixF1, ixF2, lenT, lenZ, addZ_frz, addZ_loc_frz, addL_loc_frz, beq_self_eq_true, runDef_eq, start3, finR, sSeq, sSet, sExpr, sRet, sRetN, sIf, sPar2, sAsg, sSetIx, sNil, RS.andThen_nx, RS.andThen_rt, RS.andThen_exn, R.toS_ok, R.toS_exn, kv, kc, k1, k2, kA0, kA1, kF, kM, kIf, kTr, kTb, tAnd3, tOr3, tNot3, kAndV, kOrV, kNotV, kChain, R.bind_ok, R.bind_exn, gN, gT, gs0, gs1, List.map_cons, List.map_nil, List.length_cons, List.length_nil, List.replicate, List.cons_append, List.nil_append, List.getElem?_cons_zero, List.getElem?_cons_succ, List.set_cons_zero, List.set_cons_succ, Nat.reduceAdd, Nat.reduceSub, if_true, if_false, Bool.false_eq_true, Bool.true_eq_false, reduceIte, Bool.not_true, Bool.not_false, Option.bind_some, decide_true, decide_false, isstr_str, truD, tupF, inD_strs]
  cases a <;> simp [LWAY] <;> decide +kernel
theorem isline_ok {rs rw' ri rd : L3.Run} {w h l : Nat} (hs : ∀ st : Sto, rs [.tup [.int w, .int h, .int l]] st = .ok (.bl true) st) (hw : ∀ (a : Bool) (st : Sto), rw' [.str (LWAY a)] st = .ok (.bl true) st) (hi : ∀ (i : Int) (st : Sto), ri [.int i] st = .ok (.bl true) st)
    (hd : ∀ (a : Bool) (st : Sto), rd [.tup [.int w, .int h, .int l], .str (LWAY a)] st = .ok (.int (if a = true then w else h)) st) {a : Bool} {c : Nat} (hc : c + 1 < if a = true then w else h) {st : Sto} : runDef 4 2 (b_is_line rs rw' ri rd) [.tup [.int w, .int h, .int l], lineD a c] st = .ok (.bl true) st := by
  have c1 : decide ((1 : Int) ≤ ((c + 1 : Nat) : Int)) = true := decide_eq_true (by omega)
  have c2 : decide (((c + 1 : Nat) : Int) < (if a = true then (w : Int) else (h : Int))) = true := decide_eq_true (by cases a <;> simp at hc ⊢ <;> omega)
  have e2 : ∀ st : Sto, neD (.int ((0 + 1 + 1 : Nat) : Int)) (.int 2) st = .ok (.bl false) st := fun _ => rfl
  simp only [b_is_line, lineD, Int.cast_ofNat_Int, Nat.zero_add, Int.reduceEq, Int.reduceNe, Int.reduceLT, Int.reduceLE, Int.reduceGT, Int.reduceGE, Int.reduceAdd, Int.reduceSub, Int.reduceMul, Int.reduceNeg, Int.reduceMod, Int.reduceDiv, Nat.reduceLeDiff, slZ_tup, eqD_int, neD_int, eqD_bl, neD_bl, ixT0, ixT1, ixT2, ixF0, ixF1, ixF2, lenT, lenZ, addZ_frz, addZ_loc_frz, addL_loc_frz, beq_self_eq_true, runDef_eq, start3, finR, sSeq, sSet, sExpr, sRet, sRetN, sIf, sPar2, sAsg, sSetIx, sNil, RS.andThen_nx, RS.andThen_rt, RS.andThen_exn, R.toS_ok, R.toS_exn, kv, kc, k1, k2, kA0, kA1, kF, kM, kIf, kTr, kTb, tAnd3, tOr3, tNot3, kAndV, kOrV, kNotV, kChain, R.bind_ok, R.bind_exn, gN, gT, gs0, gs1, List.map_cons, List.map_nil, List.length_cons, List.length_nil, List.replicate, List.cons_append, List.nil_append, List.getElem?_cons_zero, List.getElem?_cons_succ, List.set_cons_zero, List.set_cons_succ, Nat.reduceAdd, Nat.reduceSub, if_true, if_false, Bool.false_eq_true, Bool.true_eq_false, reduceIte, Bool.not_true, Bool.not_false, Option.bind_some, decide_true, decide_false, frzF, tupF, listZ, addD, subD, mulD, fdivD, modD, cmpD, ltD, leD, gtD, geD, negD, absF, maxF, minF, intF, truD, strF, hs, istup_tup, e2, hw, hi, hd, c1, c2]
def CrossS (r : L3.Run) : Prop := ∀ (w h l : Nat) (bs : List Bar) (st : Sto) (n : Nat) (a : Bool) (c : Nat), FloorAt st n w h l bs → Cover w h l bs → Fits w h l → (c + 1 < if a = true then w else h) → ∃ st', r [.loc n, lineD a c] st = .ok (.int (if a = true then upF l bs c else lvF l bs c)) st' ∧ Stands st st'
theorem cross_ok {rp rl : L3.Run} (hp : ProfS rp) (hl : ∀ (w h l : Nat) (a : Bool) (c : Nat) (st : Sto), Fits w h l → (c + 1 < if a = true then w else h) → rl [.tup [.int w, .int h, .int l], lineD a c] st = .ok (.bl true) st) : CrossS (runDef 6 2 (b_crossings rp rl (runDef 1 1 b_Floor_size))) := by
  intro w h l bs st n a c fl cc ft hc
  obtain ⟨s1, e1, g1⟩ := hp w h l bs st n fl cc ft
  have sz : ∀ (ρ : Env3), ρ[0]? = some (some (.loc n)) → kPr "Floor" "size" (runDef 1 1 b_Floor_size) (kv 0) ρ s1 = .ok (.tup [.int w, .int h, .int l]) s1 := fun ρ h0 => kPr_size' (kv_ok h0) (fl.stands g1)
  obtain ⟨Z, hZ⟩ : ∃ Z, kPr "Floor" "size" (runDef 1 1 b_Floor_size) (kv 0) = Z := ⟨_, rfl⟩
  rw [hZ] at sz
  have zv := sz [some (.loc n), some (lineD a c), some (.tup (cnts (w - 1) (upF l bs))), some (.tup (cnts (h - 1) (lvF l bs))), none, none] rfl
  have li := hl w h l a c s1 ft hc
  have cm : (((c + 1 : Nat) : Int) - 1) = (c : Int) := by omega
  refine ⟨s1, ?_, g1⟩
  unfold b_crossings
  rw [hZ]
  cases a with
  | true =>
    simp only [if_true] at hc
    have i1 : ixD (.tup (cnts (w - 1) (upF l bs))) (.int (c : Int)) s1 = .ok (.int (upF l bs c)) s1 := ixD_tup (cnts_at (by omega))
    simp only [lineD] at zv li ⊢
    simp only [Int.cast_ofNat_Int, Nat.zero_add, Int.reduceEq, Int.reduceNe, Int.reduceLT, Int.reduceLE, Int.reduceGT, Int.reduceGE, Int.reduceAdd, Int.reduceSub, Int.reduceMul, Int.reduceNeg, Int.reduceMod, Int.reduceDiv, Nat.reduceLeDiff, slZ_tup, eqD_int, neD_int, eqD_bl, neD_bl, ixT0, ixT1, ixT2, ixF0, ixF1, ixF2, lenT, lenZ, addZ_frz, addZ_loc_frz, addL_loc_frz, beq_self_eq_true, runDef_eq, start3, finR, sSeq, sSet, sExpr, sRet, sRetN, sIf, sPar2, sAsg, sSetIx, sNil, RS.andThen_nx, RS.andThen_rt, RS.andThen_exn, R.toS_ok, R.toS_exn, kv, kc, k1, k2, kA0, kA1, kF, kM, kIf, kTr, kTb, tAnd3, tOr3, tNot3, kAndV, kOrV, kNotV, kChain, R.bind_ok, R.bind_exn, gN, gT, gs0, gs1, List.map_cons, List.map_nil, List.length_cons, List.length_nil, List.replicate, List.cons_append, List.nil_append, List.getElem?_cons_zero, List.getElem?_cons_succ, List.set_cons_zero, List.set_cons_succ, Nat.reduceAdd, Nat.reduceSub, if_true, if_false, Bool.false_eq_true, Bool.true_eq_false, reduceIte, Bool.not_true, Bool.not_false, Option.bind_some, decide_true, decide_false, frzF, tupF, listZ, addD, subD, mulD, fdivD, modD, cmpD, ltD, leD, gtD, geD, negD, absF, maxF, minF, intF, truD, strF, e1, zv, li, lway_eq, cm, i1]
  | false =>
    simp only [Bool.false_eq_true, if_false] at hc
    have i1 : ixD (.tup (cnts (h - 1) (lvF l bs))) (.int (c : Int)) s1 = .ok (.int (lvF l bs c)) s1 := ixD_tup (cnts_at (by omega))
    simp only [lineD] at zv li ⊢
    simp only [Int.cast_ofNat_Int, Nat.zero_add, Int.reduceEq, Int.reduceNe, Int.reduceLT, Int.reduceLE, Int.reduceGT, Int.reduceGE, Int.reduceAdd, Int.reduceSub, Int.reduceMul, Int.reduceNeg, Int.reduceMod, Int.reduceDiv, Nat.reduceLeDiff, slZ_tup, eqD_int, neD_int, eqD_bl, neD_bl, ixT0, ixT1, ixT2, ixF0, ixF1, ixF2, lenT, lenZ, addZ_frz, addZ_loc_frz, addL_loc_frz, beq_self_eq_true, runDef_eq, start3, finR, sSeq, sSet, sExpr, sRet, sRetN, sIf, sPar2, sAsg, sSetIx, sNil, RS.andThen_nx, RS.andThen_rt, RS.andThen_exn, R.toS_ok, R.toS_exn, kv, kc, k1, k2, kA0, kA1, kF, kM, kIf, kTr, kTb, tAnd3, tOr3, tNot3, kAndV, kOrV, kNotV, kChain, R.bind_ok, R.bind_exn, gN, gT, gs0, gs1, List.map_cons, List.map_nil, List.length_cons, List.length_nil, List.replicate, List.cons_append, List.nil_append, List.getElem?_cons_zero, List.getElem?_cons_succ, List.set_cons_zero, List.set_cons_succ, Nat.reduceAdd, Nat.reduceSub, if_true, if_false, Bool.false_eq_true, Bool.true_eq_false, reduceIte, Bool.not_true, Bool.not_false, Option.bind_some, decide_true, decide_false, frzF, tupF, listZ, addD, subD, mulD, fdivD, modD, cmpD, ltD, leD, gtD, geD, negD, absF, maxF, minF, intF, truD, strF, e1, zv, li, lway_eq, cm, i1]
end Fl

namespace Fl
open PySem L2 L3 Tile
theorem perm_sum {xs ys : List Int} (p : xs.Perm ys) : xs.sum = ys.sum := by
  induction p with
  | nil => rfl
  | cons x _ ih => simp [ih]
  | swap x y l => simp only [List.sum_cons]; omega
  | trans _ _ h1 h2 => exact h1.trans h2
theorem upF_perm {l : Nat} {bs cs : List Bar} (p : bs.Perm cs) (c : Nat) : upF l bs c = upF l cs c := perm_sum (p.map _)
theorem lvF_perm {l : Nat} {bs cs : List Bar} (p : bs.Perm cs) (c : Nat) : lvF l bs c = lvF l cs c := perm_sum (p.map _)
theorem upF_ex (l : Nat) (bs : List Bar) (c : Nat) : upF l (bs.map exB) c = lvF l bs c := by
  unfold upF lvF
  rw [List.map_map]
  congr 1
  refine List.map_congr_left fun b _ => ?_
  obtain ⟨x, y, a⟩ := b
  cases a <;> simp [crU, crL, exB]
theorem lvF_ex (l : Nat) (bs : List Bar) (c : Nat) : lvF l (bs.map exB) c = upF l bs c := by
  unfold upF lvF
  rw [List.map_map]
  congr 1
  refine List.map_congr_left fun b _ => ?_
  obtain ⟨x, y, a⟩ := b
  cases a <;> simp [crU, crL, exB]
theorem upF_mir {w l : Nat} (bs : List Bar) {c : Nat} (hc : c < w - 1) : upF l (bs.map (mirB w l)) c = upF l bs (w - 2 - c) := by
  unfold upF
  rw [List.map_map]
  congr 1
  refine List.map_congr_left fun b _ => ?_
  obtain ⟨x, y, a⟩ := b
  cases a with
  | false => simp [crU, mirB]
  | true =>
    have e : crU l (mirB w l (x, y, true)) c ↔ crU l (x, y, true) (w - 2 - c) := by
      unfold crU mirB
      simp only [if_true, true_and]
      omega
    simp only [Function.comp_apply, e]
theorem lvF_mir (w l : Nat) (bs : List Bar) (c : Nat) : lvF l (bs.map (mirB w l)) c = lvF l bs c := by
  unfold lvF
  rw [List.map_map]
  congr 1
theorem cnts_rev (N : Nat) (f : Nat → Int) : (cnts N f).reverse = cnts N fun c => f (N - 1 - c) := by
  apply List.ext_getElem
  · simp [cnts]
  · intro i h1 h2
    rw [List.getElem_reverse]
    simp [cnts]
theorem prof_ex {w h l : Nat} {bs : List Bar} : profD h w l (sortB (bs.map exB)) = .tup [.tup (cnts (h - 1) (lvF l bs)), .tup (cnts (w - 1) (upF l bs))] := by
  unfold profD
  rw [cnts_congr (N := h - 1) (g := lvF l bs) fun c _ => (upF_perm (sortB_perm _) c).trans (upF_ex l bs c), cnts_congr (N := w - 1) (g := upF l bs) fun c _ => (lvF_perm (sortB_perm _) c).trans (lvF_ex l bs c)]
theorem prof_mir {w h l : Nat} {bs : List Bar} : profD w h l (sortB (bs.map (mirB w l))) = .tup [.tup (cnts (w - 1) (upF l bs)).reverse, .tup (cnts (h - 1) (lvF l bs))] := by
  unfold profD
  rw [cnts_rev, cnts_congr (N := w - 1) (g := fun c => upF l bs (w - 1 - 1 - c)) fun c hc => (upF_perm (sortB_perm _) c).trans (upF_mir bs hc), cnts_congr (N := h - 1) (g := lvF l bs) fun c _ => (lvF_perm (sortB_perm _) c).trans (lvF_mir w l bs c)]
/-! ### least and greatest -/
theorem minI_spec : ∀ (xs : List Int) (x : Int), minI x xs ∈ x :: xs ∧ ∀ z ∈ x :: xs, minI x xs ≤ z
  | [], x => ⟨List.mem_singleton.mpr rfl, fun z hz => by rw [List.mem_singleton.mp hz]; exact Int.le_refl _⟩
  | y :: ys, x => by
    obtain ⟨h1, h2⟩ := minI_spec ys (if y < x then y else x)
    have e : minI x (y :: ys) = minI (if y < x then y else x) ys := rfl
    rw [e]
    generalize minI (if y < x then y else x) ys = m at h1 h2 ⊢
    refine ⟨?_, fun z hz => ?_⟩
    · rcases List.mem_cons.mp h1 with h | h
      · rw [h]; split
        · exact List.mem_cons_of_mem _ List.mem_cons_self
        · exact List.mem_cons_self
      · exact List.mem_cons_of_mem _ (List.mem_cons_of_mem _ h)
    · have h0 := h2 _ List.mem_cons_self
      rcases List.mem_cons.mp hz with rfl | hz
      · split at h0 <;> omega
      · rcases List.mem_cons.mp hz with rfl | hz
        · split at h0 <;> omega
        · exact h2 z (List.mem_cons_of_mem _ hz)
theorem maxI_spec : ∀ (xs : List Int) (x : Int), maxI x xs ∈ x :: xs ∧ ∀ z ∈ x :: xs, z ≤ maxI x xs
  | [], x => ⟨List.mem_singleton.mpr rfl, fun z hz => by rw [List.mem_singleton.mp hz]; exact Int.le_refl _⟩
  | y :: ys, x => by
    obtain ⟨h1, h2⟩ := maxI_spec ys (if x < y then y else x)
    have e : maxI x (y :: ys) = maxI (if x < y then y else x) ys := rfl
    rw [e]
    generalize maxI (if x < y then y else x) ys = m at h1 h2 ⊢
    refine ⟨?_, fun z hz => ?_⟩
    · rcases List.mem_cons.mp h1 with h | h
      · rw [h]; split
        · exact List.mem_cons_of_mem _ List.mem_cons_self
        · exact List.mem_cons_self
      · exact List.mem_cons_of_mem _ (List.mem_cons_of_mem _ h)
    · have h0 := h2 _ List.mem_cons_self
      rcases List.mem_cons.mp hz with rfl | hz
      · split at h0 <;> omega
      · rcases List.mem_cons.mp hz with rfl | hz
        · split at h0 <;> omega
        · exact h2 z (List.mem_cons_of_mem _ hz)
/-- min and max of a list of ints whose least and greatest are known -/
theorem mm_val {mx : Bool} {f : List D → Sto → R D} {is : List Int} {m : Int} (hm : m ∈ is) (h : ∀ z ∈ is, if mx = true then z ≤ m else m ≤ z) {st : Sto} : mmI mx f [.frz (is.map D.int)] st = .ok (.int m) st := by
  cases is with
  | nil => cases hm
  | cons i is =>
    show mmInts mx ((i :: is).map D.int) st = _
    unfold mmInts
    rw [ints_cnts]
    simp only
    cases mx with
    | true =>
      obtain ⟨h1, h2⟩ := maxI_spec is i
      have a1 := h2 m hm
      have a2 := h _ h1
      simp only [if_true] at a2 ⊢
      have : maxI i is = m := by omega
      rw [this]
    | false =>
      obtain ⟨h1, h2⟩ := minI_spec is i
      have a1 := h2 m hm
      have a2 := h _ h1
      simp only [Bool.false_eq_true, if_false] at a2 ⊢
      have : minI i is = m := by omega
      rw [this]
end Fl

namespace Fl
open PySem L2 L3 Tile
section
variable {α : Type} {enc : α → D} {pe : α → PyData} {st : Sto} {n k : Nat}
theorem allO_enc (h : ∀ a, pd st n (enc a) = some (pe a)) : ∀ xs : List α, allO ((xs.map enc).map (pd st n)) = some (xs.map pe)
  | [] => rfl
  | x :: xs => by
    show (pd st n (enc x)).bind (fun a => (allO ((xs.map enc).map (pd st n))).bind fun l => some (a :: l)) = _
    rw [h x, allO_enc h xs]
    rfl
theorem canLay_enc (h : ∀ a, PyData.canLay0 (pe a) = true) : ∀ xs : List α, PyData.canLayAll0 (xs.map pe) = true
  | [] => by simp [PyData.canLayAll0]
  | x :: xs => by simp [PyData.canLayAll0, h x, canLay_enc h xs]
theorem depth_enc (h : ∀ a, PyData.depth (pe a) ≤ k) : ∀ xs : List α, PyData.depthAll (xs.map pe) ≤ k + 1
  | [] => by simp [PyData.depthAll]
  | x :: xs => by
    have := depth_enc h xs
    have := h x
    simp only [List.map_cons, PyData.depthAll]
    omega
theorem shaped_tupE (hc : ∀ a, PyData.canLay0 (pe a) = true) (hd : ∀ a, PyData.depth (pe a) ≤ k) (hk : k ≤ 40) (xs : List α) : SeqAt.shaped (.tuple (xs.map pe)) = true := by
  have h1 := depth_enc hd xs
  have h2 : PyData.depth (.tuple (xs.map pe)) ≤ 64 := by simp only [PyData.depth]; omega
  show (PyData.canLay0 (.tuple (xs.map pe)) && decide (PyData.depth (.tuple (xs.map pe)) ≤ 64)) = true
  rw [Bool.and_eq_true]
  exact ⟨by simp only [PyData.canLay0]; exact canLay_enc hc xs, decide_eq_true h2⟩
theorem shaped_lstE (hc : ∀ a, PyData.canLay0 (pe a) = true) (hd : ∀ a, PyData.depth (pe a) ≤ k) (hk : k ≤ 40) (xs : List α) : SeqAt.shaped (.list (xs.map pe)) = true := by
  have h1 := depth_enc hd xs
  have h2 : PyData.depth (.list (xs.map pe)) ≤ 64 := by simp only [PyData.depth]; omega
  show (PyData.canLay0 (.list (xs.map pe)) && decide (PyData.depth (.list (xs.map pe)) ≤ 64)) = true
  rw [Bool.and_eq_true]
  exact ⟨by simp only [PyData.canLay0]; exact canLay_enc hc xs, decide_eq_true h2⟩
theorem pd_tupE (h : ∀ a, pd st 39 (enc a) = some (pe a)) (xs : List α) : pd st 40 (.tup (xs.map enc)) = some (.tuple (xs.map pe)) := by
  show (allO ((xs.map enc).map (pd st 39))).bind _ = _
  rw [allO_enc h]; rfl
theorem pd_frzE (h : ∀ a, pd st 39 (enc a) = some (pe a)) (xs : List α) : pd st 40 (.frz (xs.map enc)) = some (.list (xs.map pe)) := by
  show (allO ((xs.map enc).map (pd st 39))).bind _ = _
  rw [allO_enc h]; rfl
theorem tup_sameE (h : ∀ a, pd st 39 (enc a) = some (pe a)) (hc : ∀ a, PyData.canLay0 (pe a) = true) (hd : ∀ a, PyData.depth (pe a) ≤ k) (hk : k ≤ 40) (xs : List α) : eqD (.tup (xs.map enc)) (.tup (xs.map enc)) st = .ok (.bl true) st ∧ neD (.tup (xs.map enc)) (.tup (xs.map enc)) st = .ok (.bl false) st :=
  same_eq (pd_tupE h xs) (shaped_tupE hc hd hk xs)
theorem frz_sameE (h : ∀ a, pd st 39 (enc a) = some (pe a)) (hc : ∀ a, PyData.canLay0 (pe a) = true) (hd : ∀ a, PyData.depth (pe a) ≤ k) (hk : k ≤ 40) (xs : List α) : eqD (.frz (xs.map enc)) (.frz (xs.map enc)) st = .ok (.bl true) st ∧ neD (.frz (xs.map enc)) (.frz (xs.map enc)) st = .ok (.bl false) st :=
  same_eq (pd_frzE h xs) (shaped_lstE hc hd hk xs)
theorem frz_nilE (h : ∀ a, pd st 39 (enc a) = some (pe a)) (hc : ∀ a, PyData.canLay0 (pe a) = true) (hd : ∀ a, PyData.depth (pe a) ≤ k) (hk : k ≤ 40) (xs : List α) : eqD (.frz (xs.map enc)) (.frz []) st = .ok (.bl (decide (xs = []))) st := by
  have e0 : pd st 40 (.frz []) = some (.list []) := rfl
  simp only [eqD, pd_frzE h xs, e0]
  rw [if_pos ⟨shaped_lstE hc hd hk xs, shaped_lstE hc hd hk []⟩]
  cases xs <;> simp [PyData.eqv, PyData.eqvAll]
end
def pL (p : Bool × Nat) : PyData := .tuple [.str (LWAY p.1), .int ((p.2 + 1 : Nat) : Int)]
theorem lway_lay (a : Bool) : PyData.strOk (LWAY a) = true := by cases a <;> decide +kernel
theorem pL_lay (p : Bool × Nat) : PyData.canLay0 (pL p) = true := by simp [pL, PyData.canLay0, PyData.canLayAll0, lway_lay]
theorem pL_depth (p : Bool × Nat) : PyData.depth (pL p) ≤ 3 := by simp [pL, PyData.depth, PyData.depthAll]
theorem pL_pd (st : Sto) (p : Bool × Nat) : pd st 39 (lineD p.1 p.2) = some (pL p) := rfl
def seamsP (w h l : Nat) (bs : List Bar) : List (Bool × Nat) := ((List.range (h - 1)).filter fun c => decide (lvF l bs c = 0)).map (fun c => (false, c)) ++ ((List.range (w - 1)).filter fun c => decide (upF l bs c = 0)).map fun c => (true, c)
theorem seamsL_eq (w h l : Nat) (bs : List Bar) : seamsL w h l bs = (seamsP w h l bs).map fun p => lineD p.1 p.2 := by
  unfold seamsL seamsP zeros
  rw [List.map_append, List.map_map, List.map_map]
  rfl
theorem seams_same {w h l : Nat} {bs : List Bar} {st : Sto} : neD (.tup (seamsL w h l bs)) (.tup (seamsL w h l bs)) st = .ok (.bl false) st := by
  rw [seamsL_eq]
  exact (tup_sameE (pL_pd st) pL_lay pL_depth (by decide) _).2
theorem seams_nil {w h l : Nat} {bs : List Bar} {st : Sto} : eqD (.frz (seamsL w h l bs)) (.frz []) st = .ok (.bl (decide (seamsL w h l bs = []))) st := by
  have e : decide (seamsL w h l bs = []) = decide (seamsP w h l bs = []) := by
    rw [seamsL_eq]
    cases seamsP w h l bs <;> simp
  rw [e, seamsL_eq]
  exact frz_nilE (pL_pd st) pL_lay pL_depth (by decide) _
theorem int_lay (i : Int) : PyData.canLay0 (.int i) = true := by simp [PyData.canLay0]
theorem int_depth (i : Int) : PyData.depth (.int i) ≤ 1 := by simp [PyData.depth]
theorem cnts_frz_same {N : Nat} {f : Nat → Int} {st : Sto} : neD (.frz (cnts N f)) (.frz (cnts N f)) st = .ok (.bl false) st := by
  rw [cnts_ints]
  exact (frz_sameE (enc := D.int) (pe := PyData.int) (fun _ => rfl) int_lay int_depth (by decide) _).2
/-- a pair of tuples of ints -/
theorem pair_same {is js : List Int} {st : Sto} : eqD (.tup [.tup (is.map D.int), .tup (js.map D.int)]) (.tup [.tup (is.map D.int), .tup (js.map D.int)]) st = .ok (.bl true) st ∧ neD (.tup [.tup (is.map D.int), .tup (js.map D.int)]) (.tup [.tup (is.map D.int), .tup (js.map D.int)]) st = .ok (.bl false) st := by
  have h : ∀ a : List Int, pd st 39 (.tup (a.map D.int)) = some (.tuple (a.map PyData.int)) := fun a => by
    show (allO ((a.map D.int).map (pd st 38))).bind _ = _
    rw [pd_ints]; rfl
  have hc : ∀ a : List Int, PyData.canLay0 (.tuple (a.map PyData.int)) = true := fun a => by simp only [PyData.canLay0]; exact canLay_ints a
  have hd : ∀ a : List Int, PyData.depth (.tuple (a.map PyData.int)) ≤ 3 := fun a => by
    have := depth_ints a
    simp only [PyData.depth]
    omega
  exact tup_sameE (enc := fun a : List Int => D.tup (a.map D.int)) h hc hd (by decide) [is, js]
theorem rngIts_one (n : Nat) : rngIts 1 n = (List.range n).map fun (c : Nat) => D.int ((c + 1 : Nat) : Int) := by
  unfold rngIts
  exact List.map_congr_left fun i _ => by congr 1; omega
theorem it_from1 {o : KE} {N : Nat} {ρ : Env3} {st : Sto} (h : o ρ st = .ok (.int (N : Int)) st) (hN : N ≤ 400) : iR2 (kA1 (kc (.int 1)) (kA1 o kA0)) ρ st = .ok (.its ((List.range (N - 1)).map fun (c : Nat) => D.int ((c + 1 : Nat) : Int))) st := by
  have e : ((N : Int) - 1).toNat = N - 1 := by omega
  rw [← rngIts_one, ← e]
  refine (iR2_eq (ds := [.int 1, .int (N : Int)]) (st1 := st) ?_).trans (rng2_ok (by omega))
  simp only [kA1, kA0, kc, h, R.bind_ok]
theorem it_upto {o : KE} {N : Nat} {ρ : Env3} {st : Sto} (h : o ρ st = .ok (.int (N : Int)) st) (hN : N ≤ 400) : iR1 (kA1 o kA0) ρ st = .ok (.its ((List.range N).map fun (c : Nat) => D.int (c : Int))) st := by
  rw [← rngIts_enc]
  exact iR1_ok (by omega) (by simp only [kA1, kA0, h, R.bind_ok])
/-- a list comprehension whose items make new objects -/
theorem lz_grow {α : Type} {vs : List Nat} {g : KG} {it : KI} {elt : KE} {ρ : Env3} {st : Sto} {cs : List α} (enc : α → D) (f : α → D) (hi : it ρ st = .ok (.its (cs.map enc)) st) (hx : cs.length < 16777215)
    (hc : ∀ c ∈ cs, ∃ ρ1, g (enc c) (wipeD ρ vs) = some ρ1 ∧ ∀ s, Stands st s → ∃ s', elt ρ1 s = .ok (f c) s' ∧ Stands s s') :
    ∃ st', kLz vs g it kTrue elt ρ st = .ok (.frz (cs.map f)) st' ∧ Stands st st' := by
  obtain ⟨acc, st', h1, ⟨hst, h2⟩, h3⟩ := lc_inv (g := g) (cnd := kTrue) (elt := elt) (src := .its (cs.map enc)) (ρ := wipeD ρ vs) (xs := cs.map enc) (fun i s acc => Stands st s ∧ acc = (cs.take i).map f) (fun i s acc h => rfl)
    (fun i d s acc hd ⟨hs, ha⟩ => by
      rw [List.getElem?_map] at hd
      obtain ⟨c, hc0, rfl⟩ := Option.map_eq_some_iff.mp hd
      obtain ⟨ρ1, q1, q2⟩ := hc c (List.mem_of_getElem? hc0)
      obtain ⟨s', q3, q4⟩ := q2 s hs
      have et : cs.take (i + 1) = cs.take i ++ [c] := by rw [List.take_succ, hc0]; rfl
      exact ⟨ρ1, true, s, q1, rfl, fun _ => ⟨f c, s', q3, hs.trans q4, by rw [et, ha]; simp⟩, fun z => nomatch z⟩)
    (cs.map enc).length 0 st [] ((cs.map enc).length + 1) (by omega) (by omega) (by omega) (by simp) (by rw [List.length_map]; exact hx) ⟨.refl, rfl⟩
  refine ⟨st', ?_, hst⟩
  unfold kLz
  rw [hi]
  simp only [R.bind_ok]
  show (lcGo g kTrue elt (.its (cs.map enc)) (wipeD ρ vs) ((cs.map enc).length + 1) 0 st []).bind _ = _
  rw [h1, R.bind_ok, h2, List.length_map, List.take_length]
end Fl

/-! The remainders of crossings, counted column by column. -/
namespace Fl
open PySem L2 L3 Tile
theorem sum_add {α : Type} (f g : α → Int) : ∀ bs : List α, (bs.map fun b => f b + g b).sum = (bs.map f).sum + (bs.map g).sum
  | [] => rfl
  | b :: bs => by
    have := sum_add f g bs
    simp only [List.map_cons, List.sum_cons, this]
    omega
theorem sum_congr {α : Type} {f g : α → Int} {bs : List α} (h : ∀ b ∈ bs, f b = g b) : (bs.map f).sum = (bs.map g).sum := by
  rw [List.map_congr_left h]
theorem sum_const {α : Type} (k : Int) : ∀ bs : List α, (bs.map fun _ => k).sum = k * bs.length
  | [] => by simp
  | b :: bs => by
    have := sum_const k bs
    simp only [List.map_cons, List.sum_cons, this, List.length_cons]
    rw [Int.natCast_add, Int.mul_add]
    simp
    omega
theorem sum_zero {α : Type} {f : α → Int} {bs : List α} (h : ∀ b ∈ bs, f b = 0) : (bs.map f).sum = 0 := by
  rw [sum_congr h, sum_const]; simp
/-- cells of the column j, bar by bar -/
def colB (l j : Nat) (b : Bar) : Int := if b.2.2 = true then (if b.1 ≤ (j : Int) ∧ (j : Int) < b.1 + l then 1 else 0) else (if b.1 = (j : Int) then l else 0)
theorem range_hit (l : Nat) (k : Int) : (((List.range l).countP fun (i : Nat) => decide ((i : Int) = k) : Nat) : Int) = if 0 ≤ k ∧ k < l then 1 else 0 := by
  induction l with
  | zero => 
    simp
  | succ n ih =>
    rw [List.range_succ, List.countP_append, Int.natCast_add, ih]
    simp only [List.countP_cons, List.countP_nil, decide_eq_true_eq]
    by_cases h : (n : Int) = k
    · subst h
      simp
      omega
    · simp only [h, if_false]
      by_cases h2 : 0 ≤ k ∧ k < (n : Int)
      · rw [if_pos h2, if_pos (by omega)]; rfl
      · rw [if_neg h2, if_neg (by omega)]; rfl
theorem col_cells (l j : Nat) (b : Bar) : (((cells l b).countP fun c => decide (c.1 = (j : Int)) : Nat) : Int) = colB l j b := by
  unfold cells colB
  rw [List.countP_map]
  obtain ⟨x, y, a⟩ := b
  cases a with
  | true =>
    simp only [if_true, Function.comp_def]
    have : (fun (i : Nat) => decide (x + (i : Int) = (j : Int))) = fun (i : Nat) => decide ((i : Int) = (j : Int) - x) := by
      funext i; congr 1; exact propext ⟨fun h => by omega, fun h => by omega⟩
    rw [this, range_hit]
    by_cases h : x ≤ (j : Int) ∧ (j : Int) < x + l
    · rw [if_pos h, if_pos (by omega)]
    · rw [if_neg h, if_neg (by omega)]
  | false =>
    simp only [Bool.false_eq_true, if_false, Function.comp_def]
    by_cases h : x = (j : Int)
    · simp [h]
    · simp [h]
theorem count_flat (p : Cell → Bool) (l : Nat) : ∀ bs : List Bar, (((bs.flatMap (cells l)).countP p : Nat) : Int) = (bs.map fun b => (((cells l b).countP p : Nat) : Int)).sum
  | [] => rfl
  | b :: bs => by
    rw [List.flatMap_cons, List.countP_append, Int.natCast_add, count_flat p l bs]
    simp
theorem grid_col {w h j : Nat} (hj : j < w) : (grid w h).countP (fun c => decide (c.1 = (j : Int))) = h := by
  unfold grid
  rw [List.countP_flatMap]
  have : (List.map (List.countP (fun c => decide (c.1 = (j : Int))) ∘ fun (i : Nat) => List.map (fun (j : Nat) => ((i : Int), (j : Int))) (List.range h)) (List.range w)) = (List.range w).map fun i => if i = j then h else 0 := by
    refine List.map_congr_left fun i _ => ?_
    simp only [Function.comp_apply, List.countP_map]
    by_cases e : i = j
    · subst e; simp [Function.comp_def]
    · rw [if_neg e]
      rw [List.countP_eq_zero]
      intro a _
      simp
      omega
  rw [this]
  clear this
  induction w with
  | zero => omega
  | succ n ih =>
    rw [List.range_succ, List.map_append, List.sum_append]
    simp only [List.map_cons, List.map_nil, List.sum_cons, List.sum_nil]
    by_cases e : j = n
    · subst e
      have : ((List.range j).map fun i => if i = j then h else 0) = (List.range j).map fun _ => 0 := List.map_congr_left fun i hi => if_neg (by have := List.mem_range.mp hi; omega)
      rw [this]
      simp [List.map_const']
    · rw [ih (by omega), if_neg (fun z => e z.symm)]
      rfl
theorem column {w h l j : Nat} {bs : List Bar} (c : Cover w h l bs) (hj : j < w) : (bs.map (colB l j)).sum = (h : Int) := by
  have h1 := List.Perm.countP_eq (fun c => decide (c.1 = (j : Int))) c
  rw [grid_col hj] at h1
  rw [← h1, count_flat]
  exact sum_congr fun b _ => (col_cells l j b).symm
/-- across bars over the column j; that begin there; that end there -/
def vB (l j : Nat) (b : Bar) : Int := if b.2.2 = true ∧ b.1 ≤ (j : Int) ∧ (j : Int) < b.1 + l then 1 else 0
def beB (x : Int) (b : Bar) : Int := if b.2.2 = true ∧ b.1 = x then 1 else 0
def dB' (j : Nat) (b : Bar) : Int := if b.2.2 = false ∧ b.1 = (j : Int) then 1 else 0
def BE (bs : List Bar) (x : Int) : Int := (bs.map (beB x)).sum
theorem over_mod {w h l j : Nat} {bs : List Bar} (c : Cover w h l bs) (hj : j < w) : ∃ d : Int, (bs.map (vB l j)).sum = (h : Int) - l * d := by
  have e := column c hj
  have : (bs.map (colB l j)).sum = (bs.map (vB l j)).sum + (bs.map fun b => (l : Int) * dB' j b).sum := by
    rw [← sum_add]
    refine sum_congr fun b _ => ?_
    unfold colB vB dB'
    obtain ⟨x, y, a⟩ := b
    cases a with
    | true => simp
    | false => 
      by_cases q : x = (j : Int) <;> simp [q]
  have m : (bs.map fun b => (l : Int) * dB' j b).sum = l * (bs.map (dB' j)).sum := by
    clear this e c
    induction bs with
    | nil => simp
    | cons b bs ih => simp only [List.map_cons, List.sum_cons, ih, Int.mul_add]
  exact ⟨(bs.map (dB' j)).sum, by omega⟩
theorem up_end {l : Nat} (hl : 2 ≤ l) (bs : List Bar) (c : Nat) : (bs.map (vB l c)).sum = upF l bs c + BE bs ((c : Int) + 1 - l) := by
  unfold upF BE
  rw [← sum_add]
  refine sum_congr fun b _ => ?_
  obtain ⟨x, y, a⟩ := b
  unfold vB beB crU
  cases a with
  | false => simp
  | true =>
    simp only [true_and]
    by_cases h1 : x ≤ (c : Int) ∧ (c : Int) + 1 < x + l
    · rw [if_pos h1, if_pos (by omega), if_neg (by omega)]; rfl
    · by_cases h2 : x = (c : Int) + 1 - l
      · rw [if_neg h1, if_pos (by omega), if_pos h2]; rfl
      · rw [if_neg h1, if_neg (by omega), if_neg h2]; rfl
theorem up_begin {l : Nat} (hl : 2 ≤ l) (bs : List Bar) (c : Nat) : (bs.map (vB l (c + 1))).sum = upF l bs c + BE bs ((c + 1 : Nat) : Int) := by
  unfold upF BE
  rw [← sum_add]
  refine sum_congr fun b _ => ?_
  obtain ⟨x, y, a⟩ := b
  unfold vB beB crU
  cases a with
  | false => simp
  | true =>
    simp only [true_and]
    by_cases h1 : x ≤ (c : Int) ∧ (c : Int) + 1 < x + l
    · rw [if_pos h1, if_pos (by omega), if_neg (by omega)]; rfl
    · by_cases h2 : x = ((c + 1 : Nat) : Int)
      · rw [if_neg h1, if_pos (by omega), if_pos h2]; rfl
      · rw [if_neg h1, if_neg (by omega), if_neg h2]; rfl
theorem be_neg {w h l : Nat} {bs : List Bar} (c : Cover w h l bs) (hl : 2 ≤ l) {x : Int} (hx : x < 0) : BE bs x = 0 :=
  sum_zero fun b hb => by
    have := cover_within c (by omega) hb
    unfold Within at this
    unfold beB
    refine if_neg fun z => ?_
    rw [if_pos z.1] at this
    omega
theorem be_mod {w h l : Nat} {bs : List Bar} (c : Cover w h l bs) (hl : 2 ≤ l) : ∀ j : Nat, j < w → ∃ d : Int, BE bs (j : Int) = (if j % l = 0 then (h : Int) else 0) + l * d := by
  intro j
  induction j using Nat.strongRecOn with
  | ind j ih =>
    intro hj
    cases j with
    | zero =>
      obtain ⟨d, hd⟩ := over_mod c hj
      refine ⟨-d, ?_⟩
      have : (bs.map (vB l 0)).sum = BE bs ((0 : Nat) : Int) := sum_congr fun b hb => by
        have z := cover_within c (by omega) hb
        unfold Within at z
        unfold vB beB
        obtain ⟨x, y, a⟩ := b
        cases a with
        | false => simp
        | true =>
          simp only [if_true] at z
          simp only [true_and]
          by_cases h1 : x = ((0 : Nat) : Int)
          · rw [if_pos (by omega), if_pos h1]
          · rw [if_neg (by omega), if_neg h1]
      rw [← this, hd]
      simp only [Nat.zero_mod, if_true, Int.mul_neg]
      omega
    | succ j =>
      obtain ⟨d1, e1⟩ := over_mod c (show j < w by omega)
      obtain ⟨d2, e2⟩ := over_mod c hj
      have e3 := up_end hl bs j
      have e4 := up_begin hl bs j
      by_cases hjl : j + 1 < l
      · rw [be_neg c hl (by omega : ((j : Int) + 1 - l) < 0)] at e3
        rw [if_neg (by rw [Nat.mod_eq_of_lt hjl]; omega)]
        refine ⟨d1 - d2, ?_⟩
        rw [Int.mul_sub]
        omega
      · obtain ⟨d3, e5⟩ := ih (j + 1 - l) (by omega) (by omega)
        have ez : (((j + 1 - l : Nat)) : Int) = (j : Int) + 1 - l := by omega
        rw [ez] at e5
        have em : (j + 1 - l) % l = (j + 1) % l := by
          conv => rhs; rw [show j + 1 = (j + 1 - l) + l by omega, Nat.add_mod_right]
        rw [em] at e5
        refine ⟨d3 + d1 - d2, ?_⟩
        rw [Int.mul_sub, Int.mul_add]
        generalize (if (j + 1) % l = 0 then (h : Int) else 0) = z at e5 ⊢
        omega
theorem up_mod {w h l c : Nat} {bs : List Bar} (cv : Cover w h l bs) (hl : 2 ≤ l) (hc : c + 1 < w) : upF l bs c % l = if (c + 1) % l = 0 then 0 else (h : Int) % l := by
  obtain ⟨d1, e1⟩ := over_mod cv (show c < w by omega)
  have e3 := up_end hl bs c
  have fin : ∀ (u z d : Int), u = z + l * d → u % (l : Int) = z % (l : Int) := fun u z d e => by rw [e, Int.add_mul_emod_self_left]
  by_cases hcl : c + 1 < l
  · rw [be_neg cv hl (by omega : ((c : Int) + 1 - l) < 0)] at e3
    rw [if_neg (by rw [Nat.mod_eq_of_lt hcl]; omega)]
    exact fin _ _ (-d1) (by rw [Int.mul_neg]; omega)
  · obtain ⟨d3, e5⟩ := be_mod cv hl (c + 1 - l) (by omega)
    have ez : (((c + 1 - l : Nat)) : Int) = (c : Int) + 1 - l := by omega
    rw [ez] at e5
    have em : (c + 1 - l) % l = (c + 1) % l := by
      conv => rhs; rw [show c + 1 = (c + 1 - l) + l by omega, Nat.add_mod_right]
    rw [em] at e5
    by_cases hz : (c + 1) % l = 0
    · rw [if_pos hz] at e5 ⊢
      have := fin (upF l bs c) 0 (-d1 - d3) (by rw [Int.mul_sub, Int.mul_neg]; omega)
      rw [this]; simp
    · rw [if_neg hz] at e5 ⊢
      exact fin _ _ (-d1 - d3) (by rw [Int.mul_sub, Int.mul_neg]; omega)
theorem lv_mod {w h l c : Nat} {bs : List Bar} (cv : Cover w h l bs) (hl : 2 ≤ l) (hc : c + 1 < h) : lvF l bs c % l = if (c + 1) % l = 0 then 0 else (w : Int) % l := by
  have := up_mod (cover_ex cv) hl hc
  rwa [upF_ex] at this
/-! the sum of all -/
theorem sum_swap {α β : Type} (f : α → β → Int) : ∀ (as : List α) (bs : List β), (as.map fun a => (bs.map (f a)).sum).sum = (bs.map fun b => (as.map fun a => f a b).sum).sum
  | [], bs => by simp [sum_zero]
  | a :: as, bs => by
    have := sum_swap f as bs
    simp only [List.map_cons, List.sum_cons, this]
    rw [← sum_add]
theorem range_count (N : Nat) (x : Int) (k : Nat) (h0 : 0 ≤ x) (h1 : x + k ≤ N) : ((List.range N).map fun (c : Nat) => if x ≤ (c : Int) ∧ (c : Int) < x + k then (1 : Int) else 0).sum = k := by
  induction N generalizing k with
  | zero =>
    have : k = 0 := by omega
    subst this; rfl
  | succ n ih =>
    rw [List.range_succ, List.map_append, List.sum_append]
    simp only [List.map_cons, List.map_nil, List.sum_cons, List.sum_nil]
    by_cases hk : x + k ≤ n
    · rw [ih k hk, if_neg (by omega)]; omega
    · cases k with
      | zero => 
        rw [sum_zero fun c _ => if_neg (by omega), if_neg (by omega)]; rfl
      | succ k =>
        have e : ((List.range n).map fun (c : Nat) => if x ≤ (c : Int) ∧ (c : Int) < x + ((k + 1 : Nat) : Int) then (1 : Int) else 0).sum = ((List.range n).map fun (c : Nat) => if x ≤ (c : Int) ∧ (c : Int) < x + (k : Int) then (1 : Int) else 0).sum := sum_congr fun c hc => by
          have := List.mem_range.mp hc
          by_cases z : x ≤ (c : Int) ∧ (c : Int) < x + (k : Int)
          · rw [if_pos z, if_pos (by omega)]
          · rw [if_neg z, if_neg (by omega)]
        rw [e, ih k (by omega), if_pos (by omega)]
        omega
theorem all_sum {w h l : Nat} {bs : List Bar} (cv : Cover w h l bs) (hl : 2 ≤ l) : (cntI (h - 1) (lvF l bs)).sum + (cntI (w - 1) (upF l bs)).sum = ((l : Int) - 1) * bs.length := by
  unfold cntI lvF upF
  rw [sum_swap (fun (c : Nat) (b : Bar) => if crL l b c then (1 : Int) else 0) (List.range (h - 1)) bs, sum_swap (fun (c : Nat) (b : Bar) => if crU l b c then (1 : Int) else 0) (List.range (w - 1)) bs, ← sum_add, ← sum_const]
  refine sum_congr fun b hb => ?_
  have z := cover_within cv (by omega) hb
  unfold Within at z
  obtain ⟨x, y, a⟩ := b
  cases a with
  | true =>
    simp only [if_true] at z
    rw [sum_zero fun c _ => if_neg (fun q => by have := q.1; simp at this)]
    have e := range_count (w - 1) x (l - 1) z.1 (by omega)
    rw [show (l : Int) - 1 = ((l - 1 : Nat) : Int) by omega, ← e, Int.zero_add]
    refine sum_congr fun c _ => ?_
    unfold crU
    simp only [true_and]
    by_cases q : x ≤ (c : Int) ∧ (c : Int) < x + ((l - 1 : Nat) : Int)
    · rw [if_pos (by omega), if_pos q]
    · rw [if_neg (by omega), if_neg q]
  | false =>
    simp only [Bool.false_eq_true, if_false] at z
    rw [sum_zero (f := fun c => if crU l (x, y, false) c then (1 : Int) else 0) fun c _ => if_neg (fun q => by have := q.1; simp at this)]
    have e := range_count (h - 1) y (l - 1) z.2.2.1 (by omega)
    rw [show (l : Int) - 1 = ((l - 1 : Nat) : Int) by omega, ← e, Int.add_zero]
    refine sum_congr fun c _ => ?_
    unfold crL
    simp only [true_and]
    by_cases q : y ≤ (c : Int) ∧ (c : Int) < y + ((l - 1 : Nat) : Int)
    · rw [if_pos (by omega), if_pos q]
    · rw [if_neg (by omega), if_neg q]
end Fl
namespace Fl
open PySem L2 L3 Tile
/-- a size with a floor: the length divides a side -/
theorem cover_div {w h l : Nat} {bs : List Bar} (c : Cover w h l bs) (hl : 2 ≤ l) (hw : 1 ≤ w) : w % l = 0 ∨ h % l = 0 := by
  obtain ⟨d1, e1⟩ := over_mod c (show w - 1 < w by omega)
  have e2 : (bs.map (vB l (w - 1))).sum = BE bs ((w : Int) - l) := sum_congr fun b hb => by
    have z := cover_within c (by omega) hb
    unfold Within at z
    unfold vB beB
    obtain ⟨x, y, a⟩ := b
    cases a with
    | false => simp
    | true =>
      simp only [if_true] at z
      simp only [true_and]
      by_cases q : x = (w : Int) - l
      · rw [if_pos (by omega), if_pos q]
      · rw [if_neg (by omega), if_neg q]
  have fin : ∀ d : Int, (h : Int) = l * d → h % l = 0 := fun d e => by
    have : ((h % l : Nat) : Int) = 0 := by rw [Int.natCast_emod, e, Int.mul_emod_right]
    omega
  by_cases hwl : w < l
  · rw [e2, be_neg c hl (by omega)] at e1
    exact .inr (fin d1 (by omega))
  · obtain ⟨d2, e3⟩ := be_mod c hl (w - l) (by omega)
    have ez : ((w - l : Nat) : Int) = (w : Int) - l := by omega
    rw [ez] at e3
    have em : (w - l) % l = w % l := by
      conv => rhs; rw [show w = (w - l) + l by omega, Nat.add_mod_right]
    rw [em] at e3
    by_cases z : w % l = 0
    · exact .inl z
    · rw [if_neg z] at e3
      exact .inr (fin (d2 + d1) (by rw [Int.mul_add]; omega))
end Fl

namespace Fl
open PySem L2 L3 Tile
theorem lz_all {α : Type} {vs : List Nat} {g : KG} {it : KI} {elt : KE} {ρ : Env3} {st : Sto} {cs : List α} (enc : α → D) (f : α → D) (hi : it ρ st = .ok (.its (cs.map enc)) st) (hx : cs.length < 16777215)
    (hc : ∀ c ∈ cs, ∃ ρ1, g (enc c) (wipeD ρ vs) = some ρ1 ∧ elt ρ1 st = .ok (f c) st) : kLz vs g it kTrue elt ρ st = .ok (.frz (cs.map f)) st := by
  have := lz_enc (vs := vs) (g := g) (it := it) (cnd := kTrue) (elt := elt) (ρ := ρ) (st := st) (cs := cs) enc (fun _ => true) f hi hx fun c h => let ⟨ρ1, h1, h2⟩ := hc c h; ⟨ρ1, h1, rfl, fun _ => h2⟩
  rwa [List.filter_eq_self.mpr fun _ _ => rfl] at this
end Fl
namespace K08
open PySem L2 L3 Tile Fl
def restI (w h l : Nat) (a : Bool) (c : Nat) : Int := if ((c + 1 : Nat) : Int) % (l : Int) = 0 then 0 else (if a = true then (h : Int) else w) % (l : Int)
def RestS (r : L3.Run) : Prop := ∀ (w h l : Nat) (a : Bool) (c : Nat) (st : Sto), Fits w h l → (w % l = 0 ∨ h % l = 0) → (c + 1 < if a = true then w else h) → r [.tup [.int w, .int h, .int l], lineD a c] st = .ok (.int (restI w h l a c)) st
theorem dv {l : Nat} (h : 2 ≤ l) (h4 : l ≤ 400) : divOk (l : Int) := ⟨by omega, .inl (by omega)⟩
theorem rest_ok : RestS (runDef 2 2 k08.b_law_rest_of) := fun w h l a c st ft hd hc => by
  have d := dv ft.l2 ft.l4
  have p : (0 : Int) < l := by have := ft.l2; omega
  unfold restI
  by_cases hz : ((c + 1 : Nat) : Int) % (l : Int) = 0
  · simp only [k08.b_law_rest_of, lineD, Int.cast_ofNat_Int, Nat.zero_add, Int.reduceEq, Int.reduceNe, Int.reduceLT, Int.reduceLE, Int.reduceGT, Int.reduceGE, Int.reduceAdd, Int.reduceSub, Int.reduceMul, Int.reduceNeg, Int.reduceMod, Int.reduceDiv, Nat.reduceLeDiff, slZ_tup, eqD_int, neD_int, eqD_bl, neD_bl, ixT0, ixT1, ixT2, ixF0, ixF1, ixF2, lenT, lenZ, addZ_frz, addZ_loc_frz, addL_loc_frz, beq_self_eq_true, runDef_eq, start3, finR, sSeq, sSet, sExpr, sRet, sRetN, sIf, sPar2, sAsg, sSetIx, sNil, RS.andThen_nx, RS.andThen_rt, RS.andThen_exn, R.toS_ok, R.toS_exn, kv, kc, k1, k2, kA0, kA1, kF, kM, kIf, kTr, kTb, tAnd3, tOr3, tNot3, kAndV, kOrV, kNotV, kChain, R.bind_ok, R.bind_exn, gN, gT, gs0, gs1, List.map_cons, List.map_nil, List.length_cons, List.length_nil, List.replicate, List.cons_append, List.nil_append, List.getElem?_cons_zero, List.getElem?_cons_succ, List.set_cons_zero, List.set_cons_succ, Nat.reduceAdd, Nat.reduceSub, if_true, if_false, Bool.false_eq_true, Bool.true_eq_false, reduceIte, Bool.not_true, Bool.not_false, Option.bind_some, decide_true, decide_false, frzF, tupF, listZ, addD, subD, mulD, fdivD, modD, cmpD, ltD, leD, gtD, geD, negD, absF, maxF, minF, intF, truD, strF, hz, p]
  · cases a
    · simp only [k08.b_law_rest_of, lineD, Int.cast_ofNat_Int, Nat.zero_add, Int.reduceEq, Int.reduceNe, Int.reduceLT, Int.reduceLE, Int.reduceGT, Int.reduceGE, Int.reduceAdd, Int.reduceSub, Int.reduceMul, Int.reduceNeg, Int.reduceMod, Int.reduceDiv, Nat.reduceLeDiff, slZ_tup, eqD_int, neD_int, eqD_bl, neD_bl, ixT0, ixT1, ixT2, ixF0, ixF1, ixF2, lenT, lenZ, addZ_frz, addZ_loc_frz, addL_loc_frz, beq_self_eq_true, runDef_eq, start3, finR, sSeq, sSet, sExpr, sRet, sRetN, sIf, sPar2, sAsg, sSetIx, sNil, RS.andThen_nx, RS.andThen_rt, RS.andThen_exn, R.toS_ok, R.toS_exn, kv, kc, k1, k2, kA0, kA1, kF, kM, kIf, kTr, kTb, tAnd3, tOr3, tNot3, kAndV, kOrV, kNotV, kChain, R.bind_ok, R.bind_exn, gN, gT, gs0, gs1, List.map_cons, List.map_nil, List.length_cons, List.length_nil, List.replicate, List.cons_append, List.nil_append, List.getElem?_cons_zero, List.getElem?_cons_succ, List.set_cons_zero, List.set_cons_succ, Nat.reduceAdd, Nat.reduceSub, if_true, if_false, Bool.false_eq_true, Bool.true_eq_false, reduceIte, Bool.not_true, Bool.not_false, Option.bind_some, decide_true, decide_false, frzF, tupF, listZ, addD, subD, mulD, fdivD, modD, cmpD, ltD, leD, gtD, geD, negD, absF, maxF, minF, intF, truD, strF, hz, p, lway_eq]
    · simp only [k08.b_law_rest_of, lineD, Int.cast_ofNat_Int, Nat.zero_add, Int.reduceEq, Int.reduceNe, Int.reduceLT, Int.reduceLE, Int.reduceGT, Int.reduceGE, Int.reduceAdd, Int.reduceSub, Int.reduceMul, Int.reduceNeg, Int.reduceMod, Int.reduceDiv, Nat.reduceLeDiff, slZ_tup, eqD_int, neD_int, eqD_bl, neD_bl, ixT0, ixT1, ixT2, ixF0, ixF1, ixF2, lenT, lenZ, addZ_frz, addZ_loc_frz, addL_loc_frz, beq_self_eq_true, runDef_eq, start3, finR, sSeq, sSet, sExpr, sRet, sRetN, sIf, sPar2, sAsg, sSetIx, sNil, RS.andThen_nx, RS.andThen_rt, RS.andThen_exn, R.toS_ok, R.toS_exn, kv, kc, k1, k2, kA0, kA1, kF, kM, kIf, kTr, kTb, tAnd3, tOr3, tNot3, kAndV, kOrV, kNotV, kChain, R.bind_ok, R.bind_exn, gN, gT, gs0, gs1, List.map_cons, List.map_nil, List.length_cons, List.length_nil, List.replicate, List.cons_append, List.nil_append, List.getElem?_cons_zero, List.getElem?_cons_succ, List.set_cons_zero, List.set_cons_succ, Nat.reduceAdd, Nat.reduceSub, if_true, if_false, Bool.false_eq_true, Bool.true_eq_false, reduceIte, Bool.not_true, Bool.not_false, Option.bind_some, decide_true, decide_false, frzF, tupF, listZ, addD, subD, mulD, fdivD, modD, cmpD, ltD, leD, gtD, geD, negD, absF, maxF, minF, intF, truD, strF, hz, p, lway_eq]
theorem across_ok {a : Bool} {w h l : Int} {st : Sto} : runDef 2 2 k08.b_side_across [.tup [.int w, .int h, .int l], .str (LWAY a)] st = .ok (.int (if a = true then h else w)) st := by
  cases a <;> simp only [k08.b_side_across, Int.cast_ofNat_Int, Nat.zero_add, Int.reduceEq, Int.reduceNe, Int.reduceLT, Int.reduceLE, Int.reduceGT, Int.reduceGE, Int.reduceAdd, Int.reduceSub, Int.reduceMul, Int.reduceNeg, Int.reduceMod, Int.reduceDiv, Nat.reduceLeDiff, slZ_tup, eqD_int, neD_int, eqD_bl, neD_bl, ixT0, ixT1, ixT2, ixF0, ixF1, ixF2, lenT, lenZ, addZ_frz, addZ_loc_frz, addL_loc_frz, beq_self_eq_true, runDef_eq, start3, finR, sSeq, sSet, sExpr, sRet, sRetN, sIf, sPar2, sAsg, sSetIx, sNil, RS.andThen_nx, RS.andThen_rt, RS.andThen_exn, R.toS_ok, R.toS_exn, kv, kc, k1, k2, kA0, kA1, kF, kM, kIf, kTr, kTb, tAnd3, tOr3, tNot3, kAndV, kOrV, kNotV, kChain, R.bind_ok, R.bind_exn, gN, gT, gs0, gs1, List.map_cons, List.map_nil, List.length_cons, List.length_nil, List.replicate, List.cons_append, List.nil_append, List.getElem?_cons_zero, List.getElem?_cons_succ, List.set_cons_zero, List.set_cons_succ, Nat.reduceAdd, Nat.reduceSub, if_true, if_false, Bool.false_eq_true, Bool.true_eq_false, reduceIte, Bool.not_true, Bool.not_false, Option.bind_some, decide_true, decide_false, frzF, tupF, listZ, addD, subD, mulD, fdivD, modD, cmpD, ltD, leD, gtD, geD, negD, absF, maxF, minF, intF, truD, strF, lway_eq]
theorem hold_ok {w h l : Nat} (ft : Fits w h l) (st : Sto) : runDef 4 1 k08.b_can_hold_floor [.tup [.int w, .int h, .int l]] st = .ok (.bl (decide (w % l = 0 ∨ h % l = 0))) st := by
  have d := dv ft.l2 ft.l4
  have p : (0 : Int) < l := by have := ft.l2; omega
  have e1 : ((w : Int) % (l : Int) = 0) = (w % l = 0) := by rw [← Int.natCast_emod]; exact propext ⟨fun z => by omega, fun z => by omega⟩
  have e2 : ((h : Int) % (l : Int) = 0) = (h % l = 0) := by rw [← Int.natCast_emod]; exact propext ⟨fun z => by omega, fun z => by omega⟩
  by_cases h1 : w % l = 0
  · simp only [k08.b_can_hold_floor, sAsg, Int.cast_ofNat_Int, Nat.zero_add, Int.reduceEq, Int.reduceNe, Int.reduceLT, Int.reduceLE, Int.reduceGT, Int.reduceGE, Int.reduceAdd, Int.reduceSub, Int.reduceMul, Int.reduceNeg, Int.reduceMod, Int.reduceDiv, Nat.reduceLeDiff, slZ_tup, eqD_int, neD_int, eqD_bl, neD_bl, ixT0, ixT1, ixT2, ixF0, ixF1, ixF2, lenT, lenZ, addZ_frz, addZ_loc_frz, addL_loc_frz, beq_self_eq_true, runDef_eq, start3, finR, sSeq, sSet, sExpr, sRet, sRetN, sIf, sPar2, sAsg, sSetIx, sNil, RS.andThen_nx, RS.andThen_rt, RS.andThen_exn, R.toS_ok, R.toS_exn, kv, kc, k1, k2, kA0, kA1, kF, kM, kIf, kTr, kTb, tAnd3, tOr3, tNot3, kAndV, kOrV, kNotV, kChain, R.bind_ok, R.bind_exn, gN, gT, gs0, gs1, List.map_cons, List.map_nil, List.length_cons, List.length_nil, List.replicate, List.cons_append, List.nil_append, List.getElem?_cons_zero, List.getElem?_cons_succ, List.set_cons_zero, List.set_cons_succ, Nat.reduceAdd, Nat.reduceSub, if_true, if_false, Bool.false_eq_true, Bool.true_eq_false, reduceIte, Bool.not_true, Bool.not_false, Option.bind_some, decide_true, decide_false, frzF, tupF, listZ, addD, subD, mulD, fdivD, modD, cmpD, ltD, leD, gtD, geD, negD, absF, maxF, minF, intF, truD, strF, p, e1, h1, true_or]
  · by_cases h2 : h % l = 0
    · simp only [k08.b_can_hold_floor, sAsg, Int.cast_ofNat_Int, Nat.zero_add, Int.reduceEq, Int.reduceNe, Int.reduceLT, Int.reduceLE, Int.reduceGT, Int.reduceGE, Int.reduceAdd, Int.reduceSub, Int.reduceMul, Int.reduceNeg, Int.reduceMod, Int.reduceDiv, Nat.reduceLeDiff, slZ_tup, eqD_int, neD_int, eqD_bl, neD_bl, ixT0, ixT1, ixT2, ixF0, ixF1, ixF2, lenT, lenZ, addZ_frz, addZ_loc_frz, addL_loc_frz, beq_self_eq_true, runDef_eq, start3, finR, sSeq, sSet, sExpr, sRet, sRetN, sIf, sPar2, sAsg, sSetIx, sNil, RS.andThen_nx, RS.andThen_rt, RS.andThen_exn, R.toS_ok, R.toS_exn, kv, kc, k1, k2, kA0, kA1, kF, kM, kIf, kTr, kTb, tAnd3, tOr3, tNot3, kAndV, kOrV, kNotV, kChain, R.bind_ok, R.bind_exn, gN, gT, gs0, gs1, List.map_cons, List.map_nil, List.length_cons, List.length_nil, List.replicate, List.cons_append, List.nil_append, List.getElem?_cons_zero, List.getElem?_cons_succ, List.set_cons_zero, List.set_cons_succ, Nat.reduceAdd, Nat.reduceSub, if_true, if_false, Bool.false_eq_true, Bool.true_eq_false, reduceIte, Bool.not_true, Bool.not_false, Option.bind_some, decide_true, decide_false, frzF, tupF, listZ, addD, subD, mulD, fdivD, modD, cmpD, ltD, leD, gtD, geD, negD, absF, maxF, minF, intF, truD, strF, p, e1, e2, h1, h2, or_true]
    · simp only [k08.b_can_hold_floor, sAsg, Int.cast_ofNat_Int, Nat.zero_add, Int.reduceEq, Int.reduceNe, Int.reduceLT, Int.reduceLE, Int.reduceGT, Int.reduceGE, Int.reduceAdd, Int.reduceSub, Int.reduceMul, Int.reduceNeg, Int.reduceMod, Int.reduceDiv, Nat.reduceLeDiff, slZ_tup, eqD_int, neD_int, eqD_bl, neD_bl, ixT0, ixT1, ixT2, ixF0, ixF1, ixF2, lenT, lenZ, addZ_frz, addZ_loc_frz, addL_loc_frz, beq_self_eq_true, runDef_eq, start3, finR, sSeq, sSet, sExpr, sRet, sRetN, sIf, sPar2, sAsg, sSetIx, sNil, RS.andThen_nx, RS.andThen_rt, RS.andThen_exn, R.toS_ok, R.toS_exn, kv, kc, k1, k2, kA0, kA1, kF, kM, kIf, kTr, kTb, tAnd3, tOr3, tNot3, kAndV, kOrV, kNotV, kChain, R.bind_ok, R.bind_exn, gN, gT, gs0, gs1, List.map_cons, List.map_nil, List.length_cons, List.length_nil, List.replicate, List.cons_append, List.nil_append, List.getElem?_cons_zero, List.getElem?_cons_succ, List.set_cons_zero, List.set_cons_succ, Nat.reduceAdd, Nat.reduceSub, if_true, if_false, Bool.false_eq_true, Bool.true_eq_false, reduceIte, Bool.not_true, Bool.not_false, Option.bind_some, decide_true, decide_false, frzF, tupF, listZ, addD, subD, mulD, fdivD, modD, cmpD, ltD, leD, gtD, geD, negD, absF, maxF, minF, intF, truD, strF, p, e1, e2, h1, h2, or_self]
theorem rem_ok {rl rh ra : L3.Run} (hl : ∀ (w h l : Nat) (a : Bool) (c : Nat) (st : Sto), Fits w h l → (c + 1 < if a = true then w else h) → rl [.tup [.int w, .int h, .int l], lineD a c] st = .ok (.bl true) st)
    (hh : ∀ {w h l : Nat}, Fits w h l → ∀ st : Sto, rh [.tup [.int w, .int h, .int l]] st = .ok (.bl (decide (w % l = 0 ∨ h % l = 0))) st)
    (ha : ∀ {a : Bool} {w h l : Int} {st : Sto}, ra [.tup [.int w, .int h, .int l], .str (LWAY a)] st = .ok (.int (if a = true then h else w)) st) : RestS (runDef 5 2 (k08.b_remainder rl rh ra)) := fun w h l a c st ft hd hc => by
  have d := dv ft.l2 ft.l4
  have p : (0 : Int) < l := by have := ft.l2; omega
  have e1 := hl w h l a c st ft hc
  have e2 := hh ft st
  rw [decide_eq_true hd] at e2
  unfold lineD at e1
  unfold restI
  by_cases hz : ((c + 1 : Nat) : Int) % (l : Int) = 0
  · simp only [k08.b_remainder, lineD, sAsg, Int.cast_ofNat_Int, Nat.zero_add, Int.reduceEq, Int.reduceNe, Int.reduceLT, Int.reduceLE, Int.reduceGT, Int.reduceGE, Int.reduceAdd, Int.reduceSub, Int.reduceMul, Int.reduceNeg, Int.reduceMod, Int.reduceDiv, Nat.reduceLeDiff, slZ_tup, eqD_int, neD_int, eqD_bl, neD_bl, ixT0, ixT1, ixT2, ixF0, ixF1, ixF2, lenT, lenZ, addZ_frz, addZ_loc_frz, addL_loc_frz, beq_self_eq_true, runDef_eq, start3, finR, sSeq, sSet, sExpr, sRet, sRetN, sIf, sPar2, sAsg, sSetIx, sNil, RS.andThen_nx, RS.andThen_rt, RS.andThen_exn, R.toS_ok, R.toS_exn, kv, kc, k1, k2, kA0, kA1, kF, kM, kIf, kTr, kTb, tAnd3, tOr3, tNot3, kAndV, kOrV, kNotV, kChain, R.bind_ok, R.bind_exn, gN, gT, gs0, gs1, List.map_cons, List.map_nil, List.length_cons, List.length_nil, List.replicate, List.cons_append, List.nil_append, List.getElem?_cons_zero, List.getElem?_cons_succ, List.set_cons_zero, List.set_cons_succ, Nat.reduceAdd, Nat.reduceSub, if_true, if_false, Bool.false_eq_true, Bool.true_eq_false, reduceIte, Bool.not_true, Bool.not_false, Option.bind_some, decide_true, decide_false, frzF, tupF, listZ, addD, subD, mulD, fdivD, modD, cmpD, ltD, leD, gtD, geD, negD, absF, maxF, minF, intF, truD, strF, e1, e2, hz, p]
  · simp only [k08.b_remainder, lineD, sAsg, Int.cast_ofNat_Int, Nat.zero_add, Int.reduceEq, Int.reduceNe, Int.reduceLT, Int.reduceLE, Int.reduceGT, Int.reduceGE, Int.reduceAdd, Int.reduceSub, Int.reduceMul, Int.reduceNeg, Int.reduceMod, Int.reduceDiv, Nat.reduceLeDiff, slZ_tup, eqD_int, neD_int, eqD_bl, neD_bl, ixT0, ixT1, ixT2, ixF0, ixF1, ixF2, lenT, lenZ, addZ_frz, addZ_loc_frz, addL_loc_frz, beq_self_eq_true, runDef_eq, start3, finR, sSeq, sSet, sExpr, sRet, sRetN, sIf, sPar2, sAsg, sSetIx, sNil, RS.andThen_nx, RS.andThen_rt, RS.andThen_exn, R.toS_ok, R.toS_exn, kv, kc, k1, k2, kA0, kA1, kF, kM, kIf, kTr, kTb, tAnd3, tOr3, tNot3, kAndV, kOrV, kNotV, kChain, R.bind_ok, R.bind_exn, gN, gT, gs0, gs1, List.map_cons, List.map_nil, List.length_cons, List.length_nil, List.replicate, List.cons_append, List.nil_append, List.getElem?_cons_zero, List.getElem?_cons_succ, List.set_cons_zero, List.set_cons_succ, Nat.reduceAdd, Nat.reduceSub, if_true, if_false, Bool.false_eq_true, Bool.true_eq_false, reduceIte, Bool.not_true, Bool.not_false, Option.bind_some, decide_true, decide_false, frzF, tupF, listZ, addD, subD, mulD, fdivD, modD, cmpD, ltD, leD, gtD, geD, negD, absF, maxF, minF, intF, truD, strF, e1, e2, hz, p, ha]
def NeedS (r : L3.Run) : Prop := ∀ (w h l : Nat) (a : Bool) (c : Nat) (st : Sto), Fits w h l → (w % l = 0 ∨ h % l = 0) → (c + 1 < if a = true then w else h) → r [.tup [.int w, .int h, .int l], lineD a c] st = .ok (.int (if restI w h l a c = 0 then (l : Int) else restI w h l a c)) st
theorem need_ok {r : L3.Run} (hr : RestS r) : NeedS (runDef 2 2 (k08.b_need r)) := fun w h l a c st ft hd hc => by
  have e := hr w h l a c st ft hd hc
  generalize restI w h l a c = z at e
  unfold lineD at e
  by_cases hz : z = 0
  · simp only [k08.b_need, lineD, Int.cast_ofNat_Int, Nat.zero_add, Int.reduceEq, Int.reduceNe, Int.reduceLT, Int.reduceLE, Int.reduceGT, Int.reduceGE, Int.reduceAdd, Int.reduceSub, Int.reduceMul, Int.reduceNeg, Int.reduceMod, Int.reduceDiv, Nat.reduceLeDiff, slZ_tup, eqD_int, neD_int, eqD_bl, neD_bl, ixT0, ixT1, ixT2, ixF0, ixF1, ixF2, lenT, lenZ, addZ_frz, addZ_loc_frz, addL_loc_frz, beq_self_eq_true, runDef_eq, start3, finR, sSeq, sSet, sExpr, sRet, sRetN, sIf, sPar2, sAsg, sSetIx, sNil, RS.andThen_nx, RS.andThen_rt, RS.andThen_exn, R.toS_ok, R.toS_exn, kv, kc, k1, k2, kA0, kA1, kF, kM, kIf, kTr, kTb, tAnd3, tOr3, tNot3, kAndV, kOrV, kNotV, kChain, R.bind_ok, R.bind_exn, gN, gT, gs0, gs1, List.map_cons, List.map_nil, List.length_cons, List.length_nil, List.replicate, List.cons_append, List.nil_append, List.getElem?_cons_zero, List.getElem?_cons_succ, List.set_cons_zero, List.set_cons_succ, Nat.reduceAdd, Nat.reduceSub, if_true, if_false, Bool.false_eq_true, Bool.true_eq_false, reduceIte, Bool.not_true, Bool.not_false, Option.bind_some, decide_true, decide_false, frzF, tupF, listZ, addD, subD, mulD, fdivD, modD, cmpD, ltD, leD, gtD, geD, negD, absF, maxF, minF, intF, truD, strF, e, hz, bne_self_eq_false]
  · have : (z != 0) = true := by simpa using hz
    simp only [k08.b_need, lineD, Int.cast_ofNat_Int, Nat.zero_add, Int.reduceEq, Int.reduceNe, Int.reduceLT, Int.reduceLE, Int.reduceGT, Int.reduceGE, Int.reduceAdd, Int.reduceSub, Int.reduceMul, Int.reduceNeg, Int.reduceMod, Int.reduceDiv, Nat.reduceLeDiff, slZ_tup, eqD_int, neD_int, eqD_bl, neD_bl, ixT0, ixT1, ixT2, ixF0, ixF1, ixF2, lenT, lenZ, addZ_frz, addZ_loc_frz, addL_loc_frz, beq_self_eq_true, runDef_eq, start3, finR, sSeq, sSet, sExpr, sRet, sRetN, sIf, sPar2, sAsg, sSetIx, sNil, RS.andThen_nx, RS.andThen_rt, RS.andThen_exn, R.toS_ok, R.toS_exn, kv, kc, k1, k2, kA0, kA1, kF, kM, kIf, kTr, kTb, tAnd3, tOr3, tNot3, kAndV, kOrV, kNotV, kChain, R.bind_ok, R.bind_exn, gN, gT, gs0, gs1, List.map_cons, List.map_nil, List.length_cons, List.length_nil, List.replicate, List.cons_append, List.nil_append, List.getElem?_cons_zero, List.getElem?_cons_succ, List.set_cons_zero, List.set_cons_succ, Nat.reduceAdd, Nat.reduceSub, if_true, if_false, Bool.false_eq_true, Bool.true_eq_false, reduceIte, Bool.not_true, Bool.not_false, Option.bind_some, decide_true, decide_false, frzF, tupF, listZ, addD, subD, mulD, fdivD, modD, cmpD, ltD, leD, gtD, geD, negD, absF, maxF, minF, intF, truD, strF, e, hz, this]
def linesL (w h : Nat) : List D := ((List.range (h - 1)).map (lineD false)) ++ (List.range (w - 1)).map (lineD true)
theorem lines_ok {w h l : Nat} (ft : Fits w h l) (st : Sto) : runDef 2 1 k08.b_law_lines [.tup [.int w, .int h, .int l]] st = .ok (.frz (linesL w h)) st := by
  have hw4 := ft.w4
  have hh4 := ft.h4
  obtain ⟨Q, hQ⟩ : ∃ Q : R D → Prop, Q = fun m => m = .ok (.frz (linesL w h)) st := ⟨_, rfl⟩
  suffices h : Wp (runDef 2 1 k08.b_law_lines [.tup [.int w, .int h, .int l]] st) Q by rw [hQ] at h; exact h
  refine wp_def rfl ?_
  unfold k08.b_law_lines
  simp only [wp_bind, wp_bQ, wp_bQx, ws_toS, wp_tQ, wp_tQx, ws_then, ws_nx, ws_rt, ws_bk, ws_ct, ws_exn, wp_fin, ws_fnx, ws_frt, ws_fexn, wp_Ok, ws_lnx, ws_lct, ws_lbk, ws_lrt, ws_lexn, wp_kv, wp_kc, wp_k1, wp_k2, wp_kF, wp_kA0, wp_kA1, wp_kM, wp_kTr, wp_kTb, wp_tAnd, wp_tOr, wp_tNot, wp_kIf, wp_kAnd, wp_kOr, wp_kNot, wp_kChain, wp_kCm, wp_kMkV, wp_kCmV, wp_kMt, ws_nil, ws_seq, ws_expr, ws_set, ws_ret, ws_retN, ws_if, ws_break, ws_cont, ws_par2, ws_asg, ws_setix, Int.cast_ofNat_Int, Nat.zero_add, Int.reduceEq, Int.reduceNe, Int.reduceLT, Int.reduceLE, Int.reduceGT, Int.reduceGE, Int.reduceAdd, Int.reduceSub, Int.reduceMul, Int.reduceNeg, Int.reduceMod, Int.reduceDiv, Nat.reduceLeDiff, slZ_tup, eqD_int, neD_int, eqD_bl, neD_bl, ixT0, ixT1, ixT2, ixF0, ixF1, ixF2, lenT, lenZ, addZ_frz, beq_self_eq_true, start3, gN, gT, gs0, gs1, List.map_cons, List.map_nil, List.length_cons, List.length_nil, List.replicate, List.cons_append, List.nil_append, List.getElem?_cons_zero, List.getElem?_cons_succ, List.set_cons_zero, List.set_cons_succ, Nat.reduceAdd, Nat.reduceSub, if_true, if_false, Bool.false_eq_true, Bool.true_eq_false, reduceIte, Bool.not_true, Bool.not_false, Option.bind_some, decide_true, decide_false, frzF, tupF, listZ, addD, subD, cmpD, ltD, leD, gtD, geD, negD, absF, maxF, minF, intF, truD]
  refine wp_use (lz_all (cs := List.range (h - 1)) (fun (c : Nat) => D.int ((c + 1 : Nat) : Int)) (lineD false) (it_from1 (by simp only [Int.cast_ofNat_Int, Nat.zero_add, Int.reduceEq, Int.reduceNe, Int.reduceLT, Int.reduceLE, Int.reduceGT, Int.reduceGE, Int.reduceAdd, Int.reduceSub, Int.reduceMul, Int.reduceNeg, Int.reduceMod, Int.reduceDiv, Nat.reduceLeDiff, slZ_tup, eqD_int, neD_int, eqD_bl, neD_bl, ixT0, ixT1, ixT2, ixF0, ixF1, ixF2, lenT, lenZ, addZ_frz, addZ_loc_frz, addL_loc_frz, beq_self_eq_true, runDef_eq, start3, finR, sSeq, sSet, sExpr, sRet, sRetN, sIf, sPar2, sAsg, sSetIx, sNil, RS.andThen_nx, RS.andThen_rt, RS.andThen_exn, R.toS_ok, R.toS_exn, kv, kc, k1, k2, kA0, kA1, kF, kM, kIf, kTr, kTb, tAnd3, tOr3, tNot3, kAndV, kOrV, kNotV, kChain, R.bind_ok, R.bind_exn, gN, gT, gs0, gs1, List.map_cons, List.map_nil, List.length_cons, List.length_nil, List.replicate, List.cons_append, List.nil_append, List.getElem?_cons_zero, List.getElem?_cons_succ, List.set_cons_zero, List.set_cons_succ, Nat.reduceAdd, Nat.reduceSub, if_true, if_false, Bool.false_eq_true, Bool.true_eq_false, reduceIte, Bool.not_true, Bool.not_false, Option.bind_some, decide_true, decide_false]) hh4) (by simp; omega) fun c _ => ⟨_, rfl, by simp only [Int.cast_ofNat_Int, Nat.zero_add, Int.reduceEq, Int.reduceNe, Int.reduceLT, Int.reduceLE, Int.reduceGT, Int.reduceGE, Int.reduceAdd, Int.reduceSub, Int.reduceMul, Int.reduceNeg, Int.reduceMod, Int.reduceDiv, Nat.reduceLeDiff, slZ_tup, eqD_int, neD_int, eqD_bl, neD_bl, ixT0, ixT1, ixT2, ixF0, ixF1, ixF2, lenT, lenZ, addZ_frz, addZ_loc_frz, addL_loc_frz, beq_self_eq_true, runDef_eq, start3, finR, sSeq, sSet, sExpr, sRet, sRetN, sIf, sPar2, sAsg, sSetIx, sNil, RS.andThen_nx, RS.andThen_rt, RS.andThen_exn, R.toS_ok, R.toS_exn, kv, kc, k1, k2, kA0, kA1, kF, kM, kIf, kTr, kTb, tAnd3, tOr3, tNot3, kAndV, kOrV, kNotV, kChain, R.bind_ok, R.bind_exn, gN, gT, gs0, gs1, List.map_cons, List.map_nil, List.length_cons, List.length_nil, List.replicate, List.cons_append, List.nil_append, List.getElem?_cons_zero, List.getElem?_cons_succ, List.set_cons_zero, List.set_cons_succ, Nat.reduceAdd, Nat.reduceSub, if_true, if_false, Bool.false_eq_true, Bool.true_eq_false, reduceIte, Bool.not_true, Bool.not_false, Option.bind_some, decide_true, decide_false, tupF]; rfl⟩) ?_
  simp only [wp_bind, wp_bQ, wp_bQx, ws_toS, wp_tQ, wp_tQx, ws_then, ws_nx, ws_rt, ws_bk, ws_ct, ws_exn, wp_fin, ws_fnx, ws_frt, ws_fexn, wp_Ok, ws_lnx, ws_lct, ws_lbk, ws_lrt, ws_lexn, wp_kv, wp_kc, wp_k1, wp_k2, wp_kF, wp_kA0, wp_kA1, wp_kM, wp_kTr, wp_kTb, wp_tAnd, wp_tOr, wp_tNot, wp_kIf, wp_kAnd, wp_kOr, wp_kNot, wp_kChain, wp_kCm, wp_kMkV, wp_kCmV, wp_kMt, ws_nil, ws_seq, ws_expr, ws_set, ws_ret, ws_retN, ws_if, ws_break, ws_cont, ws_par2, ws_asg, ws_setix, Int.cast_ofNat_Int, Nat.zero_add, Int.reduceEq, Int.reduceNe, Int.reduceLT, Int.reduceLE, Int.reduceGT, Int.reduceGE, Int.reduceAdd, Int.reduceSub, Int.reduceMul, Int.reduceNeg, Int.reduceMod, Int.reduceDiv, Nat.reduceLeDiff, slZ_tup, eqD_int, neD_int, eqD_bl, neD_bl, ixT0, ixT1, ixT2, ixF0, ixF1, ixF2, lenT, lenZ, addZ_frz, beq_self_eq_true, start3, gN, gT, gs0, gs1, List.map_cons, List.map_nil, List.length_cons, List.length_nil, List.replicate, List.cons_append, List.nil_append, List.getElem?_cons_zero, List.getElem?_cons_succ, List.set_cons_zero, List.set_cons_succ, Nat.reduceAdd, Nat.reduceSub, if_true, if_false, Bool.false_eq_true, Bool.true_eq_false, reduceIte, Bool.not_true, Bool.not_false, Option.bind_some, decide_true, decide_false, frzF, tupF, listZ, addD, subD, cmpD, ltD, leD, gtD, geD, negD, absF, maxF, minF, intF, truD]
  refine wp_use (lz_all (cs := List.range (w - 1)) (fun (c : Nat) => D.int ((c + 1 : Nat) : Int)) (lineD true) (it_from1 (by simp only [Int.cast_ofNat_Int, Nat.zero_add, Int.reduceEq, Int.reduceNe, Int.reduceLT, Int.reduceLE, Int.reduceGT, Int.reduceGE, Int.reduceAdd, Int.reduceSub, Int.reduceMul, Int.reduceNeg, Int.reduceMod, Int.reduceDiv, Nat.reduceLeDiff, slZ_tup, eqD_int, neD_int, eqD_bl, neD_bl, ixT0, ixT1, ixT2, ixF0, ixF1, ixF2, lenT, lenZ, addZ_frz, addZ_loc_frz, addL_loc_frz, beq_self_eq_true, runDef_eq, start3, finR, sSeq, sSet, sExpr, sRet, sRetN, sIf, sPar2, sAsg, sSetIx, sNil, RS.andThen_nx, RS.andThen_rt, RS.andThen_exn, R.toS_ok, R.toS_exn, kv, kc, k1, k2, kA0, kA1, kF, kM, kIf, kTr, kTb, tAnd3, tOr3, tNot3, kAndV, kOrV, kNotV, kChain, R.bind_ok, R.bind_exn, gN, gT, gs0, gs1, List.map_cons, List.map_nil, List.length_cons, List.length_nil, List.replicate, List.cons_append, List.nil_append, List.getElem?_cons_zero, List.getElem?_cons_succ, List.set_cons_zero, List.set_cons_succ, Nat.reduceAdd, Nat.reduceSub, if_true, if_false, Bool.false_eq_true, Bool.true_eq_false, reduceIte, Bool.not_true, Bool.not_false, Option.bind_some, decide_true, decide_false]) hw4) (by simp; omega) fun c _ => ⟨_, rfl, by simp only [Int.cast_ofNat_Int, Nat.zero_add, Int.reduceEq, Int.reduceNe, Int.reduceLT, Int.reduceLE, Int.reduceGT, Int.reduceGE, Int.reduceAdd, Int.reduceSub, Int.reduceMul, Int.reduceNeg, Int.reduceMod, Int.reduceDiv, Nat.reduceLeDiff, slZ_tup, eqD_int, neD_int, eqD_bl, neD_bl, ixT0, ixT1, ixT2, ixF0, ixF1, ixF2, lenT, lenZ, addZ_frz, addZ_loc_frz, addL_loc_frz, beq_self_eq_true, runDef_eq, start3, finR, sSeq, sSet, sExpr, sRet, sRetN, sIf, sPar2, sAsg, sSetIx, sNil, RS.andThen_nx, RS.andThen_rt, RS.andThen_exn, R.toS_ok, R.toS_exn, kv, kc, k1, k2, kA0, kA1, kF, kM, kIf, kTr, kTb, tAnd3, tOr3, tNot3, kAndV, kOrV, kNotV, kChain, R.bind_ok, R.bind_exn, gN, gT, gs0, gs1, List.map_cons, List.map_nil, List.length_cons, List.length_nil, List.replicate, List.cons_append, List.nil_append, List.getElem?_cons_zero, List.getElem?_cons_succ, List.set_cons_zero, List.set_cons_succ, Nat.reduceAdd, Nat.reduceSub, if_true, if_false, Bool.false_eq_true, Bool.true_eq_false, reduceIte, Bool.not_true, Bool.not_false, Option.bind_some, decide_true, decide_false, tupF]; rfl⟩) ?_
  simp only [wp_bind, wp_bQ, wp_bQx, ws_toS, wp_tQ, wp_tQx, ws_then, ws_nx, ws_rt, ws_bk, ws_ct, ws_exn, wp_fin, ws_fnx, ws_frt, ws_fexn, wp_Ok, ws_lnx, ws_lct, ws_lbk, ws_lrt, ws_lexn, wp_kv, wp_kc, wp_k1, wp_k2, wp_kF, wp_kA0, wp_kA1, wp_kM, wp_kTr, wp_kTb, wp_tAnd, wp_tOr, wp_tNot, wp_kIf, wp_kAnd, wp_kOr, wp_kNot, wp_kChain, wp_kCm, wp_kMkV, wp_kCmV, wp_kMt, ws_nil, ws_seq, ws_expr, ws_set, ws_ret, ws_retN, ws_if, ws_break, ws_cont, ws_par2, ws_asg, ws_setix, Int.cast_ofNat_Int, Nat.zero_add, Int.reduceEq, Int.reduceNe, Int.reduceLT, Int.reduceLE, Int.reduceGT, Int.reduceGE, Int.reduceAdd, Int.reduceSub, Int.reduceMul, Int.reduceNeg, Int.reduceMod, Int.reduceDiv, Nat.reduceLeDiff, slZ_tup, eqD_int, neD_int, eqD_bl, neD_bl, ixT0, ixT1, ixT2, ixF0, ixF1, ixF2, lenT, lenZ, addZ_frz, beq_self_eq_true, start3, gN, gT, gs0, gs1, List.map_cons, List.map_nil, List.length_cons, List.length_nil, List.replicate, List.cons_append, List.nil_append, List.getElem?_cons_zero, List.getElem?_cons_succ, List.set_cons_zero, List.set_cons_succ, Nat.reduceAdd, Nat.reduceSub, if_true, if_false, Bool.false_eq_true, Bool.true_eq_false, reduceIte, Bool.not_true, Bool.not_false, Option.bind_some, decide_true, decide_false, frzF, tupF, listZ, addD, subD, cmpD, ltD, leD, gtD, geD, negD, absF, maxF, minF, intF, truD]
  rw [addZ_frz (by simp; omega)]
  simp only [wp_bind, wp_bQ, wp_bQx, ws_toS, wp_tQ, wp_tQx, ws_then, ws_nx, ws_rt, ws_bk, ws_ct, ws_exn, wp_fin, ws_fnx, ws_frt, ws_fexn, wp_Ok, ws_lnx, ws_lct, ws_lbk, ws_lrt, ws_lexn, wp_kv, wp_kc, wp_k1, wp_k2, wp_kF, wp_kA0, wp_kA1, wp_kM, wp_kTr, wp_kTb, wp_tAnd, wp_tOr, wp_tNot, wp_kIf, wp_kAnd, wp_kOr, wp_kNot, wp_kChain, wp_kCm, wp_kMkV, wp_kCmV, wp_kMt, ws_nil, ws_seq, ws_expr, ws_set, ws_ret, ws_retN, ws_if, ws_break, ws_cont, ws_par2, ws_asg, ws_setix, Int.cast_ofNat_Int, Nat.zero_add, Int.reduceEq, Int.reduceNe, Int.reduceLT, Int.reduceLE, Int.reduceGT, Int.reduceGE, Int.reduceAdd, Int.reduceSub, Int.reduceMul, Int.reduceNeg, Int.reduceMod, Int.reduceDiv, Nat.reduceLeDiff, slZ_tup, eqD_int, neD_int, eqD_bl, neD_bl, ixT0, ixT1, ixT2, ixF0, ixF1, ixF2, lenT, lenZ, addZ_frz, beq_self_eq_true, start3, gN, gT, gs0, gs1, List.map_cons, List.map_nil, List.length_cons, List.length_nil, List.replicate, List.cons_append, List.nil_append, List.getElem?_cons_zero, List.getElem?_cons_succ, List.set_cons_zero, List.set_cons_succ, Nat.reduceAdd, Nat.reduceSub, if_true, if_false, Bool.false_eq_true, Bool.true_eq_false, reduceIte, Bool.not_true, Bool.not_false, Option.bind_some, decide_true, decide_false, frzF, tupF, listZ, addD, subD, cmpD, ltD, leD, gtD, geD, negD, absF, maxF, minF, intF, truD]
  rw [hQ]
  rfl
end K08

namespace Fl
open PySem L2 L3 Tile
theorem FloorAt.step {s s' : Sto} {n nf w h l : Nat} {bs : List Bar} (f : FloorAt s nf w h l bs) (hd : DieAt n s) (t : Step n s s') : FloorAt s' nf w h l bs := by
  obtain ⟨dd, b0, p, a1, a2⟩ := f
  obtain ⟨q1, q2, q3, hdie⟩ := hd
  have n1 : nf ≠ n := fun z => by subst z; rw [a1] at hdie; cases hdie
  have n2 : dd ≠ n := fun z => by subst z; rw [a2] at hdie; cases hdie
  exact ⟨dd, b0, p, t.keep _ _ n1 a1, t.keep _ _ n2 a2⟩
theorem turn_cases {rp rti rto : L3.Run} (hp : PickS rp) (hti : TurnsS rti) (hto : TurnOfS rto) {w h l n : Nat} {bs : List Bar} {st : Sto} (hd : DieAt n st) (c : Cover w h l bs) (f : Fits w h l) :
    ∃ m s1, rti [.frz (bs.map dB), .int l] st = .ok (.loc m) s1 ∧ Step n st s1 ∧ (neD (.loc m) (.frz []) s1 = .ok (.bl false) s1 ∨ (neD (.loc m) (.frz []) s1 = .ok (.bl true) s1 ∧ ∃ b s2 s3 bs', rp [.loc n, .loc m] s1 = .ok (dB b) s2 ∧ rto [.frz (bs.map dB), .int l, dB b] s2 = .ok (.frz (bs'.map dB)) s3 ∧ Step n st s3 ∧ Cover w h l bs' ∧ sortB bs' = bs')) := by
  have hbl := cover_len c f
  have hl4 := f.l4
  have hl2 := f.l2
  obtain ⟨s1, e1, g1, t1⟩ := hti l bs st hl4 (by omega)
  have st1 : Step n st s1 := Stands.step (.refl hd) g1
  refine ⟨st.length, s1, e1, st1, ?_⟩
  by_cases hn : (bs.filter fun b => decide (nopes bs (sqG l b) = [])) = []
  · exact .inl (by rw [neD_loc_nil t1, hn]; rfl)
  · refine .inr ⟨by rw [neD_loc_nil t1, decide_eq_false hn]; rfl, ?_⟩
    have sd : seqD (.loc st.length) s1 = some ((bs.filter fun b => decide (nopes bs (sqG l b) = [])).map dB) := by simp only [seqD, t1]
    have hlt := hd.lt
    have lf := List.length_filter_le (fun b => decide (nopes bs (sqG l b) = [])) bs
    obtain ⟨y, s2, hy, e3, _, st2⟩ := hp s1 n (.loc st.length) _ st1.die sd (fun m e => by cases e; omega) (by simpa using hn) (by rw [List.length_map]; omega)
    obtain ⟨b, hb, rfl⟩ := List.mem_map.mp hy
    have hb2 := (List.mem_filter.mp hb).2
    rw [decide_eq_true_eq] at hb2
    have hs : ∀ g ∈ sqG l b, g ∈ bs := fun g hg => by
      by_cases hgb : g ∈ bs
      · exact hgb
      · have : g ∈ nopes bs (sqG l b) := List.mem_filter.mpr ⟨hg, by simp [hgb]⟩
        rw [hb2] at this
        cases this
    obtain ⟨s3, e4, g4⟩ := hto l bs b s2 hl4 (by omega)
    exact ⟨b, s2, s3, tbars l b bs, e3, e4, Stands.step (st1.trans st2) g4, cover_perm (cover_turn c (by omega) hs) (sortB_perm _), sortB_idem _⟩
end Fl
namespace K08
open PySem L2 L3 Tile Fl
def linesP (w h : Nat) : List (Bool × Nat) := ((List.range (h - 1)).map fun c => (false, c)) ++ (List.range (w - 1)).map fun c => (true, c)
theorem linesL_eq (w h : Nat) : linesL w h = (linesP w h).map fun p => lineD p.1 p.2 := by
  unfold linesL linesP
  rw [List.map_append, List.map_map, List.map_map]
  rfl
theorem linesP_lt {w h : Nat} {p : Bool × Nat} (hp : p ∈ linesP w h) : p.2 + 1 < if p.1 = true then w else h := by
  unfold linesP at hp
  rcases List.mem_append.mp hp with hp | hp
  · obtain ⟨c, hc, rfl⟩ := List.mem_map.mp hp
    have := List.mem_range.mp hc
    simp only [Bool.false_eq_true, if_false]
    omega
  · obtain ⟨c, hc, rfl⟩ := List.mem_map.mp hp
    have := List.mem_range.mp hc
    simp only [if_true]
    omega
def valP (l : Nat) (bs : List Bar) (p : Bool × Nat) : Int := if p.1 = true then upF l bs p.2 else lvF l bs p.2
theorem val_sum (w h l : Nat) (bs : List Bar) : ((linesP w h).map (valP l bs)).sum = (cntI (h - 1) (lvF l bs)).sum + (cntI (w - 1) (upF l bs)).sum := by
  unfold linesP cntI
  rw [List.map_append, List.sum_append, List.map_map, List.map_map]
  rfl
theorem val_mod {w h l : Nat} {bs : List Bar} (cv : Cover w h l bs) (ft : Fits w h l) {p : Bool × Nat} (hp : p ∈ linesP w h) : valP l bs p % (l : Int) = restI w h l p.1 p.2 := by
  have := linesP_lt hp
  obtain ⟨a, c⟩ := p
  unfold valP restI
  have e : (((c + 1 : Nat) : Int) % (l : Int) = 0) = ((c + 1) % l = 0) := by rw [← Int.natCast_emod]; exact propext ⟨fun z => by omega, fun z => by omega⟩
  simp only [e]
  cases a with
  | true =>
    simp only [if_true] at this ⊢
    exact up_mod cv ft.l2 this
  | false =>
    simp only [Bool.false_eq_true, if_false] at this ⊢
    exact lv_mod cv ft.l2 this
theorem val_nonneg (l : Nat) (bs : List Bar) (p : Bool × Nat) : 0 ≤ valP l bs p := by
  have : ∀ (f : Bar → Prop) [DecidablePred f] (bs : List Bar), (0 : Int) ≤ (bs.map fun b => if f b then (1 : Int) else 0).sum := fun f _ bs => by
    induction bs with
    | nil => simp
    | cons b bs ih =>
      simp only [List.map_cons, List.sum_cons]
      split <;> omega
  unfold valP upF lvF
  split
  · exact this _ bs
  · exact this _ bs
theorem need_le {v l r : Int} (hl : 2 ≤ l) (h0 : 0 ≤ v) (hm : v % l = r) (hv : v ≠ 0) : (if r = 0 then l else r) ≤ v := by
  have hd := Int.mul_ediv_add_emod v l
  have hq : 0 ≤ v / l := Int.ediv_nonneg h0 (by omega)
  rw [hm] at hd
  split
  · rename_i hr
    subst hr
    have : 1 ≤ v / l := by
      by_cases z : v / l = 0
      · rw [z] at hd; simp at hd; omega
      · omega
    have := Int.mul_le_mul_of_nonneg_left this (show 0 ≤ l by omega)
    omega
  · have := Int.mul_nonneg (show 0 ≤ l by omega) hq
    omega
/-- a line among the seams -/
theorem line_in {w h l : Nat} {bs : List Bar} {p : Bool × Nat} (hp : p ∈ linesP w h) {st : Sto} (hw : w ≤ 400) (hh : h ≤ 400) : inY false (lineD p.1 p.2) (.tup (seamsL w h l bs)) st = .ok (.bl (decide (valP l bs p = 0))) st := by
  have e1 : pd st 40 (lineD p.1 p.2) = some (pL p) := rfl
  have e2 : pd st 40 (.tup (seamsL w h l bs)) = some (.tuple ((seamsP w h l bs).map pL)) := by
    rw [seamsL_eq]
    exact pd_tupE (enc := fun p => lineD p.1 p.2) (pe := pL) (fun p => pL_pd st p) _
  have e3 : SeqAt.shaped (pL p) = true := by
    show (PyData.canLay0 (pL p) && decide (PyData.depth (pL p) ≤ 64)) = true
    rw [pL_lay, decide_eq_true (Nat.le_trans (pL_depth p) (by decide))]; rfl
  have e4 : SeqAt.shaped (.tuple ((seamsP w h l bs).map pL)) = true := shaped_tupE (pe := pL) (k := 3) pL_lay pL_depth (by decide) _
  unfold inY
  simp only [e1, e2]
  rw [if_pos ⟨e3, e4⟩]
  have key : (((seamsP w h l bs).map pL).any fun z => PyData.eqv z (pL p)) = decide (valP l bs p = 0) := by
    rw [List.any_map]
    have ev : ∀ q : Bool × Nat, PyData.eqv (pL q) (pL p) = decide (q = p) := fun q => by
      obtain ⟨a, c⟩ := q
      obtain ⟨b, d⟩ := p
      unfold pL
      simp only [PyData.eqv, PyData.eqvAll]
      by_cases hc : c = d
      · subst hc
        cases a <;> cases b <;> simp [LWAY] <;> decide +kernel
      · have : ¬ ((c + 1 : Nat) : Int) = ((d + 1 : Nat) : Int) := by omega
        cases a <;> cases b <;> simp [LWAY, hc] <;> omega
    rw [Bool.eq_iff_iff, List.any_eq_true, decide_eq_true_eq]
    simp only [Function.comp_apply, ev, decide_eq_true_eq]
    obtain ⟨a, c⟩ := p
    have lt := linesP_lt hp
    constructor
    · rintro ⟨q, hq, rfl⟩
      unfold seamsP at hq
      rcases List.mem_append.mp hq with hq | hq
      · obtain ⟨c', hc', e⟩ := List.mem_map.mp hq
        cases e
        have := (List.mem_filter.mp hc').2
        unfold valP
        simpa using this
      · obtain ⟨c', hc', e⟩ := List.mem_map.mp hq
        cases e
        have := (List.mem_filter.mp hc').2
        unfold valP
        simpa using this
    · intro hv
      refine ⟨(a, c), ?_, rfl⟩
      unfold seamsP
      unfold valP at hv
      cases a with
      | false =>
        simp only [Bool.false_eq_true, if_false] at lt hv
        exact List.mem_append_left _ (List.mem_map.mpr ⟨c, List.mem_filter.mpr ⟨by simp; omega, by simpa using hv⟩, rfl⟩)
      | true =>
        simp only [if_true] at lt hv
        exact List.mem_append_right _ (List.mem_map.mpr ⟨c, List.mem_filter.mpr ⟨by simp; omega, by simpa using hv⟩, rfl⟩)
  rw [key]
  cases decide (valP l bs p = 0) <;> rfl
end K08

namespace K08
open PySem L2 L3 Tile Fl
def LenS (r : L3.Run) : Prop := ∀ (w h l : Nat) (bs : List Bar) (st : Sto) (n : Nat), FloorAt st n w h l bs → r [.loc n] st = .ok (.int (bs.length : Int)) st
theorem len_ok : LenS (runDef 1 1 k08.b_Floor___len__) := fun w h l bs st n f => by
  simp only [k08.b_Floor___len__, Int.cast_ofNat_Int, Nat.zero_add, Int.reduceEq, Int.reduceNe, Int.reduceLT, Int.reduceLE, Int.reduceGT, Int.reduceGE, Int.reduceAdd, Int.reduceSub, Int.reduceMul, Int.reduceNeg, Int.reduceMod, Int.reduceDiv, Nat.reduceLeDiff, slZ_tup, eqD_int, neD_int, eqD_bl, neD_bl, ixT0, ixT1, ixT2, ixF0, ixF1, ixF2, lenT, lenZ, addZ_frz, addZ_loc_frz, addL_loc_frz, beq_self_eq_true, runDef_eq, start3, finR, sSeq, sSet, sExpr, sRet, sRetN, sIf, sPar2, sAsg, sSetIx, sNil, RS.andThen_nx, RS.andThen_rt, RS.andThen_exn, R.toS_ok, R.toS_exn, kv, kc, k1, k2, kA0, kA1, kF, kM, kIf, kTr, kTb, tAnd3, tOr3, tNot3, kAndV, kOrV, kNotV, kChain, R.bind_ok, R.bind_exn, gN, gT, gs0, gs1, List.map_cons, List.map_nil, List.length_cons, List.length_nil, List.replicate, List.cons_append, List.nil_append, List.getElem?_cons_zero, List.getElem?_cons_succ, List.set_cons_zero, List.set_cons_succ, Nat.reduceAdd, Nat.reduceSub, if_true, if_false, Bool.false_eq_true, Bool.true_eq_false, reduceIte, Bool.not_true, Bool.not_false, Option.bind_some, decide_true, decide_false, frzF, tupF, listZ, addD, subD, mulD, fdivD, modD, cmpD, ltD, leD, gtD, geD, negD, absF, maxF, minF, intF, truD, strF, fld_bars f, List.length_map]
theorem modl {l : Nat} (hl : 2 ≤ l) (x : Int) (s : Sto) : modD (.int x) (.int (l : Int)) s = .ok (.int (x % (l : Int))) s := by
  unfold modD
  simp only
  rw [if_pos (by omega)]
abbrev ln (c : D) : KS := sNil
section
variable {C : Addr} {ra rm rf rti rto rp rse rli rc rre rrm rne rln rpf : L3.Run}
theorem line_step {w h l x : Nat} {bs : List Bar} {p : Bool × Nat} {s : Sto} {tot : Int} {z0 z2 z3 z5 z7 z11 z12 : Option D} (hc : CrossS rc) (hre : RestS rre) (hrm : RestS rrm) (hne : NeedS rne) (f : FloorAt s x w h l bs) (cv : Cover w h l bs) (ft : Fits w h l) (hp : p ∈ linesP w h) {Q : RS → Prop}
    (k : ∀ (s' : Sto) (u v : Option D), Stands s s' → Ws (.nx [z0, some (.tup [.int w, .int h, .int l]), z2, z3, some (.int (l : Int)), z5, some (.loc x), z7, some (.int (tot + valP l bs p)), some (.tup (seamsL w h l bs)), some (lineD p.1 p.2), u, v] s') Q) :
    Ws ((sSeq (sSet 11 (kF rc (kA1 (kv 6) (kA1 (kv 10) kA0))))
    (sSeq (sSet 12 (kF rre (kA1 (kv 1) (kA1 (kv 10) kA0))))
    (sSeq (sIf (kTb (k2 neD (k2 modD (kv 11) (kv 4)) (kv 12))) (sRet (kc (.bl false))) sNil)
    (sSeq (sIf (kTb (k2 neD (kF rrm (kA1 (kv 1) (kA1 (kv 10) kA0))) (kv 12))) (sRet (kc (.bl false))) sNil)
    (sSeq (sIf (kTb (k2 neD (k2 eqD (kv 11) (kc (.int 0))) (k2 (inY false) (kv 10) (kv 9)))) (sRet (kc (.bl false))) sNil)
    (sSeq (sIf (tAnd3 (kTb (k2 gtD (kv 11) (kc (.int 0)))) (kTb (k2 ltD (kv 11) (kF rne (kA1 (kv 1) (kA1 (kv 10) kA0)))))) (sRet (kc (.bl false))) sNil)
    (sSet 8 (k2 addD (kv 8) (kv 11))))))))) [z0, some (.tup [.int w, .int h, .int l]), z2, z3, some (.int (l : Int)), z5, some (.loc x), z7, some (.int tot), some (.tup (seamsL w h l bs)), some (lineD p.1 p.2), z11, z12] s) Q := by
  have lt := linesP_lt hp
  have hd := cover_div cv ft.l2 ft.w1
  obtain ⟨s1, e1, g1⟩ := hc w h l bs s x p.1 p.2 f cv ft lt
  have e2 := hre w h l p.1 p.2 s1 ft hd lt
  have e3 := hrm w h l p.1 p.2 s1 ft hd lt
  have e4 := hne w h l p.1 p.2 s1 ft hd lt
  have e5 := line_in (bs := bs) (st := s1) (l := l) hp ft.w4 ft.h4
  have hm := val_mod cv ft hp
  have h0 := val_nonneg l bs p
  have ev : (if p.1 = true then upF l bs p.2 else lvF l bs p.2) = valP l bs p := rfl
  rw [ev] at e1
  generalize valP l bs p = v at *
  generalize restI w h l p.1 p.2 = r at *
  have e6 := modl ft.l2 v s1
  rw [hm] at e6
  generalize lineD p.1 p.2 = L at *
  generalize seamsL w h l bs = S at *
  have q1 : (!decide (r = r)) = false := by simp
  have q2 : (!(decide (v = 0) == decide (v = 0))) = false := by simp
  by_cases hv : v = 0
  · subst hv
    simp only [wp_bind, wp_bQ, wp_bQx, ws_toS, wp_tQ, wp_tQx, ws_then, ws_nx, ws_rt, ws_bk, ws_ct, ws_exn, wp_fin, ws_fnx, ws_frt, ws_fexn, wp_Ok, ws_lnx, ws_lct, ws_lbk, ws_lrt, ws_lexn, wp_kv, wp_kc, wp_k1, wp_k2, wp_kF, wp_kA0, wp_kA1, wp_kM, wp_kTr, wp_kTb, wp_tAnd, wp_tOr, wp_tNot, wp_kIf, wp_kAnd, wp_kOr, wp_kNot, wp_kChain, wp_kCm, wp_kMkV, wp_kCmV, wp_kMt, ws_nil, ws_seq, ws_expr, ws_set, ws_ret, ws_retN, ws_if, ws_break, ws_cont, ws_par2, ws_asg, ws_setix, Int.cast_ofNat_Int, Nat.zero_add, Int.reduceEq, Int.reduceNe, Int.reduceLT, Int.reduceLE, Int.reduceGT, Int.reduceGE, Int.reduceAdd, Int.reduceSub, Int.reduceMul, Int.reduceNeg, Int.reduceMod, Int.reduceDiv, Nat.reduceLeDiff, slZ_tup, eqD_int, neD_int, eqD_bl, neD_bl, ixT0, ixT1, ixT2, ixF0, ixF1, ixF2, lenT, lenZ, addZ_frz, beq_self_eq_true, start3, gN, gT, gs0, gs1, List.map_cons, List.map_nil, List.length_cons, List.length_nil, List.replicate, List.cons_append, List.nil_append, List.getElem?_cons_zero, List.getElem?_cons_succ, List.set_cons_zero, List.set_cons_succ, Nat.reduceAdd, Nat.reduceSub, if_true, if_false, Bool.false_eq_true, Bool.true_eq_false, reduceIte, Bool.not_true, Bool.not_false, Option.bind_some, decide_true, decide_false, frzF, tupF, listZ, addD, subD, cmpD, ltD, leD, gtD, geD, negD, absF, maxF, minF, intF, truD, e1, e2, e3, e5, e6, q1, q2, decide_true, Int.lt_irrefl, decide_false]
    exact k s1 _ _ g1
  · have gt : decide ((0 : Int) < v) = true := decide_eq_true (by omega)
    have le : decide (v < if r = 0 then (l : Int) else r) = false := decide_eq_false (by have := need_le (l := (l : Int)) (by have := ft.l2; omega) h0 hm hv; omega)
    simp only [wp_bind, wp_bQ, wp_bQx, ws_toS, wp_tQ, wp_tQx, ws_then, ws_nx, ws_rt, ws_bk, ws_ct, ws_exn, wp_fin, ws_fnx, ws_frt, ws_fexn, wp_Ok, ws_lnx, ws_lct, ws_lbk, ws_lrt, ws_lexn, wp_kv, wp_kc, wp_k1, wp_k2, wp_kF, wp_kA0, wp_kA1, wp_kM, wp_kTr, wp_kTb, wp_tAnd, wp_tOr, wp_tNot, wp_kIf, wp_kAnd, wp_kOr, wp_kNot, wp_kChain, wp_kCm, wp_kMkV, wp_kCmV, wp_kMt, ws_nil, ws_seq, ws_expr, ws_set, ws_ret, ws_retN, ws_if, ws_break, ws_cont, ws_par2, ws_asg, ws_setix, Int.cast_ofNat_Int, Nat.zero_add, Int.reduceEq, Int.reduceNe, Int.reduceLT, Int.reduceLE, Int.reduceGT, Int.reduceGE, Int.reduceAdd, Int.reduceSub, Int.reduceMul, Int.reduceNeg, Int.reduceMod, Int.reduceDiv, Nat.reduceLeDiff, slZ_tup, eqD_int, neD_int, eqD_bl, neD_bl, ixT0, ixT1, ixT2, ixF0, ixF1, ixF2, lenT, lenZ, addZ_frz, beq_self_eq_true, start3, gN, gT, gs0, gs1, List.map_cons, List.map_nil, List.length_cons, List.length_nil, List.replicate, List.cons_append, List.nil_append, List.getElem?_cons_zero, List.getElem?_cons_succ, List.set_cons_zero, List.set_cons_succ, Nat.reduceAdd, Nat.reduceSub, if_true, if_false, Bool.false_eq_true, Bool.true_eq_false, reduceIte, Bool.not_true, Bool.not_false, Option.bind_some, decide_true, decide_false, frzF, tupF, listZ, addD, subD, cmpD, ltD, leD, gtD, geD, negD, absF, maxF, minF, intF, truD, e1, e2, e3, e4, e5, e6, q1, q2, gt, le]
    exact k s1 _ _ g1
end
end K08

namespace K08
open PySem L2 L3 Tile Fl
theorem sumX_cnts (N : Nat) (f : Nat → Int) (s : Sto) : sumX [.tup (cnts N f)] s = .ok (.int (cntI N f).sum) s := by
  unfold sumX
  simp only
  rw [cnts_ints, ints_cnts]
theorem lenC_fl {rln : L3.Run} (h : LenS rln) {w hh l x : Nat} {bs : List Bar} {s : Sto} (f : FloorAt s x w hh l bs) (hb : bs.length ≤ 400) : lenC "Floor" rln [.loc x] s = .ok (.int (bs.length : Int)) s := by
  have e := h w hh l bs s x f
  have i := insOf_fl f
  have b : (0 : Int) ≤ (bs.length : Int) ∧ (bs.length : Int) < 9223372036854775808 := by omega
  generalize (bs.length : Int) = k at *
  unfold lenC
  simp only
  rw [if_pos i, e, R.bind_ok]
  simp only
  rw [if_pos b]
theorem mul_ok {a b : Int} (h : 0 ≤ a ∧ a ≤ 400) (s : Sto) : mulD (.int a) (.int b) s = .ok (.int (a * b)) s := by
  have : mulOk a b := .inl (.inl ⟨by omega, by omega⟩)
  unfold mulD
  simp only
  rw [if_pos this]
theorem iR1_T {ρ : Env3} {st : Sto} {T : Nat} {j : Int} (hj : j = T) (h : T < 1000) : iR1 (kA1 (kc (.int j)) kA0) ρ st = .ok (.its (rngIts 0 T)) st := by
  subst hj
  exact it_rng1 h
theorem step_new {n m : Nat} {st s : Sto} (h : Step n st s) (hm : st.length ≤ m) (hn : m ≠ n) (o : O) : Step n st (s.set m o) := by
  refine ⟨fun q o' hq e => ?_, ?_, ?_⟩
  · have := (List.getElem?_eq_some_iff.mp e).1
    rw [List.getElem?_set_ne (by omega)]
    exact h.keep q o' hq e
  · obtain ⟨a, b, c, e⟩ := h.die
    exact ⟨a, b, c, by rw [List.getElem?_set_ne hn]; exact e⟩
  · rw [List.length_set]
    exact h.len
theorem take_sum {α : Type} {xs : List α} (f : α → Int) {i : Nat} {x : α} (h : xs[i]? = some x) : ((xs.take (i + 1)).map f).sum = ((xs.take i).map f).sum + f x := by
  rw [List.take_succ, h]
  simp
section
variable {C : Addr} {ra rm rf rti rto rp rse rli rc rre rrm rne rln rpf : L3.Run}
theorem floor_step {w h l x : Nat} {bs : List Bar} {s : Sto} {z0 z2 z3 z5 z7 z8 z9 z10 z11 z12 : Option D} (hse : SeamsS rse) (hli : ∀ {w h l : Nat}, Fits w h l → ∀ st : Sto, rli [.tup [.int w, .int h, .int l]] st = .ok (.frz (linesL w h)) st) (hc : CrossS rc) (hre : RestS rre) (hrm : RestS rrm) (hne : NeedS rne) (hln : LenS rln) (hpf : ProfS rpf)
    (f : FloorAt s x w h l bs) (cv : Cover w h l bs) (ft : Fits w h l) {Q : RS → Prop}
    (k : ∀ (s' : Sto) (a b c d e : Option D), Stands s s' → Ws (.nx [z0, some (.tup [.int w, .int h, .int l]), z2, z3, some (.int (l : Int)), z5, some (.loc x), z7, a, b, c, d, e] s') Q) :
    Ws ((sSeq (sPar2 8 9 (kc (.int 0)) (kF rse (kA1 (kv 6) kA0)))
    (sSeq (sFor (gN 10) (iL (kF rli (kA1 (kv 1) kA0))) (sSeq (sSet 11 (kF rc (kA1 (kv 6) (kA1 (kv 10) kA0))))
    (sSeq (sSet 12 (kF rre (kA1 (kv 1) (kA1 (kv 10) kA0))))
    (sSeq (sIf (kTb (k2 neD (k2 modD (kv 11) (kv 4)) (kv 12))) (sRet (kc (.bl false))) sNil)
    (sSeq (sIf (kTb (k2 neD (kF rrm (kA1 (kv 1) (kA1 (kv 10) kA0))) (kv 12))) (sRet (kc (.bl false))) sNil)
    (sSeq (sIf (kTb (k2 neD (k2 eqD (kv 11) (kc (.int 0))) (k2 (inY false) (kv 10) (kv 9)))) (sRet (kc (.bl false))) sNil)
    (sSeq (sIf (tAnd3 (kTb (k2 gtD (kv 11) (kc (.int 0)))) (kTb (k2 ltD (kv 11) (kF rne (kA1 (kv 1) (kA1 (kv 10) kA0)))))) (sRet (kc (.bl false))) sNil)
    (sSet 8 (k2 addD (kv 8) (kv 11))))))))))
    (sSeq (sIf (kTb (k2 neD (kv 8) (k2 mulD (k2 subD (kv 4) (kc (.int 1))) (kF (lenC "Floor" rln) (kA1 (kv 6) kA0))))) (sRet (kc (.bl false))) sNil)
    (sIf (kTb (k2 neD (kv 8) (k2 addD (kF sumX (kA1 (k2 ixD (kF rpf (kA1 (kv 6) kA0)) (kc (.int 0))) kA0)) (kF sumX (kA1 (k2 ixD (kF rpf (kA1 (kv 6) kA0)) (kc (.int 1))) kA0))))) (sRet (kc (.bl false))) sNil))))
    [z0, some (.tup [.int w, .int h, .int l]), z2, z3, some (.int (l : Int)), z5, some (.loc x), z7, z8, z9, z10, z11, z12] s) Q := by
  obtain ⟨s1, e1, g1⟩ := hse w h l bs s x f cv ft
  have f1 := f.stands g1
  simp only [wp_bind, wp_bQ, wp_bQx, ws_toS, wp_tQ, wp_tQx, ws_then, ws_nx, ws_rt, ws_bk, ws_ct, ws_exn, wp_fin, ws_fnx, ws_frt, ws_fexn, wp_Ok, ws_lnx, ws_lct, ws_lbk, ws_lrt, ws_lexn, wp_kv, wp_kc, wp_k1, wp_k2, wp_kF, wp_kA0, wp_kA1, wp_kM, wp_kTr, wp_kTb, wp_tAnd, wp_tOr, wp_tNot, wp_kIf, wp_kAnd, wp_kOr, wp_kNot, wp_kChain, wp_kCm, wp_kMkV, wp_kCmV, wp_kMt, ws_nil, ws_seq, ws_expr, ws_set, ws_ret, ws_retN, ws_if, ws_break, ws_cont, ws_par2, ws_asg, ws_setix, Int.cast_ofNat_Int, Nat.zero_add, Int.reduceEq, Int.reduceNe, Int.reduceLT, Int.reduceLE, Int.reduceGT, Int.reduceGE, Int.reduceAdd, Int.reduceSub, Int.reduceMul, Int.reduceNeg, Int.reduceMod, Int.reduceDiv, Nat.reduceLeDiff, slZ_tup, eqD_int, neD_int, eqD_bl, neD_bl, ixT0, ixT1, ixT2, ixF0, ixF1, ixF2, lenT, lenZ, addZ_frz, beq_self_eq_true, start3, gN, gT, gs0, gs1, List.map_cons, List.map_nil, List.length_cons, List.length_nil, List.replicate, List.cons_append, List.nil_append, List.getElem?_cons_zero, List.getElem?_cons_succ, List.set_cons_zero, List.set_cons_succ, Nat.reduceAdd, Nat.reduceSub, if_true, if_false, Bool.false_eq_true, Bool.true_eq_false, reduceIte, Bool.not_true, Bool.not_false, Option.bind_some, decide_true, decide_false, frzF, tupF, listZ, addD, subD, cmpD, ltD, leD, gtD, geD, negD, absF, maxF, minF, intF, truD, e1]
  refine ws_for (xs := (linesP w h).map fun p => lineD p.1 p.2) (fun i ρ t => ∃ (c d e : Option D), ρ = [z0, some (.tup [.int w, .int h, .int l]), z2, z3, some (.int (l : Int)), z5, some (.loc x), z7, some (.int (((linesP w h).take i).map (valP l bs)).sum), some (.tup (seamsL w h l bs)), c, d, e] ∧ Stands s1 t)
    (s1 := s1) ?_ ⟨z10, z11, z12, rfl, .refl⟩ ?_ ?_
  · rw [← linesL_eq]
    simp only [iL, Int.cast_ofNat_Int, Nat.zero_add, Int.reduceEq, Int.reduceNe, Int.reduceLT, Int.reduceLE, Int.reduceGT, Int.reduceGE, Int.reduceAdd, Int.reduceSub, Int.reduceMul, Int.reduceNeg, Int.reduceMod, Int.reduceDiv, Nat.reduceLeDiff, slZ_tup, eqD_int, neD_int, eqD_bl, neD_bl, ixT0, ixT1, ixT2, ixF0, ixF1, ixF2, lenT, lenZ, addZ_frz, addZ_loc_frz, addL_loc_frz, beq_self_eq_true, runDef_eq, start3, finR, sSeq, sSet, sExpr, sRet, sRetN, sIf, sPar2, sAsg, sSetIx, sNil, RS.andThen_nx, RS.andThen_rt, RS.andThen_exn, R.toS_ok, R.toS_exn, kv, kc, k1, k2, kA0, kA1, kF, kM, kIf, kTr, kTb, tAnd3, tOr3, tNot3, kAndV, kOrV, kNotV, kChain, R.bind_ok, R.bind_exn, gN, gT, gs0, gs1, List.map_cons, List.map_nil, List.length_cons, List.length_nil, List.replicate, List.cons_append, List.nil_append, List.getElem?_cons_zero, List.getElem?_cons_succ, List.set_cons_zero, List.set_cons_succ, Nat.reduceAdd, Nat.reduceSub, if_true, if_false, Bool.false_eq_true, Bool.true_eq_false, reduceIte, Bool.not_true, Bool.not_false, Option.bind_some, decide_true, decide_false, hli ft]
  · rintro i d ρ t hi ⟨c, u, v, rfl, g⟩
    rw [List.getElem?_map] at hi
    obtain ⟨p, hp, rfl⟩ := Option.map_eq_some_iff.mp hi
    refine ⟨_, rfl, line_step hc hre hrm hne (f1.stands g) cv ft (List.mem_of_getElem? hp) fun s' u v g' => ?_⟩
    simp only [wp_bind, wp_bQ, wp_bQx, ws_toS, wp_tQ, wp_tQx, ws_then, ws_nx, ws_rt, ws_bk, ws_ct, ws_exn, wp_fin, ws_fnx, ws_frt, ws_fexn, wp_Ok, ws_lnx, ws_lct, ws_lbk, ws_lrt, ws_lexn, wp_kv, wp_kc, wp_k1, wp_k2, wp_kF, wp_kA0, wp_kA1, wp_kM, wp_kTr, wp_kTb, wp_tAnd, wp_tOr, wp_tNot, wp_kIf, wp_kAnd, wp_kOr, wp_kNot, wp_kChain, wp_kCm, wp_kMkV, wp_kCmV, wp_kMt, ws_nil, ws_seq, ws_expr, ws_set, ws_ret, ws_retN, ws_if, ws_break, ws_cont, ws_par2, ws_asg, ws_setix, Int.cast_ofNat_Int, Nat.zero_add, Int.reduceEq, Int.reduceNe, Int.reduceLT, Int.reduceLE, Int.reduceGT, Int.reduceGE, Int.reduceAdd, Int.reduceSub, Int.reduceMul, Int.reduceNeg, Int.reduceMod, Int.reduceDiv, Nat.reduceLeDiff, slZ_tup, eqD_int, neD_int, eqD_bl, neD_bl, ixT0, ixT1, ixT2, ixF0, ixF1, ixF2, lenT, lenZ, addZ_frz, beq_self_eq_true, start3, gN, gT, gs0, gs1, List.map_cons, List.map_nil, List.length_cons, List.length_nil, List.replicate, List.cons_append, List.nil_append, List.getElem?_cons_zero, List.getElem?_cons_succ, List.set_cons_zero, List.set_cons_succ, Nat.reduceAdd, Nat.reduceSub, if_true, if_false, Bool.false_eq_true, Bool.true_eq_false, reduceIte, Bool.not_true, Bool.not_false, Option.bind_some, decide_true, decide_false, frzF, tupF, listZ, addD, subD, cmpD, ltD, leD, gtD, geD, negD, absF, maxF, minF, intF, truD]
    exact ⟨_, _, _, by rw [take_sum _ hp], g.trans g'⟩
  · rintro ρ t ⟨c, u, v, rfl, g⟩
    rw [List.length_map, List.take_length, val_sum, all_sum cv ft.l2]
    have f2 := f1.stands g
    have e2 := lenC_fl hln f2 (cover_len cv ft)
    have e3 := mul_ok (a := (l : Int) - 1) (b := (bs.length : Int)) (by have := ft.l2; have := ft.l4; omega) t
    obtain ⟨s3, e4, g3⟩ := hpf w h l bs t x f2 cv ft
    obtain ⟨s4, e5, g4⟩ := hpf w h l bs s3 x (f2.stands g3) cv ft
    have e6 := sumX_cnts (w - 1) (upF l bs) s3
    have e7 := sumX_cnts (h - 1) (lvF l bs) s4
    have e8 := all_sum cv ft.l2
    have q : ∀ u : Int, (!decide (u = u)) = false := fun u => by simp
    generalize ((l : Int) - 1) * (bs.length : Int) = M at *
    have e9 : (cntI (w - 1) (upF l bs)).sum + (cntI (h - 1) (lvF l bs)).sum = M := by omega
    simp only [wp_bind, wp_bQ, wp_bQx, ws_toS, wp_tQ, wp_tQx, ws_then, ws_nx, ws_rt, ws_bk, ws_ct, ws_exn, wp_fin, ws_fnx, ws_frt, ws_fexn, wp_Ok, ws_lnx, ws_lct, ws_lbk, ws_lrt, ws_lexn, wp_kv, wp_kc, wp_k1, wp_k2, wp_kF, wp_kA0, wp_kA1, wp_kM, wp_kTr, wp_kTb, wp_tAnd, wp_tOr, wp_tNot, wp_kIf, wp_kAnd, wp_kOr, wp_kNot, wp_kChain, wp_kCm, wp_kMkV, wp_kCmV, wp_kMt, ws_nil, ws_seq, ws_expr, ws_set, ws_ret, ws_retN, ws_if, ws_break, ws_cont, ws_par2, ws_asg, ws_setix, Int.cast_ofNat_Int, Nat.zero_add, Int.reduceEq, Int.reduceNe, Int.reduceLT, Int.reduceLE, Int.reduceGT, Int.reduceGE, Int.reduceAdd, Int.reduceSub, Int.reduceMul, Int.reduceNeg, Int.reduceMod, Int.reduceDiv, Nat.reduceLeDiff, slZ_tup, eqD_int, neD_int, eqD_bl, neD_bl, ixT0, ixT1, ixT2, ixF0, ixF1, ixF2, lenT, lenZ, addZ_frz, beq_self_eq_true, start3, gN, gT, gs0, gs1, List.map_cons, List.map_nil, List.length_cons, List.length_nil, List.replicate, List.cons_append, List.nil_append, List.getElem?_cons_zero, List.getElem?_cons_succ, List.set_cons_zero, List.set_cons_succ, Nat.reduceAdd, Nat.reduceSub, if_true, if_false, Bool.false_eq_true, Bool.true_eq_false, reduceIte, Bool.not_true, Bool.not_false, Option.bind_some, decide_true, decide_false, frzF, tupF, listZ, addD, subD, cmpD, ltD, leD, gtD, geD, negD, absF, maxF, minF, intF, truD, e2, e3, q, e4, e5, e6, e7, e9]
    exact k s4 _ _ _ _ _ (((g1.trans g).trans g3).trans g4)
theorem right_ok (ha : AnyS ra) (hm : MoveS rm (fun w _ l => mirB w l) false) (hf : OfS rf C) (hti : TurnsS rti) (hto : TurnOfS rto) (hp : PickS rp) (hse : SeamsS rse) (hli : ∀ {w h l : Nat}, Fits w h l → ∀ st : Sto, rli [.tup [.int w, .int h, .int l]] st = .ok (.frz (linesL w h)) st) (hc : CrossS rc) (hre : RestS rre) (hrm : RestS rrm) (hne : NeedS rne) (hln : LenS rln) (hpf : ProfS rpf) :
    WellP (runDef 13 1 (k08.b_law_right C ra rm rf rti rto rp rse rli rc rre rrm rne rln rpf)) := by
  intro st n hd
  suffices q : Wp (runDef 13 1 (k08.b_law_right C ra rm rf rti rto rp rse rli rc rre rrm rne rln rpf) [.loc n] st) (Ok fun v s => v = .bl true ∧ Step n st s) by
    obtain ⟨v, s, e, rfl, h⟩ := q
    exact ⟨s, e, h⟩
  obtain ⟨w, h, l, bs, m0, s1, e1, t1, ml0, hm1, cv, ft, so⟩ := ha st n 8 hd (by decide) (by decide)
  replace e1 : ra [.loc n, .int 8] st = .ok (.loc m0) s1 := e1
  obtain ⟨s2, e2, g2, f2⟩ := hf w h l bs cv ft s1
  rw [so] at f2
  obtain ⟨s3, e3, g3, f3⟩ := hf w h l bs cv ft s2
  rw [so] at f3
  obtain ⟨y, s4, e4, g4, _, f4⟩ := hm w h l bs s3 s2.length f3 cv ft
  simp only [Bool.false_eq_true, if_false] at f4
  have cvm := cover_perm (cover_mir cv) (sortB_perm _)
  have ik := insOk_fl (n := "mirrored") rfl f3
  have tl : ∀ s : Sto, tupleF [.frz (bs.map dB)] s = .ok (.tup (bs.map dB)) s := fun _ => rfl
  refine wp_def rfl ?_
  unfold k08.b_law_right
  simp only [wp_bind, wp_bQ, wp_bQx, ws_toS, wp_tQ, wp_tQx, ws_then, ws_nx, ws_rt, ws_bk, ws_ct, ws_exn, wp_fin, ws_fnx, ws_frt, ws_fexn, wp_Ok, ws_lnx, ws_lct, ws_lbk, ws_lrt, ws_lexn, wp_kv, wp_kc, wp_k1, wp_k2, wp_kF, wp_kA0, wp_kA1, wp_kM, wp_kTr, wp_kTb, wp_tAnd, wp_tOr, wp_tNot, wp_kIf, wp_kAnd, wp_kOr, wp_kNot, wp_kChain, wp_kCm, wp_kMkV, wp_kCmV, wp_kMt, ws_nil, ws_seq, ws_expr, ws_set, ws_ret, ws_retN, ws_if, ws_break, ws_cont, ws_par2, ws_asg, ws_setix, Int.cast_ofNat_Int, Nat.zero_add, Int.reduceEq, Int.reduceNe, Int.reduceLT, Int.reduceLE, Int.reduceGT, Int.reduceGE, Int.reduceAdd, Int.reduceSub, Int.reduceMul, Int.reduceNeg, Int.reduceMod, Int.reduceDiv, Nat.reduceLeDiff, slZ_tup, eqD_int, neD_int, eqD_bl, neD_bl, ixT0, ixT1, ixT2, ixF0, ixF1, ixF2, lenT, lenZ, addZ_frz, beq_self_eq_true, start3, gN, gT, gs0, gs1, List.map_cons, List.map_nil, List.length_cons, List.length_nil, List.replicate, List.cons_append, List.nil_append, List.getElem?_cons_zero, List.getElem?_cons_succ, List.set_cons_zero, List.set_cons_succ, Nat.reduceAdd, Nat.reduceSub, if_true, if_false, Bool.false_eq_true, Bool.true_eq_false, reduceIte, Bool.not_true, Bool.not_false, Option.bind_some, decide_true, decide_false, frzF, tupF, listZ, addD, subD, cmpD, ltD, leD, gtD, geD, negD, absF, maxF, minF, intF, truD, sAsgL, e1, hm1, tl, e2, e3, ik, e4, lstF]
  have f2' := (((f2.stands g3).stands g4).stands (Stands.app [O.lst [.loc s1.length, .loc y]]))
  have f4' := f4.stands (Stands.app [O.lst [.loc s1.length, .loc y]])
  have t5 : Step n st (s4 ++ [O.lst [.loc s1.length, .loc y]]) := (Stands.step (Stands.step (Stands.step t1 g2) g3) g4).new _
  have hL : (s4 ++ [O.lst [.loc s1.length, .loc y]])[s4.length]? = some (.lst [.loc s1.length, .loc y]) := by rw [stA0]; rfl
  have mne : s4.length ≠ n := by have := (Stands.step (Stands.step (Stands.step t1 g2) g3) g4).die.lt; omega
  have mge : st.length ≤ s4.length := by have := (Stands.step (Stands.step (Stands.step t1 g2) g3) g4).len; omega
  generalize hs5 : s4 ++ [O.lst [.loc s1.length, .loc y]] = s5 at *
  clear hs5
  generalize s4.length = m at *
  generalize s1.length = x at *
  refine ws_for (xs := rngIts 0 10) (fun i ρ t => ∃ (bs' : List Bar) (a b : Option D), ρ = [some (.loc n), some (.tup [.int w, .int h, .int l]), some (.frz (bs'.map dB)), some (.loc m), some (.int (l : Int)), a, none, b, none, none, none, none, none] ∧ Step n s5 t ∧ Cover w h l bs' ∧ sortB bs' = bs')
    (s1 := s5) (iR1_T (T := 10) rfl (by decide)) ⟨bs, none, none, rfl, .refl t5.die, cv, so⟩ ?_ ?_
  · rintro i d ρ t hi ⟨bs', a, b, rfl, g, cv', so'⟩
    obtain ⟨m1, u1, e5, g5, hcase⟩ := turn_cases hp hti hto g.die cv' ft
    refine ⟨_, rfl, ?_⟩
    rcases hcase with e6 | ⟨e6, b1, u2, u3, bs2, e7, e8, g8, cv2, so2⟩
    · simp only [wp_bind, wp_bQ, wp_bQx, ws_toS, wp_tQ, wp_tQx, ws_then, ws_nx, ws_rt, ws_bk, ws_ct, ws_exn, wp_fin, ws_fnx, ws_frt, ws_fexn, wp_Ok, ws_lnx, ws_lct, ws_lbk, ws_lrt, ws_lexn, wp_kv, wp_kc, wp_k1, wp_k2, wp_kF, wp_kA0, wp_kA1, wp_kM, wp_kTr, wp_kTb, wp_tAnd, wp_tOr, wp_tNot, wp_kIf, wp_kAnd, wp_kOr, wp_kNot, wp_kChain, wp_kCm, wp_kMkV, wp_kCmV, wp_kMt, ws_nil, ws_seq, ws_expr, ws_set, ws_ret, ws_retN, ws_if, ws_break, ws_cont, ws_par2, ws_asg, ws_setix, Int.cast_ofNat_Int, Nat.zero_add, Int.reduceEq, Int.reduceNe, Int.reduceLT, Int.reduceLE, Int.reduceGT, Int.reduceGE, Int.reduceAdd, Int.reduceSub, Int.reduceMul, Int.reduceNeg, Int.reduceMod, Int.reduceDiv, Nat.reduceLeDiff, slZ_tup, eqD_int, neD_int, eqD_bl, neD_bl, ixT0, ixT1, ixT2, ixF0, ixF1, ixF2, lenT, lenZ, addZ_frz, beq_self_eq_true, start3, gN, gT, gs0, gs1, List.map_cons, List.map_nil, List.length_cons, List.length_nil, List.replicate, List.cons_append, List.nil_append, List.getElem?_cons_zero, List.getElem?_cons_succ, List.set_cons_zero, List.set_cons_succ, Nat.reduceAdd, Nat.reduceSub, if_true, if_false, Bool.false_eq_true, Bool.true_eq_false, reduceIte, Bool.not_true, Bool.not_false, Option.bind_some, decide_true, decide_false, frzF, tupF, listZ, addD, subD, cmpD, ltD, leD, gtD, geD, negD, absF, maxF, minF, intF, truD, List.length_nil, e5, e6]
      exact ⟨bs', _, _, rfl, g.trans g5, cv', so'⟩
    · simp only [wp_bind, wp_bQ, wp_bQx, ws_toS, wp_tQ, wp_tQx, ws_then, ws_nx, ws_rt, ws_bk, ws_ct, ws_exn, wp_fin, ws_fnx, ws_frt, ws_fexn, wp_Ok, ws_lnx, ws_lct, ws_lbk, ws_lrt, ws_lexn, wp_kv, wp_kc, wp_k1, wp_k2, wp_kF, wp_kA0, wp_kA1, wp_kM, wp_kTr, wp_kTb, wp_tAnd, wp_tOr, wp_tNot, wp_kIf, wp_kAnd, wp_kOr, wp_kNot, wp_kChain, wp_kCm, wp_kMkV, wp_kCmV, wp_kMt, ws_nil, ws_seq, ws_expr, ws_set, ws_ret, ws_retN, ws_if, ws_break, ws_cont, ws_par2, ws_asg, ws_setix, Int.cast_ofNat_Int, Nat.zero_add, Int.reduceEq, Int.reduceNe, Int.reduceLT, Int.reduceLE, Int.reduceGT, Int.reduceGE, Int.reduceAdd, Int.reduceSub, Int.reduceMul, Int.reduceNeg, Int.reduceMod, Int.reduceDiv, Nat.reduceLeDiff, slZ_tup, eqD_int, neD_int, eqD_bl, neD_bl, ixT0, ixT1, ixT2, ixF0, ixF1, ixF2, lenT, lenZ, addZ_frz, beq_self_eq_true, start3, gN, gT, gs0, gs1, List.map_cons, List.map_nil, List.length_cons, List.length_nil, List.replicate, List.cons_append, List.nil_append, List.getElem?_cons_zero, List.getElem?_cons_succ, List.set_cons_zero, List.set_cons_succ, Nat.reduceAdd, Nat.reduceSub, if_true, if_false, Bool.false_eq_true, Bool.true_eq_false, reduceIte, Bool.not_true, Bool.not_false, Option.bind_some, decide_true, decide_false, frzF, tupF, listZ, addD, subD, cmpD, ltD, leD, gtD, geD, negD, absF, maxF, minF, intF, truD, e5, e6, e7, e8]
      exact ⟨bs2, _, _, rfl, g.trans g8, cv2, so2⟩
  · rintro ρ t ⟨bs', a, b, rfl, g, cv', so'⟩
    obtain ⟨s6, e6, g6, f6⟩ := hf w h l bs' cv' ft t
    rw [so'] at f6
    have tl' : ∀ s : Sto, tupleF [.frz (bs'.map dB)] s = .ok (.tup (bs'.map dB)) s := fun _ => rfl
    have hL6 := g6.keep _ _ (g.keep _ _ mne hL)
    have ty6 : tyD "list" (.loc m) t = true := tyD_lst (g.keep _ _ mne hL)
    have ap := appendM_ok (y := .loc t.length) hL6 (by simp)
    simp only [wp_bind, wp_bQ, wp_bQx, ws_toS, wp_tQ, wp_tQx, ws_then, ws_nx, ws_rt, ws_bk, ws_ct, ws_exn, wp_fin, ws_fnx, ws_frt, ws_fexn, wp_Ok, ws_lnx, ws_lct, ws_lbk, ws_lrt, ws_lexn, wp_kv, wp_kc, wp_k1, wp_k2, wp_kF, wp_kA0, wp_kA1, wp_kM, wp_kTr, wp_kTb, wp_tAnd, wp_tOr, wp_tNot, wp_kIf, wp_kAnd, wp_kOr, wp_kNot, wp_kChain, wp_kCm, wp_kMkV, wp_kCmV, wp_kMt, ws_nil, ws_seq, ws_expr, ws_set, ws_ret, ws_retN, ws_if, ws_break, ws_cont, ws_par2, ws_asg, ws_setix, Int.cast_ofNat_Int, Nat.zero_add, Int.reduceEq, Int.reduceNe, Int.reduceLT, Int.reduceLE, Int.reduceGT, Int.reduceGE, Int.reduceAdd, Int.reduceSub, Int.reduceMul, Int.reduceNeg, Int.reduceMod, Int.reduceDiv, Nat.reduceLeDiff, slZ_tup, eqD_int, neD_int, eqD_bl, neD_bl, ixT0, ixT1, ixT2, ixF0, ixF1, ixF2, lenT, lenZ, addZ_frz, beq_self_eq_true, start3, gN, gT, gs0, gs1, List.map_cons, List.map_nil, List.length_cons, List.length_nil, List.replicate, List.cons_append, List.nil_append, List.getElem?_cons_zero, List.getElem?_cons_succ, List.set_cons_zero, List.set_cons_succ, Nat.reduceAdd, Nat.reduceSub, if_true, if_false, Bool.false_eq_true, Bool.true_eq_false, reduceIte, Bool.not_true, Bool.not_false, Option.bind_some, decide_true, decide_false, frzF, tupF, listZ, addD, subD, cmpD, ltD, leD, gtD, geD, negD, absF, maxF, minF, intF, truD, tl', e6, ty6, ap, List.length_cons]
    have t7 := step_new (t5.trans (Stands.step g g6)) mge mne (.lst [.loc x, .loc y, .loc t.length])
    have lm : m < s6.length := (List.getElem?_eq_some_iff.mp hL6).1
    have fls : ∀ {q w h l : Nat} {bs : List Bar}, FloorAt s6 q w h l bs → FloorAt (s6.set m (.lst [.loc x, .loc y, .loc t.length])) q w h l bs := fun f => by
      obtain ⟨dd, b0, p, a1, a2⟩ := f
      refine ⟨dd, b0, p, ?_, ?_⟩
      · rw [List.getElem?_set_ne (fun z => by subst z; rw [hL6] at a1; cases a1)]; exact a1
      · rw [List.getElem?_set_ne (fun z => by subst z; rw [hL6] at a2; cases a2)]; exact a2
    have fx := fls ((f2'.step t5.die g).stands g6)
    have fy := fls ((f4'.step t5.die g).stands g6)
    have fz := fls f6
    have hL7 : (s6.set m (.lst [.loc x, .loc y, .loc t.length]))[m]? = some (.lst [.loc x, .loc y, .loc t.length]) := List.getElem?_set_self lm
    generalize s6.set m (.lst [.loc x, .loc y, .loc t.length]) = s7 at *
    refine ws_forL (m := m) (xs := [.loc x, .loc y, .loc t.length]) (fun i ρ u => ∃ (a b c d e f g' k : Option D), ρ = [some (.loc n), some (.tup [.int w, .int h, .int l]), some (.frz (bs'.map dB)), some (.loc m), some (.int (l : Int)), a, b, c, d, e, f, g', k] ∧ Stands s7 u)
      (s1 := s7) ?_ ⟨_, _, _, _, _, _, _, _, rfl, .refl⟩ (fun i ρ u ⟨_, _, _, _, _, _, _, _, _, g⟩ => g.keep _ _ hL7) ?_ ?_
    · simp only [iL, Int.cast_ofNat_Int, Nat.zero_add, Int.reduceEq, Int.reduceNe, Int.reduceLT, Int.reduceLE, Int.reduceGT, Int.reduceGE, Int.reduceAdd, Int.reduceSub, Int.reduceMul, Int.reduceNeg, Int.reduceMod, Int.reduceDiv, Nat.reduceLeDiff, slZ_tup, eqD_int, neD_int, eqD_bl, neD_bl, ixT0, ixT1, ixT2, ixF0, ixF1, ixF2, lenT, lenZ, addZ_frz, addZ_loc_frz, addL_loc_frz, beq_self_eq_true, runDef_eq, start3, finR, sSeq, sSet, sExpr, sRet, sRetN, sIf, sPar2, sAsg, sSetIx, sNil, RS.andThen_nx, RS.andThen_rt, RS.andThen_exn, R.toS_ok, R.toS_exn, kv, kc, k1, k2, kA0, kA1, kF, kM, kIf, kTr, kTb, tAnd3, tOr3, tNot3, kAndV, kOrV, kNotV, kChain, R.bind_ok, R.bind_exn, gN, gT, gs0, gs1, List.map_cons, List.map_nil, List.length_cons, List.length_nil, List.replicate, List.cons_append, List.nil_append, List.getElem?_cons_zero, List.getElem?_cons_succ, List.set_cons_zero, List.set_cons_succ, Nat.reduceAdd, Nat.reduceSub, if_true, if_false, Bool.false_eq_true, Bool.true_eq_false, reduceIte, Bool.not_true, Bool.not_false, Option.bind_some, decide_true, decide_false, hL7]
    · rintro i d ρ u hi ⟨a, b, c, d', e, f, g', k, rfl, gg⟩
      have hm := List.mem_of_getElem? hi
      simp only [List.mem_cons, List.not_mem_nil, or_false] at hm
      obtain ⟨q, bs2, fq, cq, rfl⟩ : ∃ q bs2, FloorAt s7 q w h l bs2 ∧ Cover w h l bs2 ∧ d = .loc q := by
        rcases hm with e | e | e
        · exact ⟨_, _, fx, cv, e⟩
        · exact ⟨_, _, fy, cvm, e⟩
        · exact ⟨_, _, fz, cv', e⟩
      refine ⟨_, rfl, floor_step hse hli hc hre hrm hne hln hpf (fq.stands gg) cq ft fun s' _ _ _ _ _ g2 => ?_⟩
      simp only [wp_bind, wp_bQ, wp_bQx, ws_toS, wp_tQ, wp_tQx, ws_then, ws_nx, ws_rt, ws_bk, ws_ct, ws_exn, wp_fin, ws_fnx, ws_frt, ws_fexn, wp_Ok, ws_lnx, ws_lct, ws_lbk, ws_lrt, ws_lexn, wp_kv, wp_kc, wp_k1, wp_k2, wp_kF, wp_kA0, wp_kA1, wp_kM, wp_kTr, wp_kTb, wp_tAnd, wp_tOr, wp_tNot, wp_kIf, wp_kAnd, wp_kOr, wp_kNot, wp_kChain, wp_kCm, wp_kMkV, wp_kCmV, wp_kMt, ws_nil, ws_seq, ws_expr, ws_set, ws_ret, ws_retN, ws_if, ws_break, ws_cont, ws_par2, ws_asg, ws_setix, Int.cast_ofNat_Int, Nat.zero_add, Int.reduceEq, Int.reduceNe, Int.reduceLT, Int.reduceLE, Int.reduceGT, Int.reduceGE, Int.reduceAdd, Int.reduceSub, Int.reduceMul, Int.reduceNeg, Int.reduceMod, Int.reduceDiv, Nat.reduceLeDiff, slZ_tup, eqD_int, neD_int, eqD_bl, neD_bl, ixT0, ixT1, ixT2, ixF0, ixF1, ixF2, lenT, lenZ, addZ_frz, beq_self_eq_true, start3, gN, gT, gs0, gs1, List.map_cons, List.map_nil, List.length_cons, List.length_nil, List.replicate, List.cons_append, List.nil_append, List.getElem?_cons_zero, List.getElem?_cons_succ, List.set_cons_zero, List.set_cons_succ, Nat.reduceAdd, Nat.reduceSub, if_true, if_false, Bool.false_eq_true, Bool.true_eq_false, reduceIte, Bool.not_true, Bool.not_false, Option.bind_some, decide_true, decide_false, frzF, tupF, listZ, addD, subD, cmpD, ltD, leD, gtD, geD, negD, absF, maxF, minF, intF, truD]
      exact ⟨_, _, _, _, _, _, _, _, rfl, gg.trans g2⟩
    · rintro ρ u ⟨a, b, c, d', e, f, g', k, rfl, gg⟩
      simp only [wp_bind, wp_bQ, wp_bQx, ws_toS, wp_tQ, wp_tQx, ws_then, ws_nx, ws_rt, ws_bk, ws_ct, ws_exn, wp_fin, ws_fnx, ws_frt, ws_fexn, wp_Ok, ws_lnx, ws_lct, ws_lbk, ws_lrt, ws_lexn, wp_kv, wp_kc, wp_k1, wp_k2, wp_kF, wp_kA0, wp_kA1, wp_kM, wp_kTr, wp_kTb, wp_tAnd, wp_tOr, wp_tNot, wp_kIf, wp_kAnd, wp_kOr, wp_kNot, wp_kChain, wp_kCm, wp_kMkV, wp_kCmV, wp_kMt, ws_nil, ws_seq, ws_expr, ws_set, ws_ret, ws_retN, ws_if, ws_break, ws_cont, ws_par2, ws_asg, ws_setix, Int.cast_ofNat_Int, Nat.zero_add, Int.reduceEq, Int.reduceNe, Int.reduceLT, Int.reduceLE, Int.reduceGT, Int.reduceGE, Int.reduceAdd, Int.reduceSub, Int.reduceMul, Int.reduceNeg, Int.reduceMod, Int.reduceDiv, Nat.reduceLeDiff, slZ_tup, eqD_int, neD_int, eqD_bl, neD_bl, ixT0, ixT1, ixT2, ixF0, ixF1, ixF2, lenT, lenZ, addZ_frz, beq_self_eq_true, start3, gN, gT, gs0, gs1, List.map_cons, List.map_nil, List.length_cons, List.length_nil, List.replicate, List.cons_append, List.nil_append, List.getElem?_cons_zero, List.getElem?_cons_succ, List.set_cons_zero, List.set_cons_succ, Nat.reduceAdd, Nat.reduceSub, if_true, if_false, Bool.false_eq_true, Bool.true_eq_false, reduceIte, Bool.not_true, Bool.not_false, Option.bind_some, decide_true, decide_false, frzF, tupF, listZ, addD, subD, cmpD, ltD, leD, gtD, geD, negD, absF, maxF, minF, intF, truD, true_and]
      exact Stands.step t7 gg
end
end K08

namespace K08
open PySem L2 L3 Tile Fl
theorem law_ok {rnum rr : L3.Run} (hnum : NumsS rnum) (hr : WellP rr) (ns : List Int) (hns : ns.length ≤ 63) : ∃ st', runDef 4 1 (k08.b_law rnum rr) [.frz (ns.map D.int)] [] = .ok (.bl true) st' := by
  obtain ⟨SC, hSC⟩ : ∃ z, D.frz (ns.map D.int) = z := ⟨_, rfl⟩
  obtain ⟨ρ', st', n, e1, hdie, hl, h0⟩ := loop_out (G := sFor (gN 3) (iR1 (kA1 (kc (.int 2)) kA0)) (sIf (tNot3 (kTr (kF rr (kA1 (kv 2) kA0)))) (sRet (kc (.bl false))) sNil)) hnum hns (K := 6) (by decide) (by decide) (jd := 2) (by decide)
    (N := 4) (fun ρ st n hl h0 hj hd => by
      obtain ⟨ρ1, s1, a1, a2, a3, a4⟩ := loop_in hr (jd := 2) (jt := 3) (T := 2) (by decide) (by decide) ρ st hj hd
      exact ⟨ρ1, s1, a1, a2, a3, a4 0 (by decide)⟩)
    [some (.frz (ns.map D.int)), none, none, none] rfl rfl (by simp)
  refine ⟨st', ?_⟩
  refine (runDef_eq rfl).trans ?_
  exact congrArg (fun r => finR (RS.andThen r (sRet (kc (.bl true))))) e1
theorem main_run (C : Addr) (ns : List Int) (hns : ns.length ≤ 63) : ∃ st', k08.callT C 12 37 [.frz (ns.map D.int)] [] = .ok (.bl true) st' := by
  have cast : ∀ n, CastS (k08.callT C (n + 1) 28) := fun n => Hd.cast_ok
  have pick : ∀ n, PickS (k08.callT C (n + 2) 29) := fun n => Hd.pick_ok (cast n)
  have any : AnyS (k08.callT C 10 33) := any_ok (rp := k08.callT C 9 29) (rc := k08.callT C 9 28) (rpl := k08.callT C 9 30) (rti := k08.callT C 9 31) (rto := k08.callT C 9 32) (pick 7) (cast 8) plain_ok turns_ok turnof_ok
  have size : ∀ n (w h l : Nat) (st : Sto), Fits w h l → k08.callT C (n + 2) 6 [.tup [.int w, .int h, .int l]] st = .ok (.bl true) st := fun n w h l st f => size_ok (rw' := k08.callT C (n + 1) 0) (fun _ _ => whole_int) f st
  have init : ∀ n, InitS (k08.callT C (n + 4) 8) := fun n => init_S (rs := k08.callT C (n + 2) 6) (rb := k08.callT C (n + 2) 2) (rl := k08.callT C (n + 2) 3) (rc := k08.callT C (n + 2) 4) (fun w h l f st => size n w h l st f) (fun b st => bar_ok (rw' := k08.callT C (n + 1) 0) (ry := k08.callT C (n + 1) 1) (fun _ _ => whole_int) (fun _ _ => way_ok)) (fun w h l b st h => within_ok h) (fun l b st hl => cells_ok hl)
  have of : ∀ n, OfS (k08.callT C (n + 5) 9) C := fun n => of_ok (init n) C
  have mir : ∀ n, MoveS (k08.callT C (n + 6) 15) (fun w _ l => mirB w l) false := fun n => mir_ok (of n)
  have prof : ∀ n, ProfS (k08.callT C (n + 2) 23) := fun n => prof_ok
  have seam : ∀ n, SeamsS (k08.callT C (n + 3) 26) := fun n => seams_ok (rp := k08.callT C (n + 2) 23) (ru := k08.callT C (n + 2) 25) (prof n) fun a N f st hN => uncrossed_ok hN
  have isl : ∀ n (w h l : Nat) (a : Bool) (c : Nat) (st : Sto), Fits w h l → (c + 1 < if a = true then w else h) → k08.callT C (n + 3) 20 [.tup [.int w, .int h, .int l], lineD a c] st = .ok (.bl true) st := fun n w h l a c st ft hc =>
    isline_ok (rs := k08.callT C (n + 2) 6) (rw' := k08.callT C (n + 2) 17) (ri := k08.callT C (n + 2) 0) (rd := k08.callT C (n + 2) 18) (fun st => size n w h l st ft) (fun _ _ => lineway_ok) (fun _ _ => whole_int) (fun _ _ => side_ok) hc
  have cross : ∀ n, CrossS (k08.callT C (n + 4) 24) := fun n => cross_ok (rp := k08.callT C (n + 3) 23) (rl := k08.callT C (n + 3) 20) (prof (n + 1)) (isl n)
  have rem : ∀ n, RestS (k08.callT C (n + 4) 21) := fun n => rem_ok (rl := k08.callT C (n + 3) 20) (rh := k08.callT C (n + 3) 5) (ra := k08.callT C (n + 3) 19) (isl n) (fun ft st => hold_ok ft st) across_ok
  exact law_ok (rnum := k08.callT C 11 27) (rr := k08.callT C 11 36) Hd.numbers_ok (right_ok (C := C) (ra := k08.callT C 10 33) (rm := k08.callT C 10 15) (rf := k08.callT C 10 9) (rti := k08.callT C 10 31) (rto := k08.callT C 10 32) (rp := k08.callT C 10 29) (rse := k08.callT C 10 26) (rli := k08.callT C 10 35) (rc := k08.callT C 10 24) (rre := k08.callT C 10 34) (rrm := k08.callT C 10 21) (rne := k08.callT C 10 22) (rln := k08.callT C 10 16) (rpf := k08.callT C 10 23)
    any (mir 4) (of 5) turns_ok turnof_ok (pick 8) (seam 7) (fun ft st => lines_ok ft st) (cross 6) rest_ok (rem 6) (need_ok (rem 5)) len_ok (prof 8)) ns hns
end K08
theorem k08.main_run : ∀ C_Floor : PySem.Addr, ∀ ns : List Int, ns.length ≤ 63 → ∃ st', k08.callT C_Floor 12 37 [.frz (ns.map L3.D.int)] [] = .ok (.bl true) st' := fun C ns h => K08.main_run C ns h

set_option maxHeartbeats 4000000
namespace k08
open PySem PySem.Spec PyProof.Rows L2 L3
def top (i : Nat) : Stmt := PySem.Challenge.pw_bondfloors_k08_whole_remainders_of_cross.main.body.getD i (.Pass ⟨0, 0, 0, 0⟩)
def inCls (s : Stmt) (j : Nat) : Stmt := match s with
  | .ClassDef _ _ _ b _ _ _ _ _ _ _ => b.getD j (.Pass ⟨0, 0, 0, 0⟩)
  | _ => .Pass ⟨0, 0, 0, 0⟩
abbrev s_is_whole : Stmt := top 2
abbrev N_is_whole : List Str := ["value"]
theorem sc_is_whole : FnScope N_is_whole ["value"] (defScope s_is_whole) := ⟨rfl, rfl, rfl, by decide +kernel, rfl, by decide +kernel, by decide +kernel⟩
abbrev s_is_way : Stmt := top 7
abbrev N_is_way : List Str := ["value"]
theorem sc_is_way : FnScope N_is_way ["value"] (defScope s_is_way) := ⟨rfl, rfl, rfl, by decide +kernel, rfl, by decide +kernel, by decide +kernel⟩
abbrev s_is_bar : Stmt := top 9
abbrev N_is_bar : List Str := ["value", "x", "y", "way"]
theorem sc_is_bar : FnScope N_is_bar ["value"] (defScope s_is_bar) := ⟨rfl, rfl, rfl, by decide +kernel, rfl, by decide +kernel, by decide +kernel⟩
abbrev s_lies_within : Stmt := top 10
abbrev N_lies_within : List Str := ["size", "bar", "width", "height", "length", "x", "y", "way"]
theorem sc_lies_within : FnScope N_lies_within ["size", "bar"] (defScope s_lies_within) := ⟨rfl, rfl, rfl, by decide +kernel, rfl, by decide +kernel, by decide +kernel⟩
abbrev s_cells_of : Stmt := top 11
abbrev N_cells_of : List Str := ["bar", "length", "x", "y", "way", "step"]
theorem sc_cells_of : FnScope N_cells_of ["bar", "length"] (defScope s_cells_of) := ⟨rfl, rfl, rfl, by decide +kernel, rfl, by decide +kernel, by decide +kernel⟩
abbrev s_can_hold_floor : Stmt := top 12
abbrev N_can_hold_floor : List Str := ["size", "width", "height", "length"]
theorem sc_can_hold_floor : FnScope N_can_hold_floor ["size"] (defScope s_can_hold_floor) := ⟨rfl, rfl, rfl, by decide +kernel, rfl, by decide +kernel, by decide +kernel⟩
abbrev s_is_size : Stmt := top 15
abbrev N_is_size : List Str := ["value", "width", "height", "length", "item"]
theorem sc_is_size : FnScope N_is_size ["value"] (defScope s_is_size) := ⟨rfl, rfl, rfl, by decide +kernel, rfl, by decide +kernel, by decide +kernel⟩
abbrev s_covered_cells : Stmt := top 24
abbrev N_covered_cells : List Str := ["size", "bars", "width", "height", "length", "bar_of", "bar", "cell"]
theorem sc_covered_cells : FnScope N_covered_cells ["size", "bars"] (defScope s_covered_cells) := ⟨rfl, rfl, rfl, by decide +kernel, rfl, by decide +kernel, by decide +kernel⟩
abbrev s_Floor___init__ : Stmt := inCls (top 25) 0
abbrev N_Floor___init__ : List Str := ["self", "size", "bars", "bar_of"]
theorem sc_Floor___init__ : FnScope N_Floor___init__ ["self", "size", "bars"] (defScope s_Floor___init__) := ⟨rfl, rfl, rfl, by decide +kernel, rfl, by decide +kernel, by decide +kernel⟩
abbrev s_Floor_of : Stmt := inCls (top 25) 1
abbrev N_Floor_of : List Str := ["cls", "size", "bars"]
theorem sc_Floor_of : FnScope N_Floor_of ["cls", "size", "bars"] (defScope s_Floor_of) := ⟨rfl, rfl, rfl, by decide +kernel, rfl, by decide +kernel, by decide +kernel⟩
abbrev s_Floor_size : Stmt := inCls (top 25) 3
abbrev N_Floor_size : List Str := ["self"]
theorem sc_Floor_size : FnScope N_Floor_size ["self"] (defScope s_Floor_size) := ⟨rfl, rfl, rfl, by decide +kernel, rfl, by decide +kernel, by decide +kernel⟩
abbrev s_Floor_width : Stmt := inCls (top 25) 4
abbrev N_Floor_width : List Str := ["self"]
theorem sc_Floor_width : FnScope N_Floor_width ["self"] (defScope s_Floor_width) := ⟨rfl, rfl, rfl, by decide +kernel, rfl, by decide +kernel, by decide +kernel⟩
abbrev s_Floor_height : Stmt := inCls (top 25) 5
abbrev N_Floor_height : List Str := ["self"]
theorem sc_Floor_height : FnScope N_Floor_height ["self"] (defScope s_Floor_height) := ⟨rfl, rfl, rfl, by decide +kernel, rfl, by decide +kernel, by decide +kernel⟩
abbrev s_Floor_length : Stmt := inCls (top 25) 6
abbrev N_Floor_length : List Str := ["self"]
theorem sc_Floor_length : FnScope N_Floor_length ["self"] (defScope s_Floor_length) := ⟨rfl, rfl, rfl, by decide +kernel, rfl, by decide +kernel, by decide +kernel⟩
abbrev s_Floor_bars : Stmt := inCls (top 25) 7
abbrev N_Floor_bars : List Str := ["self"]
theorem sc_Floor_bars : FnScope N_Floor_bars ["self"] (defScope s_Floor_bars) := ⟨rfl, rfl, rfl, by decide +kernel, rfl, by decide +kernel, by decide +kernel⟩
abbrev s_Floor_mirrored : Stmt := inCls (top 25) 10
abbrev N_Floor_mirrored : List Str := ["self", "width", "_", "length", "bars", "x", "y", "way", "last"]
theorem sc_Floor_mirrored : FnScope N_Floor_mirrored ["self"] (defScope s_Floor_mirrored) := ⟨rfl, rfl, rfl, by decide +kernel, rfl, by decide +kernel, by decide +kernel⟩
abbrev s_Floor___len__ : Stmt := inCls (top 25) 12
abbrev N_Floor___len__ : List Str := ["self"]
theorem sc_Floor___len__ : FnScope N_Floor___len__ ["self"] (defScope s_Floor___len__) := ⟨rfl, rfl, rfl, by decide +kernel, rfl, by decide +kernel, by decide +kernel⟩
abbrev s_is_line_way : Stmt := top 29
abbrev N_is_line_way : List Str := ["value"]
theorem sc_is_line_way : FnScope N_is_line_way ["value"] (defScope s_is_line_way) := ⟨rfl, rfl, rfl, by decide +kernel, rfl, by decide +kernel, by decide +kernel⟩
abbrev s_side_along : Stmt := top 30
abbrev N_side_along : List Str := ["size", "way"]
theorem sc_side_along : FnScope N_side_along ["size", "way"] (defScope s_side_along) := ⟨rfl, rfl, rfl, by decide +kernel, rfl, by decide +kernel, by decide +kernel⟩
abbrev s_side_across : Stmt := top 31
abbrev N_side_across : List Str := ["size", "way"]
theorem sc_side_across : FnScope N_side_across ["size", "way"] (defScope s_side_across) := ⟨rfl, rfl, rfl, by decide +kernel, rfl, by decide +kernel, by decide +kernel⟩
abbrev s_is_line : Stmt := top 32
abbrev N_is_line : List Str := ["size", "value", "way", "at"]
theorem sc_is_line : FnScope N_is_line ["size", "value"] (defScope s_is_line) := ⟨rfl, rfl, rfl, by decide +kernel, rfl, by decide +kernel, by decide +kernel⟩
abbrev s_remainder : Stmt := top 33
abbrev N_remainder : List Str := ["size", "line", "way", "at", "length"]
theorem sc_remainder : FnScope N_remainder ["size", "line"] (defScope s_remainder) := ⟨rfl, rfl, rfl, by decide +kernel, rfl, by decide +kernel, by decide +kernel⟩
abbrev s_need : Stmt := top 34
abbrev N_need : List Str := ["size", "line"]
theorem sc_need : FnScope N_need ["size", "line"] (defScope s_need) := ⟨rfl, rfl, rfl, by decide +kernel, rfl, by decide +kernel, by decide +kernel⟩
abbrev s_profile : Stmt := top 35
abbrev N_profile : List Str := ["floor", "uprights", "levels", "x", "y", "way", "counts", "first", "at"]
theorem sc_profile : FnScope N_profile ["floor"] (defScope s_profile) := ⟨rfl, rfl, rfl, by decide +kernel, rfl, by decide +kernel, by decide +kernel⟩
abbrev s_crossings : Stmt := top 36
abbrev N_crossings : List Str := ["floor", "line", "uprights", "levels", "way", "at"]
theorem sc_crossings : FnScope N_crossings ["floor", "line"] (defScope s_crossings) := ⟨rfl, rfl, rfl, by decide +kernel, rfl, by decide +kernel, by decide +kernel⟩
abbrev s_uncrossed : Stmt := top 37
abbrev N_uncrossed : List Str := ["way", "counts", "at", "many"]
theorem sc_uncrossed : FnScope N_uncrossed ["way", "counts"] (defScope s_uncrossed) := ⟨rfl, rfl, rfl, by decide +kernel, rfl, by decide +kernel, by decide +kernel⟩
abbrev s_seams : Stmt := top 38
abbrev N_seams : List Str := ["floor", "uprights", "levels"]
theorem sc_seams : FnScope N_seams ["floor"] (defScope s_seams) := ⟨rfl, rfl, rfl, by decide +kernel, rfl, by decide +kernel, by decide +kernel⟩
abbrev s_law_numbers : Stmt := top 40
abbrev N_law_numbers : List Str := ["script", "at", "cell", "whole", "mixed"]
theorem sc_law_numbers : FnScope N_law_numbers ["script", "at"] (defScope s_law_numbers) := ⟨rfl, rfl, rfl, by decide +kernel, rfl, by decide +kernel, by decide +kernel⟩
abbrev s_law_cast : Stmt := top 41
abbrev N_law_cast : List Str := ["die", "total", "one", "two", "found"]
theorem sc_law_cast : FnScope N_law_cast ["die", "total"] (defScope s_law_cast) := ⟨rfl, rfl, rfl, by decide +kernel, rfl, by decide +kernel, by decide +kernel⟩
abbrev s_law_pick : Stmt := top 42
abbrev N_law_pick : List Str := ["die", "items"]
theorem sc_law_pick : FnScope N_law_pick ["die", "items"] (defScope s_law_pick) := ⟨rfl, rfl, rfl, by decide +kernel, rfl, by decide +kernel, by decide +kernel⟩
abbrev s_law_plain_bars : Stmt := top 43
abbrev N_law_plain_bars : List Str := ["wide", "high", "long", "found", "y", "x"]
theorem sc_law_plain_bars : FnScope N_law_plain_bars ["wide", "high", "long"] (defScope s_law_plain_bars) := ⟨rfl, rfl, rfl, by decide +kernel, rfl, by decide +kernel, by decide +kernel⟩
abbrev s_law_turns_in : Stmt := top 44
abbrev N_law_turns_in : List Str := ["bars", "long", "found", "x", "y", "way", "more", "at", "bar"]
theorem sc_law_turns_in : FnScope N_law_turns_in ["bars", "long"] (defScope s_law_turns_in) := ⟨rfl, rfl, rfl, by decide +kernel, rfl, by decide +kernel, by decide +kernel⟩
abbrev s_law_turn_of : Stmt := top 45
abbrev N_law_turn_of : List Str := ["bars", "long", "square", "x", "y", "way", "gone", "come", "at", "other", "bar"]
theorem sc_law_turn_of : FnScope N_law_turn_of ["bars", "long", "square"] (defScope s_law_turn_of) := ⟨rfl, rfl, rfl, by decide +kernel, rfl, by decide +kernel, by decide +kernel⟩
abbrev s_law_any_floor : Stmt := top 46
abbrev N_law_any_floor : List Str := ["die", "most", "long", "wide", "high", "bars", "turn", "some"]
theorem sc_law_any_floor : FnScope N_law_any_floor ["die", "most"] (defScope s_law_any_floor) := ⟨rfl, rfl, rfl, by decide +kernel, rfl, by decide +kernel, by decide +kernel⟩
abbrev s_law_rest_of : Stmt := top 47
abbrev N_law_rest_of : List Str := ["size", "line"]
theorem sc_law_rest_of : FnScope N_law_rest_of ["size", "line"] (defScope s_law_rest_of) := ⟨rfl, rfl, rfl, by decide +kernel, rfl, by decide +kernel, by decide +kernel⟩
abbrev s_law_lines : Stmt := top 48
abbrev N_law_lines : List Str := ["size", "at"]
theorem sc_law_lines : FnScope N_law_lines ["size"] (defScope s_law_lines) := ⟨rfl, rfl, rfl, by decide +kernel, rfl, by decide +kernel, by decide +kernel⟩
abbrev s_law_right : Stmt := top 49
abbrev N_law_right : List Str := ["die", "size", "bars", "floors", "long", "turn", "floor", "some", "total", "gone", "line", "many", "rest"]
theorem sc_law_right : FnScope N_law_right ["die"] (defScope s_law_right) := ⟨rfl, rfl, rfl, by decide +kernel, rfl, by decide +kernel, by decide +kernel⟩
abbrev s_law : Stmt := top 50
abbrev N_law : List Str := ["script", "at", "die", "turn"]
theorem sc_law : FnScope N_law ["script"] (defScope s_law) := ⟨rfl, rfl, rfl, by decide +kernel, rfl, by decide +kernel, by decide +kernel⟩
structure Tx (K : PySem.W.Frag) (mg : Str → Option Value) where
  C_Floor : Addr
  g_Floor : mg "Floor" = some (.ref C_Floor)
  cb_Floor : clB K C_Floor = true
  na_Floor : naB K C_Floor ["_size", "_bars", "_bar_of"] = true
  is_Floor : isB K C_Floor = true
  a_is_whole : Addr
  d_is_whole : FuncData
  F_is_whole : Fun K "is_whole" "is_whole" s_is_whole a_is_whole d_is_whole
  b_is_whole : Binds K d_is_whole ["value"] []
  g_is_whole : mg "is_whole" = some (.ref a_is_whole)
  a_is_way : Addr
  d_is_way : FuncData
  F_is_way : Fun K "is_way" "is_way" s_is_way a_is_way d_is_way
  b_is_way : Binds K d_is_way ["value"] []
  g_is_way : mg "is_way" = some (.ref a_is_way)
  a_is_bar : Addr
  d_is_bar : FuncData
  F_is_bar : Fun K "is_bar" "is_bar" s_is_bar a_is_bar d_is_bar
  b_is_bar : Binds K d_is_bar ["value"] []
  g_is_bar : mg "is_bar" = some (.ref a_is_bar)
  a_lies_within : Addr
  d_lies_within : FuncData
  F_lies_within : Fun K "lies_within" "lies_within" s_lies_within a_lies_within d_lies_within
  b_lies_within : Binds K d_lies_within ["size", "bar"] []
  g_lies_within : mg "lies_within" = some (.ref a_lies_within)
  a_cells_of : Addr
  d_cells_of : FuncData
  F_cells_of : Fun K "cells_of" "cells_of" s_cells_of a_cells_of d_cells_of
  b_cells_of : Binds K d_cells_of ["bar", "length"] []
  g_cells_of : mg "cells_of" = some (.ref a_cells_of)
  a_can_hold_floor : Addr
  d_can_hold_floor : FuncData
  F_can_hold_floor : Fun K "can_hold_floor" "can_hold_floor" s_can_hold_floor a_can_hold_floor d_can_hold_floor
  b_can_hold_floor : Binds K d_can_hold_floor ["size"] []
  g_can_hold_floor : mg "can_hold_floor" = some (.ref a_can_hold_floor)
  a_is_size : Addr
  d_is_size : FuncData
  F_is_size : Fun K "is_size" "is_size" s_is_size a_is_size d_is_size
  b_is_size : Binds K d_is_size ["value"] []
  g_is_size : mg "is_size" = some (.ref a_is_size)
  a_covered_cells : Addr
  d_covered_cells : FuncData
  F_covered_cells : Fun K "covered_cells" "covered_cells" s_covered_cells a_covered_cells d_covered_cells
  b_covered_cells : Binds K d_covered_cells ["size", "bars"] []
  g_covered_cells : mg "covered_cells" = some (.ref a_covered_cells)
  a_Floor___init__ : Addr
  d_Floor___init__ : FuncData
  F_Floor___init__ : Fun K "__init__" "Floor.__init__" s_Floor___init__ a_Floor___init__ d_Floor___init__
  mk_Floor : mkB K C_Floor a_Floor___init__ = true
  a_Floor_of : Addr
  d_Floor_of : FuncData
  F_Floor_of : Fun K "of" "Floor.of" s_Floor_of a_Floor_of d_Floor_of
  b_Floor_of : Binds K d_Floor_of ["cls", "size", "bars"] []
  p_Floor_of : Addr
  cm_Floor_of : cmB K C_Floor (.type "type") "of" p_Floor_of a_Floor_of = true
  a_Floor_size : Addr
  d_Floor_size : FuncData
  F_Floor_size : Fun K "size" "Floor.size" s_Floor_size a_Floor_size d_Floor_size
  b_Floor_size : Binds K d_Floor_size ["self"] []
  p_Floor_size : Addr
  pr_Floor_size : prB K C_Floor "size" p_Floor_size a_Floor_size = true
  a_Floor_width : Addr
  d_Floor_width : FuncData
  F_Floor_width : Fun K "width" "Floor.width" s_Floor_width a_Floor_width d_Floor_width
  b_Floor_width : Binds K d_Floor_width ["self"] []
  p_Floor_width : Addr
  pr_Floor_width : prB K C_Floor "width" p_Floor_width a_Floor_width = true
  a_Floor_height : Addr
  d_Floor_height : FuncData
  F_Floor_height : Fun K "height" "Floor.height" s_Floor_height a_Floor_height d_Floor_height
  b_Floor_height : Binds K d_Floor_height ["self"] []
  p_Floor_height : Addr
  pr_Floor_height : prB K C_Floor "height" p_Floor_height a_Floor_height = true
  a_Floor_length : Addr
  d_Floor_length : FuncData
  F_Floor_length : Fun K "length" "Floor.length" s_Floor_length a_Floor_length d_Floor_length
  b_Floor_length : Binds K d_Floor_length ["self"] []
  p_Floor_length : Addr
  pr_Floor_length : prB K C_Floor "length" p_Floor_length a_Floor_length = true
  a_Floor_bars : Addr
  d_Floor_bars : FuncData
  F_Floor_bars : Fun K "bars" "Floor.bars" s_Floor_bars a_Floor_bars d_Floor_bars
  b_Floor_bars : Binds K d_Floor_bars ["self"] []
  p_Floor_bars : Addr
  pr_Floor_bars : prB K C_Floor "bars" p_Floor_bars a_Floor_bars = true
  a_Floor_mirrored : Addr
  d_Floor_mirrored : FuncData
  F_Floor_mirrored : Fun K "mirrored" "Floor.mirrored" s_Floor_mirrored a_Floor_mirrored d_Floor_mirrored
  b_Floor_mirrored : Binds K d_Floor_mirrored ["self"] []
  mt_Floor_mirrored : mtB K C_Floor "mirrored" a_Floor_mirrored = true
  a_Floor___len__ : Addr
  d_Floor___len__ : FuncData
  F_Floor___len__ : Fun K "__len__" "Floor.__len__" s_Floor___len__ a_Floor___len__ d_Floor___len__
  b_Floor___len__ : Binds K d_Floor___len__ ["self"] []
  mt_Floor___len__ : mtB K C_Floor "__len__" a_Floor___len__ = true
  a_is_line_way : Addr
  d_is_line_way : FuncData
  F_is_line_way : Fun K "is_line_way" "is_line_way" s_is_line_way a_is_line_way d_is_line_way
  b_is_line_way : Binds K d_is_line_way ["value"] []
  g_is_line_way : mg "is_line_way" = some (.ref a_is_line_way)
  a_side_along : Addr
  d_side_along : FuncData
  F_side_along : Fun K "side_along" "side_along" s_side_along a_side_along d_side_along
  b_side_along : Binds K d_side_along ["size", "way"] []
  g_side_along : mg "side_along" = some (.ref a_side_along)
  a_side_across : Addr
  d_side_across : FuncData
  F_side_across : Fun K "side_across" "side_across" s_side_across a_side_across d_side_across
  b_side_across : Binds K d_side_across ["size", "way"] []
  g_side_across : mg "side_across" = some (.ref a_side_across)
  a_is_line : Addr
  d_is_line : FuncData
  F_is_line : Fun K "is_line" "is_line" s_is_line a_is_line d_is_line
  b_is_line : Binds K d_is_line ["size", "value"] []
  g_is_line : mg "is_line" = some (.ref a_is_line)
  a_remainder : Addr
  d_remainder : FuncData
  F_remainder : Fun K "remainder" "remainder" s_remainder a_remainder d_remainder
  b_remainder : Binds K d_remainder ["size", "line"] []
  g_remainder : mg "remainder" = some (.ref a_remainder)
  a_need : Addr
  d_need : FuncData
  F_need : Fun K "need" "need" s_need a_need d_need
  b_need : Binds K d_need ["size", "line"] []
  g_need : mg "need" = some (.ref a_need)
  a_profile : Addr
  d_profile : FuncData
  F_profile : Fun K "profile" "profile" s_profile a_profile d_profile
  b_profile : Binds K d_profile ["floor"] []
  g_profile : mg "profile" = some (.ref a_profile)
  a_crossings : Addr
  d_crossings : FuncData
  F_crossings : Fun K "crossings" "crossings" s_crossings a_crossings d_crossings
  b_crossings : Binds K d_crossings ["floor", "line"] []
  g_crossings : mg "crossings" = some (.ref a_crossings)
  a_uncrossed : Addr
  d_uncrossed : FuncData
  F_uncrossed : Fun K "uncrossed" "uncrossed" s_uncrossed a_uncrossed d_uncrossed
  b_uncrossed : Binds K d_uncrossed ["way", "counts"] []
  g_uncrossed : mg "uncrossed" = some (.ref a_uncrossed)
  a_seams : Addr
  d_seams : FuncData
  F_seams : Fun K "seams" "seams" s_seams a_seams d_seams
  b_seams : Binds K d_seams ["floor"] []
  g_seams : mg "seams" = some (.ref a_seams)
  a_law_numbers : Addr
  d_law_numbers : FuncData
  F_law_numbers : Fun K "_law_numbers" "_law_numbers" s_law_numbers a_law_numbers d_law_numbers
  b_law_numbers : Binds K d_law_numbers ["script", "at"] []
  g_law_numbers : mg "_law_numbers" = some (.ref a_law_numbers)
  a_law_cast : Addr
  d_law_cast : FuncData
  F_law_cast : Fun K "_law_cast" "_law_cast" s_law_cast a_law_cast d_law_cast
  b_law_cast : Binds K d_law_cast ["die", "total"] []
  g_law_cast : mg "_law_cast" = some (.ref a_law_cast)
  a_law_pick : Addr
  d_law_pick : FuncData
  F_law_pick : Fun K "_law_pick" "_law_pick" s_law_pick a_law_pick d_law_pick
  b_law_pick : Binds K d_law_pick ["die", "items"] []
  g_law_pick : mg "_law_pick" = some (.ref a_law_pick)
  a_law_plain_bars : Addr
  d_law_plain_bars : FuncData
  F_law_plain_bars : Fun K "_law_plain_bars" "_law_plain_bars" s_law_plain_bars a_law_plain_bars d_law_plain_bars
  b_law_plain_bars : Binds K d_law_plain_bars ["wide", "high", "long"] []
  g_law_plain_bars : mg "_law_plain_bars" = some (.ref a_law_plain_bars)
  a_law_turns_in : Addr
  d_law_turns_in : FuncData
  F_law_turns_in : Fun K "_law_turns_in" "_law_turns_in" s_law_turns_in a_law_turns_in d_law_turns_in
  b_law_turns_in : Binds K d_law_turns_in ["bars", "long"] []
  g_law_turns_in : mg "_law_turns_in" = some (.ref a_law_turns_in)
  a_law_turn_of : Addr
  d_law_turn_of : FuncData
  F_law_turn_of : Fun K "_law_turn_of" "_law_turn_of" s_law_turn_of a_law_turn_of d_law_turn_of
  b_law_turn_of : Binds K d_law_turn_of ["bars", "long", "square"] []
  g_law_turn_of : mg "_law_turn_of" = some (.ref a_law_turn_of)
  a_law_any_floor : Addr
  d_law_any_floor : FuncData
  F_law_any_floor : Fun K "_law_any_floor" "_law_any_floor" s_law_any_floor a_law_any_floor d_law_any_floor
  b_law_any_floor : Binds K d_law_any_floor ["die", "most"] []
  g_law_any_floor : mg "_law_any_floor" = some (.ref a_law_any_floor)
  a_law_rest_of : Addr
  d_law_rest_of : FuncData
  F_law_rest_of : Fun K "_law_rest_of" "_law_rest_of" s_law_rest_of a_law_rest_of d_law_rest_of
  b_law_rest_of : Binds K d_law_rest_of ["size", "line"] []
  g_law_rest_of : mg "_law_rest_of" = some (.ref a_law_rest_of)
  a_law_lines : Addr
  d_law_lines : FuncData
  F_law_lines : Fun K "_law_lines" "_law_lines" s_law_lines a_law_lines d_law_lines
  b_law_lines : Binds K d_law_lines ["size"] []
  g_law_lines : mg "_law_lines" = some (.ref a_law_lines)
  a_law_right : Addr
  d_law_right : FuncData
  F_law_right : Fun K "_law_right" "_law_right" s_law_right a_law_right d_law_right
  b_law_right : Binds K d_law_right ["die"] []
  g_law_right : mg "_law_right" = some (.ref a_law_right)
  a_law : Addr
  d_law : FuncData
  F_law : Fun K "law" "law" s_law a_law d_law
  b_law : Binds K d_law ["script"] []
  g_law : mg "law" = some (.ref a_law)
  m_abs : mg "abs" = none
  m_all : mg "all" = none
  m_bool : mg "bool" = none
  m_enumerate : mg "enumerate" = none
  m_int : mg "int" = none
  m_isinstance : mg "isinstance" = none
  m_len : mg "len" = none
  m_max : mg "max" = none
  m_min : mg "min" = none
  m_range : mg "range" = none
  m_sorted : mg "sorted" = none
  m_str : mg "str" = none
  m_sum : mg "sum" = none
  m_tuple : mg "tuple" = none
  t_ACROSS : Tok
  c_ACROSS : mg "ACROSS" = some (.str "across" t_ACROSS)
  t_DOWN : Tok
  c_DOWN : mg "DOWN" = some (.str "down" t_DOWN)
  t_LEVEL : Tok
  c_LEVEL : mg "LEVEL" = some (.str "level" t_LEVEL)
  t_MAX_CELLS : Tok
  c_MAX_CELLS : mg "MAX_CELLS" = some (.int 400 t_MAX_CELLS)
  t_MAX_SIDE : Tok
  c_MAX_SIDE : mg "MAX_SIDE" = some (.int 1000000000000000000000000000000 t_MAX_SIDE)
  t_UPRIGHT : Tok
  c_UPRIGHT : mg "UPRIGHT" = some (.str "upright" t_UPRIGHT)
theorem sh_is_whole {C_Floor : Addr} : ∀ (n : Nat) (ds : List D) (st : Sto), ds.length ≠ 1 → callT C_Floor n 0 ds st = .bad
  | 0, _, _, _ => rfl
  | _ + 1, ds, st, h => runDef_short ds st h
theorem sh_is_way {C_Floor : Addr} : ∀ (n : Nat) (ds : List D) (st : Sto), ds.length ≠ 1 → callT C_Floor n 1 ds st = .bad
  | 0, _, _, _ => rfl
  | _ + 1, ds, st, h => runDef_short ds st h
theorem sh_is_bar {C_Floor : Addr} : ∀ (n : Nat) (ds : List D) (st : Sto), ds.length ≠ 1 → callT C_Floor n 2 ds st = .bad
  | 0, _, _, _ => rfl
  | _ + 1, ds, st, h => runDef_short ds st h
theorem sh_lies_within {C_Floor : Addr} : ∀ (n : Nat) (ds : List D) (st : Sto), ds.length ≠ 2 → callT C_Floor n 3 ds st = .bad
  | 0, _, _, _ => rfl
  | _ + 1, ds, st, h => runDef_short ds st h
theorem sh_cells_of {C_Floor : Addr} : ∀ (n : Nat) (ds : List D) (st : Sto), ds.length ≠ 2 → callT C_Floor n 4 ds st = .bad
  | 0, _, _, _ => rfl
  | _ + 1, ds, st, h => runDef_short ds st h
theorem sh_can_hold_floor {C_Floor : Addr} : ∀ (n : Nat) (ds : List D) (st : Sto), ds.length ≠ 1 → callT C_Floor n 5 ds st = .bad
  | 0, _, _, _ => rfl
  | _ + 1, ds, st, h => runDef_short ds st h
theorem sh_is_size {C_Floor : Addr} : ∀ (n : Nat) (ds : List D) (st : Sto), ds.length ≠ 1 → callT C_Floor n 6 ds st = .bad
  | 0, _, _, _ => rfl
  | _ + 1, ds, st, h => runDef_short ds st h
theorem sh_covered_cells {C_Floor : Addr} : ∀ (n : Nat) (ds : List D) (st : Sto), ds.length ≠ 2 → callT C_Floor n 7 ds st = .bad
  | 0, _, _, _ => rfl
  | _ + 1, ds, st, h => runDef_short ds st h
theorem sh_Floor_of {C_Floor : Addr} : ∀ (n : Nat) (ds : List D) (st : Sto), ds.length ≠ 3 → callT C_Floor n 9 ds st = .bad
  | 0, _, _, _ => rfl
  | _ + 1, ds, st, h => runDef_short ds st h
theorem sh_Floor_size {C_Floor : Addr} : ∀ (n : Nat) (ds : List D) (st : Sto), ds.length ≠ 1 → callT C_Floor n 10 ds st = .bad
  | 0, _, _, _ => rfl
  | _ + 1, ds, st, h => runDef_short ds st h
theorem sh_Floor_width {C_Floor : Addr} : ∀ (n : Nat) (ds : List D) (st : Sto), ds.length ≠ 1 → callT C_Floor n 11 ds st = .bad
  | 0, _, _, _ => rfl
  | _ + 1, ds, st, h => runDef_short ds st h
theorem sh_Floor_height {C_Floor : Addr} : ∀ (n : Nat) (ds : List D) (st : Sto), ds.length ≠ 1 → callT C_Floor n 12 ds st = .bad
  | 0, _, _, _ => rfl
  | _ + 1, ds, st, h => runDef_short ds st h
theorem sh_Floor_length {C_Floor : Addr} : ∀ (n : Nat) (ds : List D) (st : Sto), ds.length ≠ 1 → callT C_Floor n 13 ds st = .bad
  | 0, _, _, _ => rfl
  | _ + 1, ds, st, h => runDef_short ds st h
theorem sh_Floor_bars {C_Floor : Addr} : ∀ (n : Nat) (ds : List D) (st : Sto), ds.length ≠ 1 → callT C_Floor n 14 ds st = .bad
  | 0, _, _, _ => rfl
  | _ + 1, ds, st, h => runDef_short ds st h
theorem sh_Floor_mirrored {C_Floor : Addr} : ∀ (n : Nat) (ds : List D) (st : Sto), ds.length ≠ 1 → callT C_Floor n 15 ds st = .bad
  | 0, _, _, _ => rfl
  | _ + 1, ds, st, h => runDef_short ds st h
theorem sh_Floor___len__ {C_Floor : Addr} : ∀ (n : Nat) (ds : List D) (st : Sto), ds.length ≠ 1 → callT C_Floor n 16 ds st = .bad
  | 0, _, _, _ => rfl
  | _ + 1, ds, st, h => runDef_short ds st h
theorem sh_is_line_way {C_Floor : Addr} : ∀ (n : Nat) (ds : List D) (st : Sto), ds.length ≠ 1 → callT C_Floor n 17 ds st = .bad
  | 0, _, _, _ => rfl
  | _ + 1, ds, st, h => runDef_short ds st h
theorem sh_side_along {C_Floor : Addr} : ∀ (n : Nat) (ds : List D) (st : Sto), ds.length ≠ 2 → callT C_Floor n 18 ds st = .bad
  | 0, _, _, _ => rfl
  | _ + 1, ds, st, h => runDef_short ds st h
theorem sh_side_across {C_Floor : Addr} : ∀ (n : Nat) (ds : List D) (st : Sto), ds.length ≠ 2 → callT C_Floor n 19 ds st = .bad
  | 0, _, _, _ => rfl
  | _ + 1, ds, st, h => runDef_short ds st h
theorem sh_is_line {C_Floor : Addr} : ∀ (n : Nat) (ds : List D) (st : Sto), ds.length ≠ 2 → callT C_Floor n 20 ds st = .bad
  | 0, _, _, _ => rfl
  | _ + 1, ds, st, h => runDef_short ds st h
theorem sh_remainder {C_Floor : Addr} : ∀ (n : Nat) (ds : List D) (st : Sto), ds.length ≠ 2 → callT C_Floor n 21 ds st = .bad
  | 0, _, _, _ => rfl
  | _ + 1, ds, st, h => runDef_short ds st h
theorem sh_need {C_Floor : Addr} : ∀ (n : Nat) (ds : List D) (st : Sto), ds.length ≠ 2 → callT C_Floor n 22 ds st = .bad
  | 0, _, _, _ => rfl
  | _ + 1, ds, st, h => runDef_short ds st h
theorem sh_profile {C_Floor : Addr} : ∀ (n : Nat) (ds : List D) (st : Sto), ds.length ≠ 1 → callT C_Floor n 23 ds st = .bad
  | 0, _, _, _ => rfl
  | _ + 1, ds, st, h => runDef_short ds st h
theorem sh_crossings {C_Floor : Addr} : ∀ (n : Nat) (ds : List D) (st : Sto), ds.length ≠ 2 → callT C_Floor n 24 ds st = .bad
  | 0, _, _, _ => rfl
  | _ + 1, ds, st, h => runDef_short ds st h
theorem sh_uncrossed {C_Floor : Addr} : ∀ (n : Nat) (ds : List D) (st : Sto), ds.length ≠ 2 → callT C_Floor n 25 ds st = .bad
  | 0, _, _, _ => rfl
  | _ + 1, ds, st, h => runDef_short ds st h
theorem sh_seams {C_Floor : Addr} : ∀ (n : Nat) (ds : List D) (st : Sto), ds.length ≠ 1 → callT C_Floor n 26 ds st = .bad
  | 0, _, _, _ => rfl
  | _ + 1, ds, st, h => runDef_short ds st h
theorem sh_law_numbers {C_Floor : Addr} : ∀ (n : Nat) (ds : List D) (st : Sto), ds.length ≠ 2 → callT C_Floor n 27 ds st = .bad
  | 0, _, _, _ => rfl
  | _ + 1, ds, st, h => runDef_short ds st h
theorem sh_law_cast {C_Floor : Addr} : ∀ (n : Nat) (ds : List D) (st : Sto), ds.length ≠ 2 → callT C_Floor n 28 ds st = .bad
  | 0, _, _, _ => rfl
  | _ + 1, ds, st, h => runDef_short ds st h
theorem sh_law_pick {C_Floor : Addr} : ∀ (n : Nat) (ds : List D) (st : Sto), ds.length ≠ 2 → callT C_Floor n 29 ds st = .bad
  | 0, _, _, _ => rfl
  | _ + 1, ds, st, h => runDef_short ds st h
theorem sh_law_plain_bars {C_Floor : Addr} : ∀ (n : Nat) (ds : List D) (st : Sto), ds.length ≠ 3 → callT C_Floor n 30 ds st = .bad
  | 0, _, _, _ => rfl
  | _ + 1, ds, st, h => runDef_short ds st h
theorem sh_law_turns_in {C_Floor : Addr} : ∀ (n : Nat) (ds : List D) (st : Sto), ds.length ≠ 2 → callT C_Floor n 31 ds st = .bad
  | 0, _, _, _ => rfl
  | _ + 1, ds, st, h => runDef_short ds st h
theorem sh_law_turn_of {C_Floor : Addr} : ∀ (n : Nat) (ds : List D) (st : Sto), ds.length ≠ 3 → callT C_Floor n 32 ds st = .bad
  | 0, _, _, _ => rfl
  | _ + 1, ds, st, h => runDef_short ds st h
theorem sh_law_any_floor {C_Floor : Addr} : ∀ (n : Nat) (ds : List D) (st : Sto), ds.length ≠ 2 → callT C_Floor n 33 ds st = .bad
  | 0, _, _, _ => rfl
  | _ + 1, ds, st, h => runDef_short ds st h
theorem sh_law_rest_of {C_Floor : Addr} : ∀ (n : Nat) (ds : List D) (st : Sto), ds.length ≠ 2 → callT C_Floor n 34 ds st = .bad
  | 0, _, _, _ => rfl
  | _ + 1, ds, st, h => runDef_short ds st h
theorem sh_law_lines {C_Floor : Addr} : ∀ (n : Nat) (ds : List D) (st : Sto), ds.length ≠ 1 → callT C_Floor n 35 ds st = .bad
  | 0, _, _, _ => rfl
  | _ + 1, ds, st, h => runDef_short ds st h
theorem sh_law_right {C_Floor : Addr} : ∀ (n : Nat) (ds : List D) (st : Sto), ds.length ≠ 1 → callT C_Floor n 36 ds st = .bad
  | 0, _, _, _ => rfl
  | _ + 1, ds, st, h => runDef_short ds st h
theorem sh_law {C_Floor : Addr} : ∀ (n : Nat) (ds : List D) (st : Sto), ds.length ≠ 1 → callT C_Floor n 37 ds st = .bad
  | 0, _, _, _ => rfl
  | _ + 1, ds, st, h => runDef_short ds st h
section
variable {P : Program} {w : World} {K : PySem.W.Frag} {mg : Str → Option Value} {base : Heap}
structure OkAll (P : Program) (w : World) (K : PySem.W.Frag) (mg : Str → Option Value) (base : Heap) (T : Tx K mg) (n : Nat) : Prop where
  is_whole : FnOk P w K mg base (L2.CX P w) (4 * n) T.a_is_whole T.d_is_whole ["value"] (spOf K mg 1 (callT T.C_Floor n 0))
  is_way : FnOk P w K mg base (L2.CX P w) (4 * n) T.a_is_way T.d_is_way ["value"] (spOf K mg 1 (callT T.C_Floor n 1))
  is_bar : FnOk P w K mg base (L2.CX P w) (4 * n) T.a_is_bar T.d_is_bar ["value"] (spOf K mg 1 (callT T.C_Floor n 2))
  lies_within : FnOk P w K mg base (L2.CX P w) (4 * n) T.a_lies_within T.d_lies_within ["size", "bar"] (spOf K mg 2 (callT T.C_Floor n 3))
  cells_of : FnOk P w K mg base (L2.CX P w) (4 * n) T.a_cells_of T.d_cells_of ["bar", "length"] (spOf K mg 2 (callT T.C_Floor n 4))
  can_hold_floor : FnOk P w K mg base (L2.CX P w) (4 * n) T.a_can_hold_floor T.d_can_hold_floor ["size"] (spOf K mg 1 (callT T.C_Floor n 5))
  is_size : FnOk P w K mg base (L2.CX P w) (4 * n) T.a_is_size T.d_is_size ["value"] (spOf K mg 1 (callT T.C_Floor n 6))
  covered_cells : FnOk P w K mg base (L2.CX P w) (4 * n) T.a_covered_cells T.d_covered_cells ["size", "bars"] (spOf K mg 2 (callT T.C_Floor n 7))
  Floor___init__ : Pr3 P w K mg base (4 * n) T.a_Floor___init__ (callT T.C_Floor n 8)
  Floor_of : FnOk P w K mg base (L2.CX P w) (4 * n) T.a_Floor_of T.d_Floor_of ["cls", "size", "bars"] (spOf K mg 3 (callT T.C_Floor n 9))
  Floor_size : FnOk P w K mg base (L2.CX P w) (4 * n) T.a_Floor_size T.d_Floor_size ["self"] (spOf K mg 1 (callT T.C_Floor n 10))
  Floor_width : FnOk P w K mg base (L2.CX P w) (4 * n) T.a_Floor_width T.d_Floor_width ["self"] (spOf K mg 1 (callT T.C_Floor n 11))
  Floor_height : FnOk P w K mg base (L2.CX P w) (4 * n) T.a_Floor_height T.d_Floor_height ["self"] (spOf K mg 1 (callT T.C_Floor n 12))
  Floor_length : FnOk P w K mg base (L2.CX P w) (4 * n) T.a_Floor_length T.d_Floor_length ["self"] (spOf K mg 1 (callT T.C_Floor n 13))
  Floor_bars : FnOk P w K mg base (L2.CX P w) (4 * n) T.a_Floor_bars T.d_Floor_bars ["self"] (spOf K mg 1 (callT T.C_Floor n 14))
  Floor_mirrored : FnOk P w K mg base (L2.CX P w) (4 * n) T.a_Floor_mirrored T.d_Floor_mirrored ["self"] (spOf K mg 1 (callT T.C_Floor n 15))
  Floor___len__ : FnOk P w K mg base (L2.CX P w) (4 * n) T.a_Floor___len__ T.d_Floor___len__ ["self"] (spOf K mg 1 (callT T.C_Floor n 16))
  is_line_way : FnOk P w K mg base (L2.CX P w) (4 * n) T.a_is_line_way T.d_is_line_way ["value"] (spOf K mg 1 (callT T.C_Floor n 17))
  side_along : FnOk P w K mg base (L2.CX P w) (4 * n) T.a_side_along T.d_side_along ["size", "way"] (spOf K mg 2 (callT T.C_Floor n 18))
  side_across : FnOk P w K mg base (L2.CX P w) (4 * n) T.a_side_across T.d_side_across ["size", "way"] (spOf K mg 2 (callT T.C_Floor n 19))
  is_line : FnOk P w K mg base (L2.CX P w) (4 * n) T.a_is_line T.d_is_line ["size", "value"] (spOf K mg 2 (callT T.C_Floor n 20))
  remainder : FnOk P w K mg base (L2.CX P w) (4 * n) T.a_remainder T.d_remainder ["size", "line"] (spOf K mg 2 (callT T.C_Floor n 21))
  need : FnOk P w K mg base (L2.CX P w) (4 * n) T.a_need T.d_need ["size", "line"] (spOf K mg 2 (callT T.C_Floor n 22))
  profile : FnOk P w K mg base (L2.CX P w) (4 * n) T.a_profile T.d_profile ["floor"] (spOf K mg 1 (callT T.C_Floor n 23))
  crossings : FnOk P w K mg base (L2.CX P w) (4 * n) T.a_crossings T.d_crossings ["floor", "line"] (spOf K mg 2 (callT T.C_Floor n 24))
  uncrossed : FnOk P w K mg base (L2.CX P w) (4 * n) T.a_uncrossed T.d_uncrossed ["way", "counts"] (spOf K mg 2 (callT T.C_Floor n 25))
  seams : FnOk P w K mg base (L2.CX P w) (4 * n) T.a_seams T.d_seams ["floor"] (spOf K mg 1 (callT T.C_Floor n 26))
  law_numbers : FnOk P w K mg base (L2.CX P w) (4 * n) T.a_law_numbers T.d_law_numbers ["script", "at"] (spOf K mg 2 (callT T.C_Floor n 27))
  law_cast : FnOk P w K mg base (L2.CX P w) (4 * n) T.a_law_cast T.d_law_cast ["die", "total"] (spOf K mg 2 (callT T.C_Floor n 28))
  law_pick : FnOk P w K mg base (L2.CX P w) (4 * n) T.a_law_pick T.d_law_pick ["die", "items"] (spOf K mg 2 (callT T.C_Floor n 29))
  law_plain_bars : FnOk P w K mg base (L2.CX P w) (4 * n) T.a_law_plain_bars T.d_law_plain_bars ["wide", "high", "long"] (spOf K mg 3 (callT T.C_Floor n 30))
  law_turns_in : FnOk P w K mg base (L2.CX P w) (4 * n) T.a_law_turns_in T.d_law_turns_in ["bars", "long"] (spOf K mg 2 (callT T.C_Floor n 31))
  law_turn_of : FnOk P w K mg base (L2.CX P w) (4 * n) T.a_law_turn_of T.d_law_turn_of ["bars", "long", "square"] (spOf K mg 3 (callT T.C_Floor n 32))
  law_any_floor : FnOk P w K mg base (L2.CX P w) (4 * n) T.a_law_any_floor T.d_law_any_floor ["die", "most"] (spOf K mg 2 (callT T.C_Floor n 33))
  law_rest_of : FnOk P w K mg base (L2.CX P w) (4 * n) T.a_law_rest_of T.d_law_rest_of ["size", "line"] (spOf K mg 2 (callT T.C_Floor n 34))
  law_lines : FnOk P w K mg base (L2.CX P w) (4 * n) T.a_law_lines T.d_law_lines ["size"] (spOf K mg 1 (callT T.C_Floor n 35))
  law_right : FnOk P w K mg base (L2.CX P w) (4 * n) T.a_law_right T.d_law_right ["die"] (spOf K mg 1 (callT T.C_Floor n 36))
  law : FnOk P w K mg base (L2.CX P w) (4 * n) T.a_law T.d_law ["script"] (spOf K mg 1 (callT T.C_Floor n 37))
theorem ok_is_whole (T : Tx K mg) {n : Nat} (hh : OkAll P w K mg base T n) : FnOk P w K mg base (L2.CX P w) (4 * n + 3 + 1) T.a_is_whole T.d_is_whole ["value"] (spOf K mg 1 (callT T.C_Floor (n + 1) 0)) := by
  refine Fun.ok3 (n := 1) T.F_is_whole sc_is_whole rfl rfl fun cdv A outer s H E hr2 => ?_
  have hr := hr2.mono (Nat.le_add_right (4 * n + 1) 2)
  have hr0 := hr2.mono (Nat.le_add_right (4 * n) 3)
  have hr4 := hr2.mono (Nat.le_add_right (4 * n + 2) 1)
  have hu64 := hr2.units
  have hu65 : (A.deeper (envOfC "is_whole" (defScope s_is_whole) s.heap.objs.size T.a_is_whole cdv)).units + 65 < cLine := by have := hr2.un; omega
  have hu62 : (A.deeper (envOfC "is_whole" (defScope s_is_whole) s.heap.objs.size T.a_is_whole cdv)).units + 62 < cLine := by have := hr2.un; omega
  have hu100 : (A.deeper (envOfC "is_whole" (defScope s_is_whole) s.heap.objs.size T.a_is_whole cdv)).units + 100 < cLine := by have := hr2.un; omega
  have hu1 : (A.deeper (envOfC "is_whole" (defScope s_is_whole) s.heap.objs.size T.a_is_whole cdv)).units + 1 < cLine := by omega
  have tk : Takes (cxOf (L2.CX P w) P w K mg base N_is_whole "is_whole" (defScope s_is_whole) T.a_is_whole cdv A outer s H E) (fun cls d _ H => E cls d H) := takes_of rfl rfl rfl rfl
  exact (s_one (s_ret (q_andV (q_isi (by rfl) T.m_isinstance (by rfl) T.m_int bt_int (q_v (i := 0))) (q_one (q_notV (q_isi (by rfl) T.m_isinstance (by rfl) T.m_bool bt_bool (q_v (i := 0))))))))
theorem ok_is_way (T : Tx K mg) {n : Nat} (hh : OkAll P w K mg base T n) : FnOk P w K mg base (L2.CX P w) (4 * n + 3 + 1) T.a_is_way T.d_is_way ["value"] (spOf K mg 1 (callT T.C_Floor (n + 1) 1)) := by
  refine Fun.ok3 (n := 1) T.F_is_way sc_is_way rfl rfl fun cdv A outer s H E hr2 => ?_
  have hr := hr2.mono (Nat.le_add_right (4 * n + 1) 2)
  have hr0 := hr2.mono (Nat.le_add_right (4 * n) 3)
  have hr4 := hr2.mono (Nat.le_add_right (4 * n + 2) 1)
  have hu64 := hr2.units
  have hu65 : (A.deeper (envOfC "is_way" (defScope s_is_way) s.heap.objs.size T.a_is_way cdv)).units + 65 < cLine := by have := hr2.un; omega
  have hu62 : (A.deeper (envOfC "is_way" (defScope s_is_way) s.heap.objs.size T.a_is_way cdv)).units + 62 < cLine := by have := hr2.un; omega
  have hu100 : (A.deeper (envOfC "is_way" (defScope s_is_way) s.heap.objs.size T.a_is_way cdv)).units + 100 < cLine := by have := hr2.un; omega
  have hu1 : (A.deeper (envOfC "is_way" (defScope s_is_way) s.heap.objs.size T.a_is_way cdv)).units + 1 < cLine := by omega
  have tk : Takes (cxOf (L2.CX P w) P w K mg base N_is_way "is_way" (defScope s_is_way) T.a_is_way cdv A outer s H E) (fun cls d _ H => E cls d H) := takes_of rfl rfl rfl rfl
  exact (s_one (s_ret (q_andV (q_isi (by rfl) T.m_isinstance (by rfl) T.m_str bt_str (q_v (i := 0))) (q_one (q_cmp (o_in hu65) (q_v (i := 0)) (q_tup (q_cons (q_gstr (by rfl) T.c_ACROSS) (q_cons (q_gstr (by rfl) T.c_DOWN) q_nil))) (by rfl))))))
theorem ok_is_bar (T : Tx K mg) {n : Nat} (hh : OkAll P w K mg base T n) : FnOk P w K mg base (L2.CX P w) (4 * n + 3 + 1) T.a_is_bar T.d_is_bar ["value"] (spOf K mg 1 (callT T.C_Floor (n + 1) 2)) := by
  refine Fun.ok3 (n := 4) T.F_is_bar sc_is_bar rfl rfl fun cdv A outer s H E hr2 => ?_
  have hr := hr2.mono (Nat.le_add_right (4 * n + 1) 2)
  have hr0 := hr2.mono (Nat.le_add_right (4 * n) 3)
  have hr4 := hr2.mono (Nat.le_add_right (4 * n + 2) 1)
  have hu64 := hr2.units
  have hu65 : (A.deeper (envOfC "is_bar" (defScope s_is_bar) s.heap.objs.size T.a_is_bar cdv)).units + 65 < cLine := by have := hr2.un; omega
  have hu62 : (A.deeper (envOfC "is_bar" (defScope s_is_bar) s.heap.objs.size T.a_is_bar cdv)).units + 62 < cLine := by have := hr2.un; omega
  have hu100 : (A.deeper (envOfC "is_bar" (defScope s_is_bar) s.heap.objs.size T.a_is_bar cdv)).units + 100 < cLine := by have := hr2.un; omega
  have hu1 : (A.deeper (envOfC "is_bar" (defScope s_is_bar) s.heap.objs.size T.a_is_bar cdv)).units + 1 < cLine := by omega
  have tk : Takes (cxOf (L2.CX P w) P w K mg base N_is_bar "is_bar" (defScope s_is_bar) T.a_is_bar cdv A outer s H E) (fun cls d _ H => E cls d H) := takes_of rfl rfl rfl rfl
  exact (s_cons (s_if (PW.pt (w_or (q_tnot (q_tr (q_isi (by rfl) T.m_isinstance (by rfl) T.m_tuple bt_tuple (q_v (i := 0))))) (w_or1 (q_tcmp (o_ne hu64) (q_callB f_len (by rfl) T.m_len bt_len (q_cons (q_v (i := 0)) q_nil)) q_int (nomark _))))) (s_one (s_ret q_bl)) s_nil)
    (s_cons (s_asg (t_tup rfl (ts_cons (t_name (i := 1) sc_is_bar.nd rfl (by first | exact Or.inl rfl | exact Or.inr rfl)) (ts_cons (t_name (i := 2) sc_is_bar.nd rfl (by first | exact Or.inl rfl | exact Or.inr rfl)) (ts_cons (t_name (i := 3) sc_is_bar.nd rfl (by first | exact Or.inl rfl | exact Or.inr rfl)) ts_nil)))) (q_v (i := 0)))
    (s_one (s_ret (q_andV (q_call tk hh.is_whole hr0 (by rfl) T.g_is_whole T.F_is_whole.kp T.b_is_whole (q_cons (q_v (i := 1)) q_nil) rfl (kA1_len kA0_len)) (q_andV (q_call tk hh.is_whole hr0 (by rfl) T.g_is_whole T.F_is_whole.kp T.b_is_whole (q_cons (q_v (i := 2)) q_nil) rfl (kA1_len kA0_len)) (q_one (q_call tk hh.is_way hr0 (by rfl) T.g_is_way T.F_is_way.kp T.b_is_way (q_cons (q_v (i := 3)) q_nil) rfl (kA1_len kA0_len)))))))))
theorem ok_lies_within (T : Tx K mg) {n : Nat} (hh : OkAll P w K mg base T n) : FnOk P w K mg base (L2.CX P w) (4 * n + 3 + 1) T.a_lies_within T.d_lies_within ["size", "bar"] (spOf K mg 2 (callT T.C_Floor (n + 1) 3)) := by
  refine Fun.ok3 (n := 8) T.F_lies_within sc_lies_within rfl rfl fun cdv A outer s H E hr2 => ?_
  have hr := hr2.mono (Nat.le_add_right (4 * n + 1) 2)
  have hr0 := hr2.mono (Nat.le_add_right (4 * n) 3)
  have hr4 := hr2.mono (Nat.le_add_right (4 * n + 2) 1)
  have hu64 := hr2.units
  have hu65 : (A.deeper (envOfC "lies_within" (defScope s_lies_within) s.heap.objs.size T.a_lies_within cdv)).units + 65 < cLine := by have := hr2.un; omega
  have hu62 : (A.deeper (envOfC "lies_within" (defScope s_lies_within) s.heap.objs.size T.a_lies_within cdv)).units + 62 < cLine := by have := hr2.un; omega
  have hu100 : (A.deeper (envOfC "lies_within" (defScope s_lies_within) s.heap.objs.size T.a_lies_within cdv)).units + 100 < cLine := by have := hr2.un; omega
  have hu1 : (A.deeper (envOfC "lies_within" (defScope s_lies_within) s.heap.objs.size T.a_lies_within cdv)).units + 1 < cLine := by omega
  have tk : Takes (cxOf (L2.CX P w) P w K mg base N_lies_within "lies_within" (defScope s_lies_within) T.a_lies_within cdv A outer s H E) (fun cls d _ H => E cls d H) := takes_of rfl rfl rfl rfl
  exact (s_cons (s_asg (t_tup rfl (ts_cons (t_name (i := 2) sc_lies_within.nd rfl (by first | exact Or.inl rfl | exact Or.inr rfl)) (ts_cons (t_name (i := 3) sc_lies_within.nd rfl (by first | exact Or.inl rfl | exact Or.inr rfl)) (ts_cons (t_name (i := 4) sc_lies_within.nd rfl (by first | exact Or.inl rfl | exact Or.inr rfl)) ts_nil)))) (q_v (i := 0)))
    (s_cons (s_asg (t_tup rfl (ts_cons (t_name (i := 5) sc_lies_within.nd rfl (by first | exact Or.inl rfl | exact Or.inr rfl)) (ts_cons (t_name (i := 6) sc_lies_within.nd rfl (by first | exact Or.inl rfl | exact Or.inr rfl)) (ts_cons (t_name (i := 7) sc_lies_within.nd rfl (by first | exact Or.inl rfl | exact Or.inr rfl)) ts_nil)))) (q_v (i := 1)))
    (s_cons (s_if (q_tcmp (o_eq hu64) (q_v (i := 7)) (q_gstr (by rfl) T.c_ACROSS) (nomark _)) (s_one (s_ret (q_andV (q_chain o_le o_le q_int (q_v (i := 5)) (q_op o_sub (q_v (i := 2)) (q_v (i := 4)))) (q_one (q_chain o_le o_lt q_int (q_v (i := 6)) (q_v (i := 3))))))) s_nil)
    (s_one (s_ret (q_andV (q_chain o_le o_lt q_int (q_v (i := 5)) (q_v (i := 2))) (q_one (q_chain o_le o_le q_int (q_v (i := 6)) (q_op o_sub (q_v (i := 3)) (q_v (i := 4)))))))))))
theorem ok_cells_of (T : Tx K mg) {n : Nat} (hh : OkAll P w K mg base T n) : FnOk P w K mg base (L2.CX P w) (4 * n + 3 + 1) T.a_cells_of T.d_cells_of ["bar", "length"] (spOf K mg 2 (callT T.C_Floor (n + 1) 4)) := by
  refine Fun.ok3 (n := 6) T.F_cells_of sc_cells_of rfl rfl fun cdv A outer s H E hr2 => ?_
  have hr := hr2.mono (Nat.le_add_right (4 * n + 1) 2)
  have hr0 := hr2.mono (Nat.le_add_right (4 * n) 3)
  have hr4 := hr2.mono (Nat.le_add_right (4 * n + 2) 1)
  have hu64 := hr2.units
  have hu65 : (A.deeper (envOfC "cells_of" (defScope s_cells_of) s.heap.objs.size T.a_cells_of cdv)).units + 65 < cLine := by have := hr2.un; omega
  have hu62 : (A.deeper (envOfC "cells_of" (defScope s_cells_of) s.heap.objs.size T.a_cells_of cdv)).units + 62 < cLine := by have := hr2.un; omega
  have hu100 : (A.deeper (envOfC "cells_of" (defScope s_cells_of) s.heap.objs.size T.a_cells_of cdv)).units + 100 < cLine := by have := hr2.un; omega
  have hu1 : (A.deeper (envOfC "cells_of" (defScope s_cells_of) s.heap.objs.size T.a_cells_of cdv)).units + 1 < cLine := by omega
  have tk : Takes (cxOf (L2.CX P w) P w K mg base N_cells_of "cells_of" (defScope s_cells_of) T.a_cells_of cdv A outer s H E) (fun cls d _ H => E cls d H) := takes_of rfl rfl rfl rfl
  exact (s_cons (s_asg (t_tup rfl (ts_cons (t_name (i := 2) sc_cells_of.nd rfl (by first | exact Or.inl rfl | exact Or.inr rfl)) (ts_cons (t_name (i := 3) sc_cells_of.nd rfl (by first | exact Or.inl rfl | exact Or.inr rfl)) (ts_cons (t_name (i := 4) sc_cells_of.nd rfl (by first | exact Or.inl rfl | exact Or.inr rfl)) ts_nil)))) (q_v (i := 0)))
    (s_cons (s_if (q_tcmp (o_eq hu64) (q_v (i := 4)) (q_gstr (by rfl) T.c_ACROSS) (nomark _)) (s_one (s_ret (q_lcZ (own := [("step", 5)]) rfl sc_cells_of.nd (i_rng1 (by rfl) T.m_range (q_cons (q_v (i := 1)) q_nil)) (blkOk_by (own := [("step", 5)]) (N := N_cells_of) (sc := defScope s_cells_of) (by decide +kernel)) (fun _ _ _ _ _ => (pg_name (i := 5) sc_cells_of.nd rfl (Or.inl rfl))) (kg_name) (by decide) (fun _ _ _ _ _ => c_nil) (fun _ _ _ _ _ => (q_tup (q_cons (q_op o_add (q_v (i := 2)) (q_v (i := 5))) (q_cons (q_v (i := 3)) q_nil))))))) s_nil)
    (s_one (s_ret (q_lcZ (own := [("step", 5)]) rfl sc_cells_of.nd (i_rng1 (by rfl) T.m_range (q_cons (q_v (i := 1)) q_nil)) (blkOk_by (own := [("step", 5)]) (N := N_cells_of) (sc := defScope s_cells_of) (by decide +kernel)) (fun _ _ _ _ _ => (pg_name (i := 5) sc_cells_of.nd rfl (Or.inl rfl))) (kg_name) (by decide) (fun _ _ _ _ _ => c_nil) (fun _ _ _ _ _ => (q_tup (q_cons (q_v (i := 2)) (q_cons (q_op o_add (q_v (i := 3)) (q_v (i := 5))) q_nil)))))))))
theorem ok_can_hold_floor (T : Tx K mg) {n : Nat} (hh : OkAll P w K mg base T n) : FnOk P w K mg base (L2.CX P w) (4 * n + 3 + 1) T.a_can_hold_floor T.d_can_hold_floor ["size"] (spOf K mg 1 (callT T.C_Floor (n + 1) 5)) := by
  refine Fun.ok3 (n := 4) T.F_can_hold_floor sc_can_hold_floor rfl rfl fun cdv A outer s H E hr2 => ?_
  have hr := hr2.mono (Nat.le_add_right (4 * n + 1) 2)
  have hr0 := hr2.mono (Nat.le_add_right (4 * n) 3)
  have hr4 := hr2.mono (Nat.le_add_right (4 * n + 2) 1)
  have hu64 := hr2.units
  have hu65 : (A.deeper (envOfC "can_hold_floor" (defScope s_can_hold_floor) s.heap.objs.size T.a_can_hold_floor cdv)).units + 65 < cLine := by have := hr2.un; omega
  have hu62 : (A.deeper (envOfC "can_hold_floor" (defScope s_can_hold_floor) s.heap.objs.size T.a_can_hold_floor cdv)).units + 62 < cLine := by have := hr2.un; omega
  have hu100 : (A.deeper (envOfC "can_hold_floor" (defScope s_can_hold_floor) s.heap.objs.size T.a_can_hold_floor cdv)).units + 100 < cLine := by have := hr2.un; omega
  have hu1 : (A.deeper (envOfC "can_hold_floor" (defScope s_can_hold_floor) s.heap.objs.size T.a_can_hold_floor cdv)).units + 1 < cLine := by omega
  have tk : Takes (cxOf (L2.CX P w) P w K mg base N_can_hold_floor "can_hold_floor" (defScope s_can_hold_floor) T.a_can_hold_floor cdv A outer s H E) (fun cls d _ H => E cls d H) := takes_of rfl rfl rfl rfl
  exact (s_cons (s_asg (t_tup rfl (ts_cons (t_name (i := 1) sc_can_hold_floor.nd rfl (by first | exact Or.inl rfl | exact Or.inr rfl)) (ts_cons (t_name (i := 2) sc_can_hold_floor.nd rfl (by first | exact Or.inl rfl | exact Or.inr rfl)) (ts_cons (t_name (i := 3) sc_can_hold_floor.nd rfl (by first | exact Or.inl rfl | exact Or.inr rfl)) ts_nil)))) (q_v (i := 0)))
    (s_one (s_ret (q_orV (q_cmp (o_eq hu64) (q_op o_mod (q_v (i := 1)) (q_v (i := 3))) q_int (nomark _)) (q_one (q_cmp (o_eq hu64) (q_op o_mod (q_v (i := 2)) (q_v (i := 3))) q_int (nomark _)))))))
theorem ok_is_size (T : Tx K mg) {n : Nat} (hh : OkAll P w K mg base T n) : FnOk P w K mg base (L2.CX P w) (4 * n + 3 + 1) T.a_is_size T.d_is_size ["value"] (spOf K mg 1 (callT T.C_Floor (n + 1) 6)) := by
  refine Fun.ok3 (n := 5) T.F_is_size sc_is_size rfl rfl fun cdv A outer s H E hr2 => ?_
  have hr := hr2.mono (Nat.le_add_right (4 * n + 1) 2)
  have hr0 := hr2.mono (Nat.le_add_right (4 * n) 3)
  have hr4 := hr2.mono (Nat.le_add_right (4 * n + 2) 1)
  have hu64 := hr2.units
  have hu65 : (A.deeper (envOfC "is_size" (defScope s_is_size) s.heap.objs.size T.a_is_size cdv)).units + 65 < cLine := by have := hr2.un; omega
  have hu62 : (A.deeper (envOfC "is_size" (defScope s_is_size) s.heap.objs.size T.a_is_size cdv)).units + 62 < cLine := by have := hr2.un; omega
  have hu100 : (A.deeper (envOfC "is_size" (defScope s_is_size) s.heap.objs.size T.a_is_size cdv)).units + 100 < cLine := by have := hr2.un; omega
  have hu1 : (A.deeper (envOfC "is_size" (defScope s_is_size) s.heap.objs.size T.a_is_size cdv)).units + 1 < cLine := by omega
  have tk : Takes (cxOf (L2.CX P w) P w K mg base N_is_size "is_size" (defScope s_is_size) T.a_is_size cdv A outer s H E) (fun cls d _ H => E cls d H) := takes_of rfl rfl rfl rfl
  exact (s_cons (s_if (PW.pt (w_or (q_tnot (q_tr (q_isi (by rfl) T.m_isinstance (by rfl) T.m_tuple bt_tuple (q_v (i := 0))))) (w_or1 (q_tcmp (o_ne hu64) (q_callB f_len (by rfl) T.m_len bt_len (q_cons (q_v (i := 0)) q_nil)) q_int (nomark _))))) (s_one (s_ret q_bl)) s_nil)
    (s_cons (s_if (q_tnot (q_tr (q_callB (f_all rfl) (by rfl) T.m_all bt_all (q_cons (q_lcZ (own := [("item", 4)]) rfl sc_is_size.nd (i_tup (q_v (i := 0))) (blkOk_by (own := [("item", 4)]) (N := N_is_size) (sc := defScope s_is_size) (by decide +kernel)) (fun _ _ _ _ _ => (pg_name (i := 4) sc_is_size.nd rfl (Or.inl rfl))) (kg_name) (by decide) (fun _ _ _ _ _ => c_nil) (fun _ _ _ _ _ => (q_call takes0 hh.is_whole hr0 (by rfl) T.g_is_whole T.F_is_whole.kp T.b_is_whole (q_cons (q_v (i := 4)) q_nil) rfl (kA1_len kA0_len)))) q_nil)))) (s_one (s_ret q_bl)) s_nil)
    (s_cons (s_asg (t_tup rfl (ts_cons (t_name (i := 1) sc_is_size.nd rfl (by first | exact Or.inl rfl | exact Or.inr rfl)) (ts_cons (t_name (i := 2) sc_is_size.nd rfl (by first | exact Or.inl rfl | exact Or.inr rfl)) (ts_cons (t_name (i := 3) sc_is_size.nd rfl (by first | exact Or.inl rfl | exact Or.inr rfl)) ts_nil)))) (q_v (i := 0)))
    (s_one (s_ret (q_andV (q_chain o_le o_le q_int (q_v (i := 1)) (q_gint (by rfl) T.c_MAX_SIDE)) (q_andV (q_chain o_le o_le q_int (q_v (i := 2)) (q_gint (by rfl) T.c_MAX_SIDE)) (q_one (q_chain o_le o_le q_int (q_v (i := 3)) (q_gint (by rfl) T.c_MAX_SIDE))))))))))
theorem ok_covered_cells (T : Tx K mg) {n : Nat} (hh : OkAll P w K mg base T n) : FnOk P w K mg base (L2.CX P w) (4 * n + 3 + 1) T.a_covered_cells T.d_covered_cells ["size", "bars"] (spOf K mg 2 (callT T.C_Floor (n + 1) 7)) := by
  refine Fun.ok3 (n := 8) T.F_covered_cells sc_covered_cells rfl rfl fun cdv A outer s H E hr2 => ?_
  have hr := hr2.mono (Nat.le_add_right (4 * n + 1) 2)
  have hr0 := hr2.mono (Nat.le_add_right (4 * n) 3)
  have hr4 := hr2.mono (Nat.le_add_right (4 * n + 2) 1)
  have hu64 := hr2.units
  have hu65 : (A.deeper (envOfC "covered_cells" (defScope s_covered_cells) s.heap.objs.size T.a_covered_cells cdv)).units + 65 < cLine := by have := hr2.un; omega
  have hu62 : (A.deeper (envOfC "covered_cells" (defScope s_covered_cells) s.heap.objs.size T.a_covered_cells cdv)).units + 62 < cLine := by have := hr2.un; omega
  have hu100 : (A.deeper (envOfC "covered_cells" (defScope s_covered_cells) s.heap.objs.size T.a_covered_cells cdv)).units + 100 < cLine := by have := hr2.un; omega
  have hu1 : (A.deeper (envOfC "covered_cells" (defScope s_covered_cells) s.heap.objs.size T.a_covered_cells cdv)).units + 1 < cLine := by omega
  have tk : Takes (cxOf (L2.CX P w) P w K mg base N_covered_cells "covered_cells" (defScope s_covered_cells) T.a_covered_cells cdv A outer s H E) (fun cls d _ H => E cls d H) := takes_of rfl rfl rfl rfl
  exact (s_cons (s_if (PW.pt (w_or (q_tnot (q_tr (q_call tk hh.is_size hr0 (by rfl) T.g_is_size T.F_is_size.kp T.b_is_size (q_cons (q_v (i := 0)) q_nil) rfl (kA1_len kA0_len)))) (w_or1 (q_tcmp o_gt (q_op o_mul (q_ix (x_ixX hu1) (q_v (i := 0)) q_int (fun _ _ => rfl)) (q_ix (x_ixX hu1) (q_v (i := 0)) q_int (fun _ _ => rfl))) (q_gint (by rfl) T.c_MAX_CELLS) (nomark _))))) (s_one (s_ret q_non)) s_nil)
    (s_cons (s_asg (t_tup rfl (ts_cons (t_name (i := 2) sc_covered_cells.nd rfl (by first | exact Or.inl rfl | exact Or.inr rfl)) (ts_cons (t_name (i := 3) sc_covered_cells.nd rfl (by first | exact Or.inl rfl | exact Or.inr rfl)) (ts_cons (t_name (i := 4) sc_covered_cells.nd rfl (by first | exact Or.inl rfl | exact Or.inr rfl)) ts_nil)))) (q_v (i := 0)))
    (s_cons (s_set (i := 5) sc_covered_cells.nd rfl (by first | exact Or.inl rfl | exact Or.inr rfl) q_dictT)
    (s_cons (s_for (passes_of rfl) rfl (i_tup (q_v (i := 1))) (t_name (i := 6) sc_covered_cells.nd rfl (by first | exact Or.inl rfl | exact Or.inr rfl)) (s_cons (s_if (PW.pt (w_or (q_tnot (q_tr (q_call tk hh.is_bar hr0 (by rfl) T.g_is_bar T.F_is_bar.kp T.b_is_bar (q_cons (q_v (i := 6)) q_nil) rfl (kA1_len kA0_len)))) (w_or1 (q_tnot (q_tr (q_call tk hh.lies_within hr0 (by rfl) T.g_lies_within T.F_lies_within.kp T.b_lies_within (q_cons (q_v (i := 0)) (q_cons (q_v (i := 6)) q_nil)) rfl (kA1_len (kA1_len kA0_len)))))))) (s_one (s_ret q_non)) s_nil)
    (s_one (s_for (passes_of rfl) rfl (i_list (q_call tk hh.cells_of hr0 (by rfl) T.g_cells_of T.F_cells_of.kp T.b_cells_of (q_cons (q_v (i := 6)) (q_cons (q_v (i := 4)) q_nil)) rfl (kA1_len (kA1_len kA0_len)))) (t_name (i := 7) sc_covered_cells.nd rfl (by first | exact Or.inl rfl | exact Or.inr rfl)) (s_cons (s_if (q_tcmp (o_inX hu65) (q_v (i := 7)) (q_v (i := 5)) (by rfl)) (s_one (s_ret q_non)) s_nil)
    (s_one (s_setix (set_any hu1) setX_ok (q_v (i := 5)) (q_v (i := 7)) (q_v (i := 6)))))))))
    (s_cons (s_if (q_tcmp (o_ne hu64) (q_callB c_lenX (by rfl) T.m_len bt_len (q_cons (q_v (i := 5)) q_nil)) (q_op o_mul (q_v (i := 2)) (q_v (i := 3))) (nomark _)) (s_one (s_ret q_non)) s_nil)
    (s_one (s_ret (q_v (i := 5)))))))))
theorem ok_Floor___init__ (T : Tx K mg) {n : Nat} (hh : OkAll P w K mg base T n) : Pr3 P w K mg base (4 * n + 3 + 1) T.a_Floor___init__ (callT T.C_Floor (n + 1) 8) := by
  refine Fun.star3 (n := 4) (np := 2) (ps := ["self", "size"]) (pv := "bars") T.F_Floor___init__ sc_Floor___init__ rfl rfl (fun _ _ _ _ _ _ us rest h => match us, rest, h with | [_, _], [], _ => rfl | [_, _], _ :: _, _ => rfl) fun cdv A outer s H E hr2 => ?_
  have hr := hr2.mono (Nat.le_add_right (4 * n + 1) 2)
  have hr0 := hr2.mono (Nat.le_add_right (4 * n) 3)
  have hr4 := hr2.mono (Nat.le_add_right (4 * n + 2) 1)
  have hu64 := hr2.units
  have hu65 : (A.deeper (envOfC "Floor.__init__" (defScope s_Floor___init__) s.heap.objs.size T.a_Floor___init__ cdv)).units + 65 < cLine := by have := hr2.un; omega
  have hu62 : (A.deeper (envOfC "Floor.__init__" (defScope s_Floor___init__) s.heap.objs.size T.a_Floor___init__ cdv)).units + 62 < cLine := by have := hr2.un; omega
  have hu100 : (A.deeper (envOfC "Floor.__init__" (defScope s_Floor___init__) s.heap.objs.size T.a_Floor___init__ cdv)).units + 100 < cLine := by have := hr2.un; omega
  have hu1 : (A.deeper (envOfC "Floor.__init__" (defScope s_Floor___init__) s.heap.objs.size T.a_Floor___init__ cdv)).units + 1 < cLine := by omega
  have tk : Takes (cxOf (L2.CX P w) P w K mg base N_Floor___init__ "Floor.__init__" (defScope s_Floor___init__) T.a_Floor___init__ cdv A outer s H E) (fun cls d _ H => E cls d H) := takes_of rfl rfl rfl rfl
  exact (s_cons (s_set (i := 3) sc_Floor___init__.nd rfl (by first | exact Or.inl rfl | exact Or.inr rfl) (q_call tk hh.covered_cells hr0 (by rfl) T.g_covered_cells T.F_covered_cells.kp T.b_covered_cells (q_cons (q_v (i := 1)) (q_cons (q_v (i := 2)) q_nil)) rfl (kA1_len (kA1_len kA0_len))))
    (s_cons (s_if (q_tisN (q_v (i := 3))) (s_one s_never) s_nil)
    (s_cons (s_fldset T.g_Floor (clB_ok T.cb_Floor) (naB_ok T.na_Floor (by decide +kernel)) (q_v (i := 0)) (q_v (i := 1)))
    (s_cons (s_fldset T.g_Floor (clB_ok T.cb_Floor) (naB_ok T.na_Floor (by decide +kernel)) (q_v (i := 0)) (q_callTy f_tuple (by rfl) T.m_tuple bt_tuple (q_cons (q_callB c_sortFZ (by rfl) T.m_sorted bt_sorted (q_cons (q_v (i := 2)) q_nil)) q_nil)))
    (s_one (s_fldset T.g_Floor (clB_ok T.cb_Floor) (naB_ok T.na_Floor (by decide +kernel)) (q_v (i := 0)) (q_v (i := 3))))))))
theorem ok_Floor_of (T : Tx K mg) {n : Nat} (hh : OkAll P w K mg base T n) : FnOk P w K mg base (L2.CX P w) (4 * n + 3 + 1) T.a_Floor_of T.d_Floor_of ["cls", "size", "bars"] (spOf K mg 3 (callT T.C_Floor (n + 1) 9)) := by
  refine Fun.ok3 (n := 3) T.F_Floor_of sc_Floor_of rfl rfl fun cdv A outer s H E hr2 => ?_
  have hr := hr2.mono (Nat.le_add_right (4 * n + 1) 2)
  have hr0 := hr2.mono (Nat.le_add_right (4 * n) 3)
  have hr4 := hr2.mono (Nat.le_add_right (4 * n + 2) 1)
  have hu64 := hr2.units
  have hu65 : (A.deeper (envOfC "Floor.of" (defScope s_Floor_of) s.heap.objs.size T.a_Floor_of cdv)).units + 65 < cLine := by have := hr2.un; omega
  have hu62 : (A.deeper (envOfC "Floor.of" (defScope s_Floor_of) s.heap.objs.size T.a_Floor_of cdv)).units + 62 < cLine := by have := hr2.un; omega
  have hu100 : (A.deeper (envOfC "Floor.of" (defScope s_Floor_of) s.heap.objs.size T.a_Floor_of cdv)).units + 100 < cLine := by have := hr2.un; omega
  have hu1 : (A.deeper (envOfC "Floor.of" (defScope s_Floor_of) s.heap.objs.size T.a_Floor_of cdv)).units + 1 < cLine := by omega
  have tk : Takes (cxOf (L2.CX P w) P w K mg base N_Floor_of "Floor.of" (defScope s_Floor_of) T.a_Floor_of cdv A outer s H E) (fun cls d _ H => E cls d H) := takes_of rfl rfl rfl rfl
  exact (s_cons (s_if (q_tnot (q_tr (q_isi (by rfl) T.m_isinstance (by rfl) T.m_tuple bt_tuple (q_v (i := 2))))) (s_one s_never) s_nil)
    (s_one (s_ret (q_makeV (mkB_ok T.mk_Floor) hh.Floor___init__ hr tk T.g_Floor (q_v (i := 0)) (q_cons (q_v (i := 1)) (q_star (q_v (i := 2)) q_nil))))))
theorem ok_Floor_size (T : Tx K mg) {n : Nat} (hh : OkAll P w K mg base T n) : FnOk P w K mg base (L2.CX P w) (4 * n + 3 + 1) T.a_Floor_size T.d_Floor_size ["self"] (spOf K mg 1 (callT T.C_Floor (n + 1) 10)) := by
  refine Fun.ok3 (n := 1) T.F_Floor_size sc_Floor_size rfl rfl fun cdv A outer s H E hr2 => ?_
  have hr := hr2.mono (Nat.le_add_right (4 * n + 1) 2)
  have hr0 := hr2.mono (Nat.le_add_right (4 * n) 3)
  have hr4 := hr2.mono (Nat.le_add_right (4 * n + 2) 1)
  have hu64 := hr2.units
  have hu65 : (A.deeper (envOfC "Floor.size" (defScope s_Floor_size) s.heap.objs.size T.a_Floor_size cdv)).units + 65 < cLine := by have := hr2.un; omega
  have hu62 : (A.deeper (envOfC "Floor.size" (defScope s_Floor_size) s.heap.objs.size T.a_Floor_size cdv)).units + 62 < cLine := by have := hr2.un; omega
  have hu100 : (A.deeper (envOfC "Floor.size" (defScope s_Floor_size) s.heap.objs.size T.a_Floor_size cdv)).units + 100 < cLine := by have := hr2.un; omega
  have hu1 : (A.deeper (envOfC "Floor.size" (defScope s_Floor_size) s.heap.objs.size T.a_Floor_size cdv)).units + 1 < cLine := by omega
  have tk : Takes (cxOf (L2.CX P w) P w K mg base N_Floor_size "Floor.size" (defScope s_Floor_size) T.a_Floor_size cdv A outer s H E) (fun cls d _ H => E cls d H) := takes_of rfl rfl rfl rfl
  exact (s_one (s_ret (q_fld T.g_Floor (clB_ok T.cb_Floor) (naB_ok T.na_Floor (by decide +kernel)) (q_v (i := 0)))))
theorem ok_Floor_width (T : Tx K mg) {n : Nat} (hh : OkAll P w K mg base T n) : FnOk P w K mg base (L2.CX P w) (4 * n + 3 + 1) T.a_Floor_width T.d_Floor_width ["self"] (spOf K mg 1 (callT T.C_Floor (n + 1) 11)) := by
  refine Fun.ok3 (n := 1) T.F_Floor_width sc_Floor_width rfl rfl fun cdv A outer s H E hr2 => ?_
  have hr := hr2.mono (Nat.le_add_right (4 * n + 1) 2)
  have hr0 := hr2.mono (Nat.le_add_right (4 * n) 3)
  have hr4 := hr2.mono (Nat.le_add_right (4 * n + 2) 1)
  have hu64 := hr2.units
  have hu65 : (A.deeper (envOfC "Floor.width" (defScope s_Floor_width) s.heap.objs.size T.a_Floor_width cdv)).units + 65 < cLine := by have := hr2.un; omega
  have hu62 : (A.deeper (envOfC "Floor.width" (defScope s_Floor_width) s.heap.objs.size T.a_Floor_width cdv)).units + 62 < cLine := by have := hr2.un; omega
  have hu100 : (A.deeper (envOfC "Floor.width" (defScope s_Floor_width) s.heap.objs.size T.a_Floor_width cdv)).units + 100 < cLine := by have := hr2.un; omega
  have hu1 : (A.deeper (envOfC "Floor.width" (defScope s_Floor_width) s.heap.objs.size T.a_Floor_width cdv)).units + 1 < cLine := by omega
  have tk : Takes (cxOf (L2.CX P w) P w K mg base N_Floor_width "Floor.width" (defScope s_Floor_width) T.a_Floor_width cdv A outer s H E) (fun cls d _ H => E cls d H) := takes_of rfl rfl rfl rfl
  exact (s_one (s_ret (q_ix x_ix (q_fld T.g_Floor (clB_ok T.cb_Floor) (naB_ok T.na_Floor (by decide +kernel)) (q_v (i := 0))) q_int (fun _ _ => rfl))))
theorem ok_Floor_height (T : Tx K mg) {n : Nat} (hh : OkAll P w K mg base T n) : FnOk P w K mg base (L2.CX P w) (4 * n + 3 + 1) T.a_Floor_height T.d_Floor_height ["self"] (spOf K mg 1 (callT T.C_Floor (n + 1) 12)) := by
  refine Fun.ok3 (n := 1) T.F_Floor_height sc_Floor_height rfl rfl fun cdv A outer s H E hr2 => ?_
  have hr := hr2.mono (Nat.le_add_right (4 * n + 1) 2)
  have hr0 := hr2.mono (Nat.le_add_right (4 * n) 3)
  have hr4 := hr2.mono (Nat.le_add_right (4 * n + 2) 1)
  have hu64 := hr2.units
  have hu65 : (A.deeper (envOfC "Floor.height" (defScope s_Floor_height) s.heap.objs.size T.a_Floor_height cdv)).units + 65 < cLine := by have := hr2.un; omega
  have hu62 : (A.deeper (envOfC "Floor.height" (defScope s_Floor_height) s.heap.objs.size T.a_Floor_height cdv)).units + 62 < cLine := by have := hr2.un; omega
  have hu100 : (A.deeper (envOfC "Floor.height" (defScope s_Floor_height) s.heap.objs.size T.a_Floor_height cdv)).units + 100 < cLine := by have := hr2.un; omega
  have hu1 : (A.deeper (envOfC "Floor.height" (defScope s_Floor_height) s.heap.objs.size T.a_Floor_height cdv)).units + 1 < cLine := by omega
  have tk : Takes (cxOf (L2.CX P w) P w K mg base N_Floor_height "Floor.height" (defScope s_Floor_height) T.a_Floor_height cdv A outer s H E) (fun cls d _ H => E cls d H) := takes_of rfl rfl rfl rfl
  exact (s_one (s_ret (q_ix x_ix (q_fld T.g_Floor (clB_ok T.cb_Floor) (naB_ok T.na_Floor (by decide +kernel)) (q_v (i := 0))) q_int (fun _ _ => rfl))))
theorem ok_Floor_length (T : Tx K mg) {n : Nat} (hh : OkAll P w K mg base T n) : FnOk P w K mg base (L2.CX P w) (4 * n + 3 + 1) T.a_Floor_length T.d_Floor_length ["self"] (spOf K mg 1 (callT T.C_Floor (n + 1) 13)) := by
  refine Fun.ok3 (n := 1) T.F_Floor_length sc_Floor_length rfl rfl fun cdv A outer s H E hr2 => ?_
  have hr := hr2.mono (Nat.le_add_right (4 * n + 1) 2)
  have hr0 := hr2.mono (Nat.le_add_right (4 * n) 3)
  have hr4 := hr2.mono (Nat.le_add_right (4 * n + 2) 1)
  have hu64 := hr2.units
  have hu65 : (A.deeper (envOfC "Floor.length" (defScope s_Floor_length) s.heap.objs.size T.a_Floor_length cdv)).units + 65 < cLine := by have := hr2.un; omega
  have hu62 : (A.deeper (envOfC "Floor.length" (defScope s_Floor_length) s.heap.objs.size T.a_Floor_length cdv)).units + 62 < cLine := by have := hr2.un; omega
  have hu100 : (A.deeper (envOfC "Floor.length" (defScope s_Floor_length) s.heap.objs.size T.a_Floor_length cdv)).units + 100 < cLine := by have := hr2.un; omega
  have hu1 : (A.deeper (envOfC "Floor.length" (defScope s_Floor_length) s.heap.objs.size T.a_Floor_length cdv)).units + 1 < cLine := by omega
  have tk : Takes (cxOf (L2.CX P w) P w K mg base N_Floor_length "Floor.length" (defScope s_Floor_length) T.a_Floor_length cdv A outer s H E) (fun cls d _ H => E cls d H) := takes_of rfl rfl rfl rfl
  exact (s_one (s_ret (q_ix x_ix (q_fld T.g_Floor (clB_ok T.cb_Floor) (naB_ok T.na_Floor (by decide +kernel)) (q_v (i := 0))) q_int (fun _ _ => rfl))))
theorem ok_Floor_bars (T : Tx K mg) {n : Nat} (hh : OkAll P w K mg base T n) : FnOk P w K mg base (L2.CX P w) (4 * n + 3 + 1) T.a_Floor_bars T.d_Floor_bars ["self"] (spOf K mg 1 (callT T.C_Floor (n + 1) 14)) := by
  refine Fun.ok3 (n := 1) T.F_Floor_bars sc_Floor_bars rfl rfl fun cdv A outer s H E hr2 => ?_
  have hr := hr2.mono (Nat.le_add_right (4 * n + 1) 2)
  have hr0 := hr2.mono (Nat.le_add_right (4 * n) 3)
  have hr4 := hr2.mono (Nat.le_add_right (4 * n + 2) 1)
  have hu64 := hr2.units
  have hu65 : (A.deeper (envOfC "Floor.bars" (defScope s_Floor_bars) s.heap.objs.size T.a_Floor_bars cdv)).units + 65 < cLine := by have := hr2.un; omega
  have hu62 : (A.deeper (envOfC "Floor.bars" (defScope s_Floor_bars) s.heap.objs.size T.a_Floor_bars cdv)).units + 62 < cLine := by have := hr2.un; omega
  have hu100 : (A.deeper (envOfC "Floor.bars" (defScope s_Floor_bars) s.heap.objs.size T.a_Floor_bars cdv)).units + 100 < cLine := by have := hr2.un; omega
  have hu1 : (A.deeper (envOfC "Floor.bars" (defScope s_Floor_bars) s.heap.objs.size T.a_Floor_bars cdv)).units + 1 < cLine := by omega
  have tk : Takes (cxOf (L2.CX P w) P w K mg base N_Floor_bars "Floor.bars" (defScope s_Floor_bars) T.a_Floor_bars cdv A outer s H E) (fun cls d _ H => E cls d H) := takes_of rfl rfl rfl rfl
  exact (s_one (s_ret (q_fld T.g_Floor (clB_ok T.cb_Floor) (naB_ok T.na_Floor (by decide +kernel)) (q_v (i := 0)))))
theorem ok_Floor_mirrored (T : Tx K mg) {n : Nat} (hh : OkAll P w K mg base T n) : FnOk P w K mg base (L2.CX P w) (4 * n + 3 + 1) T.a_Floor_mirrored T.d_Floor_mirrored ["self"] (spOf K mg 1 (callT T.C_Floor (n + 1) 15)) := by
  refine Fun.ok3 (n := 9) T.F_Floor_mirrored sc_Floor_mirrored rfl rfl fun cdv A outer s H E hr2 => ?_
  have hr := hr2.mono (Nat.le_add_right (4 * n + 1) 2)
  have hr0 := hr2.mono (Nat.le_add_right (4 * n) 3)
  have hr4 := hr2.mono (Nat.le_add_right (4 * n + 2) 1)
  have hu64 := hr2.units
  have hu65 : (A.deeper (envOfC "Floor.mirrored" (defScope s_Floor_mirrored) s.heap.objs.size T.a_Floor_mirrored cdv)).units + 65 < cLine := by have := hr2.un; omega
  have hu62 : (A.deeper (envOfC "Floor.mirrored" (defScope s_Floor_mirrored) s.heap.objs.size T.a_Floor_mirrored cdv)).units + 62 < cLine := by have := hr2.un; omega
  have hu100 : (A.deeper (envOfC "Floor.mirrored" (defScope s_Floor_mirrored) s.heap.objs.size T.a_Floor_mirrored cdv)).units + 100 < cLine := by have := hr2.un; omega
  have hu1 : (A.deeper (envOfC "Floor.mirrored" (defScope s_Floor_mirrored) s.heap.objs.size T.a_Floor_mirrored cdv)).units + 1 < cLine := by omega
  have tk : Takes (cxOf (L2.CX P w) P w K mg base N_Floor_mirrored "Floor.mirrored" (defScope s_Floor_mirrored) T.a_Floor_mirrored cdv A outer s H E) (fun cls d _ H => E cls d H) := takes_of rfl rfl rfl rfl
  exact (s_cons (s_asg (t_tup rfl (ts_cons (t_name (i := 1) sc_Floor_mirrored.nd rfl (by first | exact Or.inl rfl | exact Or.inr rfl)) (ts_cons (t_name (i := 2) sc_Floor_mirrored.nd rfl (by first | exact Or.inl rfl | exact Or.inr rfl)) (ts_cons (t_name (i := 3) sc_Floor_mirrored.nd rfl (by first | exact Or.inl rfl | exact Or.inr rfl)) ts_nil)))) (q_fld T.g_Floor (clB_ok T.cb_Floor) (naB_ok T.na_Floor (by decide +kernel)) (q_v (i := 0))))
    (s_cons (s_set (i := 4) sc_Floor_mirrored.nd rfl (by first | exact Or.inl rfl | exact Or.inr rfl) (q_lst q_nil))
    (s_cons (s_for (passes_of rfl) rfl (i_tup (q_fld T.g_Floor (clB_ok T.cb_Floor) (naB_ok T.na_Floor (by decide +kernel)) (q_v (i := 0)))) (t_tup rfl (ts_cons (t_name (i := 5) sc_Floor_mirrored.nd rfl (by first | exact Or.inl rfl | exact Or.inr rfl)) (ts_cons (t_name (i := 6) sc_Floor_mirrored.nd rfl (by first | exact Or.inl rfl | exact Or.inr rfl)) (ts_cons (t_name (i := 7) sc_Floor_mirrored.nd rfl (by first | exact Or.inl rfl | exact Or.inr rfl)) ts_nil)))) (s_cons (s_set (i := 8) sc_Floor_mirrored.nd rfl (by first | exact Or.inl rfl | exact Or.inr rfl) (q_if (q_tcmp (o_eq hu64) (q_v (i := 7)) (q_gstr (by rfl) T.c_ACROSS) (nomark _)) (q_op o_sub (q_op o_add (q_v (i := 5)) (q_v (i := 3))) q_int) (q_v (i := 5))))
    (s_one (s_expr (q_bm PySem.F.plainAttrs_list PySem.F.slot_list_append PySem.F.type_list_append m_append (q_v (i := 4)) (q_cons (q_tup (q_cons (q_op o_sub (q_op o_sub (q_v (i := 1)) q_int) (q_v (i := 8))) (q_cons (q_v (i := 6)) (q_cons (q_v (i := 7)) q_nil)))) q_nil))))))
    (s_one (s_ret (q_cmeth tk (pr_of hh.Floor_of T.b_Floor_of (sh_Floor_of _)) hr0 (by rfl) T.g_Floor (cmB_ok T.cm_Floor_of).1 (cmB_ok T.cm_Floor_of).2 (q_cons (q_fld T.g_Floor (clB_ok T.cb_Floor) (naB_ok T.na_Floor (by decide +kernel)) (q_v (i := 0))) (q_cons (q_callTy f_tuple (by rfl) T.m_tuple bt_tuple (q_cons (q_v (i := 4)) q_nil)) q_nil))))))))
theorem ok_Floor___len__ (T : Tx K mg) {n : Nat} (hh : OkAll P w K mg base T n) : FnOk P w K mg base (L2.CX P w) (4 * n + 3 + 1) T.a_Floor___len__ T.d_Floor___len__ ["self"] (spOf K mg 1 (callT T.C_Floor (n + 1) 16)) := by
  refine Fun.ok3 (n := 1) T.F_Floor___len__ sc_Floor___len__ rfl rfl fun cdv A outer s H E hr2 => ?_
  have hr := hr2.mono (Nat.le_add_right (4 * n + 1) 2)
  have hr0 := hr2.mono (Nat.le_add_right (4 * n) 3)
  have hr4 := hr2.mono (Nat.le_add_right (4 * n + 2) 1)
  have hu64 := hr2.units
  have hu65 : (A.deeper (envOfC "Floor.__len__" (defScope s_Floor___len__) s.heap.objs.size T.a_Floor___len__ cdv)).units + 65 < cLine := by have := hr2.un; omega
  have hu62 : (A.deeper (envOfC "Floor.__len__" (defScope s_Floor___len__) s.heap.objs.size T.a_Floor___len__ cdv)).units + 62 < cLine := by have := hr2.un; omega
  have hu100 : (A.deeper (envOfC "Floor.__len__" (defScope s_Floor___len__) s.heap.objs.size T.a_Floor___len__ cdv)).units + 100 < cLine := by have := hr2.un; omega
  have hu1 : (A.deeper (envOfC "Floor.__len__" (defScope s_Floor___len__) s.heap.objs.size T.a_Floor___len__ cdv)).units + 1 < cLine := by omega
  have tk : Takes (cxOf (L2.CX P w) P w K mg base N_Floor___len__ "Floor.__len__" (defScope s_Floor___len__) T.a_Floor___len__ cdv A outer s H E) (fun cls d _ H => E cls d H) := takes_of rfl rfl rfl rfl
  exact (s_one (s_ret (q_callB f_len (by rfl) T.m_len bt_len (q_cons (q_fld T.g_Floor (clB_ok T.cb_Floor) (naB_ok T.na_Floor (by decide +kernel)) (q_v (i := 0))) q_nil))))
theorem ok_is_line_way (T : Tx K mg) {n : Nat} (hh : OkAll P w K mg base T n) : FnOk P w K mg base (L2.CX P w) (4 * n + 3 + 1) T.a_is_line_way T.d_is_line_way ["value"] (spOf K mg 1 (callT T.C_Floor (n + 1) 17)) := by
  refine Fun.ok3 (n := 1) T.F_is_line_way sc_is_line_way rfl rfl fun cdv A outer s H E hr2 => ?_
  have hr := hr2.mono (Nat.le_add_right (4 * n + 1) 2)
  have hr0 := hr2.mono (Nat.le_add_right (4 * n) 3)
  have hr4 := hr2.mono (Nat.le_add_right (4 * n + 2) 1)
  have hu64 := hr2.units
  have hu65 : (A.deeper (envOfC "is_line_way" (defScope s_is_line_way) s.heap.objs.size T.a_is_line_way cdv)).units + 65 < cLine := by have := hr2.un; omega
  have hu62 : (A.deeper (envOfC "is_line_way" (defScope s_is_line_way) s.heap.objs.size T.a_is_line_way cdv)).units + 62 < cLine := by have := hr2.un; omega
  have hu100 : (A.deeper (envOfC "is_line_way" (defScope s_is_line_way) s.heap.objs.size T.a_is_line_way cdv)).units + 100 < cLine := by have := hr2.un; omega
  have hu1 : (A.deeper (envOfC "is_line_way" (defScope s_is_line_way) s.heap.objs.size T.a_is_line_way cdv)).units + 1 < cLine := by omega
  have tk : Takes (cxOf (L2.CX P w) P w K mg base N_is_line_way "is_line_way" (defScope s_is_line_way) T.a_is_line_way cdv A outer s H E) (fun cls d _ H => E cls d H) := takes_of rfl rfl rfl rfl
  exact (s_one (s_ret (q_andV (q_isi (by rfl) T.m_isinstance (by rfl) T.m_str bt_str (q_v (i := 0))) (q_one (q_cmp (o_in hu65) (q_v (i := 0)) (q_tup (q_cons (q_gstr (by rfl) T.c_UPRIGHT) (q_cons (q_gstr (by rfl) T.c_LEVEL) q_nil))) (by rfl))))))
theorem ok_side_along (T : Tx K mg) {n : Nat} (hh : OkAll P w K mg base T n) : FnOk P w K mg base (L2.CX P w) (4 * n + 3 + 1) T.a_side_along T.d_side_along ["size", "way"] (spOf K mg 2 (callT T.C_Floor (n + 1) 18)) := by
  refine Fun.ok3 (n := 2) T.F_side_along sc_side_along rfl rfl fun cdv A outer s H E hr2 => ?_
  have hr := hr2.mono (Nat.le_add_right (4 * n + 1) 2)
  have hr0 := hr2.mono (Nat.le_add_right (4 * n) 3)
  have hr4 := hr2.mono (Nat.le_add_right (4 * n + 2) 1)
  have hu64 := hr2.units
  have hu65 : (A.deeper (envOfC "side_along" (defScope s_side_along) s.heap.objs.size T.a_side_along cdv)).units + 65 < cLine := by have := hr2.un; omega
  have hu62 : (A.deeper (envOfC "side_along" (defScope s_side_along) s.heap.objs.size T.a_side_along cdv)).units + 62 < cLine := by have := hr2.un; omega
  have hu100 : (A.deeper (envOfC "side_along" (defScope s_side_along) s.heap.objs.size T.a_side_along cdv)).units + 100 < cLine := by have := hr2.un; omega
  have hu1 : (A.deeper (envOfC "side_along" (defScope s_side_along) s.heap.objs.size T.a_side_along cdv)).units + 1 < cLine := by omega
  have tk : Takes (cxOf (L2.CX P w) P w K mg base N_side_along "side_along" (defScope s_side_along) T.a_side_along cdv A outer s H E) (fun cls d _ H => E cls d H) := takes_of rfl rfl rfl rfl
  exact (s_one (s_ret (q_if (q_tcmp (o_eq hu64) (q_v (i := 1)) (q_gstr (by rfl) T.c_UPRIGHT) (nomark _)) (q_ix x_ix (q_v (i := 0)) q_int (fun _ _ => rfl)) (q_ix x_ix (q_v (i := 0)) q_int (fun _ _ => rfl)))))
theorem ok_side_across (T : Tx K mg) {n : Nat} (hh : OkAll P w K mg base T n) : FnOk P w K mg base (L2.CX P w) (4 * n + 3 + 1) T.a_side_across T.d_side_across ["size", "way"] (spOf K mg 2 (callT T.C_Floor (n + 1) 19)) := by
  refine Fun.ok3 (n := 2) T.F_side_across sc_side_across rfl rfl fun cdv A outer s H E hr2 => ?_
  have hr := hr2.mono (Nat.le_add_right (4 * n + 1) 2)
  have hr0 := hr2.mono (Nat.le_add_right (4 * n) 3)
  have hr4 := hr2.mono (Nat.le_add_right (4 * n + 2) 1)
  have hu64 := hr2.units
  have hu65 : (A.deeper (envOfC "side_across" (defScope s_side_across) s.heap.objs.size T.a_side_across cdv)).units + 65 < cLine := by have := hr2.un; omega
  have hu62 : (A.deeper (envOfC "side_across" (defScope s_side_across) s.heap.objs.size T.a_side_across cdv)).units + 62 < cLine := by have := hr2.un; omega
  have hu100 : (A.deeper (envOfC "side_across" (defScope s_side_across) s.heap.objs.size T.a_side_across cdv)).units + 100 < cLine := by have := hr2.un; omega
  have hu1 : (A.deeper (envOfC "side_across" (defScope s_side_across) s.heap.objs.size T.a_side_across cdv)).units + 1 < cLine := by omega
  have tk : Takes (cxOf (L2.CX P w) P w K mg base N_side_across "side_across" (defScope s_side_across) T.a_side_across cdv A outer s H E) (fun cls d _ H => E cls d H) := takes_of rfl rfl rfl rfl
  exact (s_one (s_ret (q_if (q_tcmp (o_eq hu64) (q_v (i := 1)) (q_gstr (by rfl) T.c_UPRIGHT) (nomark _)) (q_ix x_ix (q_v (i := 0)) q_int (fun _ _ => rfl)) (q_ix x_ix (q_v (i := 0)) q_int (fun _ _ => rfl)))))
theorem ok_is_line (T : Tx K mg) {n : Nat} (hh : OkAll P w K mg base T n) : FnOk P w K mg base (L2.CX P w) (4 * n + 3 + 1) T.a_is_line T.d_is_line ["size", "value"] (spOf K mg 2 (callT T.C_Floor (n + 1) 20)) := by
  refine Fun.ok3 (n := 4) T.F_is_line sc_is_line rfl rfl fun cdv A outer s H E hr2 => ?_
  have hr := hr2.mono (Nat.le_add_right (4 * n + 1) 2)
  have hr0 := hr2.mono (Nat.le_add_right (4 * n) 3)
  have hr4 := hr2.mono (Nat.le_add_right (4 * n + 2) 1)
  have hu64 := hr2.units
  have hu65 : (A.deeper (envOfC "is_line" (defScope s_is_line) s.heap.objs.size T.a_is_line cdv)).units + 65 < cLine := by have := hr2.un; omega
  have hu62 : (A.deeper (envOfC "is_line" (defScope s_is_line) s.heap.objs.size T.a_is_line cdv)).units + 62 < cLine := by have := hr2.un; omega
  have hu100 : (A.deeper (envOfC "is_line" (defScope s_is_line) s.heap.objs.size T.a_is_line cdv)).units + 100 < cLine := by have := hr2.un; omega
  have hu1 : (A.deeper (envOfC "is_line" (defScope s_is_line) s.heap.objs.size T.a_is_line cdv)).units + 1 < cLine := by omega
  have tk : Takes (cxOf (L2.CX P w) P w K mg base N_is_line "is_line" (defScope s_is_line) T.a_is_line cdv A outer s H E) (fun cls d _ H => E cls d H) := takes_of rfl rfl rfl rfl
  exact (s_cons (s_if (q_tnot (q_tr (q_call tk hh.is_size hr0 (by rfl) T.g_is_size T.F_is_size.kp T.b_is_size (q_cons (q_v (i := 0)) q_nil) rfl (kA1_len kA0_len)))) (s_one s_never) s_nil)
    (s_cons (s_if (PW.pt (w_or (q_tnot (q_tr (q_isi (by rfl) T.m_isinstance (by rfl) T.m_tuple bt_tuple (q_v (i := 1))))) (w_or1 (q_tcmp (o_ne hu64) (q_callB f_len (by rfl) T.m_len bt_len (q_cons (q_v (i := 1)) q_nil)) q_int (nomark _))))) (s_one (s_ret q_bl)) s_nil)
    (s_cons (s_asg (t_tup rfl (ts_cons (t_name (i := 2) sc_is_line.nd rfl (by first | exact Or.inl rfl | exact Or.inr rfl)) (ts_cons (t_name (i := 3) sc_is_line.nd rfl (by first | exact Or.inl rfl | exact Or.inr rfl)) ts_nil))) (q_v (i := 1)))
    (s_one (s_ret (q_andV (q_call tk hh.is_line_way hr0 (by rfl) T.g_is_line_way T.F_is_line_way.kp T.b_is_line_way (q_cons (q_v (i := 2)) q_nil) rfl (kA1_len kA0_len)) (q_andV (q_call tk hh.is_whole hr0 (by rfl) T.g_is_whole T.F_is_whole.kp T.b_is_whole (q_cons (q_v (i := 3)) q_nil) rfl (kA1_len kA0_len)) (q_one (q_chain o_le o_lt q_int (q_v (i := 3)) (q_call tk hh.side_along hr0 (by rfl) T.g_side_along T.F_side_along.kp T.b_side_along (q_cons (q_v (i := 0)) (q_cons (q_v (i := 2)) q_nil)) rfl (kA1_len (kA1_len kA0_len))))))))))))
theorem ok_remainder (T : Tx K mg) {n : Nat} (hh : OkAll P w K mg base T n) : FnOk P w K mg base (L2.CX P w) (4 * n + 3 + 1) T.a_remainder T.d_remainder ["size", "line"] (spOf K mg 2 (callT T.C_Floor (n + 1) 21)) := by
  refine Fun.ok3 (n := 5) T.F_remainder sc_remainder rfl rfl fun cdv A outer s H E hr2 => ?_
  have hr := hr2.mono (Nat.le_add_right (4 * n + 1) 2)
  have hr0 := hr2.mono (Nat.le_add_right (4 * n) 3)
  have hr4 := hr2.mono (Nat.le_add_right (4 * n + 2) 1)
  have hu64 := hr2.units
  have hu65 : (A.deeper (envOfC "remainder" (defScope s_remainder) s.heap.objs.size T.a_remainder cdv)).units + 65 < cLine := by have := hr2.un; omega
  have hu62 : (A.deeper (envOfC "remainder" (defScope s_remainder) s.heap.objs.size T.a_remainder cdv)).units + 62 < cLine := by have := hr2.un; omega
  have hu100 : (A.deeper (envOfC "remainder" (defScope s_remainder) s.heap.objs.size T.a_remainder cdv)).units + 100 < cLine := by have := hr2.un; omega
  have hu1 : (A.deeper (envOfC "remainder" (defScope s_remainder) s.heap.objs.size T.a_remainder cdv)).units + 1 < cLine := by omega
  have tk : Takes (cxOf (L2.CX P w) P w K mg base N_remainder "remainder" (defScope s_remainder) T.a_remainder cdv A outer s H E) (fun cls d _ H => E cls d H) := takes_of rfl rfl rfl rfl
  exact (s_cons (s_if (q_tnot (q_tr (q_call tk hh.is_line hr0 (by rfl) T.g_is_line T.F_is_line.kp T.b_is_line (q_cons (q_v (i := 0)) (q_cons (q_v (i := 1)) q_nil)) rfl (kA1_len (kA1_len kA0_len))))) (s_one s_never) s_nil)
    (s_cons (s_if (q_tnot (q_tr (q_call tk hh.can_hold_floor hr0 (by rfl) T.g_can_hold_floor T.F_can_hold_floor.kp T.b_can_hold_floor (q_cons (q_v (i := 0)) q_nil) rfl (kA1_len kA0_len)))) (s_one s_never) s_nil)
    (s_cons (s_asg (t_tup rfl (ts_cons (t_name (i := 2) sc_remainder.nd rfl (by first | exact Or.inl rfl | exact Or.inr rfl)) (ts_cons (t_name (i := 3) sc_remainder.nd rfl (by first | exact Or.inl rfl | exact Or.inr rfl)) ts_nil))) (q_v (i := 1)))
    (s_cons (s_set (i := 4) sc_remainder.nd rfl (by first | exact Or.inl rfl | exact Or.inr rfl) (q_ix x_ix (q_v (i := 0)) q_int (fun _ _ => rfl)))
    (s_one (s_ret (q_if (q_tcmp (o_eq hu64) (q_op o_mod (q_v (i := 3)) (q_v (i := 4))) q_int (nomark _)) q_int (q_op o_mod (q_call tk hh.side_across hr0 (by rfl) T.g_side_across T.F_side_across.kp T.b_side_across (q_cons (q_v (i := 0)) (q_cons (q_v (i := 2)) q_nil)) rfl (kA1_len (kA1_len kA0_len))) (q_v (i := 4))))))))))
theorem ok_need (T : Tx K mg) {n : Nat} (hh : OkAll P w K mg base T n) : FnOk P w K mg base (L2.CX P w) (4 * n + 3 + 1) T.a_need T.d_need ["size", "line"] (spOf K mg 2 (callT T.C_Floor (n + 1) 22)) := by
  refine Fun.ok3 (n := 2) T.F_need sc_need rfl rfl fun cdv A outer s H E hr2 => ?_
  have hr := hr2.mono (Nat.le_add_right (4 * n + 1) 2)
  have hr0 := hr2.mono (Nat.le_add_right (4 * n) 3)
  have hr4 := hr2.mono (Nat.le_add_right (4 * n + 2) 1)
  have hu64 := hr2.units
  have hu65 : (A.deeper (envOfC "need" (defScope s_need) s.heap.objs.size T.a_need cdv)).units + 65 < cLine := by have := hr2.un; omega
  have hu62 : (A.deeper (envOfC "need" (defScope s_need) s.heap.objs.size T.a_need cdv)).units + 62 < cLine := by have := hr2.un; omega
  have hu100 : (A.deeper (envOfC "need" (defScope s_need) s.heap.objs.size T.a_need cdv)).units + 100 < cLine := by have := hr2.un; omega
  have hu1 : (A.deeper (envOfC "need" (defScope s_need) s.heap.objs.size T.a_need cdv)).units + 1 < cLine := by omega
  have tk : Takes (cxOf (L2.CX P w) P w K mg base N_need "need" (defScope s_need) T.a_need cdv A outer s H E) (fun cls d _ H => E cls d H) := takes_of rfl rfl rfl rfl
  exact (s_one (s_ret (q_orV (q_call tk hh.remainder hr0 (by rfl) T.g_remainder T.F_remainder.kp T.b_remainder (q_cons (q_v (i := 0)) (q_cons (q_v (i := 1)) q_nil)) rfl (kA1_len (kA1_len kA0_len))) (q_one (q_ix x_ix (q_v (i := 0)) q_int (fun _ _ => rfl))))))
theorem ok_profile (T : Tx K mg) {n : Nat} (hh : OkAll P w K mg base T n) : FnOk P w K mg base (L2.CX P w) (4 * n + 3 + 1) T.a_profile T.d_profile ["floor"] (spOf K mg 1 (callT T.C_Floor (n + 1) 23)) := by
  refine Fun.ok3 (n := 9) T.F_profile sc_profile rfl rfl fun cdv A outer s H E hr2 => ?_
  have hr := hr2.mono (Nat.le_add_right (4 * n + 1) 2)
  have hr0 := hr2.mono (Nat.le_add_right (4 * n) 3)
  have hr4 := hr2.mono (Nat.le_add_right (4 * n + 2) 1)
  have hu64 := hr2.units
  have hu65 : (A.deeper (envOfC "profile" (defScope s_profile) s.heap.objs.size T.a_profile cdv)).units + 65 < cLine := by have := hr2.un; omega
  have hu62 : (A.deeper (envOfC "profile" (defScope s_profile) s.heap.objs.size T.a_profile cdv)).units + 62 < cLine := by have := hr2.un; omega
  have hu100 : (A.deeper (envOfC "profile" (defScope s_profile) s.heap.objs.size T.a_profile cdv)).units + 100 < cLine := by have := hr2.un; omega
  have hu1 : (A.deeper (envOfC "profile" (defScope s_profile) s.heap.objs.size T.a_profile cdv)).units + 1 < cLine := by omega
  have tk : Takes (cxOf (L2.CX P w) P w K mg base N_profile "profile" (defScope s_profile) T.a_profile cdv A outer s H E) (fun cls d _ H => E cls d H) := takes_of rfl rfl rfl rfl
  exact (s_cons (s_if (q_tnot (q_tr (q_isC T.is_Floor (by rfl) T.m_isinstance (by rfl) T.g_Floor (q_v (i := 0))))) (s_one s_never) s_nil)
    (s_cons (s_set (i := 1) sc_profile.nd rfl (by first | exact Or.inl rfl | exact Or.inr rfl) (q_op o_mul (q_lst (q_cons q_int q_nil)) (q_op o_sub (q_prop hh.Floor_width hr T.b_Floor_width T.g_Floor (clB_ok T.cb_Floor) (prB_ok T.pr_Floor_width) (q_v (i := 0))) q_int)))
    (s_cons (s_set (i := 2) sc_profile.nd rfl (by first | exact Or.inl rfl | exact Or.inr rfl) (q_op o_mul (q_lst (q_cons q_int q_nil)) (q_op o_sub (q_prop hh.Floor_height hr T.b_Floor_height T.g_Floor (clB_ok T.cb_Floor) (prB_ok T.pr_Floor_height) (q_v (i := 0))) q_int)))
    (s_cons (s_for (passes_of rfl) rfl (i_tup (q_prop hh.Floor_bars hr T.b_Floor_bars T.g_Floor (clB_ok T.cb_Floor) (prB_ok T.pr_Floor_bars) (q_v (i := 0)))) (t_tup rfl (ts_cons (t_name (i := 3) sc_profile.nd rfl (by first | exact Or.inl rfl | exact Or.inr rfl)) (ts_cons (t_name (i := 4) sc_profile.nd rfl (by first | exact Or.inl rfl | exact Or.inr rfl)) (ts_cons (t_name (i := 5) sc_profile.nd rfl (by first | exact Or.inl rfl | exact Or.inr rfl)) ts_nil)))) (s_cons (s_set (i := 6) sc_profile.nd rfl (by first | exact Or.inl rfl | exact Or.inr rfl) (q_if (q_tcmp (o_eq hu64) (q_v (i := 5)) (q_gstr (by rfl) T.c_ACROSS) (nomark _)) (q_v (i := 1)) (q_v (i := 2))))
    (s_cons (s_set (i := 7) sc_profile.nd rfl (by first | exact Or.inl rfl | exact Or.inr rfl) (q_if (q_tcmp (o_eq hu64) (q_v (i := 5)) (q_gstr (by rfl) T.c_ACROSS) (nomark _)) (q_v (i := 3)) (q_v (i := 4))))
    (s_one (s_for (passes_of rfl) rfl (i_rng2 (by rfl) T.m_range (q_cons (q_v (i := 7)) (q_cons (q_op o_sub (q_op o_add (q_v (i := 7)) (q_prop hh.Floor_length hr T.b_Floor_length T.g_Floor (clB_ok T.cb_Floor) (prB_ok T.pr_Floor_length) (q_v (i := 0)))) q_int) q_nil))) (t_name (i := 8) sc_profile.nd rfl (by first | exact Or.inl rfl | exact Or.inr rfl)) (s_one (s_setix set_list setL_ok (q_v (i := 6)) (q_v (i := 8)) (q_op o_add (q_ix x_ix (q_v (i := 6)) (q_v (i := 8)) (fun _ _ => rfl)) q_int))))))))
    (s_one (s_ret (q_tup (q_cons (q_callTy f_tuple (by rfl) T.m_tuple bt_tuple (q_cons (q_v (i := 1)) q_nil)) (q_cons (q_callTy f_tuple (by rfl) T.m_tuple bt_tuple (q_cons (q_v (i := 2)) q_nil)) q_nil)))))))))
theorem ok_crossings (T : Tx K mg) {n : Nat} (hh : OkAll P w K mg base T n) : FnOk P w K mg base (L2.CX P w) (4 * n + 3 + 1) T.a_crossings T.d_crossings ["floor", "line"] (spOf K mg 2 (callT T.C_Floor (n + 1) 24)) := by
  refine Fun.ok3 (n := 6) T.F_crossings sc_crossings rfl rfl fun cdv A outer s H E hr2 => ?_
  have hr := hr2.mono (Nat.le_add_right (4 * n + 1) 2)
  have hr0 := hr2.mono (Nat.le_add_right (4 * n) 3)
  have hr4 := hr2.mono (Nat.le_add_right (4 * n + 2) 1)
  have hu64 := hr2.units
  have hu65 : (A.deeper (envOfC "crossings" (defScope s_crossings) s.heap.objs.size T.a_crossings cdv)).units + 65 < cLine := by have := hr2.un; omega
  have hu62 : (A.deeper (envOfC "crossings" (defScope s_crossings) s.heap.objs.size T.a_crossings cdv)).units + 62 < cLine := by have := hr2.un; omega
  have hu100 : (A.deeper (envOfC "crossings" (defScope s_crossings) s.heap.objs.size T.a_crossings cdv)).units + 100 < cLine := by have := hr2.un; omega
  have hu1 : (A.deeper (envOfC "crossings" (defScope s_crossings) s.heap.objs.size T.a_crossings cdv)).units + 1 < cLine := by omega
  have tk : Takes (cxOf (L2.CX P w) P w K mg base N_crossings "crossings" (defScope s_crossings) T.a_crossings cdv A outer s H E) (fun cls d _ H => E cls d H) := takes_of rfl rfl rfl rfl
  exact (s_cons (s_asg (t_tup rfl (ts_cons (t_name (i := 2) sc_crossings.nd rfl (by first | exact Or.inl rfl | exact Or.inr rfl)) (ts_cons (t_name (i := 3) sc_crossings.nd rfl (by first | exact Or.inl rfl | exact Or.inr rfl)) ts_nil))) (q_call tk hh.profile hr0 (by rfl) T.g_profile T.F_profile.kp T.b_profile (q_cons (q_v (i := 0)) q_nil) rfl (kA1_len kA0_len)))
    (s_cons (s_if (q_tnot (q_tr (q_call tk hh.is_line hr0 (by rfl) T.g_is_line T.F_is_line.kp T.b_is_line (q_cons (q_prop hh.Floor_size hr T.b_Floor_size T.g_Floor (clB_ok T.cb_Floor) (prB_ok T.pr_Floor_size) (q_v (i := 0))) (q_cons (q_v (i := 1)) q_nil)) rfl (kA1_len (kA1_len kA0_len))))) (s_one s_never) s_nil)
    (s_cons (s_asg (t_tup rfl (ts_cons (t_name (i := 4) sc_crossings.nd rfl (by first | exact Or.inl rfl | exact Or.inr rfl)) (ts_cons (t_name (i := 5) sc_crossings.nd rfl (by first | exact Or.inl rfl | exact Or.inr rfl)) ts_nil))) (q_v (i := 1)))
    (s_one (s_ret (q_if (q_tcmp (o_eq hu64) (q_v (i := 4)) (q_gstr (by rfl) T.c_UPRIGHT) (nomark _)) (q_ix x_ix (q_v (i := 2)) (q_op o_sub (q_v (i := 5)) q_int) (fun _ _ => rfl)) (q_ix x_ix (q_v (i := 3)) (q_op o_sub (q_v (i := 5)) q_int) (fun _ _ => rfl))))))))
theorem ok_uncrossed (T : Tx K mg) {n : Nat} (hh : OkAll P w K mg base T n) : FnOk P w K mg base (L2.CX P w) (4 * n + 3 + 1) T.a_uncrossed T.d_uncrossed ["way", "counts"] (spOf K mg 2 (callT T.C_Floor (n + 1) 25)) := by
  refine Fun.ok3 (n := 4) T.F_uncrossed sc_uncrossed rfl rfl fun cdv A outer s H E hr2 => ?_
  have hr := hr2.mono (Nat.le_add_right (4 * n + 1) 2)
  have hr0 := hr2.mono (Nat.le_add_right (4 * n) 3)
  have hr4 := hr2.mono (Nat.le_add_right (4 * n + 2) 1)
  have hu64 := hr2.units
  have hu65 : (A.deeper (envOfC "uncrossed" (defScope s_uncrossed) s.heap.objs.size T.a_uncrossed cdv)).units + 65 < cLine := by have := hr2.un; omega
  have hu62 : (A.deeper (envOfC "uncrossed" (defScope s_uncrossed) s.heap.objs.size T.a_uncrossed cdv)).units + 62 < cLine := by have := hr2.un; omega
  have hu100 : (A.deeper (envOfC "uncrossed" (defScope s_uncrossed) s.heap.objs.size T.a_uncrossed cdv)).units + 100 < cLine := by have := hr2.un; omega
  have hu1 : (A.deeper (envOfC "uncrossed" (defScope s_uncrossed) s.heap.objs.size T.a_uncrossed cdv)).units + 1 < cLine := by omega
  have tk : Takes (cxOf (L2.CX P w) P w K mg base N_uncrossed "uncrossed" (defScope s_uncrossed) T.a_uncrossed cdv A outer s H E) (fun cls d _ H => E cls d H) := takes_of rfl rfl rfl rfl
  exact (s_one (s_ret (q_callTy f_tuple (by rfl) T.m_tuple bt_tuple (q_cons (q_lcZ (own := [("at", 2), ("many", 3)]) rfl sc_uncrossed.nd (i_enumT (by rfl) T.m_enumerate (q_cons (q_v (i := 1)) q_nil)) (blkOk_by (own := [("at", 2), ("many", 3)]) (N := N_uncrossed) (sc := defScope s_uncrossed) (by decide +kernel)) (fun _ _ _ _ _ => (pg_tup rfl (pgs_cons (pg_name (i := 2) sc_uncrossed.nd rfl (Or.inl rfl)) (pgs_cons (pg_name (i := 3) sc_uncrossed.nd rfl (Or.inl rfl)) pgs_nil)))) (kg_tup (kgs_cons (kg_name) (kgs_cons (kg_name) kgs_nil))) (by decide) (fun _ _ _ _ _ => c_one (q_tcmp (o_eq hu64) (q_v (i := 3)) q_int (nomark _))) (fun _ _ _ _ _ => (q_tup (q_cons (q_v (i := 0)) (q_cons (q_op o_add (q_v (i := 2)) q_int) q_nil))))) q_nil))))
theorem ok_seams (T : Tx K mg) {n : Nat} (hh : OkAll P w K mg base T n) : FnOk P w K mg base (L2.CX P w) (4 * n + 3 + 1) T.a_seams T.d_seams ["floor"] (spOf K mg 1 (callT T.C_Floor (n + 1) 26)) := by
  refine Fun.ok3 (n := 3) T.F_seams sc_seams rfl rfl fun cdv A outer s H E hr2 => ?_
  have hr := hr2.mono (Nat.le_add_right (4 * n + 1) 2)
  have hr0 := hr2.mono (Nat.le_add_right (4 * n) 3)
  have hr4 := hr2.mono (Nat.le_add_right (4 * n + 2) 1)
  have hu64 := hr2.units
  have hu65 : (A.deeper (envOfC "seams" (defScope s_seams) s.heap.objs.size T.a_seams cdv)).units + 65 < cLine := by have := hr2.un; omega
  have hu62 : (A.deeper (envOfC "seams" (defScope s_seams) s.heap.objs.size T.a_seams cdv)).units + 62 < cLine := by have := hr2.un; omega
  have hu100 : (A.deeper (envOfC "seams" (defScope s_seams) s.heap.objs.size T.a_seams cdv)).units + 100 < cLine := by have := hr2.un; omega
  have hu1 : (A.deeper (envOfC "seams" (defScope s_seams) s.heap.objs.size T.a_seams cdv)).units + 1 < cLine := by omega
  have tk : Takes (cxOf (L2.CX P w) P w K mg base N_seams "seams" (defScope s_seams) T.a_seams cdv A outer s H E) (fun cls d _ H => E cls d H) := takes_of rfl rfl rfl rfl
  exact (s_cons (s_asg (t_tup rfl (ts_cons (t_name (i := 1) sc_seams.nd rfl (by first | exact Or.inl rfl | exact Or.inr rfl)) (ts_cons (t_name (i := 2) sc_seams.nd rfl (by first | exact Or.inl rfl | exact Or.inr rfl)) ts_nil))) (q_call tk hh.profile hr0 (by rfl) T.g_profile T.F_profile.kp T.b_profile (q_cons (q_v (i := 0)) q_nil) rfl (kA1_len kA0_len)))
    (s_one (s_ret (q_op o_add (q_call tk hh.uncrossed hr0 (by rfl) T.g_uncrossed T.F_uncrossed.kp T.b_uncrossed (q_cons (q_gstr (by rfl) T.c_LEVEL) (q_cons (q_v (i := 2)) q_nil)) rfl (kA1_len (kA1_len kA0_len))) (q_call tk hh.uncrossed hr0 (by rfl) T.g_uncrossed T.F_uncrossed.kp T.b_uncrossed (q_cons (q_gstr (by rfl) T.c_UPRIGHT) (q_cons (q_v (i := 1)) q_nil)) rfl (kA1_len (kA1_len kA0_len)))))))
theorem ok_law_numbers (T : Tx K mg) {n : Nat} (hh : OkAll P w K mg base T n) : FnOk P w K mg base (L2.CX P w) (4 * n + 3 + 1) T.a_law_numbers T.d_law_numbers ["script", "at"] (spOf K mg 2 (callT T.C_Floor (n + 1) 27)) := by
  refine Fun.ok3 (n := 5) T.F_law_numbers sc_law_numbers rfl rfl fun cdv A outer s H E hr2 => ?_
  have hr := hr2.mono (Nat.le_add_right (4 * n + 1) 2)
  have hr0 := hr2.mono (Nat.le_add_right (4 * n) 3)
  have hr4 := hr2.mono (Nat.le_add_right (4 * n + 2) 1)
  have hu64 := hr2.units
  have hu65 : (A.deeper (envOfC "_law_numbers" (defScope s_law_numbers) s.heap.objs.size T.a_law_numbers cdv)).units + 65 < cLine := by have := hr2.un; omega
  have hu62 : (A.deeper (envOfC "_law_numbers" (defScope s_law_numbers) s.heap.objs.size T.a_law_numbers cdv)).units + 62 < cLine := by have := hr2.un; omega
  have hu100 : (A.deeper (envOfC "_law_numbers" (defScope s_law_numbers) s.heap.objs.size T.a_law_numbers cdv)).units + 100 < cLine := by have := hr2.un; omega
  have hu1 : (A.deeper (envOfC "_law_numbers" (defScope s_law_numbers) s.heap.objs.size T.a_law_numbers cdv)).units + 1 < cLine := by omega
  have tk : Takes (cxOf (L2.CX P w) P w K mg base N_law_numbers "_law_numbers" (defScope s_law_numbers) T.a_law_numbers cdv A outer s H E) (fun cls d _ H => E cls d H) := takes_of rfl rfl rfl rfl
  exact (s_cons (s_set (i := 2) sc_law_numbers.nd rfl (by first | exact Or.inl rfl | exact Or.inr rfl) (q_if (q_tcmp o_lt (q_v (i := 1)) (q_callB f_len (by rfl) T.m_len bt_len (q_cons (q_v (i := 0)) q_nil)) (nomark _)) (q_ix x_ix (q_v (i := 0)) (q_v (i := 1)) (fun _ _ => rfl)) (q_op o_add (q_op o_mul q_int (q_v (i := 1))) q_int)))
    (s_cons (s_set (i := 3) sc_law_numbers.nd rfl (by first | exact Or.inl rfl | exact Or.inr rfl) (q_op o_mod (q_callTy f_int (by rfl) T.m_int bt_int (q_cons (q_callB f_abs (by rfl) T.m_abs bt_abs (q_cons (q_v (i := 2)) q_nil)) q_nil)) (q_op o_pow (q_op o_pow q_int q_int) q_int)))
    (s_cons (s_set (i := 4) sc_law_numbers.nd rfl (by first | exact Or.inl rfl | exact Or.inr rfl) (q_op o_add (q_op o_add (q_op o_add (q_op o_mul (q_v (i := 3)) q_int) (q_op o_mul q_int (q_v (i := 1)))) (q_op o_mul q_int (q_callTy f_int (by rfl) T.m_int bt_int (q_cons (q_cmp o_lt (q_v (i := 2)) q_int (nomark _)) q_nil)))) q_int))
    (s_one (s_ret (q_lst (q_cons (q_callB (f_max rfl) (by rfl) T.m_max bt_max (q_cons q_int (q_cons (q_op o_sub (q_v (i := 3)) (q_op o_pow q_int q_int)) q_nil))) (q_cons (q_op o_mod (q_callTy f_int (by rfl) T.m_int bt_int (q_cons (q_v (i := 4)) q_nil)) q_int) (q_cons q_int q_nil)))))))))
theorem ok_law_cast (T : Tx K mg) {n : Nat} (hh : OkAll P w K mg base T n) : FnOk P w K mg base (L2.CX P w) (4 * n + 3 + 1) T.a_law_cast T.d_law_cast ["die", "total"] (spOf K mg 2 (callT T.C_Floor (n + 1) 28)) := by
  refine Fun.ok3 (n := 5) T.F_law_cast sc_law_cast rfl rfl fun cdv A outer s H E hr2 => ?_
  have hr := hr2.mono (Nat.le_add_right (4 * n + 1) 2)
  have hr0 := hr2.mono (Nat.le_add_right (4 * n) 3)
  have hr4 := hr2.mono (Nat.le_add_right (4 * n + 2) 1)
  have hu64 := hr2.units
  have hu65 : (A.deeper (envOfC "_law_cast" (defScope s_law_cast) s.heap.objs.size T.a_law_cast cdv)).units + 65 < cLine := by have := hr2.un; omega
  have hu62 : (A.deeper (envOfC "_law_cast" (defScope s_law_cast) s.heap.objs.size T.a_law_cast cdv)).units + 62 < cLine := by have := hr2.un; omega
  have hu100 : (A.deeper (envOfC "_law_cast" (defScope s_law_cast) s.heap.objs.size T.a_law_cast cdv)).units + 100 < cLine := by have := hr2.un; omega
  have hu1 : (A.deeper (envOfC "_law_cast" (defScope s_law_cast) s.heap.objs.size T.a_law_cast cdv)).units + 1 < cLine := by omega
  have tk : Takes (cxOf (L2.CX P w) P w K mg base N_law_cast "_law_cast" (defScope s_law_cast) T.a_law_cast cdv A outer s H E) (fun cls d _ H => E cls d H) := takes_of rfl rfl rfl rfl
  exact (s_cons (s_if (q_tcmp o_gt (q_ix x_ix (q_v (i := 0)) q_int (fun _ _ => rfl)) q_int (nomark _)) (s_cons (s_set (i := 4) sc_law_cast.nd rfl (by first | exact Or.inl rfl | exact Or.inr rfl) (q_op o_mod (q_callTy f_int (by rfl) T.m_int bt_int (q_cons (q_ix x_ix (q_v (i := 0)) q_int (fun _ _ => rfl)) q_nil)) (q_v (i := 1))))
    (s_cons (s_setix set_list setL_ok (q_v (i := 0)) q_int (q_op o_fdiv (q_ix x_ix (q_v (i := 0)) q_int (fun _ _ => rfl)) (q_v (i := 1))))
    (s_one (s_ret (q_v (i := 4)))))) s_nil)
    (s_cons (s_setix set_list setL_ok (q_v (i := 0)) q_int (q_op o_add (q_ix x_ix (q_v (i := 0)) q_int (fun _ _ => rfl)) q_int))
    (s_cons (s_set (i := 2) sc_law_cast.nd rfl (by first | exact Or.inl rfl | exact Or.inr rfl) (q_op o_mod (q_callTy f_int (by rfl) T.m_int bt_int (q_cons (q_op o_add (q_ix x_ix (q_v (i := 0)) q_int (fun _ _ => rfl)) (q_op o_mul q_int (q_ix x_ix (q_v (i := 0)) q_int (fun _ _ => rfl)))) q_nil)) q_int))
    (s_cons (s_set (i := 3) sc_law_cast.nd rfl (by first | exact Or.inl rfl | exact Or.inr rfl) (q_op o_add (q_op o_mul (q_op o_mod (q_callTy f_int (by rfl) T.m_int bt_int (q_cons (q_op o_mul (q_v (i := 2)) (q_v (i := 2))) q_nil)) q_int) (q_v (i := 2))) (q_op o_mul q_int (q_ix x_ix (q_v (i := 0)) q_int (fun _ _ => rfl)))))
    (s_one (s_ret (q_op o_mod (q_callTy f_int (by rfl) T.m_int bt_int (q_cons (q_op o_fdiv (q_op o_mod (q_callTy f_int (by rfl) T.m_int bt_int (q_cons (q_op o_add (q_v (i := 3)) (q_ix x_ix (q_v (i := 0)) q_int (fun _ _ => rfl))) q_nil)) q_int) q_int) q_nil)) (q_v (i := 1)))))))))
theorem ok_law_pick (T : Tx K mg) {n : Nat} (hh : OkAll P w K mg base T n) : FnOk P w K mg base (L2.CX P w) (4 * n + 3 + 1) T.a_law_pick T.d_law_pick ["die", "items"] (spOf K mg 2 (callT T.C_Floor (n + 1) 29)) := by
  refine Fun.ok3 (n := 2) T.F_law_pick sc_law_pick rfl rfl fun cdv A outer s H E hr2 => ?_
  have hr := hr2.mono (Nat.le_add_right (4 * n + 1) 2)
  have hr0 := hr2.mono (Nat.le_add_right (4 * n) 3)
  have hr4 := hr2.mono (Nat.le_add_right (4 * n + 2) 1)
  have hu64 := hr2.units
  have hu65 : (A.deeper (envOfC "_law_pick" (defScope s_law_pick) s.heap.objs.size T.a_law_pick cdv)).units + 65 < cLine := by have := hr2.un; omega
  have hu62 : (A.deeper (envOfC "_law_pick" (defScope s_law_pick) s.heap.objs.size T.a_law_pick cdv)).units + 62 < cLine := by have := hr2.un; omega
  have hu100 : (A.deeper (envOfC "_law_pick" (defScope s_law_pick) s.heap.objs.size T.a_law_pick cdv)).units + 100 < cLine := by have := hr2.un; omega
  have hu1 : (A.deeper (envOfC "_law_pick" (defScope s_law_pick) s.heap.objs.size T.a_law_pick cdv)).units + 1 < cLine := by omega
  have tk : Takes (cxOf (L2.CX P w) P w K mg base N_law_pick "_law_pick" (defScope s_law_pick) T.a_law_pick cdv A outer s H E) (fun cls d _ H => E cls d H) := takes_of rfl rfl rfl rfl
  exact (s_one (s_ret (q_ix x_ix (q_v (i := 1)) (q_call tk hh.law_cast hr0 (by rfl) T.g_law_cast T.F_law_cast.kp T.b_law_cast (q_cons (q_v (i := 0)) (q_cons (q_callB f_len (by rfl) T.m_len bt_len (q_cons (q_v (i := 1)) q_nil)) q_nil)) rfl (kA1_len (kA1_len kA0_len))) (fun _ _ => rfl))))
theorem ok_law_plain_bars (T : Tx K mg) {n : Nat} (hh : OkAll P w K mg base T n) : FnOk P w K mg base (L2.CX P w) (4 * n + 3 + 1) T.a_law_plain_bars T.d_law_plain_bars ["wide", "high", "long"] (spOf K mg 3 (callT T.C_Floor (n + 1) 30)) := by
  refine Fun.ok3 (n := 6) T.F_law_plain_bars sc_law_plain_bars rfl rfl fun cdv A outer s H E hr2 => ?_
  have hr := hr2.mono (Nat.le_add_right (4 * n + 1) 2)
  have hr0 := hr2.mono (Nat.le_add_right (4 * n) 3)
  have hr4 := hr2.mono (Nat.le_add_right (4 * n + 2) 1)
  have hu64 := hr2.units
  have hu65 : (A.deeper (envOfC "_law_plain_bars" (defScope s_law_plain_bars) s.heap.objs.size T.a_law_plain_bars cdv)).units + 65 < cLine := by have := hr2.un; omega
  have hu62 : (A.deeper (envOfC "_law_plain_bars" (defScope s_law_plain_bars) s.heap.objs.size T.a_law_plain_bars cdv)).units + 62 < cLine := by have := hr2.un; omega
  have hu100 : (A.deeper (envOfC "_law_plain_bars" (defScope s_law_plain_bars) s.heap.objs.size T.a_law_plain_bars cdv)).units + 100 < cLine := by have := hr2.un; omega
  have hu1 : (A.deeper (envOfC "_law_plain_bars" (defScope s_law_plain_bars) s.heap.objs.size T.a_law_plain_bars cdv)).units + 1 < cLine := by omega
  have tk : Takes (cxOf (L2.CX P w) P w K mg base N_law_plain_bars "_law_plain_bars" (defScope s_law_plain_bars) T.a_law_plain_bars cdv A outer s H E) (fun cls d _ H => E cls d H) := takes_of rfl rfl rfl rfl
  exact (s_cons (s_set (i := 3) sc_law_plain_bars.nd rfl (by first | exact Or.inl rfl | exact Or.inr rfl) (q_lst q_nil))
    (s_cons (s_if (q_tcmp (o_eq hu64) (q_op o_mod (q_v (i := 0)) (q_v (i := 2))) q_int (nomark _)) (s_one (s_for (passes_of rfl) rfl (i_rng1 (by rfl) T.m_range (q_cons (q_v (i := 1)) q_nil)) (t_name (i := 4) sc_law_plain_bars.nd rfl (by first | exact Or.inl rfl | exact Or.inr rfl)) (s_one (s_expr (q_bm PySem.F.plainAttrs_list PySem.F.slot_list_extend PySem.F.type_list_extend m_extend (q_v (i := 3)) (q_cons (q_lc (own := [("x", 5)]) rfl sc_law_plain_bars.nd (i_rng3 (by rfl) T.m_range (q_cons q_int (q_cons (q_v (i := 0)) (q_cons (q_v (i := 2)) q_nil)))) (blkOk_by (own := [("x", 5)]) (N := N_law_plain_bars) (sc := defScope s_law_plain_bars) (by decide +kernel)) (fun _ _ _ _ _ => (pg_name (i := 5) sc_law_plain_bars.nd rfl (Or.inl rfl))) (kg_name) (by decide) (fun _ _ _ _ _ => c_nil) (fun _ _ _ _ _ => (q_tup (q_cons (q_v (i := 5)) (q_cons (q_v (i := 4)) (q_cons q_str q_nil)))))) q_nil)))))) (s_one (s_for (passes_of rfl) rfl (i_rng3 (by rfl) T.m_range (q_cons q_int (q_cons (q_v (i := 1)) (q_cons (q_v (i := 2)) q_nil)))) (t_name (i := 4) sc_law_plain_bars.nd rfl (by first | exact Or.inl rfl | exact Or.inr rfl)) (s_one (s_expr (q_bm PySem.F.plainAttrs_list PySem.F.slot_list_extend PySem.F.type_list_extend m_extend (q_v (i := 3)) (q_cons (q_lc (own := [("x", 5)]) rfl sc_law_plain_bars.nd (i_rng1 (by rfl) T.m_range (q_cons (q_v (i := 0)) q_nil)) (blkOk_by (own := [("x", 5)]) (N := N_law_plain_bars) (sc := defScope s_law_plain_bars) (by decide +kernel)) (fun _ _ _ _ _ => (pg_name (i := 5) sc_law_plain_bars.nd rfl (Or.inl rfl))) (kg_name) (by decide) (fun _ _ _ _ _ => c_nil) (fun _ _ _ _ _ => (q_tup (q_cons (q_v (i := 5)) (q_cons (q_v (i := 4)) (q_cons q_str q_nil)))))) q_nil)))))))
    (s_one (s_ret (q_v (i := 3))))))
theorem ok_law_turns_in (T : Tx K mg) {n : Nat} (hh : OkAll P w K mg base T n) : FnOk P w K mg base (L2.CX P w) (4 * n + 3 + 1) T.a_law_turns_in T.d_law_turns_in ["bars", "long"] (spOf K mg 2 (callT T.C_Floor (n + 1) 31)) := by
  refine Fun.ok3 (n := 9) T.F_law_turns_in sc_law_turns_in rfl rfl fun cdv A outer s H E hr2 => ?_
  have hr := hr2.mono (Nat.le_add_right (4 * n + 1) 2)
  have hr0 := hr2.mono (Nat.le_add_right (4 * n) 3)
  have hr4 := hr2.mono (Nat.le_add_right (4 * n + 2) 1)
  have hu64 := hr2.units
  have hu65 : (A.deeper (envOfC "_law_turns_in" (defScope s_law_turns_in) s.heap.objs.size T.a_law_turns_in cdv)).units + 65 < cLine := by have := hr2.un; omega
  have hu62 : (A.deeper (envOfC "_law_turns_in" (defScope s_law_turns_in) s.heap.objs.size T.a_law_turns_in cdv)).units + 62 < cLine := by have := hr2.un; omega
  have hu100 : (A.deeper (envOfC "_law_turns_in" (defScope s_law_turns_in) s.heap.objs.size T.a_law_turns_in cdv)).units + 100 < cLine := by have := hr2.un; omega
  have hu1 : (A.deeper (envOfC "_law_turns_in" (defScope s_law_turns_in) s.heap.objs.size T.a_law_turns_in cdv)).units + 1 < cLine := by omega
  have tk : Takes (cxOf (L2.CX P w) P w K mg base N_law_turns_in "_law_turns_in" (defScope s_law_turns_in) T.a_law_turns_in cdv A outer s H E) (fun cls d _ H => E cls d H) := takes_of rfl rfl rfl rfl
  exact (s_cons (s_set (i := 2) sc_law_turns_in.nd rfl (by first | exact Or.inl rfl | exact Or.inr rfl) (q_lst q_nil))
    (s_cons (s_for (passes_of rfl) rfl (i_list (q_v (i := 0))) (t_tup rfl (ts_cons (t_name (i := 3) sc_law_turns_in.nd rfl (by first | exact Or.inl rfl | exact Or.inr rfl)) (ts_cons (t_name (i := 4) sc_law_turns_in.nd rfl (by first | exact Or.inl rfl | exact Or.inr rfl)) (ts_cons (t_name (i := 5) sc_law_turns_in.nd rfl (by first | exact Or.inl rfl | exact Or.inr rfl)) ts_nil)))) (s_cons (s_setLcZ (i := 6) (own := [("at", 7)]) rfl sc_law_turns_in.nd rfl rfl (sw_true rfl rfl rfl (by decide +kernel)) (i_rng1 (by rfl) T.m_range (q_cons (q_v (i := 1)) q_nil)) (blkOk_by (own := [("at", 7)]) (N := N_law_turns_in) (sc := defScope s_law_turns_in) (by decide +kernel)) (fun _ _ _ _ _ => (pg_name (i := 7) sc_law_turns_in.nd rfl (Or.inl rfl))) (kg_name) (by decide) (fun _ _ _ _ _ => c_nil) (fun _ _ _ _ _ => (q_tup (q_cons (q_op o_add (q_v (i := 3)) (q_op o_mul (q_v (i := 7)) (q_callTy f_int (by rfl) T.m_int bt_int (q_cons (q_cmp (o_eq hu64) (q_v (i := 5)) q_str (nomark _)) q_nil)))) (q_cons (q_op o_add (q_v (i := 4)) (q_op o_mul (q_v (i := 7)) (q_callTy f_int (by rfl) T.m_int bt_int (q_cons (q_cmp (o_eq hu64) (q_v (i := 5)) q_str (nomark _)) q_nil)))) (q_cons (q_v (i := 5)) q_nil))))))
    (s_one (s_if (q_tcmp (o_eq hu64) (q_lcZ (own := [("bar", 8)]) rfl sc_law_turns_in.nd (i_list (q_v (i := 6))) (blkOk_by (own := [("bar", 8)]) (N := N_law_turns_in) (sc := defScope s_law_turns_in) (by decide +kernel)) (fun _ _ _ _ _ => (pg_name (i := 8) sc_law_turns_in.nd rfl (Or.inl rfl))) (kg_name) (by decide) (fun _ _ _ _ _ => c_one (q_tcmp (o_notIn hu65) (q_v (i := 8)) (q_v (i := 0)) (by rfl))) (fun _ _ _ _ _ => (q_v (i := 8)))) (q_frz q_nil) (nomark _)) (s_one (s_expr (q_bm PySem.F.plainAttrs_list PySem.F.slot_list_append PySem.F.type_list_append m_append (q_v (i := 2)) (q_cons (q_tup (q_cons (q_v (i := 3)) (q_cons (q_v (i := 4)) (q_cons (q_v (i := 5)) q_nil)))) q_nil)))) s_nil))))
    (s_one (s_ret (q_v (i := 2))))))
theorem ok_law_turn_of (T : Tx K mg) {n : Nat} (hh : OkAll P w K mg base T n) : FnOk P w K mg base (L2.CX P w) (4 * n + 3 + 1) T.a_law_turn_of T.d_law_turn_of ["bars", "long", "square"] (spOf K mg 3 (callT T.C_Floor (n + 1) 32)) := by
  refine Fun.ok3 (n := 11) T.F_law_turn_of sc_law_turn_of rfl rfl fun cdv A outer s H E hr2 => ?_
  have hr := hr2.mono (Nat.le_add_right (4 * n + 1) 2)
  have hr0 := hr2.mono (Nat.le_add_right (4 * n) 3)
  have hr4 := hr2.mono (Nat.le_add_right (4 * n + 2) 1)
  have hu64 := hr2.units
  have hu65 : (A.deeper (envOfC "_law_turn_of" (defScope s_law_turn_of) s.heap.objs.size T.a_law_turn_of cdv)).units + 65 < cLine := by have := hr2.un; omega
  have hu62 : (A.deeper (envOfC "_law_turn_of" (defScope s_law_turn_of) s.heap.objs.size T.a_law_turn_of cdv)).units + 62 < cLine := by have := hr2.un; omega
  have hu100 : (A.deeper (envOfC "_law_turn_of" (defScope s_law_turn_of) s.heap.objs.size T.a_law_turn_of cdv)).units + 100 < cLine := by have := hr2.un; omega
  have hu1 : (A.deeper (envOfC "_law_turn_of" (defScope s_law_turn_of) s.heap.objs.size T.a_law_turn_of cdv)).units + 1 < cLine := by omega
  have tk : Takes (cxOf (L2.CX P w) P w K mg base N_law_turn_of "_law_turn_of" (defScope s_law_turn_of) T.a_law_turn_of cdv A outer s H E) (fun cls d _ H => E cls d H) := takes_of rfl rfl rfl rfl
  exact (s_cons (s_asg (t_tup rfl (ts_cons (t_name (i := 3) sc_law_turn_of.nd rfl (by first | exact Or.inl rfl | exact Or.inr rfl)) (ts_cons (t_name (i := 4) sc_law_turn_of.nd rfl (by first | exact Or.inl rfl | exact Or.inr rfl)) (ts_cons (t_name (i := 5) sc_law_turn_of.nd rfl (by first | exact Or.inl rfl | exact Or.inr rfl)) ts_nil)))) (q_v (i := 2)))
    (s_cons (s_asg (t_tup rfl (ts_cons (t_name (i := 6) sc_law_turn_of.nd rfl (by first | exact Or.inl rfl | exact Or.inr rfl)) (ts_cons (t_name (i := 7) sc_law_turn_of.nd rfl (by first | exact Or.inl rfl | exact Or.inr rfl)) ts_nil))) (q_tup (q_cons (q_lst q_nil) (q_cons (q_lst q_nil) q_nil))))
    (s_cons (s_for (passes_of rfl) rfl (i_rng1 (by rfl) T.m_range (q_cons (q_v (i := 1)) q_nil)) (t_name (i := 8) sc_law_turn_of.nd rfl (by first | exact Or.inl rfl | exact Or.inr rfl)) (s_cons (s_expr (q_bm PySem.F.plainAttrs_list PySem.F.slot_list_append PySem.F.type_list_append m_append (q_v (i := 6)) (q_cons (q_tup (q_cons (q_op o_add (q_v (i := 3)) (q_op o_mul (q_v (i := 8)) (q_callTy f_int (by rfl) T.m_int bt_int (q_cons (q_cmp (o_eq hu64) (q_v (i := 5)) q_str (nomark _)) q_nil)))) (q_cons (q_op o_add (q_v (i := 4)) (q_op o_mul (q_v (i := 8)) (q_callTy f_int (by rfl) T.m_int bt_int (q_cons (q_cmp (o_eq hu64) (q_v (i := 5)) q_str (nomark _)) q_nil)))) (q_cons (q_v (i := 5)) q_nil)))) q_nil)))
    (s_cons (s_set (i := 9) sc_law_turn_of.nd rfl (by first | exact Or.inl rfl | exact Or.inr rfl) (q_if (q_tcmp (o_eq hu64) (q_v (i := 5)) q_str (nomark _)) q_str q_str))
    (s_one (s_expr (q_bm PySem.F.plainAttrs_list PySem.F.slot_list_append PySem.F.type_list_append m_append (q_v (i := 7)) (q_cons (q_tup (q_cons (q_op o_add (q_v (i := 3)) (q_op o_mul (q_v (i := 8)) (q_callTy f_int (by rfl) T.m_int bt_int (q_cons (q_cmp (o_eq hu64) (q_v (i := 9)) q_str (nomark _)) q_nil)))) (q_cons (q_op o_add (q_v (i := 4)) (q_op o_mul (q_v (i := 8)) (q_callTy f_int (by rfl) T.m_int bt_int (q_cons (q_cmp (o_eq hu64) (q_v (i := 9)) q_str (nomark _)) q_nil)))) (q_cons (q_v (i := 9)) q_nil)))) q_nil)))))))
    (s_one (s_ret (q_callB c_sortFZ (by rfl) T.m_sorted bt_sorted (q_cons (q_op o_addZ (q_lcZ (own := [("bar", 10)]) rfl sc_law_turn_of.nd (i_list (q_v (i := 0))) (blkOk_by (own := [("bar", 10)]) (N := N_law_turn_of) (sc := defScope s_law_turn_of) (by decide +kernel)) (fun _ _ _ _ _ => (pg_name (i := 10) sc_law_turn_of.nd rfl (Or.inl rfl))) (kg_name) (by decide) (fun _ _ _ _ _ => c_one (q_tcmp (o_notIn hu65) (q_v (i := 10)) (q_v (i := 6)) (by rfl))) (fun _ _ _ _ _ => (q_v (i := 10)))) (q_v (i := 7))) q_nil)))))))
theorem ok_law_any_floor (T : Tx K mg) {n : Nat} (hh : OkAll P w K mg base T n) : FnOk P w K mg base (L2.CX P w) (4 * n + 3 + 1) T.a_law_any_floor T.d_law_any_floor ["die", "most"] (spOf K mg 2 (callT T.C_Floor (n + 1) 33)) := by
  refine Fun.ok3 (n := 8) T.F_law_any_floor sc_law_any_floor rfl rfl fun cdv A outer s H E hr2 => ?_
  have hr := hr2.mono (Nat.le_add_right (4 * n + 1) 2)
  have hr0 := hr2.mono (Nat.le_add_right (4 * n) 3)
  have hr4 := hr2.mono (Nat.le_add_right (4 * n + 2) 1)
  have hu64 := hr2.units
  have hu65 : (A.deeper (envOfC "_law_any_floor" (defScope s_law_any_floor) s.heap.objs.size T.a_law_any_floor cdv)).units + 65 < cLine := by have := hr2.un; omega
  have hu62 : (A.deeper (envOfC "_law_any_floor" (defScope s_law_any_floor) s.heap.objs.size T.a_law_any_floor cdv)).units + 62 < cLine := by have := hr2.un; omega
  have hu100 : (A.deeper (envOfC "_law_any_floor" (defScope s_law_any_floor) s.heap.objs.size T.a_law_any_floor cdv)).units + 100 < cLine := by have := hr2.un; omega
  have hu1 : (A.deeper (envOfC "_law_any_floor" (defScope s_law_any_floor) s.heap.objs.size T.a_law_any_floor cdv)).units + 1 < cLine := by omega
  have tk : Takes (cxOf (L2.CX P w) P w K mg base N_law_any_floor "_law_any_floor" (defScope s_law_any_floor) T.a_law_any_floor cdv A outer s H E) (fun cls d _ H => E cls d H) := takes_of rfl rfl rfl rfl
  exact (s_cons (s_set (i := 2) sc_law_any_floor.nd rfl (by first | exact Or.inl rfl | exact Or.inr rfl) (q_call tk hh.law_pick hr0 (by rfl) T.g_law_pick T.F_law_pick.kp T.b_law_pick (q_cons (q_v (i := 0)) (q_cons (q_frz (q_cons q_int (q_cons q_int (q_cons q_int (q_cons q_int (q_cons q_int q_nil)))))) q_nil)) rfl (kA1_len (kA1_len kA0_len))))
    (s_cons (s_par2 (i := 3) (j := 4) rfl sc_law_any_floor.nd rfl rfl (by decide) rfl rfl (q_op o_mul (q_v (i := 2)) (q_op o_add q_int (q_call tk hh.law_cast hr0 (by rfl) T.g_law_cast T.F_law_cast.kp T.b_law_cast (q_cons (q_v (i := 0)) (q_cons q_int q_nil)) rfl (kA1_len (kA1_len kA0_len))))) (q_op o_add q_int (q_call tk hh.law_cast hr0 (by rfl) T.g_law_cast T.F_law_cast.kp T.b_law_cast (q_cons (q_v (i := 0)) (q_cons q_int q_nil)) rfl (kA1_len (kA1_len kA0_len)))))
    (s_cons (s_asg (t_tup rfl (ts_cons (t_name (i := 3) sc_law_any_floor.nd rfl (by first | exact Or.inl rfl | exact Or.inr rfl)) (ts_cons (t_name (i := 4) sc_law_any_floor.nd rfl (by first | exact Or.inl rfl | exact Or.inr rfl)) ts_nil))) (q_call tk hh.law_pick hr0 (by rfl) T.g_law_pick T.F_law_pick.kp T.b_law_pick (q_cons (q_v (i := 0)) (q_cons (q_frz (q_cons (q_tup (q_cons (q_v (i := 3)) (q_cons (q_v (i := 4)) q_nil))) (q_cons (q_tup (q_cons (q_v (i := 4)) (q_cons (q_v (i := 3)) q_nil))) q_nil))) q_nil)) rfl (kA1_len (kA1_len kA0_len))))
    (s_cons (s_set (i := 5) sc_law_any_floor.nd rfl (by first | exact Or.inl rfl | exact Or.inr rfl) (q_callB c_sortFZ (by rfl) T.m_sorted bt_sorted (q_cons (q_call tk hh.law_plain_bars hr0 (by rfl) T.g_law_plain_bars T.F_law_plain_bars.kp T.b_law_plain_bars (q_cons (q_v (i := 3)) (q_cons (q_v (i := 4)) (q_cons (q_v (i := 2)) q_nil))) rfl (kA1_len (kA1_len (kA1_len kA0_len)))) q_nil)))
    (s_cons (s_for (passes_of rfl) rfl (i_rng1 (by rfl) T.m_range (q_cons (q_call tk hh.law_cast hr0 (by rfl) T.g_law_cast T.F_law_cast.kp T.b_law_cast (q_cons (q_v (i := 0)) (q_cons (q_v (i := 1)) q_nil)) rfl (kA1_len (kA1_len kA0_len))) q_nil)) (t_name (i := 6) sc_law_any_floor.nd rfl (by first | exact Or.inl rfl | exact Or.inr rfl)) (s_cons (s_set (i := 7) sc_law_any_floor.nd rfl (by first | exact Or.inl rfl | exact Or.inr rfl) (q_call tk hh.law_turns_in hr0 (by rfl) T.g_law_turns_in T.F_law_turns_in.kp T.b_law_turns_in (q_cons (q_v (i := 5)) (q_cons (q_v (i := 2)) q_nil)) rfl (kA1_len (kA1_len kA0_len))))
    (s_one (s_if (q_tcmp (o_ne hu64) (q_v (i := 7)) (q_frz q_nil) (nomark _)) (s_one (s_set (i := 5) sc_law_any_floor.nd rfl (by first | exact Or.inl rfl | exact Or.inr rfl) (q_call tk hh.law_turn_of hr0 (by rfl) T.g_law_turn_of T.F_law_turn_of.kp T.b_law_turn_of (q_cons (q_v (i := 5)) (q_cons (q_v (i := 2)) (q_cons (q_call tk hh.law_pick hr0 (by rfl) T.g_law_pick T.F_law_pick.kp T.b_law_pick (q_cons (q_v (i := 0)) (q_cons (q_v (i := 7)) q_nil)) rfl (kA1_len (kA1_len kA0_len))) q_nil))) rfl (kA1_len (kA1_len (kA1_len kA0_len)))))) s_nil))))
    (s_one (s_ret (q_lst (q_cons (q_tup (q_cons (q_v (i := 3)) (q_cons (q_v (i := 4)) (q_cons (q_v (i := 2)) q_nil)))) (q_cons (q_v (i := 5)) q_nil))))))))))
theorem ok_law_rest_of (T : Tx K mg) {n : Nat} (hh : OkAll P w K mg base T n) : FnOk P w K mg base (L2.CX P w) (4 * n + 3 + 1) T.a_law_rest_of T.d_law_rest_of ["size", "line"] (spOf K mg 2 (callT T.C_Floor (n + 1) 34)) := by
  refine Fun.ok3 (n := 2) T.F_law_rest_of sc_law_rest_of rfl rfl fun cdv A outer s H E hr2 => ?_
  have hr := hr2.mono (Nat.le_add_right (4 * n + 1) 2)
  have hr0 := hr2.mono (Nat.le_add_right (4 * n) 3)
  have hr4 := hr2.mono (Nat.le_add_right (4 * n + 2) 1)
  have hu64 := hr2.units
  have hu65 : (A.deeper (envOfC "_law_rest_of" (defScope s_law_rest_of) s.heap.objs.size T.a_law_rest_of cdv)).units + 65 < cLine := by have := hr2.un; omega
  have hu62 : (A.deeper (envOfC "_law_rest_of" (defScope s_law_rest_of) s.heap.objs.size T.a_law_rest_of cdv)).units + 62 < cLine := by have := hr2.un; omega
  have hu100 : (A.deeper (envOfC "_law_rest_of" (defScope s_law_rest_of) s.heap.objs.size T.a_law_rest_of cdv)).units + 100 < cLine := by have := hr2.un; omega
  have hu1 : (A.deeper (envOfC "_law_rest_of" (defScope s_law_rest_of) s.heap.objs.size T.a_law_rest_of cdv)).units + 1 < cLine := by omega
  have tk : Takes (cxOf (L2.CX P w) P w K mg base N_law_rest_of "_law_rest_of" (defScope s_law_rest_of) T.a_law_rest_of cdv A outer s H E) (fun cls d _ H => E cls d H) := takes_of rfl rfl rfl rfl
  exact (s_cons (s_if (q_tcmp (o_eq hu64) (q_op o_mod (q_ix x_ix (q_v (i := 1)) q_int (fun _ _ => rfl)) (q_ix x_ix (q_v (i := 0)) q_int (fun _ _ => rfl))) q_int (nomark _)) (s_one (s_ret q_int)) s_nil)
    (s_one (s_ret (q_op o_mod (q_ix x_ix (q_v (i := 0)) (q_if (q_tcmp (o_eq hu64) (q_ix x_ix (q_v (i := 1)) q_int (fun _ _ => rfl)) q_str (nomark _)) q_int q_int) (fun _ _ => rfl)) (q_ix x_ix (q_v (i := 0)) q_int (fun _ _ => rfl))))))
theorem ok_law_lines (T : Tx K mg) {n : Nat} (hh : OkAll P w K mg base T n) : FnOk P w K mg base (L2.CX P w) (4 * n + 3 + 1) T.a_law_lines T.d_law_lines ["size"] (spOf K mg 1 (callT T.C_Floor (n + 1) 35)) := by
  refine Fun.ok3 (n := 2) T.F_law_lines sc_law_lines rfl rfl fun cdv A outer s H E hr2 => ?_
  have hr := hr2.mono (Nat.le_add_right (4 * n + 1) 2)
  have hr0 := hr2.mono (Nat.le_add_right (4 * n) 3)
  have hr4 := hr2.mono (Nat.le_add_right (4 * n + 2) 1)
  have hu64 := hr2.units
  have hu65 : (A.deeper (envOfC "_law_lines" (defScope s_law_lines) s.heap.objs.size T.a_law_lines cdv)).units + 65 < cLine := by have := hr2.un; omega
  have hu62 : (A.deeper (envOfC "_law_lines" (defScope s_law_lines) s.heap.objs.size T.a_law_lines cdv)).units + 62 < cLine := by have := hr2.un; omega
  have hu100 : (A.deeper (envOfC "_law_lines" (defScope s_law_lines) s.heap.objs.size T.a_law_lines cdv)).units + 100 < cLine := by have := hr2.un; omega
  have hu1 : (A.deeper (envOfC "_law_lines" (defScope s_law_lines) s.heap.objs.size T.a_law_lines cdv)).units + 1 < cLine := by omega
  have tk : Takes (cxOf (L2.CX P w) P w K mg base N_law_lines "_law_lines" (defScope s_law_lines) T.a_law_lines cdv A outer s H E) (fun cls d _ H => E cls d H) := takes_of rfl rfl rfl rfl
  exact (s_one (s_ret (q_op o_addZ (q_lcZ (own := [("at", 1)]) rfl sc_law_lines.nd (i_rng2 (by rfl) T.m_range (q_cons q_int (q_cons (q_ix x_ix (q_v (i := 0)) q_int (fun _ _ => rfl)) q_nil))) (blkOk_by (own := [("at", 1)]) (N := N_law_lines) (sc := defScope s_law_lines) (by decide +kernel)) (fun _ _ _ _ _ => (pg_name (i := 1) sc_law_lines.nd rfl (Or.inl rfl))) (kg_name) (by decide) (fun _ _ _ _ _ => c_nil) (fun _ _ _ _ _ => (q_tup (q_cons q_str (q_cons (q_v (i := 1)) q_nil))))) (q_lcZ (own := [("at", 1)]) rfl sc_law_lines.nd (i_rng2 (by rfl) T.m_range (q_cons q_int (q_cons (q_ix x_ix (q_v (i := 0)) q_int (fun _ _ => rfl)) q_nil))) (blkOk_by (own := [("at", 1)]) (N := N_law_lines) (sc := defScope s_law_lines) (by decide +kernel)) (fun _ _ _ _ _ => (pg_name (i := 1) sc_law_lines.nd rfl (Or.inl rfl))) (kg_name) (by decide) (fun _ _ _ _ _ => c_nil) (fun _ _ _ _ _ => (q_tup (q_cons q_str (q_cons (q_v (i := 1)) q_nil))))))))
theorem ok_law_right (T : Tx K mg) {n : Nat} (hh : OkAll P w K mg base T n) : FnOk P w K mg base (L2.CX P w) (4 * n + 3 + 1) T.a_law_right T.d_law_right ["die"] (spOf K mg 1 (callT T.C_Floor (n + 1) 36)) := by
  refine Fun.ok3 (n := 13) T.F_law_right sc_law_right rfl rfl fun cdv A outer s H E hr2 => ?_
  have hr := hr2.mono (Nat.le_add_right (4 * n + 1) 2)
  have hr0 := hr2.mono (Nat.le_add_right (4 * n) 3)
  have hr4 := hr2.mono (Nat.le_add_right (4 * n + 2) 1)
  have hu64 := hr2.units
  have hu65 : (A.deeper (envOfC "_law_right" (defScope s_law_right) s.heap.objs.size T.a_law_right cdv)).units + 65 < cLine := by have := hr2.un; omega
  have hu62 : (A.deeper (envOfC "_law_right" (defScope s_law_right) s.heap.objs.size T.a_law_right cdv)).units + 62 < cLine := by have := hr2.un; omega
  have hu100 : (A.deeper (envOfC "_law_right" (defScope s_law_right) s.heap.objs.size T.a_law_right cdv)).units + 100 < cLine := by have := hr2.un; omega
  have hu1 : (A.deeper (envOfC "_law_right" (defScope s_law_right) s.heap.objs.size T.a_law_right cdv)).units + 1 < cLine := by omega
  have tk : Takes (cxOf (L2.CX P w) P w K mg base N_law_right "_law_right" (defScope s_law_right) T.a_law_right cdv A outer s H E) (fun cls d _ H => E cls d H) := takes_of rfl rfl rfl rfl
  exact (s_cons (s_asgL rfl (ts_cons (t_name (i := 1) sc_law_right.nd rfl (by first | exact Or.inl rfl | exact Or.inr rfl)) (ts_cons (t_name (i := 2) sc_law_right.nd rfl (by first | exact Or.inl rfl | exact Or.inr rfl)) ts_nil)) (q_call tk hh.law_any_floor hr0 (by rfl) T.g_law_any_floor T.F_law_any_floor.kp T.b_law_any_floor (q_cons (q_v (i := 0)) (q_cons q_int q_nil)) rfl (kA1_len (kA1_len kA0_len))))
    (s_cons (s_par2 (i := 3) (j := 4) rfl sc_law_right.nd rfl rfl (by decide) rfl rfl (q_lst (q_cons (q_cmeth tk (pr_of hh.Floor_of T.b_Floor_of (sh_Floor_of _)) hr0 (by rfl) T.g_Floor (cmB_ok T.cm_Floor_of).1 (cmB_ok T.cm_Floor_of).2 (q_cons (q_v (i := 1)) (q_cons (q_callTy f_tuple (by rfl) T.m_tuple bt_tuple (q_cons (q_v (i := 2)) q_nil)) q_nil))) (q_cons (q_meth0 tk (pr_of hh.Floor_mirrored T.b_Floor_mirrored (sh_Floor_mirrored _)) hr0 T.g_Floor (clB_ok T.cb_Floor) (mtB_ok T.mt_Floor_mirrored) (q_cmeth tk (pr_of hh.Floor_of T.b_Floor_of (sh_Floor_of _)) hr0 (by rfl) T.g_Floor (cmB_ok T.cm_Floor_of).1 (cmB_ok T.cm_Floor_of).2 (q_cons (q_v (i := 1)) (q_cons (q_callTy f_tuple (by rfl) T.m_tuple bt_tuple (q_cons (q_v (i := 2)) q_nil)) q_nil)))) q_nil))) (q_ix x_ix (q_v (i := 1)) q_int (fun _ _ => rfl)))
    (s_cons (s_for (passes_of rfl) rfl (i_rng1 (by rfl) T.m_range (q_cons q_int q_nil)) (t_name (i := 5) sc_law_right.nd rfl (by first | exact Or.inl rfl | exact Or.inr rfl)) (s_cons (s_set (i := 7) sc_law_right.nd rfl (by first | exact Or.inl rfl | exact Or.inr rfl) (q_call tk hh.law_turns_in hr0 (by rfl) T.g_law_turns_in T.F_law_turns_in.kp T.b_law_turns_in (q_cons (q_v (i := 2)) (q_cons (q_v (i := 4)) q_nil)) rfl (kA1_len (kA1_len kA0_len))))
    (s_one (s_if (q_tcmp (o_ne hu64) (q_v (i := 7)) (q_frz q_nil) (nomark _)) (s_one (s_set (i := 2) sc_law_right.nd rfl (by first | exact Or.inl rfl | exact Or.inr rfl) (q_call tk hh.law_turn_of hr0 (by rfl) T.g_law_turn_of T.F_law_turn_of.kp T.b_law_turn_of (q_cons (q_v (i := 2)) (q_cons (q_v (i := 4)) (q_cons (q_call tk hh.law_pick hr0 (by rfl) T.g_law_pick T.F_law_pick.kp T.b_law_pick (q_cons (q_v (i := 0)) (q_cons (q_v (i := 7)) q_nil)) rfl (kA1_len (kA1_len kA0_len))) q_nil))) rfl (kA1_len (kA1_len (kA1_len kA0_len)))))) s_nil))))
    (s_cons (s_expr (q_bm PySem.F.plainAttrs_list PySem.F.slot_list_append PySem.F.type_list_append m_append (q_v (i := 3)) (q_cons (q_cmeth tk (pr_of hh.Floor_of T.b_Floor_of (sh_Floor_of _)) hr0 (by rfl) T.g_Floor (cmB_ok T.cm_Floor_of).1 (cmB_ok T.cm_Floor_of).2 (q_cons (q_v (i := 1)) (q_cons (q_callTy f_tuple (by rfl) T.m_tuple bt_tuple (q_cons (q_v (i := 2)) q_nil)) q_nil))) q_nil)))
    (s_cons (s_for (passes_of rfl) rfl (i_list (q_v (i := 3))) (t_name (i := 6) sc_law_right.nd rfl (by first | exact Or.inl rfl | exact Or.inr rfl)) (s_cons (s_par2 (i := 8) (j := 9) rfl sc_law_right.nd rfl rfl (by decide) rfl rfl q_int (q_call tk hh.seams hr0 (by rfl) T.g_seams T.F_seams.kp T.b_seams (q_cons (q_v (i := 6)) q_nil) rfl (kA1_len kA0_len)))
    (s_cons (s_for (passes_of rfl) rfl (i_list (q_call tk hh.law_lines hr0 (by rfl) T.g_law_lines T.F_law_lines.kp T.b_law_lines (q_cons (q_v (i := 1)) q_nil) rfl (kA1_len kA0_len))) (t_name (i := 10) sc_law_right.nd rfl (by first | exact Or.inl rfl | exact Or.inr rfl)) (s_cons (s_set (i := 11) sc_law_right.nd rfl (by first | exact Or.inl rfl | exact Or.inr rfl) (q_call tk hh.crossings hr0 (by rfl) T.g_crossings T.F_crossings.kp T.b_crossings (q_cons (q_v (i := 6)) (q_cons (q_v (i := 10)) q_nil)) rfl (kA1_len (kA1_len kA0_len))))
    (s_cons (s_set (i := 12) sc_law_right.nd rfl (by first | exact Or.inl rfl | exact Or.inr rfl) (q_call tk hh.law_rest_of hr0 (by rfl) T.g_law_rest_of T.F_law_rest_of.kp T.b_law_rest_of (q_cons (q_v (i := 1)) (q_cons (q_v (i := 10)) q_nil)) rfl (kA1_len (kA1_len kA0_len))))
    (s_cons (s_if (q_tcmp (o_ne hu64) (q_op o_mod (q_v (i := 11)) (q_v (i := 4))) (q_v (i := 12)) (nomark _)) (s_one (s_ret q_bl)) s_nil)
    (s_cons (s_if (q_tcmp (o_ne hu64) (q_call tk hh.remainder hr0 (by rfl) T.g_remainder T.F_remainder.kp T.b_remainder (q_cons (q_v (i := 1)) (q_cons (q_v (i := 10)) q_nil)) rfl (kA1_len (kA1_len kA0_len))) (q_v (i := 12)) (nomark _)) (s_one (s_ret q_bl)) s_nil)
    (s_cons (s_if (q_tcmp (o_ne hu64) (q_cmp (o_eq hu64) (q_v (i := 11)) q_int (nomark _)) (q_cmp (o_inY hu65) (q_v (i := 10)) (q_v (i := 9)) (by rfl)) (nomark _)) (s_one (s_ret q_bl)) s_nil)
    (s_cons (s_if (PW.pt (w_and (q_tcmp o_gt (q_v (i := 11)) q_int (nomark _)) (w_and1 (q_tcmp o_lt (q_v (i := 11)) (q_call tk hh.need hr0 (by rfl) T.g_need T.F_need.kp T.b_need (q_cons (q_v (i := 1)) (q_cons (q_v (i := 10)) q_nil)) rfl (kA1_len (kA1_len kA0_len))) (nomark _))))) (s_one (s_ret q_bl)) s_nil)
    (s_one (s_set (i := 8) sc_law_right.nd rfl (by first | exact Or.inl rfl | exact Or.inr rfl) (q_op o_add (q_v (i := 8)) (q_v (i := 11))))))))))))
    (s_cons (s_if (q_tcmp (o_ne hu64) (q_v (i := 8)) (q_op o_mul (q_op o_sub (q_v (i := 4)) q_int) (q_callB (c_lenC T.mt_Floor___len__ hr tk T.g_Floor (pr_of hh.Floor___len__ T.b_Floor___len__ (sh_Floor___len__ _))) (by rfl) T.m_len bt_len (q_cons (q_v (i := 6)) q_nil))) (nomark _)) (s_one (s_ret q_bl)) s_nil)
    (s_one (s_if (q_tcmp (o_ne hu64) (q_v (i := 8)) (q_op o_add (q_callB (f_sumX rfl) (by rfl) T.m_sum bt_sum (q_cons (q_ix x_ix (q_call tk hh.profile hr0 (by rfl) T.g_profile T.F_profile.kp T.b_profile (q_cons (q_v (i := 6)) q_nil) rfl (kA1_len kA0_len)) q_int (fun _ _ => rfl)) q_nil)) (q_callB (f_sumX rfl) (by rfl) T.m_sum bt_sum (q_cons (q_ix x_ix (q_call tk hh.profile hr0 (by rfl) T.g_profile T.F_profile.kp T.b_profile (q_cons (q_v (i := 6)) q_nil) rfl (kA1_len kA0_len)) q_int (fun _ _ => rfl)) q_nil))) (nomark _)) (s_one (s_ret q_bl)) s_nil))))))
    (s_one (s_ret q_bl)))))))
theorem ok_law (T : Tx K mg) {n : Nat} (hh : OkAll P w K mg base T n) : FnOk P w K mg base (L2.CX P w) (4 * n + 3 + 1) T.a_law T.d_law ["script"] (spOf K mg 1 (callT T.C_Floor (n + 1) 37)) := by
  refine Fun.ok3 (n := 4) T.F_law sc_law rfl rfl fun cdv A outer s H E hr2 => ?_
  have hr := hr2.mono (Nat.le_add_right (4 * n + 1) 2)
  have hr0 := hr2.mono (Nat.le_add_right (4 * n) 3)
  have hr4 := hr2.mono (Nat.le_add_right (4 * n + 2) 1)
  have hu64 := hr2.units
  have hu65 : (A.deeper (envOfC "law" (defScope s_law) s.heap.objs.size T.a_law cdv)).units + 65 < cLine := by have := hr2.un; omega
  have hu62 : (A.deeper (envOfC "law" (defScope s_law) s.heap.objs.size T.a_law cdv)).units + 62 < cLine := by have := hr2.un; omega
  have hu100 : (A.deeper (envOfC "law" (defScope s_law) s.heap.objs.size T.a_law cdv)).units + 100 < cLine := by have := hr2.un; omega
  have hu1 : (A.deeper (envOfC "law" (defScope s_law) s.heap.objs.size T.a_law cdv)).units + 1 < cLine := by omega
  have tk : Takes (cxOf (L2.CX P w) P w K mg base N_law "law" (defScope s_law) T.a_law cdv A outer s H E) (fun cls d _ H => E cls d H) := takes_of rfl rfl rfl rfl
  exact (s_cons (s_for (passes_of rfl) rfl (i_rng1 (by rfl) T.m_range (q_cons (q_callB (f_max rfl) (by rfl) T.m_max bt_max (q_cons q_int (q_cons (q_callB (f_min rfl) (by rfl) T.m_min bt_min (q_cons q_int (q_cons (q_callB f_len (by rfl) T.m_len bt_len (q_cons (q_v (i := 0)) q_nil)) q_nil))) q_nil))) q_nil)) (t_name (i := 1) sc_law.nd rfl (by first | exact Or.inl rfl | exact Or.inr rfl)) (s_cons (s_set (i := 2) sc_law.nd rfl (by first | exact Or.inl rfl | exact Or.inr rfl) (q_call tk hh.law_numbers hr0 (by rfl) T.g_law_numbers T.F_law_numbers.kp T.b_law_numbers (q_cons (q_v (i := 0)) (q_cons (q_v (i := 1)) q_nil)) rfl (kA1_len (kA1_len kA0_len))))
    (s_one (s_for (passes_of rfl) rfl (i_rng1 (by rfl) T.m_range (q_cons q_int q_nil)) (t_name (i := 3) sc_law.nd rfl (by first | exact Or.inl rfl | exact Or.inr rfl)) (s_one (s_if (q_tnot (q_tr (q_call tk hh.law_right hr0 (by rfl) T.g_law_right T.F_law_right.kp T.b_law_right (q_cons (q_v (i := 2)) q_nil) rfl (kA1_len kA0_len)))) (s_one (s_ret q_bl)) s_nil))))))
    (s_one (s_ret q_bl)))
theorem bad_pr {K : PySem.W.Frag} {mg : Str → Option Value} {f : Addr} {k : Nat} : Pr3 P w K mg base k f runBad := fun _ _ _ _ _ _ _ _ _ _ _ ⟨_, _, _, _, _, z⟩ => z.elim
theorem all_ok (T : Tx K mg)  : ∀ n, OkAll P w K mg base T n
  | 0 => ⟨ok_bad rfl, ok_bad rfl, ok_bad rfl, ok_bad rfl, ok_bad rfl, ok_bad rfl, ok_bad rfl, ok_bad rfl, bad_pr, ok_bad rfl, ok_bad rfl, ok_bad rfl, ok_bad rfl, ok_bad rfl, ok_bad rfl, ok_bad rfl, ok_bad rfl, ok_bad rfl, ok_bad rfl, ok_bad rfl, ok_bad rfl, ok_bad rfl, ok_bad rfl, ok_bad rfl, ok_bad rfl, ok_bad rfl, ok_bad rfl, ok_bad rfl, ok_bad rfl, ok_bad rfl, ok_bad rfl, ok_bad rfl, ok_bad rfl, ok_bad rfl, ok_bad rfl, ok_bad rfl, ok_bad rfl, ok_bad rfl⟩
  | n + 1 => have hh := all_ok T  n
    ⟨ok_is_whole T hh, ok_is_way T hh, ok_is_bar T hh, ok_lies_within T hh, ok_cells_of T hh, ok_can_hold_floor T hh, ok_is_size T hh, ok_covered_cells T hh, ok_Floor___init__ T hh, ok_Floor_of T hh, ok_Floor_size T hh, ok_Floor_width T hh, ok_Floor_height T hh, ok_Floor_length T hh, ok_Floor_bars T hh, ok_Floor_mirrored T hh, ok_Floor___len__ T hh, ok_is_line_way T hh, ok_side_along T hh, ok_side_across T hh, ok_is_line T hh, ok_remainder T hh, ok_need T hh, ok_profile T hh, ok_crossings T hh, ok_uncrossed T hh, ok_seams T hh, ok_law_numbers T hh, ok_law_cast T hh, ok_law_pick T hh, ok_law_plain_bars T hh, ok_law_turns_in T hh, ok_law_turn_of T hh, ok_law_any_floor T hh, ok_law_rest_of T hh, ok_law_lines T hh, ok_law_right T hh, ok_law T hh⟩
end
theorem all_mk {l : PySem.W.OpenLaw} {w : World} {K : PySem.W.Frag} {h : Heap} {mg : Str → Option Value} {fa : Addr} (X : K.In h) (G : h.Ns mainGlobals mg) (hfa : mg "law" = some (.ref fa))
    {f0 f1 f2 f3 f4 f5 f6 f7 f8 f9 f10 f11 f12 f13 f14 f15 f16 f17 f18 f19 f20 f21 f22 f23 f24 f25 f26 f27 f28 f29 f30 f31 f32 f33 f34 f35 f36 f37 q9 q10 q11 q12 q13 q14 C_Floor : Addr} {od0 an0 od1 an1 od2 an2 od3 an3 od4 an4 od5 an5 od6 an6 od7 an7 od8 an8 od9 an9 od10 an10 od11 an11 od12 an12 od13 an13 od14 an14 od15 an15 od16 an16 od17 an17 od18 an18 od19 an19 od20 an20 od21 an21 od22 an22 od23 an23 od24 an24 od25 an25 od26 an26 od27 an27 od28 an28 od29 an29 od30 an30 od31 an31 od32 an32 od33 an33 od34 an34 od35 an35 od36 an36 od37 an37 : Option Addr} {sl0 sl1 sl2 sl3 sl4 sl5 sl6 sl7 sl8 sl9 sl10 sl11 sl12 sl13 sl14 sl15 sl16 sl17 sl18 sl19 sl20 sl21 sl22 sl23 sl24 sl25 sl26 sl27 sl28 sl29 sl30 sl31 sl32 sl33 sl34 sl35 sl36 sl37 : Array (Option Value)} {oc0 kV0 dc0 pm0 ct0 cd0 oc1 kV1 dc1 pm1 ct1 cd1 oc2 kV2 dc2 pm2 ct2 cd2 oc3 kV3 dc3 pm3 ct3 cd3 oc4 kV4 dc4 pm4 ct4 cd4 oc5 kV5 dc5 pm5 ct5 cd5 oc6 kV6 dc6 pm6 ct6 cd6 oc7 kV7 dc7 pm7 ct7 cd7 oc8 kV8 dc8 pm8 ct8 cd8 oc9 kV9 dc9 pm9 ct9 cd9 oc10 kV10 dc10 pm10 ct10 cd10 oc11 kV11 dc11 pm11 ct11 cd11 oc12 kV12 dc12 pm12 ct12 cd12 oc13 kV13 dc13 pm13 ct13 cd13 oc14 kV14 dc14 pm14 ct14 cd14 oc15 kV15 dc15 pm15 ct15 cd15 oc16 kV16 dc16 pm16 ct16 cd16 oc17 kV17 dc17 pm17 ct17 cd17 oc18 kV18 dc18 pm18 ct18 cd18 oc19 kV19 dc19 pm19 ct19 cd19 oc20 kV20 dc20 pm20 ct20 cd20 oc21 kV21 dc21 pm21 ct21 cd21 oc22 kV22 dc22 pm22 ct22 cd22 oc23 kV23 dc23 pm23 ct23 cd23 oc24 kV24 dc24 pm24 ct24 cd24 oc25 kV25 dc25 pm25 ct25 cd25 oc26 kV26 dc26 pm26 ct26 cd26 oc27 kV27 dc27 pm27 ct27 cd27 oc28 kV28 dc28 pm28 ct28 cd28 oc29 kV29 dc29 pm29 ct29 cd29 oc30 kV30 dc30 pm30 ct30 cd30 oc31 kV31 dc31 pm31 ct31 cd31 oc32 kV32 dc32 pm32 ct32 cd32 oc33 kV33 dc33 pm33 ct33 cd33 oc34 kV34 dc34 pm34 ct34 cd34 oc35 kV35 dc35 pm35 ct35 cd35 oc36 kV36 dc36 pm36 ct36 cd36 oc37 kV37 dc37 pm37 ct37 cd37 : Value} {rr9 rr10 rr11 rr12 rr13 rr14 : List Value}
    (xg_Floor : PySem.W.nsIn K mainGlobals "Floor" = some (some (.ref C_Floor)))
    (xb_Floor : clB K C_Floor = true)
    (xn_Floor : naB K C_Floor ["_size", "_bars", "_bar_of"] = true)
    (xi_Floor : isB K C_Floor = true)
    (a0 : PySem.W.nsIn K mainGlobals "is_whole" = some (some (.ref f0)))
    (l0 : K.lookup f0 = some ⟨oc0, od0, .func (PySem.W.fnOf "is_whole" "is_whole" (defArgs s_is_whole) (defBody s_is_whole) (defScope s_is_whole) .none kV0 dc0 pm0 an0 cd0 ct0), sl0⟩)
    (c0 : PySem.W.codeIn K cd0 "is_whole" = true)
    (k0 : PySem.W.keepIn K (.ref f0) = true)
    (a1 : PySem.W.nsIn K mainGlobals "is_way" = some (some (.ref f1)))
    (l1 : K.lookup f1 = some ⟨oc1, od1, .func (PySem.W.fnOf "is_way" "is_way" (defArgs s_is_way) (defBody s_is_way) (defScope s_is_way) .none kV1 dc1 pm1 an1 cd1 ct1), sl1⟩)
    (c1 : PySem.W.codeIn K cd1 "is_way" = true)
    (k1 : PySem.W.keepIn K (.ref f1) = true)
    (a2 : PySem.W.nsIn K mainGlobals "is_bar" = some (some (.ref f2)))
    (l2 : K.lookup f2 = some ⟨oc2, od2, .func (PySem.W.fnOf "is_bar" "is_bar" (defArgs s_is_bar) (defBody s_is_bar) (defScope s_is_bar) .none kV2 dc2 pm2 an2 cd2 ct2), sl2⟩)
    (c2 : PySem.W.codeIn K cd2 "is_bar" = true)
    (k2 : PySem.W.keepIn K (.ref f2) = true)
    (a3 : PySem.W.nsIn K mainGlobals "lies_within" = some (some (.ref f3)))
    (l3 : K.lookup f3 = some ⟨oc3, od3, .func (PySem.W.fnOf "lies_within" "lies_within" (defArgs s_lies_within) (defBody s_lies_within) (defScope s_lies_within) .none kV3 dc3 pm3 an3 cd3 ct3), sl3⟩)
    (c3 : PySem.W.codeIn K cd3 "lies_within" = true)
    (k3 : PySem.W.keepIn K (.ref f3) = true)
    (a4 : PySem.W.nsIn K mainGlobals "cells_of" = some (some (.ref f4)))
    (l4 : K.lookup f4 = some ⟨oc4, od4, .func (PySem.W.fnOf "cells_of" "cells_of" (defArgs s_cells_of) (defBody s_cells_of) (defScope s_cells_of) .none kV4 dc4 pm4 an4 cd4 ct4), sl4⟩)
    (c4 : PySem.W.codeIn K cd4 "cells_of" = true)
    (k4 : PySem.W.keepIn K (.ref f4) = true)
    (a5 : PySem.W.nsIn K mainGlobals "can_hold_floor" = some (some (.ref f5)))
    (l5 : K.lookup f5 = some ⟨oc5, od5, .func (PySem.W.fnOf "can_hold_floor" "can_hold_floor" (defArgs s_can_hold_floor) (defBody s_can_hold_floor) (defScope s_can_hold_floor) .none kV5 dc5 pm5 an5 cd5 ct5), sl5⟩)
    (c5 : PySem.W.codeIn K cd5 "can_hold_floor" = true)
    (k5 : PySem.W.keepIn K (.ref f5) = true)
    (a6 : PySem.W.nsIn K mainGlobals "is_size" = some (some (.ref f6)))
    (l6 : K.lookup f6 = some ⟨oc6, od6, .func (PySem.W.fnOf "is_size" "is_size" (defArgs s_is_size) (defBody s_is_size) (defScope s_is_size) .none kV6 dc6 pm6 an6 cd6 ct6), sl6⟩)
    (c6 : PySem.W.codeIn K cd6 "is_size" = true)
    (k6 : PySem.W.keepIn K (.ref f6) = true)
    (a7 : PySem.W.nsIn K mainGlobals "covered_cells" = some (some (.ref f7)))
    (l7 : K.lookup f7 = some ⟨oc7, od7, .func (PySem.W.fnOf "covered_cells" "covered_cells" (defArgs s_covered_cells) (defBody s_covered_cells) (defScope s_covered_cells) .none kV7 dc7 pm7 an7 cd7 ct7), sl7⟩)
    (c7 : PySem.W.codeIn K cd7 "covered_cells" = true)
    (k7 : PySem.W.keepIn K (.ref f7) = true)
    (a8 : PySem.W.findIn K (.ref C_Floor) "__init__" = some (some (.ref f8)))
    (l8 : K.lookup f8 = some ⟨oc8, od8, .func (PySem.W.fnOf "__init__" "Floor.__init__" (defArgs s_Floor___init__) (defBody s_Floor___init__) (defScope s_Floor___init__) .none kV8 dc8 pm8 an8 cd8 ct8), sl8⟩)
    (c8 : PySem.W.codeIn K cd8 "Floor.__init__" = true)
    (k8 : PySem.W.keepIn K (.ref f8) = true)
    (m8 : mkB K C_Floor f8 = true)
    (e9 : PySem.W.findIn K (.ref C_Floor) "of" = some (some (.ref q9)))
    (a9 : PySem.W.recIn K q9 "classmethod" = some (.ref f9 :: rr9))
    (l9 : K.lookup f9 = some ⟨oc9, od9, .func (PySem.W.fnOf "of" "Floor.of" (defArgs s_Floor_of) (defBody s_Floor_of) (defScope s_Floor_of) .none kV9 dc9 pm9 an9 cd9 ct9), sl9⟩)
    (c9 : PySem.W.codeIn K cd9 "Floor.of" = true)
    (k9 : PySem.W.keepIn K (.ref f9) = true)
    (m9 : cmB K C_Floor (.type "type") "of" q9 f9 = true)
    (e10 : PySem.W.findIn K (.ref C_Floor) "size" = some (some (.ref q10)))
    (a10 : PySem.W.recIn K q10 "property" = some (.ref f10 :: rr10))
    (l10 : K.lookup f10 = some ⟨oc10, od10, .func (PySem.W.fnOf "size" "Floor.size" (defArgs s_Floor_size) (defBody s_Floor_size) (defScope s_Floor_size) .none kV10 dc10 pm10 an10 cd10 ct10), sl10⟩)
    (c10 : PySem.W.codeIn K cd10 "Floor.size" = true)
    (k10 : PySem.W.keepIn K (.ref f10) = true)
    (m10 : prB K C_Floor "size" q10 f10 = true)
    (e11 : PySem.W.findIn K (.ref C_Floor) "width" = some (some (.ref q11)))
    (a11 : PySem.W.recIn K q11 "property" = some (.ref f11 :: rr11))
    (l11 : K.lookup f11 = some ⟨oc11, od11, .func (PySem.W.fnOf "width" "Floor.width" (defArgs s_Floor_width) (defBody s_Floor_width) (defScope s_Floor_width) .none kV11 dc11 pm11 an11 cd11 ct11), sl11⟩)
    (c11 : PySem.W.codeIn K cd11 "Floor.width" = true)
    (k11 : PySem.W.keepIn K (.ref f11) = true)
    (m11 : prB K C_Floor "width" q11 f11 = true)
    (e12 : PySem.W.findIn K (.ref C_Floor) "height" = some (some (.ref q12)))
    (a12 : PySem.W.recIn K q12 "property" = some (.ref f12 :: rr12))
    (l12 : K.lookup f12 = some ⟨oc12, od12, .func (PySem.W.fnOf "height" "Floor.height" (defArgs s_Floor_height) (defBody s_Floor_height) (defScope s_Floor_height) .none kV12 dc12 pm12 an12 cd12 ct12), sl12⟩)
    (c12 : PySem.W.codeIn K cd12 "Floor.height" = true)
    (k12 : PySem.W.keepIn K (.ref f12) = true)
    (m12 : prB K C_Floor "height" q12 f12 = true)
    (e13 : PySem.W.findIn K (.ref C_Floor) "length" = some (some (.ref q13)))
    (a13 : PySem.W.recIn K q13 "property" = some (.ref f13 :: rr13))
    (l13 : K.lookup f13 = some ⟨oc13, od13, .func (PySem.W.fnOf "length" "Floor.length" (defArgs s_Floor_length) (defBody s_Floor_length) (defScope s_Floor_length) .none kV13 dc13 pm13 an13 cd13 ct13), sl13⟩)
    (c13 : PySem.W.codeIn K cd13 "Floor.length" = true)
    (k13 : PySem.W.keepIn K (.ref f13) = true)
    (m13 : prB K C_Floor "length" q13 f13 = true)
    (e14 : PySem.W.findIn K (.ref C_Floor) "bars" = some (some (.ref q14)))
    (a14 : PySem.W.recIn K q14 "property" = some (.ref f14 :: rr14))
    (l14 : K.lookup f14 = some ⟨oc14, od14, .func (PySem.W.fnOf "bars" "Floor.bars" (defArgs s_Floor_bars) (defBody s_Floor_bars) (defScope s_Floor_bars) .none kV14 dc14 pm14 an14 cd14 ct14), sl14⟩)
    (c14 : PySem.W.codeIn K cd14 "Floor.bars" = true)
    (k14 : PySem.W.keepIn K (.ref f14) = true)
    (m14 : prB K C_Floor "bars" q14 f14 = true)
    (a15 : PySem.W.findIn K (.ref C_Floor) "mirrored" = some (some (.ref f15)))
    (l15 : K.lookup f15 = some ⟨oc15, od15, .func (PySem.W.fnOf "mirrored" "Floor.mirrored" (defArgs s_Floor_mirrored) (defBody s_Floor_mirrored) (defScope s_Floor_mirrored) .none kV15 dc15 pm15 an15 cd15 ct15), sl15⟩)
    (c15 : PySem.W.codeIn K cd15 "Floor.mirrored" = true)
    (k15 : PySem.W.keepIn K (.ref f15) = true)
    (m15 : mtB K C_Floor "mirrored" f15 = true)
    (a16 : PySem.W.findIn K (.ref C_Floor) "__len__" = some (some (.ref f16)))
    (l16 : K.lookup f16 = some ⟨oc16, od16, .func (PySem.W.fnOf "__len__" "Floor.__len__" (defArgs s_Floor___len__) (defBody s_Floor___len__) (defScope s_Floor___len__) .none kV16 dc16 pm16 an16 cd16 ct16), sl16⟩)
    (c16 : PySem.W.codeIn K cd16 "Floor.__len__" = true)
    (k16 : PySem.W.keepIn K (.ref f16) = true)
    (m16 : mtB K C_Floor "__len__" f16 = true)
    (a17 : PySem.W.nsIn K mainGlobals "is_line_way" = some (some (.ref f17)))
    (l17 : K.lookup f17 = some ⟨oc17, od17, .func (PySem.W.fnOf "is_line_way" "is_line_way" (defArgs s_is_line_way) (defBody s_is_line_way) (defScope s_is_line_way) .none kV17 dc17 pm17 an17 cd17 ct17), sl17⟩)
    (c17 : PySem.W.codeIn K cd17 "is_line_way" = true)
    (k17 : PySem.W.keepIn K (.ref f17) = true)
    (a18 : PySem.W.nsIn K mainGlobals "side_along" = some (some (.ref f18)))
    (l18 : K.lookup f18 = some ⟨oc18, od18, .func (PySem.W.fnOf "side_along" "side_along" (defArgs s_side_along) (defBody s_side_along) (defScope s_side_along) .none kV18 dc18 pm18 an18 cd18 ct18), sl18⟩)
    (c18 : PySem.W.codeIn K cd18 "side_along" = true)
    (k18 : PySem.W.keepIn K (.ref f18) = true)
    (a19 : PySem.W.nsIn K mainGlobals "side_across" = some (some (.ref f19)))
    (l19 : K.lookup f19 = some ⟨oc19, od19, .func (PySem.W.fnOf "side_across" "side_across" (defArgs s_side_across) (defBody s_side_across) (defScope s_side_across) .none kV19 dc19 pm19 an19 cd19 ct19), sl19⟩)
    (c19 : PySem.W.codeIn K cd19 "side_across" = true)
    (k19 : PySem.W.keepIn K (.ref f19) = true)
    (a20 : PySem.W.nsIn K mainGlobals "is_line" = some (some (.ref f20)))
    (l20 : K.lookup f20 = some ⟨oc20, od20, .func (PySem.W.fnOf "is_line" "is_line" (defArgs s_is_line) (defBody s_is_line) (defScope s_is_line) .none kV20 dc20 pm20 an20 cd20 ct20), sl20⟩)
    (c20 : PySem.W.codeIn K cd20 "is_line" = true)
    (k20 : PySem.W.keepIn K (.ref f20) = true)
    (a21 : PySem.W.nsIn K mainGlobals "remainder" = some (some (.ref f21)))
    (l21 : K.lookup f21 = some ⟨oc21, od21, .func (PySem.W.fnOf "remainder" "remainder" (defArgs s_remainder) (defBody s_remainder) (defScope s_remainder) .none kV21 dc21 pm21 an21 cd21 ct21), sl21⟩)
    (c21 : PySem.W.codeIn K cd21 "remainder" = true)
    (k21 : PySem.W.keepIn K (.ref f21) = true)
    (a22 : PySem.W.nsIn K mainGlobals "need" = some (some (.ref f22)))
    (l22 : K.lookup f22 = some ⟨oc22, od22, .func (PySem.W.fnOf "need" "need" (defArgs s_need) (defBody s_need) (defScope s_need) .none kV22 dc22 pm22 an22 cd22 ct22), sl22⟩)
    (c22 : PySem.W.codeIn K cd22 "need" = true)
    (k22 : PySem.W.keepIn K (.ref f22) = true)
    (a23 : PySem.W.nsIn K mainGlobals "profile" = some (some (.ref f23)))
    (l23 : K.lookup f23 = some ⟨oc23, od23, .func (PySem.W.fnOf "profile" "profile" (defArgs s_profile) (defBody s_profile) (defScope s_profile) .none kV23 dc23 pm23 an23 cd23 ct23), sl23⟩)
    (c23 : PySem.W.codeIn K cd23 "profile" = true)
    (k23 : PySem.W.keepIn K (.ref f23) = true)
    (a24 : PySem.W.nsIn K mainGlobals "crossings" = some (some (.ref f24)))
    (l24 : K.lookup f24 = some ⟨oc24, od24, .func (PySem.W.fnOf "crossings" "crossings" (defArgs s_crossings) (defBody s_crossings) (defScope s_crossings) .none kV24 dc24 pm24 an24 cd24 ct24), sl24⟩)
    (c24 : PySem.W.codeIn K cd24 "crossings" = true)
    (k24 : PySem.W.keepIn K (.ref f24) = true)
    (a25 : PySem.W.nsIn K mainGlobals "uncrossed" = some (some (.ref f25)))
    (l25 : K.lookup f25 = some ⟨oc25, od25, .func (PySem.W.fnOf "uncrossed" "uncrossed" (defArgs s_uncrossed) (defBody s_uncrossed) (defScope s_uncrossed) .none kV25 dc25 pm25 an25 cd25 ct25), sl25⟩)
    (c25 : PySem.W.codeIn K cd25 "uncrossed" = true)
    (k25 : PySem.W.keepIn K (.ref f25) = true)
    (a26 : PySem.W.nsIn K mainGlobals "seams" = some (some (.ref f26)))
    (l26 : K.lookup f26 = some ⟨oc26, od26, .func (PySem.W.fnOf "seams" "seams" (defArgs s_seams) (defBody s_seams) (defScope s_seams) .none kV26 dc26 pm26 an26 cd26 ct26), sl26⟩)
    (c26 : PySem.W.codeIn K cd26 "seams" = true)
    (k26 : PySem.W.keepIn K (.ref f26) = true)
    (a27 : PySem.W.nsIn K mainGlobals "_law_numbers" = some (some (.ref f27)))
    (l27 : K.lookup f27 = some ⟨oc27, od27, .func (PySem.W.fnOf "_law_numbers" "_law_numbers" (defArgs s_law_numbers) (defBody s_law_numbers) (defScope s_law_numbers) .none kV27 dc27 pm27 an27 cd27 ct27), sl27⟩)
    (c27 : PySem.W.codeIn K cd27 "_law_numbers" = true)
    (k27 : PySem.W.keepIn K (.ref f27) = true)
    (a28 : PySem.W.nsIn K mainGlobals "_law_cast" = some (some (.ref f28)))
    (l28 : K.lookup f28 = some ⟨oc28, od28, .func (PySem.W.fnOf "_law_cast" "_law_cast" (defArgs s_law_cast) (defBody s_law_cast) (defScope s_law_cast) .none kV28 dc28 pm28 an28 cd28 ct28), sl28⟩)
    (c28 : PySem.W.codeIn K cd28 "_law_cast" = true)
    (k28 : PySem.W.keepIn K (.ref f28) = true)
    (a29 : PySem.W.nsIn K mainGlobals "_law_pick" = some (some (.ref f29)))
    (l29 : K.lookup f29 = some ⟨oc29, od29, .func (PySem.W.fnOf "_law_pick" "_law_pick" (defArgs s_law_pick) (defBody s_law_pick) (defScope s_law_pick) .none kV29 dc29 pm29 an29 cd29 ct29), sl29⟩)
    (c29 : PySem.W.codeIn K cd29 "_law_pick" = true)
    (k29 : PySem.W.keepIn K (.ref f29) = true)
    (a30 : PySem.W.nsIn K mainGlobals "_law_plain_bars" = some (some (.ref f30)))
    (l30 : K.lookup f30 = some ⟨oc30, od30, .func (PySem.W.fnOf "_law_plain_bars" "_law_plain_bars" (defArgs s_law_plain_bars) (defBody s_law_plain_bars) (defScope s_law_plain_bars) .none kV30 dc30 pm30 an30 cd30 ct30), sl30⟩)
    (c30 : PySem.W.codeIn K cd30 "_law_plain_bars" = true)
    (k30 : PySem.W.keepIn K (.ref f30) = true)
    (a31 : PySem.W.nsIn K mainGlobals "_law_turns_in" = some (some (.ref f31)))
    (l31 : K.lookup f31 = some ⟨oc31, od31, .func (PySem.W.fnOf "_law_turns_in" "_law_turns_in" (defArgs s_law_turns_in) (defBody s_law_turns_in) (defScope s_law_turns_in) .none kV31 dc31 pm31 an31 cd31 ct31), sl31⟩)
    (c31 : PySem.W.codeIn K cd31 "_law_turns_in" = true)
    (k31 : PySem.W.keepIn K (.ref f31) = true)
    (a32 : PySem.W.nsIn K mainGlobals "_law_turn_of" = some (some (.ref f32)))
    (l32 : K.lookup f32 = some ⟨oc32, od32, .func (PySem.W.fnOf "_law_turn_of" "_law_turn_of" (defArgs s_law_turn_of) (defBody s_law_turn_of) (defScope s_law_turn_of) .none kV32 dc32 pm32 an32 cd32 ct32), sl32⟩)
    (c32 : PySem.W.codeIn K cd32 "_law_turn_of" = true)
    (k32 : PySem.W.keepIn K (.ref f32) = true)
    (a33 : PySem.W.nsIn K mainGlobals "_law_any_floor" = some (some (.ref f33)))
    (l33 : K.lookup f33 = some ⟨oc33, od33, .func (PySem.W.fnOf "_law_any_floor" "_law_any_floor" (defArgs s_law_any_floor) (defBody s_law_any_floor) (defScope s_law_any_floor) .none kV33 dc33 pm33 an33 cd33 ct33), sl33⟩)
    (c33 : PySem.W.codeIn K cd33 "_law_any_floor" = true)
    (k33 : PySem.W.keepIn K (.ref f33) = true)
    (a34 : PySem.W.nsIn K mainGlobals "_law_rest_of" = some (some (.ref f34)))
    (l34 : K.lookup f34 = some ⟨oc34, od34, .func (PySem.W.fnOf "_law_rest_of" "_law_rest_of" (defArgs s_law_rest_of) (defBody s_law_rest_of) (defScope s_law_rest_of) .none kV34 dc34 pm34 an34 cd34 ct34), sl34⟩)
    (c34 : PySem.W.codeIn K cd34 "_law_rest_of" = true)
    (k34 : PySem.W.keepIn K (.ref f34) = true)
    (a35 : PySem.W.nsIn K mainGlobals "_law_lines" = some (some (.ref f35)))
    (l35 : K.lookup f35 = some ⟨oc35, od35, .func (PySem.W.fnOf "_law_lines" "_law_lines" (defArgs s_law_lines) (defBody s_law_lines) (defScope s_law_lines) .none kV35 dc35 pm35 an35 cd35 ct35), sl35⟩)
    (c35 : PySem.W.codeIn K cd35 "_law_lines" = true)
    (k35 : PySem.W.keepIn K (.ref f35) = true)
    (a36 : PySem.W.nsIn K mainGlobals "_law_right" = some (some (.ref f36)))
    (l36 : K.lookup f36 = some ⟨oc36, od36, .func (PySem.W.fnOf "_law_right" "_law_right" (defArgs s_law_right) (defBody s_law_right) (defScope s_law_right) .none kV36 dc36 pm36 an36 cd36 ct36), sl36⟩)
    (c36 : PySem.W.codeIn K cd36 "_law_right" = true)
    (k36 : PySem.W.keepIn K (.ref f36) = true)
    (a37 : PySem.W.nsIn K mainGlobals "law" = some (some (.ref f37)))
    (l37 : K.lookup f37 = some ⟨oc37, od37, .func (PySem.W.fnOf "law" "law" (defArgs s_law) (defBody s_law) (defScope s_law) .none kV37 dc37 pm37 an37 cd37 ct37), sl37⟩)
    (c37 : PySem.W.codeIn K cd37 "law" = true)
    (k37 : PySem.W.keepIn K (.ref f37) = true)
    (z0 : PySem.W.nsIn K mainGlobals "abs" = some none)
    (z1 : PySem.W.nsIn K mainGlobals "all" = some none)
    (z2 : PySem.W.nsIn K mainGlobals "bool" = some none)
    (z3 : PySem.W.nsIn K mainGlobals "enumerate" = some none)
    (z4 : PySem.W.nsIn K mainGlobals "int" = some none)
    (z5 : PySem.W.nsIn K mainGlobals "isinstance" = some none)
    (z6 : PySem.W.nsIn K mainGlobals "len" = some none)
    (z7 : PySem.W.nsIn K mainGlobals "max" = some none)
    (z8 : PySem.W.nsIn K mainGlobals "min" = some none)
    (z9 : PySem.W.nsIn K mainGlobals "range" = some none)
    (z10 : PySem.W.nsIn K mainGlobals "sorted" = some none)
    (z11 : PySem.W.nsIn K mainGlobals "str" = some none)
    (z12 : PySem.W.nsIn K mainGlobals "sum" = some none)
    (z13 : PySem.W.nsIn K mainGlobals "tuple" = some none)
    {tc0 : Tok}
    (n0 : PySem.W.nsIn K mainGlobals "ACROSS" = some (some (.str "across" tc0)))
    {tc1 : Tok}
    (n1 : PySem.W.nsIn K mainGlobals "DOWN" = some (some (.str "down" tc1)))
    {tc2 : Tok}
    (n2 : PySem.W.nsIn K mainGlobals "LEVEL" = some (some (.str "level" tc2)))
    {tc3 : Tok}
    (n3 : PySem.W.nsIn K mainGlobals "MAX_CELLS" = some (some (.int 400 tc3)))
    {tc4 : Tok}
    (n4 : PySem.W.nsIn K mainGlobals "MAX_SIDE" = some (some (.int 1000000000000000000000000000000 tc4)))
    {tc5 : Tok}
    (n5 : PySem.W.nsIn K mainGlobals "UPRIGHT" = some (some (.str "upright" tc5)))
    (hrun : ∀ C_Floor : Addr, ∀ ns : List Int, ns.length ≤ 63 → ∃ st', callT C_Floor 12 37 [.frz (ns.map D.int)] [] = .ok (.bl true) st') :
    ∃ fd : FuncData, (∀ (s : Shared) (v : Value), BindsTo s fd ⟨[v], []⟩ [("script", v)]) ∧ ∀ base : Heap, K.In base → base.Ns mainGlobals mg → FnOk l.prog w K mg base (L2.CX l.prog w) 48 fa fd ["script"] (spLaw3 K) := by
  have e := hfa.symm.trans (PySem.W.mg_of X G a37)
  cases e
  have F0 := fun_mk (st := s_is_whole) l0 c0 k0
  have b0 := F0.binds (ps := ["value"]) fun _ _ _ _ _ _ us hl => match us, hl with | [_], _ => rfl
  have F1 := fun_mk (st := s_is_way) l1 c1 k1
  have b1 := F1.binds (ps := ["value"]) fun _ _ _ _ _ _ us hl => match us, hl with | [_], _ => rfl
  have F2 := fun_mk (st := s_is_bar) l2 c2 k2
  have b2 := F2.binds (ps := ["value"]) fun _ _ _ _ _ _ us hl => match us, hl with | [_], _ => rfl
  have F3 := fun_mk (st := s_lies_within) l3 c3 k3
  have b3 := F3.binds (ps := ["size", "bar"]) fun _ _ _ _ _ _ us hl => match us, hl with | [_, _], _ => rfl
  have F4 := fun_mk (st := s_cells_of) l4 c4 k4
  have b4 := F4.binds (ps := ["bar", "length"]) fun _ _ _ _ _ _ us hl => match us, hl with | [_, _], _ => rfl
  have F5 := fun_mk (st := s_can_hold_floor) l5 c5 k5
  have b5 := F5.binds (ps := ["size"]) fun _ _ _ _ _ _ us hl => match us, hl with | [_], _ => rfl
  have F6 := fun_mk (st := s_is_size) l6 c6 k6
  have b6 := F6.binds (ps := ["value"]) fun _ _ _ _ _ _ us hl => match us, hl with | [_], _ => rfl
  have F7 := fun_mk (st := s_covered_cells) l7 c7 k7
  have b7 := F7.binds (ps := ["size", "bars"]) fun _ _ _ _ _ _ us hl => match us, hl with | [_, _], _ => rfl
  have F8 := fun_mk (st := s_Floor___init__) l8 c8 k8
  have F9 := fun_mk (st := s_Floor_of) l9 c9 k9
  have b9 := F9.binds (ps := ["cls", "size", "bars"]) fun _ _ _ _ _ _ us hl => match us, hl with | [_, _, _], _ => rfl
  have F10 := fun_mk (st := s_Floor_size) l10 c10 k10
  have b10 := F10.binds (ps := ["self"]) fun _ _ _ _ _ _ us hl => match us, hl with | [_], _ => rfl
  have F11 := fun_mk (st := s_Floor_width) l11 c11 k11
  have b11 := F11.binds (ps := ["self"]) fun _ _ _ _ _ _ us hl => match us, hl with | [_], _ => rfl
  have F12 := fun_mk (st := s_Floor_height) l12 c12 k12
  have b12 := F12.binds (ps := ["self"]) fun _ _ _ _ _ _ us hl => match us, hl with | [_], _ => rfl
  have F13 := fun_mk (st := s_Floor_length) l13 c13 k13
  have b13 := F13.binds (ps := ["self"]) fun _ _ _ _ _ _ us hl => match us, hl with | [_], _ => rfl
  have F14 := fun_mk (st := s_Floor_bars) l14 c14 k14
  have b14 := F14.binds (ps := ["self"]) fun _ _ _ _ _ _ us hl => match us, hl with | [_], _ => rfl
  have F15 := fun_mk (st := s_Floor_mirrored) l15 c15 k15
  have b15 := F15.binds (ps := ["self"]) fun _ _ _ _ _ _ us hl => match us, hl with | [_], _ => rfl
  have F16 := fun_mk (st := s_Floor___len__) l16 c16 k16
  have b16 := F16.binds (ps := ["self"]) fun _ _ _ _ _ _ us hl => match us, hl with | [_], _ => rfl
  have F17 := fun_mk (st := s_is_line_way) l17 c17 k17
  have b17 := F17.binds (ps := ["value"]) fun _ _ _ _ _ _ us hl => match us, hl with | [_], _ => rfl
  have F18 := fun_mk (st := s_side_along) l18 c18 k18
  have b18 := F18.binds (ps := ["size", "way"]) fun _ _ _ _ _ _ us hl => match us, hl with | [_, _], _ => rfl
  have F19 := fun_mk (st := s_side_across) l19 c19 k19
  have b19 := F19.binds (ps := ["size", "way"]) fun _ _ _ _ _ _ us hl => match us, hl with | [_, _], _ => rfl
  have F20 := fun_mk (st := s_is_line) l20 c20 k20
  have b20 := F20.binds (ps := ["size", "value"]) fun _ _ _ _ _ _ us hl => match us, hl with | [_, _], _ => rfl
  have F21 := fun_mk (st := s_remainder) l21 c21 k21
  have b21 := F21.binds (ps := ["size", "line"]) fun _ _ _ _ _ _ us hl => match us, hl with | [_, _], _ => rfl
  have F22 := fun_mk (st := s_need) l22 c22 k22
  have b22 := F22.binds (ps := ["size", "line"]) fun _ _ _ _ _ _ us hl => match us, hl with | [_, _], _ => rfl
  have F23 := fun_mk (st := s_profile) l23 c23 k23
  have b23 := F23.binds (ps := ["floor"]) fun _ _ _ _ _ _ us hl => match us, hl with | [_], _ => rfl
  have F24 := fun_mk (st := s_crossings) l24 c24 k24
  have b24 := F24.binds (ps := ["floor", "line"]) fun _ _ _ _ _ _ us hl => match us, hl with | [_, _], _ => rfl
  have F25 := fun_mk (st := s_uncrossed) l25 c25 k25
  have b25 := F25.binds (ps := ["way", "counts"]) fun _ _ _ _ _ _ us hl => match us, hl with | [_, _], _ => rfl
  have F26 := fun_mk (st := s_seams) l26 c26 k26
  have b26 := F26.binds (ps := ["floor"]) fun _ _ _ _ _ _ us hl => match us, hl with | [_], _ => rfl
  have F27 := fun_mk (st := s_law_numbers) l27 c27 k27
  have b27 := F27.binds (ps := ["script", "at"]) fun _ _ _ _ _ _ us hl => match us, hl with | [_, _], _ => rfl
  have F28 := fun_mk (st := s_law_cast) l28 c28 k28
  have b28 := F28.binds (ps := ["die", "total"]) fun _ _ _ _ _ _ us hl => match us, hl with | [_, _], _ => rfl
  have F29 := fun_mk (st := s_law_pick) l29 c29 k29
  have b29 := F29.binds (ps := ["die", "items"]) fun _ _ _ _ _ _ us hl => match us, hl with | [_, _], _ => rfl
  have F30 := fun_mk (st := s_law_plain_bars) l30 c30 k30
  have b30 := F30.binds (ps := ["wide", "high", "long"]) fun _ _ _ _ _ _ us hl => match us, hl with | [_, _, _], _ => rfl
  have F31 := fun_mk (st := s_law_turns_in) l31 c31 k31
  have b31 := F31.binds (ps := ["bars", "long"]) fun _ _ _ _ _ _ us hl => match us, hl with | [_, _], _ => rfl
  have F32 := fun_mk (st := s_law_turn_of) l32 c32 k32
  have b32 := F32.binds (ps := ["bars", "long", "square"]) fun _ _ _ _ _ _ us hl => match us, hl with | [_, _, _], _ => rfl
  have F33 := fun_mk (st := s_law_any_floor) l33 c33 k33
  have b33 := F33.binds (ps := ["die", "most"]) fun _ _ _ _ _ _ us hl => match us, hl with | [_, _], _ => rfl
  have F34 := fun_mk (st := s_law_rest_of) l34 c34 k34
  have b34 := F34.binds (ps := ["size", "line"]) fun _ _ _ _ _ _ us hl => match us, hl with | [_, _], _ => rfl
  have F35 := fun_mk (st := s_law_lines) l35 c35 k35
  have b35 := F35.binds (ps := ["size"]) fun _ _ _ _ _ _ us hl => match us, hl with | [_], _ => rfl
  have F36 := fun_mk (st := s_law_right) l36 c36 k36
  have b36 := F36.binds (ps := ["die"]) fun _ _ _ _ _ _ us hl => match us, hl with | [_], _ => rfl
  have F37 := fun_mk (st := s_law) l37 c37 k37
  have b37 := F37.binds (ps := ["script"]) fun _ _ _ _ _ _ us hl => match us, hl with | [_], _ => rfl
  let T : Tx K mg := ⟨_, PySem.W.mg_of X G xg_Floor, xb_Floor, xn_Floor, xi_Floor, _, _, F0, b0, PySem.W.mg_of X G a0, _, _, F1, b1, PySem.W.mg_of X G a1, _, _, F2, b2, PySem.W.mg_of X G a2, _, _, F3, b3, PySem.W.mg_of X G a3, _, _, F4, b4, PySem.W.mg_of X G a4, _, _, F5, b5, PySem.W.mg_of X G a5, _, _, F6, b6, PySem.W.mg_of X G a6, _, _, F7, b7, PySem.W.mg_of X G a7, _, _, F8, m8, _, _, F9, b9, q9, m9, _, _, F10, b10, q10, m10, _, _, F11, b11, q11, m11, _, _, F12, b12, q12, m12, _, _, F13, b13, q13, m13, _, _, F14, b14, q14, m14, _, _, F15, b15, m15, _, _, F16, b16, m16, _, _, F17, b17, PySem.W.mg_of X G a17, _, _, F18, b18, PySem.W.mg_of X G a18, _, _, F19, b19, PySem.W.mg_of X G a19, _, _, F20, b20, PySem.W.mg_of X G a20, _, _, F21, b21, PySem.W.mg_of X G a21, _, _, F22, b22, PySem.W.mg_of X G a22, _, _, F23, b23, PySem.W.mg_of X G a23, _, _, F24, b24, PySem.W.mg_of X G a24, _, _, F25, b25, PySem.W.mg_of X G a25, _, _, F26, b26, PySem.W.mg_of X G a26, _, _, F27, b27, PySem.W.mg_of X G a27, _, _, F28, b28, PySem.W.mg_of X G a28, _, _, F29, b29, PySem.W.mg_of X G a29, _, _, F30, b30, PySem.W.mg_of X G a30, _, _, F31, b31, PySem.W.mg_of X G a31, _, _, F32, b32, PySem.W.mg_of X G a32, _, _, F33, b33, PySem.W.mg_of X G a33, _, _, F34, b34, PySem.W.mg_of X G a34, _, _, F35, b35, PySem.W.mg_of X G a35, _, _, F36, b36, PySem.W.mg_of X G a36, _, _, F37, b37, PySem.W.mg_of X G a37, PySem.W.mg_none_of X G z0, PySem.W.mg_none_of X G z1, PySem.W.mg_none_of X G z2, PySem.W.mg_none_of X G z3, PySem.W.mg_none_of X G z4, PySem.W.mg_none_of X G z5, PySem.W.mg_none_of X G z6, PySem.W.mg_none_of X G z7, PySem.W.mg_none_of X G z8, PySem.W.mg_none_of X G z9, PySem.W.mg_none_of X G z10, PySem.W.mg_none_of X G z11, PySem.W.mg_none_of X G z12, PySem.W.mg_none_of X G z13, tc0, PySem.W.mg_of X G n0, tc1, PySem.W.mg_of X G n1, tc2, PySem.W.mg_of X G n2, tc3, PySem.W.mg_of X G n3, tc4, PySem.W.mg_of X G n4, tc5, PySem.W.mg_of X G n5⟩
  exact ⟨_, fun s v => .of_eq rfl, fun base _ _ => law_of (all_ok (base := base) T 12).law rfl (hrun _)⟩
end k08
open PySem PySem.W PyProof.Rows
set_option maxRecDepth 100000 in
set_option maxHeartbeats 0 in
theorem PySem.Challenge.cw_bondfloors_k08_whole_remainders_of_cross_holds : PySem.Challenge.rw_bondfloors_k08_whole_remainders_of_cross.Holds := by
  w_on; o_law; k_head; (case hw => w_witness2)
  k_fill
  refine L2.walk_of (l := PySem.Challenge.rw_bondfloors_k08_whole_remainders_of_cross) (n := 63) (k := 48) (x := "script") (CX := fun w => L2.CX PySem.Challenge.rw_bondfloors_k08_whole_remainders_of_cross.prog w) (sp := fun w => L3.spLaw3 _) rfl (by decide) rfl ⟨rfl, by decide, by decide⟩ (fun w h Y => PySem.W.kIn_of Y) ?F (fun _ _ a ns hl ho hS => ⟨a, ns, rfl, hS, hl, ho, fun _ => rfl⟩) (fun w H s e s' h => L3.cx_end H s e s' h)
  case F =>
    intro w mg fa h KX G hmg
    refine' k08.all_mk KX G hmg ?xg_Floor ?xb_Floor ?xn_Floor ?xi_Floor ?a0 ?l0 ?c0 ?k0 ?a1 ?l1 ?c1 ?k1 ?a2 ?l2 ?c2 ?k2 ?a3 ?l3 ?c3 ?k3 ?a4 ?l4 ?c4 ?k4 ?a5 ?l5 ?c5 ?k5 ?a6 ?l6 ?c6 ?k6 ?a7 ?l7 ?c7 ?k7 ?a8 ?l8 ?c8 ?k8 ?m8 ?e9 ?a9 ?l9 ?c9 ?k9 ?m9 ?e10 ?a10 ?l10 ?c10 ?k10 ?m10 ?e11 ?a11 ?l11 ?c11 ?k11 ?m11 ?e12 ?a12 ?l12 ?c12 ?k12 ?m12 ?e13 ?a13 ?l13 ?c13 ?k13 ?m13 ?e14 ?a14 ?l14 ?c14 ?k14 ?m14 ?a15 ?l15 ?c15 ?k15 ?m15 ?a16 ?l16 ?c16 ?k16 ?m16 ?a17 ?l17 ?c17 ?k17 ?a18 ?l18 ?c18 ?k18 ?a19 ?l19 ?c19 ?k19 ?a20 ?l20 ?c20 ?k20 ?a21 ?l21 ?c21 ?k21 ?a22 ?l22 ?c22 ?k22 ?a23 ?l23 ?c23 ?k23 ?a24 ?l24 ?c24 ?k24 ?a25 ?l25 ?c25 ?k25 ?a26 ?l26 ?c26 ?k26 ?a27 ?l27 ?c27 ?k27 ?a28 ?l28 ?c28 ?k28 ?a29 ?l29 ?c29 ?k29 ?a30 ?l30 ?c30 ?k30 ?a31 ?l31 ?c31 ?k31 ?a32 ?l32 ?c32 ?k32 ?a33 ?l33 ?c33 ?k33 ?a34 ?l34 ?c34 ?k34 ?a35 ?l35 ?c35 ?k35 ?a36 ?l36 ?c36 ?k36 ?a37 ?l37 ?c37 ?k37 ?z0 ?z1 ?z2 ?z3 ?z4 ?z5 ?z6 ?z7 ?z8 ?z9 ?z10 ?z11 ?z12 ?z13 ?n0 ?n1 ?n2 ?n3 ?n4 ?n5 k08.main_run
    (case xg_Floor => k_is)
    (case xb_Floor => exact L3.clB_of (by k_is) (by k_is) (by k_is) (by k_is))
    (case xn_Floor => exact (L3.naB_cons (by k_is) (L3.naB_cons (by k_is) (L3.naB_cons (by k_is) L3.naB_nil))))
    (case xi_Floor => exact L3.isB_of (L3.clB_of (by k_is) (by k_is) (by k_is) (by k_is)) (by k_is) (by k_is) (by k_is) (by k_is) L3.kit_self (L3.kit_not (by k_is) (by k_is) (by k_is)) (L3.kit_not (by k_is) (by k_is) (by k_is)) (L3.kit_not (by k_is) (by k_is) (by k_is)) (L3.kit_not (by k_is) (by k_is) (by k_is)) (L3.kit_not (by k_is) (by k_is) (by k_is)) (L3.kit_not (by k_is) (by k_is) (by k_is)) (L3.kit_not (by k_is) (by k_is) (by k_is)))
    (case a0 => k_is)
    (case l0 => k_is)
    (case c0 => k_is)
    (case k0 => k_is)
    (case a1 => k_is)
    (case l1 => k_is)
    (case c1 => k_is)
    (case k1 => k_is)
    (case a2 => k_is)
    (case l2 => k_is)
    (case c2 => k_is)
    (case k2 => k_is)
    (case a3 => k_is)
    (case l3 => k_is)
    (case c3 => k_is)
    (case k3 => k_is)
    (case a4 => k_is)
    (case l4 => k_is)
    (case c4 => k_is)
    (case k4 => k_is)
    (case a5 => k_is)
    (case l5 => k_is)
    (case c5 => k_is)
    (case k5 => k_is)
    (case a6 => k_is)
    (case l6 => k_is)
    (case c6 => k_is)
    (case k6 => k_is)
    (case a7 => k_is)
    (case l7 => k_is)
    (case c7 => k_is)
    (case k7 => k_is)
    (case a8 => k_is)
    (case l8 => k_is)
    (case c8 => k_is)
    (case k8 => k_is)
    (case m8 => exact L3.mkB_of (by k_is) (by k_is) (by k_is) (by k_is))
    (case e9 => k_is)
    (case a9 => k_is)
    (case l9 => k_is)
    (case c9 => k_is)
    (case k9 => k_is)
    (case m9 => exact L3.cmB_of (by k_is) (by k_is) (by k_is) (by k_is) (by k_is))
    (case e10 => k_is)
    (case a10 => k_is)
    (case l10 => k_is)
    (case c10 => k_is)
    (case k10 => k_is)
    (case m10 => exact L3.prB_of (by k_is) (by k_is) (by k_is) (by k_is))
    (case e11 => k_is)
    (case a11 => k_is)
    (case l11 => k_is)
    (case c11 => k_is)
    (case k11 => k_is)
    (case m11 => exact L3.prB_of (by k_is) (by k_is) (by k_is) (by k_is))
    (case e12 => k_is)
    (case a12 => k_is)
    (case l12 => k_is)
    (case c12 => k_is)
    (case k12 => k_is)
    (case m12 => exact L3.prB_of (by k_is) (by k_is) (by k_is) (by k_is))
    (case e13 => k_is)
    (case a13 => k_is)
    (case l13 => k_is)
    (case c13 => k_is)
    (case k13 => k_is)
    (case m13 => exact L3.prB_of (by k_is) (by k_is) (by k_is) (by k_is))
    (case e14 => k_is)
    (case a14 => k_is)
    (case l14 => k_is)
    (case c14 => k_is)
    (case k14 => k_is)
    (case m14 => exact L3.prB_of (by k_is) (by k_is) (by k_is) (by k_is))
    (case a15 => k_is)
    (case l15 => k_is)
    (case c15 => k_is)
    (case k15 => k_is)
    (case m15 => exact L3.mtB_of (by k_is) (by k_is) (by k_is))
    (case a16 => k_is)
    (case l16 => k_is)
    (case c16 => k_is)
    (case k16 => k_is)
    (case m16 => exact L3.mtB_of (by k_is) (by k_is) (by k_is))
    (case a17 => k_is)
    (case l17 => k_is)
    (case c17 => k_is)
    (case k17 => k_is)
    (case a18 => k_is)
    (case l18 => k_is)
    (case c18 => k_is)
    (case k18 => k_is)
    (case a19 => k_is)
    (case l19 => k_is)
    (case c19 => k_is)
    (case k19 => k_is)
    (case a20 => k_is)
    (case l20 => k_is)
    (case c20 => k_is)
    (case k20 => k_is)
    (case a21 => k_is)
    (case l21 => k_is)
    (case c21 => k_is)
    (case k21 => k_is)
    (case a22 => k_is)
    (case l22 => k_is)
    (case c22 => k_is)
    (case k22 => k_is)
    (case a23 => k_is)
    (case l23 => k_is)
    (case c23 => k_is)
    (case k23 => k_is)
    (case a24 => k_is)
    (case l24 => k_is)
    (case c24 => k_is)
    (case k24 => k_is)
    (case a25 => k_is)
    (case l25 => k_is)
    (case c25 => k_is)
    (case k25 => k_is)
    (case a26 => k_is)
    (case l26 => k_is)
    (case c26 => k_is)
    (case k26 => k_is)
    (case a27 => k_is)
    (case l27 => k_is)
    (case c27 => k_is)
    (case k27 => k_is)
    (case a28 => k_is)
    (case l28 => k_is)
    (case c28 => k_is)
    (case k28 => k_is)
    (case a29 => k_is)
    (case l29 => k_is)
    (case c29 => k_is)
    (case k29 => k_is)
    (case a30 => k_is)
    (case l30 => k_is)
    (case c30 => k_is)
    (case k30 => k_is)
    (case a31 => k_is)
    (case l31 => k_is)
    (case c31 => k_is)
    (case k31 => k_is)
    (case a32 => k_is)
    (case l32 => k_is)
    (case c32 => k_is)
    (case k32 => k_is)
    (case a33 => k_is)
    (case l33 => k_is)
    (case c33 => k_is)
    (case k33 => k_is)
    (case a34 => k_is)
    (case l34 => k_is)
    (case c34 => k_is)
    (case k34 => k_is)
    (case a35 => k_is)
    (case l35 => k_is)
    (case c35 => k_is)
    (case k35 => k_is)
    (case a36 => k_is)
    (case l36 => k_is)
    (case c36 => k_is)
    (case k36 => k_is)
    (case a37 => k_is)
    (case l37 => k_is)
    (case c37 => k_is)
    (case k37 => k_is)
    (case z0 => k_is)
    (case z1 => k_is)
    (case z2 => k_is)
    (case z3 => k_is)
    (case z4 => k_is)
    (case z5 => k_is)
    (case z6 => k_is)
    (case z7 => k_is)
    (case z8 => k_is)
    (case z9 => k_is)
    (case z10 => k_is)
    (case z11 => k_is)
    (case z12 => k_is)
    (case z13 => k_is)
    (case n0 => k_is)
    (case n1 => k_is)
    (case n2 => k_is)
    (case n3 => k_is)
    (case n4 => k_is)
    (case n5 => k_is)
