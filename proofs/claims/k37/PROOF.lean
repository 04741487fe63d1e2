import PyProof.Rows.All
import Wide.All
import OpenK.AllK
import Wide.FinOn
import HandS.ForMost
import HandS.Exc
import HandS.ExcOwn
import HandS.TryOnly
import HandS.WordsExc
import HandS.TupAny
import HandS.Style
import HandS.IsInst
import HandS.Deep
import KE.GoesMore
import KE.GoesEnum
import HandS.Zip
import HandS.TupMul
import HandS.Rev
import KE.SortData
import KE.DataCmp
import KE.DataMinMax
import KE.DataFind
import KE.KRevSl
import HandS.HotCalls
import HandS.ExcIs
import HandS.NoneIn
import HandS.Text
import HandS.FStr
import HandS.StrMore
import HandS.RaiseMore
import PySem.Challenge.RW_sureprices_k37_whole_shop_texts
set_option Elab.async false
set_option linter.all false
set_option maxRecDepth 100000
set_option maxHeartbeats 2000000
/-! DL: values as trees of data over the hand layer; lists that are owned by a slot may change. -/
namespace DL
open PySem PySem.Spec L2

inductive D where
  | non | bl (b : Bool) | int (i : Int) | str (x : Str) | tup (xs : List D) | lst (xs : List D) | fz (xs : List D)

/-- what a slot holds: nothing that is known, a datum, a list of one's own (io: the caller's, to be changed in place) -/
inductive Sl where
  | no | im (d : D) | own (io : Bool) (xs : List D)
abbrev En := List Sl
/-- a component of a tuple just made: fresh (a list that nobody else holds) or not -/
structure Cp where
  fr : Bool
  d : D
/-- a temporary value: a datum, the owned list of slot i, a new list, a new tuple with new lists in it -/
inductive T where
  | im (d : D) | al (i : Nat) | fr (ds : List D) | ft (cs : List Cp)
inductive R (α : Type) where
  | er | ex (c : Str) (e : En) | ok (a : α) (e : En)

/-! ### how a datum lies in the heap -/
def TupAt (K : PySem.W.Frag) (H : Hp) (a : Addr) (xs : List V) : Prop := SqT K H a xs
def FzAt (K : PySem.W.Frag) (H : Hp) (a : Addr) (xs : List V) : Prop :=
  (∃ o, H a = some (.frz o (.lst xs))) ∨
    ∃ (o : Obj) (its : Array Value) (n : Nat), K.lookup a = some o ∧ o.cls = .type "list" ∧ o.dict = none ∧ o.data = .seq its n ∧ its.size ≤ sizeLine ∧ Vals xs its.toList
theorem FzAt.sql {K : PySem.W.Frag} {H : Hp} {a : Addr} {xs : List V} (h : FzAt K H a xs) : SqL K H a xs := by
  rcases h with ⟨o, h⟩ | h
  · exact .inl (.inr ⟨o, h⟩)
  · exact .inr h

mutual
inductive Rep (K : PySem.W.Frag) (G : Addr → Prop) (H : Hp) : V → D → Prop
  | non : Rep K G H .non .non
  | bl (b : Bool) : Rep K G H (.bl b) (.bl b)
  | int (i : Int) : Rep K G H (.int i) (.int i)
  | str (x : Str) : Rep K G H (.str x) (.str x)
  | tup {a xs ds} (h : SqT K H a xs) (r : Reps K G H xs ds) : Rep K G H (.ref a) (.tup ds)
  | lst {a xs ds} (g : G a) (h : H a = some (.lst xs)) (r : Reps K G H xs ds) : Rep K G H (.ref a) (.lst ds)
  | fz {a xs ds} (h : FzAt K H a xs) (r : Reps K G H xs ds) : Rep K G H (.ref a) (.fz ds)
inductive Reps (K : PySem.W.Frag) (G : Addr → Prop) (H : Hp) : List V → List D → Prop
  | nil : Reps K G H [] []
  | cons {v d vs ds} (r : Rep K G H v d) (rs : Reps K G H vs ds) : Reps K G H (v :: vs) (d :: ds)
end

/-- tuples and locked things stay -/
structure TK (H H' : Hp) : Prop where
  tup : ∀ b xs, H b = some (.tup xs) → H' b = some (.tup xs)
  frz : ∀ b o u, H b = some (.frz o u) → H' b = some (.frz o u)
theorem TK.refl (H : Hp) : TK H H := ⟨fun _ _ h => h, fun _ _ _ h => h⟩
theorem TK.sqt {K : PySem.W.Frag} {H H' : Hp} (k : TK H H') {a : Addr} {xs : List V} (h : SqT K H a xs) : SqT K H' a xs := by
  rcases h with (h | ⟨o, h⟩) | h
  · exact .inl (.inl (k.tup _ _ h))
  · exact .inl (.inr ⟨o, k.frz _ _ _ h⟩)
  · exact .inr h
theorem TK.fz {K : PySem.W.Frag} {H H' : Hp} (k : TK H H') {a : Addr} {xs : List V} (h : FzAt K H a xs) : FzAt K H' a xs := by
  rcases h with ⟨o, h⟩ | h
  · exact .inl ⟨o, k.frz _ _ _ h⟩
  · exact .inr h

section
variable {K : PySem.W.Frag} {G G' : Addr → Prop} {H H' : Hp}
mutual
theorem Rep.mono (k : TK H H') (g : ∀ a xs, G a → H a = some (.lst xs) → G' a ∧ H' a = some (.lst xs)) : ∀ {v d}, Rep K G H v d → Rep K G' H' v d
  | _, _, .non => .non
  | _, _, .bl b => .bl b
  | _, _, .int i => .int i
  | _, _, .str x => .str x
  | _, _, .tup h r => .tup (k.sqt h) (Reps.mono k g r)
  | _, _, .lst ga h r => .lst (g _ _ ga h).1 (g _ _ ga h).2 (Reps.mono k g r)
  | _, _, .fz h r => .fz (k.fz h) (Reps.mono k g r)
theorem Reps.mono (k : TK H H') (g : ∀ a xs, G a → H a = some (.lst xs) → G' a ∧ H' a = some (.lst xs)) : ∀ {vs ds}, Reps K G H vs ds → Reps K G' H' vs ds
  | _, _, .nil => .nil
  | _, _, .cons r rs => .cons (Rep.mono k g r) (Reps.mono k g rs)
end
theorem Reps.length {vs : List V} {ds : List D} : Reps K G H vs ds → vs.length = ds.length
  | .nil => rfl
  | .cons _ rs => congrArg (· + 1) (Reps.length rs)
theorem Reps.get {vs : List V} {ds : List D} {i : Nat} {d : D} : Reps K G H vs ds → ds[i]? = some d → ∃ v, vs[i]? = some v ∧ Rep K G H v d
  | .nil, h => by simp at h
  | .cons r rs, h => by
    cases i with
    | zero => simp at h; subst h; exact ⟨_, rfl, r⟩
    | succ i => simpa using Reps.get rs (by simpa using h)
theorem Reps.getV {vs : List V} {ds : List D} {i : Nat} {v : V} : Reps K G H vs ds → vs[i]? = some v → ∃ d, ds[i]? = some d ∧ Rep K G H v d
  | .nil, h => by simp at h
  | .cons r rs, h => by
    cases i with
    | zero => simp at h; subst h; exact ⟨_, rfl, r⟩
    | succ i => simpa using Reps.getV rs (by simpa using h)
theorem Reps.append {vs ws : List V} {ds es : List D} : Reps K G H vs ds → Reps K G H ws es → Reps K G H (vs ++ ws) (ds ++ es)
  | .nil, s => s
  | .cons r rs, s => .cons r (Reps.append rs s)
theorem Reps.take {vs : List V} {ds : List D} : ∀ (n : Nat), Reps K G H vs ds → Reps K G H (vs.take n) (ds.take n)
  | 0, _ => by simpa using Reps.nil
  | n + 1, .nil => .nil
  | n + 1, .cons r rs => .cons r (Reps.take n rs)
theorem Reps.drop {vs : List V} {ds : List D} : ∀ (n : Nat), Reps K G H vs ds → Reps K G H (vs.drop n) (ds.drop n)
  | 0, r => r
  | n + 1, .nil => .nil
  | n + 1, .cons r rs => Reps.drop n rs
theorem Reps.set {vs : List V} {ds : List D} {v : V} {d : D} (r : Rep K G H v d) : ∀ (i : Nat), Reps K G H vs ds → Reps K G H (vs.set i v) (ds.set i d)
  | _, .nil => .nil
  | 0, .cons _ rs => .cons r rs
  | i + 1, .cons r' rs => .cons r' (Reps.set r i rs)
theorem Reps.erase {vs : List V} {ds : List D} : ∀ (i : Nat), Reps K G H vs ds → Reps K G H (vs.eraseIdx i) (ds.eraseIdx i)
  | _, .nil => .nil
  | 0, .cons _ rs => rs
  | i + 1, .cons r rs => .cons r (Reps.erase i rs)
theorem Reps.reverse {vs : List V} {ds : List D} : Reps K G H vs ds → Reps K G H vs.reverse ds.reverse
  | .nil => .nil
  | .cons r rs => by
    rw [List.reverse_cons, List.reverse_cons]
    exact Reps.append (Reps.reverse rs) (.cons r .nil)
theorem Reps.rep {vs : List V} {ds : List D} (h : Reps K G H vs ds) : ∀ k : Nat, Reps K G H (List.replicate k vs).flatten (List.replicate k ds).flatten
  | 0 => .nil
  | k + 1 => by
    rw [List.replicate_succ, List.replicate_succ, List.flatten_cons, List.flatten_cons]
    exact Reps.append h (Reps.rep h k)
theorem Reps.ints {vs : List V} : ∀ {ns : List Int}, Reps K G H vs (ns.map .int) → vs = ns.map .int
  | [], h => by cases h; rfl
  | n :: ns, h => by
    cases h with
    | cons r rs => cases r; rw [Reps.ints rs]; rfl
theorem Reps.bls {vs : List V} : ∀ {ns : List Bool}, Reps K G H vs (ns.map .bl) → vs = ns.map .bl
  | [], h => by cases h; rfl
  | n :: ns, h => by
    cases h with
    | cons r rs => cases r; rw [Reps.bls rs]; rfl
theorem Reps.of_ints : ∀ (ns : List Int), Reps K G H (ns.map V.int) (ns.map D.int)
  | [] => .nil
  | n :: ns => .cons (.int n) (Reps.of_ints ns)
end

mutual
/-- no list within -/
def D.flat : D → Bool
  | .lst _ => false
  | .tup xs => D.flats xs
  | .fz xs => D.flats xs
  | _ => true
def D.flats : List D → Bool
  | [] => true
  | x :: xs => D.flat x && D.flats xs
end
section
variable {K : PySem.W.Frag} {G G' : Addr → Prop} {H H' : Hp}
mutual
theorem Rep.flat : ∀ {v d}, Rep K G H v d → D.flat d = true → Rep K G' H v d
  | _, _, .non, _ => .non
  | _, _, .bl b, _ => .bl b
  | _, _, .int i, _ => .int i
  | _, _, .str x, _ => .str x
  | _, _, .tup h r, f => .tup h (Reps.flats r (by simpa [D.flat] using f))
  | _, _, .lst _ _ _, f => by simp [D.flat] at f
  | _, _, .fz h r, f => .fz h (Reps.flats r (by simpa [D.flat] using f))
theorem Reps.flats : ∀ {vs ds}, Reps K G H vs ds → D.flats ds = true → Reps K G' H vs ds
  | _, _, .nil, _ => .nil
  | _, _, .cons r rs, f => by
    simp [D.flats] at f
    exact .cons (Rep.flat r f.1) (Reps.flats rs f.2)
end
end

/-! ### the slots -/
/-- what a def's body keeps in mind: the written part, the module's names, the heap at the entry, the lists that it may change for its caller, its arguments -/
structure Cc where
  K : PySem.W.Frag
  mg : Str → Option Value
  H0 : Hp
  Io : Addr → Prop
  vs : List V
def ownM (σ : St) (env : En) (a : Addr) : Prop := ∃ (i : Nat) (io : Bool) (ds : List D), env[i]? = some (Sl.own io ds) ∧ σ[i]? = some (some (V.ref a))
/-- what may change from here on: owned lists, and what is not yet there -/
def Nn (σ : St) (env : En) (H : Hp) (a : Addr) : Prop := ownM σ env a ∨ H a = none
abbrev Av (L : Addr → Prop) (σ : St) (env : En) : Addr → Prop := fun a => ¬ L a ∧ ¬ ownM σ env a
structure RE (c : Cc) (L : Addr → Prop) (σ : St) (H : Hp) (env : En) : Prop where
  len : env.length = σ.length
  im : ∀ (i : Nat) (d : D), env[i]? = some (Sl.im d) → ∃ v, σ[i]? = some (some v) ∧ Rep c.K (Av L σ env) H v d
  own : ∀ (i : Nat) (io : Bool) (ds : List D), env[i]? = some (Sl.own io ds) → ∃ a xs, σ[i]? = some (some (V.ref a)) ∧ H a = some (.lst xs) ∧ Reps c.K (Av L σ env) H xs ds ∧ (io = false → c.H0 a = none) ∧ (io = true → c.Io a ∧ c.vs[i]? = some (.ref a))
  inj : ∀ (i j : Nat) (io jo : Bool) (ds es : List D) (a : Addr), env[i]? = some (Sl.own io ds) → env[j]? = some (Sl.own jo es) → σ[i]? = some (some (V.ref a)) → σ[j]? = some (some (V.ref a)) → i = j
  ext : ∀ a, L a → ¬ ownM σ env a ∧ ∃ xs, H a = some (.lst xs)
  fr : ∀ b o, ¬ c.Io b → c.H0 b = some o → H b = some o
  io : ∀ a, c.Io a → ∃ xs, H a = some (.lst xs)
/-- a step: what may not change is kept, and may not change further on -/
def Stp (σ : St) (env : En) (H : Hp) (σ' : St) (env' : En) (H' : Hp) : Prop := ∀ b, ¬ Nn σ env H b → H' b = H b ∧ ¬ Nn σ' env' H' b
theorem Stp.refl {σ : St} {env : En} {H : Hp} : Stp σ env H σ env H := fun _ h => ⟨rfl, h⟩
theorem Stp.trans {σ σ1 σ2 : St} {env env1 env2 : En} {H H1 H2 : Hp} (a : Stp σ env H σ1 env1 H1) (b : Stp σ1 env1 H1 σ2 env2 H2) : Stp σ env H σ2 env2 H2 := fun x h => by
  obtain ⟨e1, n1⟩ := a x h
  obtain ⟨e2, n2⟩ := b x n1
  exact ⟨e2.trans e1, n2⟩
theorem Stp.back {σ σ' : St} {env env' : En} {H H' : Hp} (s : Stp σ env H σ' env' H') {a : Addr} (h : Nn σ' env' H' a) : Nn σ env H a := Classical.byContradiction fun n => (s a n).2 h
theorem Nn.not {σ : St} {env : En} {H : Hp} {a : Addr} {o : HO} (h : H a = some o) (n : ¬ ownM σ env a) : ¬ Nn σ env H a := fun z => z.elim n fun z => by rw [z] at h; cases h
theorem RE.tk {c : Cc} {L : Addr → Prop} {σ σ' : St} {env env' : En} {H H' : Hp} (h : RE c L σ H env) (s : Stp σ env H σ' env' H') : TK H H' := by
  have key : ∀ b o, H b = some o → (∀ xs, o ≠ .lst xs) → H' b = some o := fun b o e n => by
    have : ¬ ownM σ env b := fun ⟨i, io, ds, e1, e2⟩ => by
      obtain ⟨a, xs, e3, e4, _⟩ := h.own i io ds e1
      rw [e2] at e3
      cases e3
      rw [e] at e4
      cases e4
      exact n _ rfl
    rw [(s b (Nn.not e this)).1, e]
  exact ⟨fun b xs e => key b _ e (fun _ z => nomatch z), fun b o u e => key b _ e (fun _ z => nomatch z)⟩
/-- a datum that avoids the owned lists stays -/
theorem RE.rep {c : Cc} {L L' : Addr → Prop} {σ σ' : St} {env env' : En} {H H' : Hp} (h : RE c L σ H env) (s : Stp σ env H σ' env' H') {v : V} {d : D} (r : Rep c.K (Av L' σ env) H v d) : Rep c.K (Av L' σ' env') H' v d :=
  r.mono (h.tk s) fun a xs g e => by
    obtain ⟨e1, n1⟩ := s a (Nn.not e g.2)
    exact ⟨⟨g.1, fun z => n1 (.inl z)⟩, e1.trans e⟩
theorem RE.reps {c : Cc} {L L' : Addr → Prop} {σ σ' : St} {env env' : En} {H H' : Hp} (h : RE c L σ H env) (s : Stp σ env H σ' env' H') {v : List V} {d : List D} (r : Reps c.K (Av L' σ env) H v d) : Reps c.K (Av L' σ' env') H' v d :=
  r.mono (h.tk s) fun a xs g e => by
    obtain ⟨e1, n1⟩ := s a (Nn.not e g.2)
    exact ⟨⟨g.1, fun z => n1 (.inl z)⟩, e1.trans e⟩
/-- new objects, nothing changed -/
theorem Stp.grow {σ : St} {env : En} {H H' : Hp} (k : ∀ b o, H b = some o → H' b = some o) : Stp σ env H σ env H' := fun b n => by
  cases e : H b with
  | none => exact (n (.inr e)).elim
  | some o => exact ⟨k b o e, fun z => z.elim (fun z => n (.inl z)) fun z => by rw [k b o e] at z; cases z⟩
theorem RE.grow {c : Cc} {L : Addr → Prop} {σ : St} {env : En} {H H' : Hp} (h : RE c L σ H env) (k : ∀ b o, H b = some o → H' b = some o) : RE c L σ H' env where
  len := h.len
  im := fun i d e => by
    obtain ⟨v, e1, r⟩ := h.im i d e
    exact ⟨v, e1, h.rep (Stp.grow k) r⟩
  own := fun i io ds e => by
    obtain ⟨a, xs, e1, e2, r, z⟩ := h.own i io ds e
    exact ⟨a, xs, e1, k _ _ e2, h.reps (Stp.grow k) r, z⟩
  inj := h.inj
  ext := fun a la => ⟨(h.ext a la).1, (h.ext a la).2.imp fun xs e => k _ _ e⟩
  fr := fun b o n e => k _ _ (h.fr b o n e)
  io := fun a i => (h.io a i).imp fun xs e => k _ _ e
/-- fewer lists to keep off -/
theorem RE.less {c : Cc} {L L' : Addr → Prop} {σ : St} {env : En} {H : Hp} (h : RE c L σ H env) (l : ∀ a, L' a → L a) : RE c L' σ H env where
  len := h.len
  im := fun i d e => by
    obtain ⟨v, e1, r⟩ := h.im i d e
    exact ⟨v, e1, r.mono (.refl H) fun a xs g e => ⟨⟨fun z => g.1 (l a z), g.2⟩, e⟩⟩
  own := fun i io ds e => by
    obtain ⟨a, xs, e1, e2, r, z⟩ := h.own i io ds e
    exact ⟨a, xs, e1, e2, r.mono (.refl H) fun a xs g e => ⟨⟨fun z => g.1 (l a z), g.2⟩, e⟩, z⟩
  inj := h.inj
  ext := fun a la => h.ext a (l a la)
  fr := h.fr
  io := h.io
/-- lists that the slots don't know -/
theorem RE.more {c : Cc} {L : Addr → Prop} {σ : St} {env : En} {H H' : Hp} (h : RE c L σ H env) (k : ∀ b o, H b = some o → H' b = some o) {a : Addr} {xs : List V} (n : H a = none) (e : H' a = some (.lst xs)) : RE c (fun b => L b ∨ b = a) σ H' env := by
  have no : ∀ b, (∃ o, H b = some o) → b ≠ a := fun b ⟨o, q⟩ z => by rw [z, n] at q; cases q
  have kk : ∀ {v d}, Rep c.K (Av L σ env) H v d → Rep c.K (Av (fun b => L b ∨ b = a) σ env) H' v d := fun r =>
    r.mono (h.tk (Stp.grow k)) fun b ys g q => ⟨⟨fun z => z.elim g.1 fun z => no b ⟨_, q⟩ z, g.2⟩, k _ _ q⟩
  have ks : ∀ {v d}, Reps c.K (Av L σ env) H v d → Reps c.K (Av (fun b => L b ∨ b = a) σ env) H' v d := fun r =>
    r.mono (h.tk (Stp.grow k)) fun b ys g q => ⟨⟨fun z => z.elim g.1 fun z => no b ⟨_, q⟩ z, g.2⟩, k _ _ q⟩
  refine ⟨h.len, fun i d e => ?_, fun i io ds e => ?_, h.inj, fun b lb => ?_, fun b o n e => k _ _ (h.fr b o n e), fun a i => (h.io a i).imp fun xs e => k _ _ e⟩
  · obtain ⟨v, e1, r⟩ := h.im i d e
    exact ⟨v, e1, kk r⟩
  · obtain ⟨a, xs, e1, e2, r, z⟩ := h.own i io ds e
    exact ⟨a, xs, e1, k _ _ e2, ks r, z⟩
  · rcases lb with lb | rfl
    · exact ⟨(h.ext b lb).1, (h.ext b lb).2.imp fun xs e => k _ _ e⟩
    · refine ⟨fun ⟨i, io, ds, e1, e2⟩ => ?_, _, e⟩
      obtain ⟨a', ys, e3, e4, _⟩ := h.own i io ds e1
      rw [e2] at e3
      cases e3
      rw [n] at e4
      cases e4

/-! ### temporary values -/
/-- comps of a new tuple; L' the new lists -/
inductive RepC (K : PySem.W.Frag) (G : Addr → Prop) (H : Hp) : List Addr → List V → List Cp → Prop
  | nil : RepC K G H [] [] []
  | im {As v d vs cs} (r : Rep K G H v d) (rs : RepC K G H As vs cs) : RepC K G H As (v :: vs) (⟨false, d⟩ :: cs)
  | fr {As a xs ds vs cs} (n : a ∉ As) (e : H a = some (.lst xs)) (r : Reps K G H xs ds) (rs : RepC K G H As vs cs) : RepC K G H (a :: As) (.ref a :: vs) (⟨true, .lst ds⟩ :: cs)
def RepT (c : Cc) (L : Addr → Prop) (N : Addr → Prop) (σ : St) (H : Hp) (env : En) (v : V) : T → Prop
  | .im d => Rep c.K (Av L σ env) H v d
  | .al i => (∃ (io : Bool) (ds : List D), env[i]? = some (Sl.own io ds)) ∧ σ[i]? = some (some v)
  | .fr ds => ∃ a xs, v = .ref a ∧ H a = some (.lst xs) ∧ Reps c.K (Av (fun b => L b ∨ b = a) σ env) H xs ds ∧ ¬ L a ∧ c.H0 a = none ∧ N a ∧ RE c (fun b => L b ∨ b = a) σ H env
  | .ft cs => ∃ t vs As, v = .ref t ∧ SqT c.K H t vs ∧ RepC c.K (Av (fun b => L b ∨ b ∈ As) σ env) H As vs cs ∧ (∀ a ∈ As, ¬ L a ∧ c.H0 a = none ∧ N a) ∧ RE c (fun b => L b ∨ b ∈ As) σ H env

/-! ### the readings -/
/-- what is wished of an exception of the class x -/
def Wx (mg : Str → Option Value) (W : WX) (x : Str) (σ : St) (H : Hp) : Prop := ∀ C, mg x = some (.ref C) → W (.ref C) none σ H
abbrev FE := En → R T
abbrev FT := En → R Bool
abbrev FA := En → R (List T)
inductive RepTs (c : Cc) (L : Addr → Prop) (N : Addr → Prop) (σ : St) (H : Hp) (env : En) : List V → List T → Prop
  | nil : RepTs c L N σ H env [] []
  | cons {v t vs ts} : RepT c L N σ H env v t → RepTs c L N σ H env vs ts → RepTs c L N σ H env (v :: vs) (t :: ts)
end DL
namespace DL
open PySem PySem.Spec L2

/-! ### results -/
def R.bind {α β : Type} (r : R α) (g : α → En → R β) : R β := match r with
  | .er => .er
  | .ex x e => .ex x e
  | .ok a e => g a e
@[simp] theorem bind_ok {α β : Type} (a : α) (e : En) (g : α → En → R β) : R.bind (.ok a e) g = g a e := rfl
@[simp] theorem bind_er {α β : Type} (g : α → En → R β) : R.bind .er g = .er := rfl
@[simp] theorem bind_ex {α β : Type} (x : Str) (e : En) (g : α → En → R β) : R.bind (.ex x e) g = .ex x e := rfl

def dK {α : Type} (c : Cc) (W : WX) (L : Addr → Prop) (σ : St) (H : Hp) (env : En) (r : R α) (P : α → En → Hp → Prop) : Prop := match r with
  | .er => False
  | .ex x env' => ∀ H', RE c L σ H' env' → Stp σ env H σ env' H' → Wx c.mg W x σ H'
  | .ok a env' => ∀ H', RE c L σ H' env' → Stp σ env H σ env' H' → P a env' H'
def dE (c : Cc) (W : WX) (f : FE) : TE := fun σ H Q => ∃ env L, RE c L σ H env ∧ dK c W L σ H env (f env) fun t env' H' => ∀ v, RepT c L (Nn σ env H) σ H' env' v t → Q v H'
def dT (c : Cc) (W : WX) (f : FT) : TT := fun σ H Q => ∃ env L, RE c L σ H env ∧ dK c W L σ H env (f env) fun b _ H' => Q b H'
section
variable {α β : Type} {c : Cc} {W : WX} {L L' : Addr → Prop} {σ : St} {H : Hp} {env : En}
theorem dE_iff {f : FE} {Q : VK} : dE c W f σ H Q ↔ ∃ env L, RE c L σ H env ∧ dK c W L σ H env (f env) fun t env' H' => ∀ v, RepT c L (Nn σ env H) σ H' env' v t → Q v H' := Iff.rfl
theorem dT_iff {f : FT} {Q : Bool → Hp → Prop} : dT c W f σ H Q ↔ ∃ env L, RE c L σ H env ∧ dK c W L σ H env (f env) fun b _ H' => Q b H' := Iff.rfl
theorem dK.bind {r : R α} {g : α → En → R β} {P : β → En → Hp → Prop} (h : dK c W L σ H env (r.bind g) P) : dK c W L σ H env r fun a env1 H1 => dK c W L σ H1 env1 (g a env1) P := by
  cases r with
  | er => exact h
  | ex x e => exact h
  | ok a e =>
    intro H1 r1 s1
    have h : dK c W L σ H env (g a e) P := h
    show dK c W L σ H1 e (g a e) P
    cases q : g a e with
    | er => rw [q] at h; exact h
    | ex x e2 => rw [q] at h; exact fun H2 r2 s2 => h H2 r2 (s1.trans s2)
    | ok b e2 => rw [q] at h; exact fun H2 r2 s2 => h H2 r2 (s1.trans s2)
theorem dK.mono {r : R α} {P P' : α → En → Hp → Prop} (h : dK c W L σ H env r P) (k : ∀ a env' H', RE c L σ H' env' → Stp σ env H σ env' H' → P a env' H' → P' a env' H') : dK c W L σ H env r P' := by
  cases r with
  | er => exact h
  | ex x e => exact h
  | ok a e => exact fun H' r s => k a e H' r s (h H' r s)
theorem dK.less {r : R α} {P : α → En → Hp → Prop} (h : dK c W L σ H env r P) (l : ∀ a, L a → L' a) : dK c W L' σ H env r P := by
  cases r with
  | er => exact h
  | ex x e => exact fun H' r s => h H' (r.less l) s
  | ok a e => exact fun H' r s => h H' (r.less l) s
theorem dK.mono' {r : R α} {P P' : α → En → Hp → Prop} (h : dK c W L σ H env r P) (k : ∀ a env' H', RE c L σ H' env' → Stp σ env H σ env' H' → r = .ok a env' → P a env' H' → P' a env' H') : dK c W L σ H env r P' := by
  cases r with
  | er => exact h
  | ex x e => exact h
  | ok a e => exact fun H' r s => k a e H' r s rfl (h H' r s)
/-- to hand on: what an expression's reading is asked -/
theorem dE.of {f : FE} {Q : VK} (r : RE c L σ H env) (h : dK c W L σ H env (f env) fun t env' H' => ∀ v, RepT c L (Nn σ env H) σ H' env' v t → Q v H') : dE c W f σ H Q := dE_iff.mpr ⟨env, L, r, h⟩
theorem dT.of {f : FT} {Q : Bool → Hp → Prop} (r : RE c L σ H env) (h : dK c W L σ H env (f env) fun b _ H' => Q b H') : dT c W f σ H Q := dT_iff.mpr ⟨env, L, r, h⟩
end

theorem PEw {X : Cx} {e : Expr} {t t' : TE} (h : PE X e t) (k : ∀ σ H Q, t' σ H Q → t σ H Q) : PE X e t' := ⟨fun pins s σ H Q I q => h.run pins s σ H Q I (k σ H Q q)⟩
theorem PTw {X : Cx} {e : Expr} {t t' : TT} (h : PT X e t) (k : ∀ σ H Q, t' σ H Q → t σ H Q) : PT X e t' := ⟨fun pins s σ H Q I q => h.run pins s σ H Q I (k σ H Q q)⟩
theorem PWw {X : Cx} {e : Expr} {t t' : TT} (h : PW X e t) (k : ∀ σ H Q, t' σ H Q → t σ H Q) : PW X e t' := ⟨fun wh pins s σ H Q I q => h.run wh pins s σ H Q I (k σ H Q q)⟩
theorem PAw {X : Cx} {e : List Expr} {t t' : TA} (h : PA X e t) (k : ∀ σ H Q, t' σ H Q → t σ H Q) : PA X e t' := ⟨fun pos pins s σ H Q I q => h.run pos pins s σ H Q I (k σ H Q q)⟩
theorem PSw {X : Cx} {e : Stmt} {t t' : TS} (h : PS X e t) (k : ∀ D σ H, t' D σ H → t D σ H) : PS X e t' := ⟨fun pins s σ H D I q => h.run pins s σ H D I (k D σ H q)⟩
theorem PSsw {X : Cx} {e : List Stmt} {t t' : TS} (h : PSs X e t) (k : ∀ D σ H, t' D σ H → t D σ H) : PSs X e t' := ⟨fun pins s σ H D I q => h.run pins s σ H D I (k D σ H q)⟩

/-! ### temporary values, weaker -/
section
variable {c : Cc} {L L' N N' : Addr → Prop} {σ : St} {H : Hp} {env : En} {v : V} {t : T}
theorem RepC.in {K : PySem.W.Frag} {G : Addr → Prop} {H : Hp} : ∀ {As vs cs}, RepC K G H As vs cs → ∀ a ∈ As, ∃ xs, H a = some (.lst xs)
  | _, _, _, .nil, a, h => by cases h
  | _, _, _, .im _ rs, a, h => RepC.in rs a h
  | _, _, _, .fr n e r rs, a, h => by
    rcases List.mem_cons.mp h with rfl | h
    · exact ⟨_, e⟩
    · exact RepC.in rs a h
theorem RepC.mono {K : PySem.W.Frag} {G G' : Addr → Prop} {H H' : Hp} (k : TK H H') (g : ∀ a xs, G a → H a = some (.lst xs) → G' a ∧ H' a = some (.lst xs)) : ∀ {As vs cs}, RepC K G H As vs cs → (∀ a ∈ As, ∀ xs, H a = some (.lst xs) → H' a = some (.lst xs)) → RepC K G' H' As vs cs
  | _, _, _, .nil, _ => .nil
  | _, _, _, .im r rs, q => .im (r.mono k g) (RepC.mono k g rs q)
  | _, _, _, .fr n e r rs, q => .fr n (q _ List.mem_cons_self _ e) (r.mono k g) (RepC.mono k g rs fun a h => q a (List.mem_cons_of_mem _ h))
/-- as a tuple of data -/
theorem RepC.reps {K : PySem.W.Frag} {G G' : Addr → Prop} {H : Hp} (g : ∀ a, G a → G' a) : ∀ {As vs cs}, RepC K G H As vs cs → (∀ a ∈ As, G' a) → Reps K G' H vs (cs.map Cp.d)
  | _, _, _, .nil, _ => .nil
  | _, _, _, .im r rs, q => .cons (r.mono (.refl H) fun a xs h e => ⟨g a h, e⟩) (RepC.reps g rs q)
  | _, _, _, .fr n e r rs, q => .cons (.lst (q _ List.mem_cons_self) e (r.mono (.refl H) fun a xs h e => ⟨g a h, e⟩)) (RepC.reps g rs fun a h => q a (List.mem_cons_of_mem _ h))
theorem RepT.less (l : ∀ a, L' a → L a) (n : ∀ a, N a → N' a) (h : RepT c L N σ H env v t) : RepT c L' N' σ H env v t := by
  cases t with
  | im d => exact Rep.mono (.refl H) (fun a xs g e => ⟨⟨fun z => g.1 (l a z), g.2⟩, e⟩) h
  | al i => exact h
  | fr ds =>
    obtain ⟨a, xs, e, e1, r, n1, n2, n3, q⟩ := h
    exact ⟨a, xs, e, e1, r.mono (.refl H) (fun b ys g e => ⟨⟨fun z => g.1 (z.imp (l b) id), g.2⟩, e⟩), fun z => n1 (l a z), n2, n a n3, q.less fun b z => z.imp (l b) id⟩
  | ft cs =>
    obtain ⟨t, vs, As, e, e1, r, n1, q⟩ := h
    exact ⟨t, vs, As, e, e1, r.mono (.refl H) (fun b ys g e => ⟨⟨fun z => g.1 (z.imp (l b) id), g.2⟩, e⟩) (fun _ _ _ e => e), fun a ha => ⟨fun z => (n1 a ha).1 (l a z), (n1 a ha).2.1, n a (n1 a ha).2.2⟩, q.less fun b z => z.imp (l b) id⟩
/-- as data, or an owned list -/
def T.weak : T → T
  | .fr ds => .im (.lst ds)
  | .ft cs => .im (.tup (cs.map Cp.d))
  | t => t
theorem RepT.wk (h : RepT c L N σ H env v t) : RepT c L N σ H env v t.weak := by
  cases t with
  | im d => exact h
  | al i => exact h
  | fr ds =>
    obtain ⟨a, xs, rfl, e1, r, n1, n2, n3, q⟩ := h
    exact .lst ⟨n1, (q.ext a (.inr rfl)).1⟩ e1 (r.mono (.refl H) fun b ys g e => ⟨⟨fun z => g.1 (.inl z), g.2⟩, e⟩)
  | ft cs =>
    obtain ⟨t, vs, As, rfl, e1, r, n1, q⟩ := h
    exact .tup e1 (r.reps (fun b g => ⟨fun z => g.1 (.inl z), g.2⟩) fun a ha => ⟨(n1 a ha).1, (q.ext a (.inr ha)).1⟩)
end
/-- the datum that a temporary value is, as the slots now stand -/
def T.val (t : T) (env : En) : Option D := match t with
  | .im d => some d
  | .al i => match env[i]? with
    | some (.own _ ds) => some (.lst ds)
    | _ => none
  | .fr ds => some (.lst ds)
  | .ft cs => some (.tup (cs.map Cp.d))
@[simp] theorem val_im (d : D) (env : En) : (T.im d).val env = some d := rfl
@[simp] theorem val_fr (ds : List D) (env : En) : (T.fr ds).val env = some (.lst ds) := rfl
@[simp] theorem val_ft (cs : List Cp) (env : En) : (T.ft cs).val env = some (.tup (cs.map Cp.d)) := rfl
/-- an operand: a list at its own address (owned or not), what is in it keeps off the owned ones -/
def RepO (K : PySem.W.Frag) (G : Addr → Prop) (H : Hp) (v : V) : D → Prop
  | .lst ds => ∃ a xs, v = .ref a ∧ H a = some (.lst xs) ∧ Reps K G H xs ds
  | d => Rep K G H v d
theorem Rep.o {K : PySem.W.Frag} {G : Addr → Prop} {H : Hp} {v : V} {d : D} (h : Rep K G H v d) : RepO K G H v d := by
  cases d with
  | lst ds => cases h with | lst g e r => exact ⟨_, _, rfl, e, r⟩
  | non => exact h
  | bl b => exact h
  | int i => exact h
  | str x => exact h
  | tup xs => exact h
  | fz xs => exact h
theorem RepO.any {K : PySem.W.Frag} {G : Addr → Prop} {H : Hp} {v : V} {d : D} (h : RepO K G H v d) : Rep K (fun _ => True) H v d := by
  have w : ∀ {v d}, Rep K G H v d → Rep K (fun _ => True) H v d := fun r => r.mono (.refl H) fun a xs _ e => ⟨trivial, e⟩
  have ws : ∀ {v d}, Reps K G H v d → Reps K (fun _ => True) H v d := fun r => r.mono (.refl H) fun a xs _ e => ⟨trivial, e⟩
  cases d with
  | lst ds => obtain ⟨a, xs, rfl, e, r⟩ := h; exact .lst trivial e (ws r)
  | non => exact w h
  | bl b => exact w h
  | int i => exact w h
  | str x => exact w h
  | tup xs => exact w h
  | fz xs => exact w h
section
variable {c : Cc} {L N : Addr → Prop} {σ : St} {H H1 : Hp} {env env1 : En} {v : V} {t : T} {d : D}
/-- a temporary value, later on, as an operand -/
theorem RepT.opr (r : RE c L σ H env) (h : RepT c L N σ H env v t) (s : Stp σ env H σ env1 H1) (r1 : RE c L σ H1 env1) (e : t.val env1 = some d) : RepO c.K (Av L σ env1) H1 v d := by
  have h := h.wk
  cases t with
  | im d' => cases e; exact Rep.o (r.rep s h)
  | al i =>
    obtain ⟨⟨io, ds, e1⟩, e2⟩ := h
    cases q : env1[i]? with
    | none => simp [T.val, q] at e
    | some sl =>
      cases sl with
      | no => simp [T.val, q] at e
      | im d => simp [T.val, q] at e
      | own io' ds' =>
        simp [T.val, q] at e
        subst e
        obtain ⟨a, xs, e3, e4, r5, _⟩ := r1.own i io' ds' q
        rw [e2] at e3
        cases e3
        exact ⟨a, xs, rfl, e4, r5⟩
  | fr ds => cases e; exact Rep.o (r.rep s h)
  | ft cs => cases e; exact Rep.o (r.rep s h)
theorem RepT.opr0 (r : RE c L σ H env) (h : RepT c L N σ H env v t) (e : t.val env = some d) : RepO c.K (Av L σ env) H v d := h.opr r .refl r e
end

/-! ### names, constants -/
section
variable {X : Cx} {c : Cc} {W : WX} {pos : Pos}
def eVar (i : Nat) : FE := fun env => match env[i]? with
  | some (.im d) => .ok (.im d) env
  | some (.own _ _) => .ok (.al i) env
  | _ => .er
theorem de_var (i : Nat) {x : Str} (h : PE X (.Name x pos) (tVar i)) : PE X (.Name x pos) (dE c W (eVar i)) := by
  refine PEw h fun σ H Q h => ?_
  obtain ⟨env, L, r, h⟩ := dE_iff.mp h
  unfold eVar at h
  cases e : env[i]? with
  | none => rw [e] at h; exact h.elim
  | some s =>
    rw [e] at h
    cases s with
    | no => exact h.elim
    | im d =>
      obtain ⟨v, e1, q⟩ := r.im i d e
      exact ⟨v, e1, h H r .refl v q⟩
    | own io ds =>
      obtain ⟨a, xs, e1, q⟩ := r.own i io ds e
      exact ⟨_, e1, h H r .refl _ ⟨⟨io, ds, e⟩, e1⟩⟩
def eC (d : D) : FE := fun env => .ok (.im d) env
theorem de_c {e : Expr} {v : V} {d : D} (h : PE X e (tC v)) (k : ∀ G H, Rep c.K G H v d) : PE X e (dE c W (eC d)) := by
  refine PEw h fun σ H Q h => ?_
  obtain ⟨env, L, r, h⟩ := dE_iff.mp h
  exact h H r .refl v (k _ H)
theorem de_int {i : Int} {j} : PE X (.Constant (.int i) j pos) (dE c W (eC (.int i))) := de_c pe_int fun _ _ => .int i
theorem de_bl {b : Bool} {j} : PE X (.Constant (.bool b) j pos) (dE c W (eC (.bl b))) := de_c pe_bl fun _ _ => .bl b
theorem de_non {j} : PE X (.Constant .none j pos) (dE c W (eC .non)) := de_c pe_non fun _ _ => .non
theorem de_str {x : Str} {j} : PE X (.Constant (.str x) j pos) (dE c W (eC (.str x))) := de_c pe_str fun _ _ => .str x
end

/-! ### operators -/
/-- what an operator on values does on data -/
def OpD (c : Cc) (r : R2) (g : D → D → Option T) : Prop := ∀ (L : Addr → Prop) (σ : St) (H : Hp) (env : En) (x y : V) (dx dy : D) (t : T) (Q : VK), RE c L σ H env → RepO c.K (Av L σ env) H x dx → RepO c.K (Av L σ env) H y dy → g dx dy = some t →
  (∀ v H', RE c L σ H' env → Stp σ env H σ env H' → RepT c L (Nn σ env H) σ H' env v t → Q v H') → r x y H Q
def UnD (c : Cc) (r : V → Hp → VK → Prop) (g : D → Option T) : Prop := ∀ (L : Addr → Prop) (σ : St) (H : Hp) (env : En) (x : V) (dx : D) (t : T) (Q : VK), RE c L σ H env → RepO c.K (Av L σ env) H x dx → g dx = some t →
  (∀ v H', RE c L σ H' env → Stp σ env H σ env H' → RepT c L (Nn σ env H) σ H' env v t → Q v H') → r x H Q
def R.opt {α : Type} (o : Option α) (env : En) : R α := match o with
  | some a => .ok a env
  | none => .er
@[simp] theorem opt_some {α : Type} (a : α) (env : En) : R.opt (some a) env = .ok a env := rfl
@[simp] theorem opt_none {α : Type} (env : En) : R.opt (none : Option α) env = .er := rfl
def op2 (g : D → D → Option T) (ta tb : T) (env : En) : R T := match ta.val env, tb.val env with
  | some x, some y => R.opt (g x y) env
  | _, _ => .er
def op1 (g : D → Option T) (ta : T) (env : En) : R T := match ta.val env with
  | some x => R.opt (g x) env
  | _ => .er
def eOp (g : D → D → Option T) (fa fb : FE) : FE := fun env => (fa env).bind fun ta e1 => (fb e1).bind fun tb e2 => op2 g ta tb e2
def eUn (g : D → Option T) (fa : FE) : FE := fun env => (fa env).bind fun ta e1 => op1 g ta e1
section
variable {X : Cx} {c : Cc} {W : WX} {pos : Pos} {a b : Expr} {fa fb : FE} {r : R2} {g : D → D → Option T}
theorem dK_op2 {L : Addr → Prop} {σ : St} {H : Hp} {env : En} {x y : V} {ta tb : T} {N1 N2 N : Addr → Prop} {Q : VK} (ho : OpD c r g) (re : RE c L σ H env) (hx : ∀ d, ta.val env = some d → RepO c.K (Av L σ env) H x d) (hy : ∀ d, tb.val env = some d → RepO c.K (Av L σ env) H y d)
    (n : ∀ a, Nn σ env H a → N a) (h : dK c W L σ H env (op2 g ta tb env) fun t env' H' => ∀ v, RepT c L N σ H' env' v t → Q v H') : r x y H Q := by
  unfold op2 at h
  cases ea : ta.val env with
  | none => rw [ea] at h; exact h.elim
  | some dx =>
    cases eb : tb.val env with
    | none => rw [ea, eb] at h; exact h.elim
    | some dy =>
      rw [ea, eb] at h
      cases eg : g dx dy with
      | none => simp only [eg] at h; exact h.elim
      | some t =>
        simp only [eg] at h
        exact ho L σ H env x y dx dy t Q re (hx _ ea) (hy _ eb) eg fun v H' re' s q => h H' re' s v (q.less (fun _ z => z) n)
theorem d_tOp (ho : OpD c r g) : ∀ σ H Q, dE c W (eOp g fa fb) σ H Q → tOp r (dE c W fa) (dE c W fb) σ H Q := fun σ H Q h => by
  obtain ⟨env, L, re, h⟩ := dE_iff.mp h
  refine dE.of re (h.bind.mono fun ta e1 H1 r1 s1 h1 x q1 => ?_)
  refine dE.of r1 (h1.bind.mono fun tb e2 H2 r2 s2 h2 y q2 => ?_)
  exact dK_op2 (W := W) (N1 := fun _ => True) (N2 := fun _ => True) ho r2 (fun d e => q1.opr r1 s2 r2 e) (fun d e => q2.opr0 r2 e) (fun a n => s1.back (s2.back n)) h2
theorem de_op {op : Operator} (hr : OpR X (binaryOp op) r) (ho : OpD c r g) (ha : PE X a (dE c W fa)) (hb : PE X b (dE c W fb)) : PE X (.BinOp a op b pos) (dE c W (eOp g fa fb)) :=
  PEw (pe_op hr ha hb) (d_tOp ho)
theorem de_cmp {op : CmpOp} (hr : OpR X (compareOp op) r) (ho : OpD c r g) (ha : PE X a (dE c W fa)) (hb : PE X b (dE c W fb)) (hm : behindInMarks op b = false) : PE X (.Compare a [op] [b] pos) (dE c W (eOp g fa fb)) :=
  PEw (pe_cmpR hr ha hb hm) (d_tOp ho)
theorem d_tUn {r : V → Hp → VK → Prop} {g : D → Option T} (ho : UnD c r g) : ∀ σ H Q, dE c W (eUn g fa) σ H Q → tUn r (dE c W fa) σ H Q := fun σ H Q h => by
  obtain ⟨env, L, re, h⟩ := dE_iff.mp h
  refine dE.of re (h.bind.mono fun ta e1 H1 r1 s1 h1 x q1 => ?_)
  unfold op1 at h1
  cases ea : ta.val e1 with
  | none => rw [ea] at h1; exact h1.elim
  | some dx =>
    rw [ea] at h1
    cases eg : g dx with
    | none => simp only [eg] at h1; exact h1.elim
    | some t =>
      simp only [eg] at h1
      exact ho L σ H1 e1 x dx t Q r1 (q1.opr0 r1 ea) eg fun v H' re' s q => h1 H' re' s v (q.less (fun _ z => z) fun a n => s1.back n)
theorem de_un {op : UnaryOp} {r : V → Hp → VK → Prop} {g : D → Option T} (hr : UnR X (unaryOp op) r) (ho : UnD c r g) (ha : PE X a (dE c W fa)) : PE X (.UnaryOp op a pos) (dE c W (eUn g fa)) := PEw (pe_un hr ha) (d_tUn ho)
end
end DL
namespace DL
open PySem PySem.Spec L2

/-! ### small data out of operands -/
section
variable {K : PySem.W.Frag} {G : Addr → Prop} {H : Hp} {v : V}
theorem RepO.int {i : Int} (h : RepO K G H v (.int i)) : v = .int i := by cases (show Rep K G H v (.int i) from h); rfl
theorem RepO.bl {i : Bool} (h : RepO K G H v (.bl i)) : v = .bl i := by cases (show Rep K G H v (.bl i) from h); rfl
theorem RepO.str {i : Str} (h : RepO K G H v (.str i)) : v = .str i := by cases (show Rep K G H v (.str i) from h); rfl
theorem RepO.non (h : RepO K G H v .non) : v = .non := by cases (show Rep K G H v .non from h); rfl
theorem RepO.tup {ds : List D} (h : RepO K G H v (.tup ds)) : ∃ a xs, v = .ref a ∧ SqT K H a xs ∧ Reps K G H xs ds := by
  cases (show Rep K G H v (.tup ds) from h) with
  | tup h1 r => exact ⟨_, _, rfl, h1, r⟩
theorem RepO.fz {ds : List D} (h : RepO K G H v (.fz ds)) : ∃ a xs, v = .ref a ∧ FzAt K H a xs ∧ Reps K G H xs ds := by
  cases (show Rep K G H v (.fz ds) from h) with
  | fz h1 r => exact ⟨_, _, rfl, h1, r⟩
theorem RepO.lst {ds : List D} (h : RepO K G H v (.lst ds)) : ∃ a xs, v = .ref a ∧ H a = some (.lst xs) ∧ Reps K G H xs ds := h
theorem not_non {d : D} (h : RepO K G H v d) (n : d ≠ .non) : v ≠ .non := by
  intro e
  subst e
  cases d with
  | non => exact n rfl
  | lst ds => obtain ⟨a, xs, e, _⟩ := h; cases e
  | bl b => cases h
  | int i => cases h
  | str x => cases h
  | tup xs => cases h
  | fz xs => cases h
end
theorem OpD.or {c : Cc} {r r' : R2} {g g' : D → D → Option T} (h : OpD c r g) (h' : OpD c r' g') : OpD c (fun x y H Q => r x y H Q ∨ r' x y H Q) (fun x y => match g x y with
  | some t => some t
  | none => g' x y) := fun L σ H env x y dx dy t Q re hx hy e k => by
  cases q : g dx dy with
  | some t' =>
    simp only [q] at e
    cases e
    exact .inl (h L σ H env x y dx dy _ Q re hx hy q k)
  | none =>
    simp only [q] at e
    exact .inr (h' L σ H env x y dx dy _ Q re hx hy e k)
/-- a new tuple -/
theorem new_tup {c : Cc} {L : Addr → Prop} {σ : St} {H : Hp} {env : En} {Q : VK} {xs : List V} {ds : List D} (re : RE c L σ H env) (r : Reps c.K (Av L σ env) H xs ds) (k : ∀ v H', RE c L σ H' env → Stp σ env H σ env H' → RepT c L (Nn σ env H) σ H' env v (.im (.tup ds)) → Q v H') :
    ∀ p, H p = none → Q (.ref p) (upd H p (.tup xs)) := fun p n => by
  have kp : ∀ b o, H b = some o → upd H p (.tup xs) b = some o := fun b o e => by rw [upd_ne (ne_of_none e n)]; exact e
  exact k _ _ (re.grow kp) (.grow kp) (.tup (.inl (.inl upd_same)) (re.reps (.grow kp) r))
/-- a new list -/
theorem RE.newL {c : Cc} {L : Addr → Prop} {σ : St} {H : Hp} {env : En} {xs : List V} {ds : List D} (re : RE c L σ H env) (r : Reps c.K (Av L σ env) H xs ds) {p : Addr} (n : H p = none) :
    RE c L σ (upd H p (.lst xs)) env ∧ Stp σ env H σ env (upd H p (.lst xs)) ∧ RepT c L (Nn σ env H) σ (upd H p (.lst xs)) env (.ref p) (.fr ds) := by
  have kp : ∀ b o, H b = some o → upd H p (.lst xs) b = some o := fun b o e => by rw [upd_ne (ne_of_none e n)]; exact e
  have r2 : RE c (fun b => L b ∨ b = p) σ (upd H p (.lst xs)) env := re.more kp n upd_same
  refine ⟨re.grow kp, .grow kp, p, xs, rfl, upd_same, ?_, fun l => ?_, ?_, .inr n, r2⟩
  · exact r.mono (re.tk (.grow kp)) fun b ys g e => ⟨⟨fun z => z.elim g.1 (fun z => by rw [z, n] at e; cases e), g.2⟩, kp _ _ e⟩
  · obtain ⟨_, ys, e⟩ := re.ext p l
    rw [n] at e
    cases e
  · cases e : c.H0 p with
    | none => rfl
    | some o =>
      by_cases i : c.Io p
      · obtain ⟨ys, q⟩ := re.io p i
        rw [n] at q
        cases q
      · have q := re.fr p o i e
        rw [n] at q
        cases q
/-! ### arithmetic -/
@[simp] def dAdd : D → D → Option T
  | .int i, .int j => some (.im (.int (i + j)))
  | .str x, .str y => if x.length + y.length ≤ sizeLine then some (.im (.str (x ++ y))) else none
  | .tup xs, .tup ys => if xs.length + ys.length ≤ 1000000 then some (.im (.tup (xs ++ ys))) else none
  | .lst xs, .lst ys => if xs.length + ys.length ≤ 1000000 then some (.fr (xs ++ ys)) else none
  | _, _ => none
@[simp] def dSub : D → D → Option T
  | .int i, .int j => some (.im (.int (i - j)))
  | _, _ => none
@[simp] def dMul : D → D → Option T
  | .int i, .int j => if (-(2 ^ 64) < i ∧ i < 2 ^ 64) ∨ (-(2 ^ 64) < j ∧ j < 2 ^ 64) then some (.im (.int (i * j))) else none
  | _, _ => none
@[simp] def dFdiv : D → D → Option T
  | .int i, .int j => if 0 < j ∧ j < 1073741824 then some (.im (.int (i / j))) else none
  | _, _ => none
@[simp] def dMod : D → D → Option T
  | .int i, .int j => if 0 < j then some (.im (.int (i % j))) else none
  | _, _ => none
@[simp] def dPow : D → D → Option T
  | .int i, .int j => if 0 ≤ j ∧ j ≤ 1000000 ∧ i.natAbs < 2 ^ 64 then some (.im (.int (i ^ j.toNat))) else none
  | _, _ => none
@[simp] def dNeg : D → Option T
  | .int i => some (.im (.int (-i)))
  | _ => none
@[simp] def dLt : D → D → Option T
  | .int i, .int j => some (.im (.bl (decide (i < j))))
  | _, _ => none
@[simp] def dLe : D → D → Option T
  | .int i, .int j => some (.im (.bl (decide (i ≤ j))))
  | _, _ => none
@[simp] def dGt : D → D → Option T
  | .int i, .int j => some (.im (.bl (decide (j < i))))
  | _, _ => none
@[simp] def dGe : D → D → Option T
  | .int i, .int j => some (.im (.bl (decide (j ≤ i))))
  | _, _ => none
theorem line6 {n : Nat} (h : n ≤ 1000000) : n ≤ sizeLine := Nat.le_trans h (by rw [sizeLine_eq]; decide)
section
variable {X : Cx} {c : Cc}
/-- two ints to a datum that holds no object -/
theorem opd_I {C : Int → Int → Prop} {gv : Int → Int → V} {g : D → D → Option T} (h : ∀ x y t, g x y = some t → ∃ i j d, x = .int i ∧ y = .int j ∧ C i j ∧ t = .im d ∧ ∀ G H, Rep c.K G H (gv i j) d) : OpD c (rI C gv) g := by
  intro L σ H env x y dx dy t Q re hx hy e k
  obtain ⟨i, j, d, rfl, rfl, hc, rfl, r⟩ := h dx dy t e
  exact ⟨i, j, hx.int, hy.int, hc, k _ H re .refl (r _ _)⟩
theorem opd_I0 {gv : Int → Int → V} {g : D → D → Option T} (h : ∀ x y t, g x y = some t → ∃ i j d, x = .int i ∧ y = .int j ∧ t = .im d ∧ ∀ G H, Rep c.K G H (gv i j) d) : OpD c (rI0 gv) g := by
  intro L σ H env x y dx dy t Q re hx hy e k
  obtain ⟨i, j, d, rfl, rfl, rfl, r⟩ := h dx dy t e
  exact ⟨i, j, hx.int, hy.int, k _ H re .refl (r _ _)⟩
theorem d_sub : OpD c (rI0 fun i j => .int (i - j)) dSub := opd_I0 fun x y t h => by
  cases x <;> cases y <;> simp at h
  exact ⟨_, _, _, rfl, rfl, h.symm, fun _ _ => .int _⟩
theorem d_lt : OpD c (rI0 fun i j => .bl (decide (i < j))) dLt := opd_I0 fun x y t h => by
  cases x <;> cases y <;> simp at h
  exact ⟨_, _, _, rfl, rfl, h.symm, fun _ _ => .bl _⟩
theorem d_le : OpD c (rI0 fun i j => .bl (decide (i ≤ j))) dLe := opd_I0 fun x y t h => by
  cases x <;> cases y <;> simp at h
  exact ⟨_, _, _, rfl, rfl, h.symm, fun _ _ => .bl _⟩
theorem d_gt : OpD c (rI0 fun i j => .bl (decide (j < i))) dGt := opd_I0 fun x y t h => by
  cases x <;> cases y <;> simp at h
  exact ⟨_, _, _, rfl, rfl, h.symm, fun _ _ => .bl _⟩
theorem d_ge : OpD c (rI0 fun i j => .bl (decide (j ≤ i))) dGe := opd_I0 fun x y t h => by
  cases x <;> cases y <;> simp at h
  exact ⟨_, _, _, rfl, rfl, h.symm, fun _ _ => .bl _⟩
theorem d_mul : OpD c (rI CMul fun i j => .int (i * j)) dMul := opd_I fun x y t h => by
  cases x <;> cases y <;> simp only [dMul] at h <;> try (cases h; done)
  split at h
  · rename_i q
    exact ⟨_, _, _, rfl, rfl, q, (Option.some.inj h).symm, fun _ _ => .int _⟩
  · cases h
theorem d_fdiv : OpD c (rI CDiv fun i j => .int (i / j)) dFdiv := opd_I fun x y t h => by
  cases x <;> cases y <;> simp only [dFdiv] at h <;> try (cases h; done)
  split at h
  · rename_i q
    exact ⟨_, _, _, rfl, rfl, q, (Option.some.inj h).symm, fun _ _ => .int _⟩
  · cases h
theorem d_mod : OpD c (rI (fun _ j => 0 < j) fun i j => .int (i % j)) dMod := opd_I fun x y t h => by
  cases x <;> cases y <;> simp only [dMod] at h <;> try (cases h; done)
  split at h
  · rename_i q
    exact ⟨_, _, _, rfl, rfl, q, (Option.some.inj h).symm, fun _ _ => .int _⟩
  · cases h
theorem d_pow : OpD c (rI CPow fun i j => .int (i ^ j.toNat)) dPow := opd_I fun x y t h => by
  cases x <;> cases y <;> simp only [dPow] at h <;> try (cases h; done)
  split at h
  · rename_i q
    exact ⟨_, _, _, rfl, rfl, q, (Option.some.inj h).symm, fun _ _ => .int _⟩
  · cases h
theorem d_neg : UnD c (rU fun i => .int (-i)) dNeg := by
  intro L σ H env x dx t Q re hx e k
  cases dx <;> simp at e
  subst e
  exact ⟨_, hx.int, k _ H re .refl (.int _)⟩
/-- + of ints, texts, tuples, lists -/
abbrev rAddA (K : PySem.W.Frag) : R2 := fun x y H Q => rI0 (fun i j => .int (i + j)) x y H Q ∨ ((∃ i j, x = .str i ∧ y = .str j ∧ i.length + j.length ≤ sizeLine ∧ Q (.str (i ++ j)) H) ∨ (rCatA K x y H Q ∨ rCat x y H Q))
theorem op_addA : OpR X (binaryOp .Add) (rAddA X.K) := op_add.or (op_add_str.or (op_catA.or op_cat))
theorem d_add : OpD c (rAddA c.K) dAdd := by
  intro L σ H env x y dx dy t Q re hx hy e k
  cases dx <;> cases dy <;> simp only [dAdd] at e <;> try (cases e; done)
  · cases e
    exact .inl ⟨_, _, hx.int, hy.int, k _ H re .refl (.int _)⟩
  · split at e
    · rename_i q
      cases e
      exact .inr (.inl ⟨_, _, hx.str, hy.str, q, k _ H re .refl (.str _)⟩)
    · cases e
  · split at e
    · rename_i q
      cases e
      obtain ⟨a, xs, rfl, h1, r1⟩ := hx.tup
      obtain ⟨b, ys, rfl, h2, r2⟩ := hy.tup
      refine .inr (.inr (.inl ⟨a, b, xs, ys, rfl, rfl, h1, h2, ?_, fun z => ?_, fun _ z => ?_, fun _ _ => new_tup re (r1.append r2) k⟩))
      · rw [r1.length, r2.length]
        exact line6 q
      · subst z
        cases r1
        exact k _ H re .refl (.tup h2 r2)
      · subst z
        cases r2
        rw [List.append_nil] at k
        exact k _ H re .refl (.tup h1 r1)
    · cases e
  · split at e
    · rename_i q
      cases e
      obtain ⟨a, xs, rfl, h1, r1⟩ := hx.lst
      obtain ⟨b, ys, rfl, h2, r2⟩ := hy.lst
      refine .inr (.inr (.inr ⟨a, b, xs, ys, rfl, rfl, h1, h2, ?_, fun p n => ?_⟩))
      · rw [r1.length, r2.length]
        exact line6 q
      · obtain ⟨q1, q2, q3⟩ := re.newL (r1.append r2) n
        exact k _ _ q1 q2 q3
    · cases e
end

/-! ### places of a sequence -/
def dIx : D → D → Option T
  | .tup xs, .int i => (atI xs i).map .im
  | .lst xs, .int i => (atI xs i).map .im
  | .fz xs, .int i => (atI xs i).map .im
  | _, _ => none
theorem atI_reps {K : PySem.W.Frag} {G : Addr → Prop} {H : Hp} {xs : List V} {ds : List D} {i : Int} {d : D} (r : Reps K G H xs ds) (h : atI ds i = some d) : ∃ v, atI xs i = some v ∧ Rep K G H v d := by
  unfold atI at h ⊢
  rw [r.length]
  cases e : ixN ds.length i with
  | none => rw [e] at h; cases h
  | some j =>
    rw [e] at h
    exact r.get h
section
variable {X : Cx} {c : Cc} {W : WX} {pos : Pos} {a b : Expr} {fa fb : FE}
theorem d_ix : OpD c (rIx c.K) dIx := by
  intro L σ H env x y dx dy t Q re hx hy e k
  cases dx <;> cases dy <;> simp only [dIx] at e <;> try (cases e; done)
  · obtain ⟨a, xs, rfl, h1, r1⟩ := hx.tup
    obtain ⟨d, e1, rfl⟩ := Option.map_eq_some_iff.mp e
    obtain ⟨v, e2, r⟩ := atI_reps r1 e1
    exact .inr (.inl ⟨a, xs, _, v, rfl, hy.int, h1, e2, k _ H re .refl r⟩)
  · obtain ⟨a, xs, rfl, h1, r1⟩ := hx.lst
    obtain ⟨d, e1, rfl⟩ := Option.map_eq_some_iff.mp e
    obtain ⟨v, e2, r⟩ := atI_reps r1 e1
    exact .inl ⟨a, xs, _, v, rfl, hy.int, .of h1, e2, k _ H re .refl r⟩
  · obtain ⟨a, xs, rfl, h1, r1⟩ := hx.fz
    obtain ⟨d, e1, rfl⟩ := Option.map_eq_some_iff.mp e
    obtain ⟨v, e2, r⟩ := atI_reps r1 e1
    exact .inl ⟨a, xs, _, v, rfl, hy.int, h1.sql, e2, k _ H re .refl r⟩
theorem de_ix (ha : PE X a (dE c W fa)) (hb : PE X b (dE c W fb)) (hs : PlainIx b) (hK : c.K = X.K := by rfl) : PE X (.Subscript a b pos) (dE c W (eOp dIx fa fb)) :=
  PEw (pe_ix ix_seq ha hb hs) (by have q := d_tOp (W := W) (fa := fa) (fb := fb) (d_ix (c := c)); rw [hK] at q; exact q)
end
end DL
namespace DL
open PySem PySem.Spec L2

/-! ### argument lists -/
abbrev Lu (L : Addr → Prop) (As : List Addr) : Addr → Prop := fun b => L b ∨ b ∈ As
inductive RepAs (K : PySem.W.Frag) (G : Addr → Prop) (σ : St) (H : Hp) (env : En) : List Addr → List V → List T → Prop
  | nil : RepAs K G σ H env [] [] []
  | im {As v d vs ts} (r : Rep K G H v d) (rs : RepAs K G σ H env As vs ts) : RepAs K G σ H env As (v :: vs) (.im d :: ts)
  | al {As v i vs ts} (o : ∃ (io : Bool) (ds : List D), env[i]? = some (Sl.own io ds)) (e : σ[i]? = some (some v)) (rs : RepAs K G σ H env As vs ts) : RepAs K G σ H env As (v :: vs) (.al i :: ts)
  | fr {As a xs ds vs ts} (n : a ∉ As) (e : H a = some (.lst xs)) (r : Reps K G H xs ds) (rs : RepAs K G σ H env As vs ts) : RepAs K G σ H env (a :: As) (.ref a :: vs) (.fr ds :: ts)
def dA (c : Cc) (W : WX) (f : FA) : TA := fun σ H Q => ∃ env L, RE c L σ H env ∧ dK c W L σ H env (f env) fun ts env' H' => ∀ vs As, RepAs c.K (Av (Lu L As) σ env') σ H' env' As vs ts → (∀ a ∈ As, ¬ L a ∧ c.H0 a = none ∧ Nn σ env H a) → RE c (Lu L As) σ H' env' → Q vs H'
theorem dA.of {c : Cc} {W : WX} {L : Addr → Prop} {σ : St} {H : Hp} {env : En} {f : FA} {Q : List V → Hp → Prop} (r : RE c L σ H env) (h : dK c W L σ H env (f env) fun ts env' H' => ∀ vs As, RepAs c.K (Av (Lu L As) σ env') σ H' env' As vs ts → (∀ a ∈ As, ¬ L a ∧ c.H0 a = none ∧ Nn σ env H a) → RE c (Lu L As) σ H' env' → Q vs H') : dA c W f σ H Q := ⟨env, L, r, h⟩
def aNil : FA := fun env => .ok [] env
def consT (t : T) (ts : List T) (e2 : En) : R (List T) := match t with
  | .al i => match e2[i]? with
    | some (.own _ _) => .ok (.al i :: ts) e2
    | _ => .er
  | .ft cs => .ok (.im (.tup (cs.map Cp.d)) :: ts) e2
  | .im d => .ok (.im d :: ts) e2
  | .fr ds => .ok (.fr ds :: ts) e2
def aCons (fa : FE) (fr : FA) : FA := fun env => (fa env).bind fun t e1 => (fr e1).bind fun ts e2 => consT t ts e2
section
variable {X : Cx} {c : Cc} {W : WX} {e : Expr} {es : List Expr} {fa : FE} {fr : FA}
theorem da_nil : PA X [] (dA c W aNil) := PAw pa_nil fun σ H Q h => by
  obtain ⟨env, L, r, h⟩ := h
  exact h H r .refl [] [] .nil (fun a z => by cases z) (r.less fun a z => z.elim id fun z => by cases z)
/-- what keeps off a set of addresses that may have changed since -/
theorem Rep.past {L : Addr → Prop} {As : List Addr} {σ : St} {H H1 : Hp} {env env1 : En} {v : V} {d : D} (r : RE c L σ H env) (s : Stp σ env H σ env1 H1) (h : Rep c.K (Av L σ env) H v d) (n : ∀ a ∈ As, Nn σ env H a) : Rep c.K (Av (Lu L As) σ env1) H1 v d :=
  h.mono (r.tk s) fun a xs g e => by
    obtain ⟨e1, n1⟩ := s a (Nn.not e g.2)
    exact ⟨⟨fun z => z.elim g.1 (fun z => (n a z).elim g.2 (fun q => by rw [q] at e; cases e)), fun z => n1 (.inl z)⟩, e1.trans e⟩
theorem Reps.past {L : Addr → Prop} {As : List Addr} {σ : St} {H H1 : Hp} {env env1 : En} {v : List V} {d : List D} (r : RE c L σ H env) (s : Stp σ env H σ env1 H1) (h : Reps c.K (Av L σ env) H v d) (n : ∀ a ∈ As, Nn σ env H a) : Reps c.K (Av (Lu L As) σ env1) H1 v d :=
  h.mono (r.tk s) fun a xs g e => by
    obtain ⟨e1, n1⟩ := s a (Nn.not e g.2)
    exact ⟨⟨fun z => z.elim g.1 (fun z => (n a z).elim g.2 (fun q => by rw [q] at e; cases e)), fun z => n1 (.inl z)⟩, e1.trans e⟩
theorem da_cons (ha : PE X e (dE c W fa)) (hr : PA X es (dA c W fr)) (hs : starEach (e :: es) X.env = (false, eval e X.env) :: starEach es X.env := by rfl) : PA X (e :: es) (dA c W (aCons fa fr)) := PAw (pa_cons ha hr hs) fun σ H Q h => by
  obtain ⟨env, L, r, h⟩ := h
  refine dE.of r (h.bind.mono fun t e1 H1 r1 s1 h1 x q1 => ?_)
  -- the first is data
  have asIm : ∀ d, (∀ ts e2, consT t ts e2 = R.ok (T.im d :: ts) e2) → Rep c.K (Av L σ e1) H1 x d → dA c W fr σ H1 fun xs H2 => Q (x :: xs) H2 := fun d hm q => by
    refine dA.of r1 (h1.bind.mono fun ts e2 H2 r2 s2 h2 vs As q2 n2 r3 => ?_)
    rw [hm ts e2] at h2
    exact h2 H2 r2 .refl (x :: vs) As (.im (q.past r1 s2 fun a z => (n2 a z).2.2) q2) (fun a z => ⟨(n2 a z).1, (n2 a z).2.1, s1.back (n2 a z).2.2⟩) r3
  cases t with
  | im d => exact asIm d (fun _ _ => rfl) q1
  | ft cs => exact asIm _ (fun _ _ => rfl) q1.wk
  | al i =>
    refine dA.of r1 (h1.bind.mono fun ts e2 H2 r2 s2 h2 vs As q2 n2 r3 => ?_)
    cases q : e2[i]? with
    | none => simp only [consT, q] at h2; exact h2.elim
    | some s =>
      cases s with
      | no => simp only [consT, q] at h2; exact h2.elim
      | im d => simp only [consT, q] at h2; exact h2.elim
      | own io ds =>
        simp only [consT, q] at h2
        exact h2 H2 r2 .refl (x :: vs) As (.al ⟨io, ds, q⟩ q1.2 q2) (fun a z => ⟨(n2 a z).1, (n2 a z).2.1, s1.back (n2 a z).2.2⟩) r3
  | fr ds =>
    obtain ⟨a, xs, rfl, ea, ra, na, h0, nn, rL⟩ := q1
    refine dA.of rL ((h1.less (L' := fun b => L b ∨ b = a) fun b z => .inl z).bind.mono fun ts e2 H2 r2 s2 h2 vs As q2 n2 r3 => ?_)
    have e2a : H2 a = some (.lst xs) := (s2 a (Nn.not ea (rL.ext a (.inr rfl)).1)).1.trans ea
    have na2 : a ∉ As := fun z => (n2 a z).1 (.inr rfl)
    have key : ∀ b, Lu (fun b => L b ∨ b = a) As b ↔ Lu L (a :: As) b := fun b => by simp [Lu, or_assoc]
    have q2' : RepAs c.K (Av (Lu L (a :: As)) σ e2) σ H2 e2 As vs ts := by
      have : Av (Lu (fun b => L b ∨ b = a) As) σ e2 = Av (Lu L (a :: As)) σ e2 := by funext b; simp [Av, key b]
      rw [← this]; exact q2
    have ra' : Reps c.K (Av (Lu L (a :: As)) σ e2) H2 xs ds := by
      have : Av (Lu (fun b => L b ∨ b = a) As) σ e2 = Av (Lu L (a :: As)) σ e2 := by funext b; simp [Av, key b]
      rw [← this]; exact ra.past rL s2 fun b z => (n2 b z).2.2
    have r3' : RE c (Lu L (a :: As)) σ H2 e2 := r3.less fun b z => (key b).mpr z
    refine h2 H2 r2 .refl (.ref a :: vs) (a :: As) (.fr na2 e2a ra' q2') (fun b z => ?_) r3'
    rcases List.mem_cons.mp z with rfl | z
    · exact ⟨na, h0, nn⟩
    · exact ⟨fun l => (n2 b z).1 (.inl l), (n2 b z).2.1, s1.back (n2 b z).2.2⟩
end
/-- the data that are handed to a call -/
def vals (env : En) : List T → Option (List D)
  | [] => some []
  | t :: ts => match t.val env, vals env ts with
    | some d, some ds => some (d :: ds)
    | _, _ => none
inductive RepOs (K : PySem.W.Frag) (G : Addr → Prop) (H : Hp) : List V → List D → Prop
  | nil : RepOs K G H [] []
  | cons {v d vs ds} (r : RepO K G H v d) (rs : RepOs K G H vs ds) : RepOs K G H (v :: vs) (d :: ds)
section
variable {c : Cc} {L : Addr → Prop} {σ : St} {H : Hp} {env : En}
theorem RepAs.oprs {As0 : List Addr} : ∀ {As vs ts ds}, RepAs c.K (Av (Lu L As0) σ env) σ H env As vs ts → RE c L σ H env → RE c (Lu L As0) σ H env → (∀ a ∈ As, a ∈ As0 ∧ ¬ L a) → vals env ts = some ds → RepOs c.K (Av L σ env) H vs ds
  | _, _, _, ds, .nil, _, _, _, e => by cases e; exact .nil
  | _, _, _, ds, .im (d := d) (ts := ts) r rs, h, h2, n, e => by
    simp only [vals, val_im] at e
    cases q : vals env ts with
    | none => rw [q] at e; cases e
    | some es =>
      rw [q] at e
      cases e
      exact .cons (Rep.o (r.mono (.refl H) fun a xs g e => ⟨⟨fun z => g.1 (.inl z), g.2⟩, e⟩)) (RepAs.oprs rs h h2 n q)
  | _, _, _, ds, .al (i := i) (ts := ts) o es rs, h, h2, n, e => by
    simp only [vals] at e
    cases q : vals env ts with
    | none => rw [q] at e; split at e <;> cases e <;> simp_all
    | some es' =>
      cases qv : (T.al i).val env with
      | none => rw [qv] at e; cases e
      | some dv =>
        rw [q, qv] at e
        cases e
        exact .cons (RepT.opr0 (N := fun _ => True) h (t := .al i) ⟨o, es⟩ qv) (RepAs.oprs rs h h2 n q)
  | _, _, _, ds, .fr (a := a) (ts := ts) na ea r rs, h, h2, n, e => by
    simp only [vals, val_fr] at e
    cases q : vals env ts with
    | none => rw [q] at e; cases e
    | some es =>
      rw [q] at e
      cases e
      exact .cons ⟨a, _, rfl, ea, r.mono (.refl H) fun b xs g e => ⟨⟨fun z => g.1 (.inl z), g.2⟩, e⟩⟩ (RepAs.oprs rs h h2 (fun b z => n b (List.mem_cons_of_mem _ z)) q)
end

/-! ### built-in functions -/
def CallD (c : Cc) (r : List V → Hp → VK → Prop) (g : List D → Option T) : Prop := ∀ (L : Addr → Prop) (σ : St) (H : Hp) (env : En) (xs : List V) (ds : List D) (t : T) (Q : VK), RE c L σ H env → RepOs c.K (Av L σ env) H xs ds → g ds = some t →
  (∀ v H', RE c L σ H' env → Stp σ env H σ env H' → RepT c L (Nn σ env H) σ H' env v t → Q v H') → r xs H Q
def opL (g : List D → Option T) (ts : List T) (env : En) : R T := match vals env ts with
  | some ds => R.opt (g ds) env
  | none => .er
def eB (g : List D → Option T) (fa : FA) : FE := fun env => (fa env).bind fun ts e1 => opL g ts e1
section
variable {X : Cx} {c : Cc} {W : WX} {pos p : Pos} {x : Str} {e : Expr} {es : List Expr} {fa : FA} {r : List V → Hp → VK → Prop} {g : List D → Option T} {id Ty : String}
theorem d_tCB (ho : CallD c r g) : ∀ σ H Q, dE c W (eB g fa) σ H Q → tCB r (dA c W fa) σ H Q := fun σ H Q h => by
  obtain ⟨env, L, re, h⟩ := dE_iff.mp h
  refine dA.of re (h.bind.mono fun ts e1 H1 r1 s1 h1 vs As q n r2 => ?_)
  unfold opL at h1
  cases ev : vals e1 ts with
  | none => rw [ev] at h1; exact h1.elim
  | some ds =>
    rw [ev] at h1
    cases eg : g ds with
    | none => simp only [eg] at h1; exact h1.elim
    | some t =>
      simp only [eg] at h1
      exact ho L σ H1 e1 vs ds t Q r1 (q.oprs r1 r2 (fun a z => ⟨z, (n a z).1⟩) ev) eg fun v H' re' s q => h1 H' re' s v (q.less (fun _ z => z) fun a n => s1.back n)
theorem de_b (ho : CallD c r g) (hc : CallR X (.builtin id) r) (hg : Gl X x) (hm : X.mg x = none) (hv : bootBuiltins x = some (.builtin id)) (ha : PA X (e :: es) (dA c W fa)) (hn : x ≠ "__name__" := by decide) (hdb : (x == ("__debug__" : Str)) = false := by decide)
    (he : starEach (e :: es) X.env = (false, eval e X.env) :: starEach es X.env := by rfl) (hpl : (backTo pos (starEach es X.env)).any (·.1) = false := by rfl) : PE X (.Call (.Name x p) (e :: es) [] pos) (dE c W (eB g fa)) :=
  PEw (pe_callB hc hg hm hv ha hn hdb he hpl) (d_tCB ho)
theorem de_ty (ho : CallD c r g) (hc : CallR X (.type Ty) r) (hg : Gl X x) (hm : X.mg x = none) (hv : bootBuiltins x = some (.type Ty)) (ha : PA X (e :: es) (dA c W fa)) (hn : x ≠ "__name__" := by decide) (hdb : (x == ("__debug__" : Str)) = false := by decide)
    (he : starEach (e :: es) X.env = (false, eval e X.env) :: starEach es X.env := by rfl) (hpl : (backTo pos (starEach es X.env)).any (·.1) = false := by rfl) : PE X (.Call (.Name x p) (e :: es) [] pos) (dE c W (eB g fa)) :=
  PEw (pe_callTy hc hg hm hv ha hn hdb he hpl) (d_tCB ho)
end
end DL
namespace DL
open PySem PySem.Spec L2

/-! ### displays -/
def mvs : List T → En → Option (List Cp × En)
  | [], env => some ([], env)
  | .im d :: ts, env => match mvs ts env with
    | some (cs, e) => some (⟨false, d⟩ :: cs, e)
    | none => none
  | .fr ds :: ts, env => match mvs ts env with
    | some (cs, e) => some (⟨true, .lst ds⟩ :: cs, e)
    | none => none
  | .al i :: ts, env => match env[i]? with
    | some (.own false ds) => match mvs ts (env.set i .no) with
      | some (cs, e) => some (⟨true, .lst ds⟩ :: cs, e)
      | none => none
    | _ => none
  | .ft _ :: _, _ => none
@[simp] theorem mvs_nil (env : En) : mvs [] env = some ([], env) := rfl
@[simp] theorem mvs_im (d : D) (ts : List T) (env : En) : mvs (.im d :: ts) env = (match mvs ts env with | some (cs, e) => some (⟨false, d⟩ :: cs, e) | none => none) := rfl
@[simp] theorem mvs_fr (d : List D) (ts : List T) (env : En) : mvs (.fr d :: ts) env = (match mvs ts env with | some (cs, e) => some (⟨true, .lst d⟩ :: cs, e) | none => none) := rfl
theorem own_set_no {σ : St} {env : En} {i : Nat} {b : Addr} (h : ownM σ (env.set i .no) b) : ownM σ env b ∧ ∃ (j : Nat) (io : Bool) (ds : List D), j ≠ i ∧ env[j]? = some (Sl.own io ds) ∧ σ[j]? = some (some (V.ref b)) := by
  obtain ⟨j, io, ds, e1, e2⟩ := h
  by_cases q : i = j
  · subst q
    rw [List.getElem?_set] at e1
    simp at e1
  · rw [List.getElem?_set_ne q] at e1
    exact ⟨⟨j, io, ds, e1, e2⟩, j, io, ds, fun z => q z.symm, e1, e2⟩
theorem own_keep {σ : St} {env : En} {i : Nat} {a b : Addr} (h : ownM σ env b) (n : b ≠ a) (s : σ[i]? = some (some (V.ref a))) : ownM σ (env.set i .no) b := by
  obtain ⟨j, io, ds, e1, e2⟩ := h
  have q : i ≠ j := fun q => by
    subst q
    rw [s] at e2
    cases e2
    exact n rfl
  exact ⟨j, io, ds, by rw [List.getElem?_set_ne q]; exact e1, e2⟩
theorem get_set_no {env : En} {i j : Nat} {s : Sl} (h : (env.set i .no)[j]? = some s) (n : s ≠ .no) : j ≠ i ∧ env[j]? = some s := by
  by_cases q : i = j
  · subst q
    rw [List.getElem?_set] at h
    simp at h
    exact absurd h.2.symm n
  · rw [List.getElem?_set_ne q] at h
    exact ⟨fun z => q z.symm, h⟩
theorem RE.drop {c : Cc} {L : Addr → Prop} {σ : St} {H : Hp} {env : En} {i : Nat} {ds : List D} {a : Addr} {io : Bool} (h : RE c L σ H env) (e : env[i]? = some (Sl.own io ds)) (s : σ[i]? = some (some (V.ref a))) : RE c (fun b => L b ∨ b = a) σ H (env.set i .no) ∧ Stp σ env H σ (env.set i .no) H := by
  have na : ¬ ownM σ (env.set i .no) a := fun z => by
    obtain ⟨_, j, jo, es, n, e1, e2⟩ := own_set_no z
    exact n (h.inj j i jo io es ds a e1 e e2 s)
  have oa : ownM σ env a := ⟨i, io, ds, e, s⟩
  have av : ∀ b, Av L σ env b → Av (fun b => L b ∨ b = a) σ (env.set i .no) b := fun b g => ⟨fun z => z.elim g.1 fun z => g.2 (by rw [z]; exact oa), fun z => g.2 (own_set_no z).1⟩
  refine ⟨⟨by rw [List.length_set]; exact h.len, fun j d q => ?_, fun j jo es q => ?_, fun j k jo ko ds es a q1 q2 q3 q4 => ?_, fun b lb => ?_, h.fr, h.io⟩, fun b n => ⟨rfl, fun z => n (z.imp (fun z => (own_set_no z).1) id)⟩⟩
  · obtain ⟨v, e1, r⟩ := h.im j d (get_set_no q (fun z => nomatch z)).2
    exact ⟨v, e1, r.mono (.refl H) fun b xs g q => ⟨av b g, q⟩⟩
  · obtain ⟨b, xs, e1, e2, r, z⟩ := h.own j jo es (get_set_no q (fun z => nomatch z)).2
    exact ⟨b, xs, e1, e2, r.mono (.refl H) fun b xs g q => ⟨av b g, q⟩, z⟩
  · exact h.inj j k jo ko ds es a (get_set_no q1 (fun z => nomatch z)).2 (get_set_no q2 (fun z => nomatch z)).2 q3 q4
  · rcases lb with lb | rfl
    · exact ⟨fun z => (h.ext b lb).1 (own_set_no z).1, (h.ext b lb).2⟩
    · obtain ⟨b', xs, e1, e2, _⟩ := h.own i io ds e
      rw [s] at e1
      cases e1
      exact ⟨na, xs, e2⟩
section
variable {c : Cc} {L G0 : Addr → Prop} {σ : St} {H : Hp} {env0 : En}
theorem RepAs.mv : ∀ {As vs ts}, RepAs c.K G0 σ H env0 As vs ts → ∀ (S : List Addr) (env : En), RE c (Lu L S) σ H env → (∀ b, G0 b ↔ Av (Lu L S) σ env b) → (∀ a ∈ As, a ∈ S) → ∀ {cs env'}, mvs ts env = some (cs, env') →
    ∃ S' Bs, RE c (Lu L S') σ H env' ∧ Stp σ env H σ env' H ∧ (∀ b, G0 b ↔ Av (Lu L S') σ env' b) ∧ (∀ b ∈ S, b ∈ S') ∧ RepC c.K G0 H Bs vs cs ∧ (∀ b ∈ Bs, b ∈ S' ∧ (b ∈ As ∨ (b ∉ S ∧ c.H0 b = none ∧ ownM σ env b ∧ ¬ L b))) ∧ (∀ b ∈ As, b ∈ Bs)
  | _, _, _, .nil, S, env, h, g, n, cs, env', e => by
    cases e
    exact ⟨S, [], h, .refl, g, fun _ z => z, .nil, (fun _ z => nomatch z), fun _ z => nomatch z⟩
  | _, _, _, .im (ts := ts) r rs, S, env, h, g, n, cs, env', e => by
    rw [mvs_im] at e
    cases q : mvs ts env with
    | none => rw [q] at e; cases e
    | some p =>
      obtain ⟨cs1, e1⟩ := p
      rw [q] at e
      cases e
      obtain ⟨S', Bs, h1, h2, h3, h4, h5, h6, h7⟩ := RepAs.mv rs S env h g n q
      exact ⟨S', Bs, h1, h2, h3, h4, .im r h5, h6, h7⟩
  | _, _, _, .fr (As := As) (a := a) (ts := ts) na ea r rs, S, env, h, g, n, cs, env', e => by
    rw [mvs_fr] at e
    cases q : mvs ts env with
    | none => rw [q] at e; cases e
    | some p =>
      obtain ⟨cs1, e1⟩ := p
      rw [q] at e
      cases e
      obtain ⟨S', Bs, h1, h2, h3, h4, h5, h6, h7⟩ := RepAs.mv rs S env h g (fun b z => n b (List.mem_cons_of_mem _ z)) q
      have aS : a ∈ S := n a List.mem_cons_self
      refine ⟨S', a :: Bs, h1, h2, h3, h4, .fr (fun z => ?_) ea r h5, fun b z => ?_, fun b z => ?_⟩
      · rcases (h6 a z).2 with z | z
        · exact na z
        · exact z.1 aS
      · rcases List.mem_cons.mp z with rfl | z
        · exact ⟨h4 b aS, .inl List.mem_cons_self⟩
        · exact ⟨(h6 b z).1, (h6 b z).2.imp (fun z => List.mem_cons_of_mem _ z) id⟩
      · rcases List.mem_cons.mp z with rfl | z
        · exact List.mem_cons_self
        · exact List.mem_cons_of_mem _ (h7 b z)
  | As, _, _, .al (i := i) (ts := ts) o es rs, S, env, h, g, n, cs, env', e => by
    unfold mvs at e
    cases q0 : env[i]? with
    | none => rw [q0] at e; cases e
    | some s =>
      cases s with
      | no => rw [q0] at e; cases e
      | im d => rw [q0] at e; cases e
      | own io ds =>
        cases io with
        | true => rw [q0] at e; cases e
        | false =>
          rw [q0] at e
          dsimp only at e
          cases q : mvs ts (env.set i .no) with
          | none => rw [q] at e; cases e
          | some p =>
            obtain ⟨cs1, e1⟩ := p
            rw [q] at e
            cases e
            obtain ⟨a, xs, ea, eb, r, f0, _⟩ := h.own i false ds q0
            rw [es] at ea
            cases ea
            obtain ⟨hd, sd⟩ := h.drop q0 es
            have oa : ownM σ env a := ⟨i, false, ds, q0, es⟩
            have naS : a ∉ S := fun z => (h.ext a (.inr z)).1 oa
            have naL : ¬ L a := fun z => (h.ext a (.inl z)).1 oa
            have key : ∀ b, Lu L (a :: S) b ↔ (Lu L S b ∨ b = a) := fun b => by simp [Lu, or_assoc, or_comm, or_left_comm]
            obtain ⟨S', Bs, h1, h2, h3, h4, h5, h6, h7⟩ := RepAs.mv rs (a :: S) (env.set i .no) (hd.less fun b z => (key b).mp z) (fun b => ⟨fun z => ⟨fun y => ((key b).mp y).elim ((g b).mp z).1 fun y => ((g b).mp z).2 (by rw [y]; exact oa), fun y => ((g b).mp z).2 (own_set_no y).1⟩, fun z => (g b).mpr ⟨fun y => z.1 ((key b).mpr (.inl y)), fun y => z.2 (own_keep y (fun q => z.1 ((key b).mpr (.inr q))) es)⟩⟩) (fun b z => List.mem_cons_of_mem _ (n b z)) q
            refine ⟨S', a :: Bs, h1, sd.trans h2, h3, fun b z => h4 b (List.mem_cons_of_mem _ z), .fr (fun z => ?_) eb (r.mono (.refl H) fun b ys gb eq => ⟨?_, eq⟩) h5, fun b z => ?_, fun b z => List.mem_cons_of_mem _ (h7 b z)⟩
            · rcases (h6 a z).2 with z | z
              · exact naS (n a z)
              · exact z.1 List.mem_cons_self
            · exact (g b).mpr gb
            · rcases List.mem_cons.mp z with rfl | z
              · exact ⟨h4 b List.mem_cons_self, .inr ⟨naS, f0 rfl, oa, naL⟩⟩
              · refine ⟨(h6 b z).1, (h6 b z).2.imp id fun ⟨z1, z2, z3, z4⟩ => ⟨fun y => z1 (List.mem_cons_of_mem _ y), z2, (own_set_no z3).1, z4⟩⟩
end
def mkTup (cs : List Cp) : T := if cs.all (fun c => !c.fr) = true then .im (.tup (cs.map Cp.d)) else .ft cs
@[simp] theorem mkTup_nil : mkTup [] = .im (.tup []) := rfl
def disp (k : List Cp → T) (ts : List T) (env : En) : R T := if ts.length ≤ 1000000 then (match mvs ts env with
  | some (cs, e) => .ok (k cs) e
  | none => .er) else .er
def eTup (fa : FA) : FE := fun env => (fa env).bind fun ts e1 => disp mkTup ts e1
def eLst (fa : FA) : FE := fun env => (fa env).bind fun ts e1 => disp (fun cs => .fr (cs.map Cp.d)) ts e1
theorem RepAs.length {K : PySem.W.Frag} {G : Addr → Prop} {σ : St} {H : Hp} {env : En} : ∀ {As vs ts}, RepAs K G σ H env As vs ts → vs.length = ts.length
  | _, _, _, .nil => rfl
  | _, _, _, .im _ rs => congrArg (· + 1) (RepAs.length rs)
  | _, _, _, .al _ _ rs => congrArg (· + 1) (RepAs.length rs)
  | _, _, _, .fr _ _ _ rs => congrArg (· + 1) (RepAs.length rs)
theorem RE.bare {c : Cc} {L : Addr → Prop} {σ : St} {H : Hp} {env : En} {As : List Addr} (h : RE c (Lu L As) σ H env) : RE c L σ H env := h.less fun _ z => .inl z
section
variable {X : Cx} {c : Cc} {W : WX} {pos : Pos} {es : List Expr} {fa : FA}
/-- what a display's items are -/
theorem disp_ok {k : List Cp → T} {L N : Addr → Prop} {σ : St} {H : Hp} {env : En} {vs : List V} {As : List Addr} {ts : List T} {P : T → En → Hp → Prop} {Q : Prop} (r : RE c (Lu L As) σ H env) (q : RepAs c.K (Av (Lu L As) σ env) σ H env As vs ts) (n : ∀ a ∈ As, ¬ L a ∧ c.H0 a = none ∧ N a)
    (nn : ∀ a, ownM σ env a → N a) (h : dK c W L σ H env (disp k ts env) P)
    (kk : vs.length ≤ sizeLine → ∀ cs env' Bs, RE c (Lu L Bs) σ H env' → Stp σ env H σ env' H → RepC c.K (Av (Lu L Bs) σ env') H Bs vs cs → (∀ a ∈ Bs, ¬ L a ∧ c.H0 a = none ∧ N a) → dK c W L σ H env (.ok (k cs) env') P → Q) : Q := by
  unfold disp at h
  split at h
  · rename_i len
    cases e : mvs ts env with
    | none => rw [e] at h; exact h.elim
    | some p =>
      obtain ⟨cs, env'⟩ := p
      rw [e] at h
      obtain ⟨S', Bs, h1, h2, h3, h4, h5, h6, h7⟩ := q.mv As env r (fun b => Iff.rfl) (fun _ z => z) e
      refine kk (by rw [q.length]; exact line6 len) cs env' Bs (h1.less fun b z => z.imp id fun z => (h6 b z).1) h2 (h5.mono (.refl H) (fun b xs g e => ⟨⟨fun z => ((h3 b).mp g).1 (z.imp id fun z => (h6 b z).1), ((h3 b).mp g).2⟩, e⟩) (fun _ _ _ e => e)) (fun b z => ?_) h
      rcases (h6 b z).2 with y | ⟨_, y2, y3, y4⟩
      · exact n b y
      · exact ⟨y4, y2, nn b y3⟩
  · exact h.elim
theorem RepC.none {K : PySem.W.Frag} {G : Addr → Prop} {H : Hp} : ∀ {As vs cs}, RepC K G H As vs cs → cs.all (fun c => !c.fr) = true → Reps K G H vs (cs.map Cp.d)
  | _, _, _, .nil, _ => .nil
  | _, _, _, .im r rs, h => .cons r (RepC.none rs (by simpa using h))
  | _, _, _, .fr .., h => by simp at h
theorem de_tup {x1} (ha : PA X es (dA c W fa)) : PE X (.Tuple es x1 pos) (dE c W (eTup fa)) := PEw (pe_tup ha) fun σ H Q h => by
  obtain ⟨env, L, re, h⟩ := dE_iff.mp h
  refine dA.of re (h.bind.mono fun ts e1 H1 r1 s1 h1 vs As q n r2 => ?_)
  refine disp_ok (N := Nn σ env H) r2 q (fun a z => n a z) (fun a z => s1.back (.inl z)) h1 fun len cs env' Bs r3 s3 q3 n3 h3 => ⟨len, fun p np => ?_⟩
  have kp : ∀ b o, H1 b = some o → upd H1 p (.tup vs) b = some o := fun b o e => by rw [upd_ne (ne_of_none e np)]; exact e
  have q4 : RepC c.K (Av (Lu L Bs) σ env') (upd H1 p (.tup vs)) Bs vs cs := q3.mono (r3.tk (.grow kp)) (fun b xs g e => ⟨g, kp _ _ e⟩) fun b z xs e => kp _ _ e
  have r4 : RE c (Lu L Bs) σ (upd H1 p (.tup vs)) env' := r3.grow kp
  have key : RepT c L (Nn σ env H) σ (upd H1 p (.tup vs)) env' (.ref p) (.ft cs) := ⟨p, vs, Bs, rfl, .inl (.inl upd_same), q4, n3, r4⟩
  refine h3 _ r4.bare (s3.trans (.grow kp)) _ ?_
  unfold mkTup
  split
  · exact key.wk
  · exact key
theorem de_lst (ha : PA X es (dA c W fa)) : PE X (.List es pos) (dE c W (eLst fa)) := PEw (pe_lst ha) fun σ H Q h => by
  obtain ⟨env, L, re, h⟩ := dE_iff.mp h
  refine dA.of re (h.bind.mono fun ts e1 H1 r1 s1 h1 vs As q n r2 => ?_)
  refine disp_ok (N := Nn σ env H) r2 q (fun a z => n a z) (fun a z => s1.back (.inl z)) h1 fun len cs env' Bs r3 s3 q3 n3 h3 => ⟨len, fun p np => ?_⟩
  have rp : Reps c.K (Av L σ env') H1 vs (cs.map Cp.d) := q3.reps (fun b g => ⟨fun z => g.1 (.inl z), g.2⟩) fun a z => ⟨(n3 a z).1, (r3.ext a (.inr z)).1⟩
  obtain ⟨y1, y2, y3⟩ := r3.bare.newL rp np
  exact h3 _ y1 (s3.trans y2) _ (y3.less (fun _ z => z) fun a z => s1.back (s3.back z))
end
end DL
namespace DL
open PySem PySem.Spec L2

/-! ### equality of data -/
mutual
def toP : D → PyData
  | .non => .none
  | .bl b => .bool b
  | .int i => .int i
  | .str x => .str x
  | .tup xs => .tuple (toPs xs)
  | .lst xs => .list (toPs xs)
  | .fz xs => .list (toPs xs)
def toPs : List D → List PyData
  | [] => []
  | x :: xs => toP x :: toPs xs
end
theorem toPs_map : ∀ ds, toPs ds = ds.map toP
  | [] => rfl
  | d :: ds => by rw [toPs, toPs_map ds]; rfl
section
variable {K : PySem.W.Frag} {G : Addr → Prop} {H : Hp}
mutual
theorem Rep.dp : ∀ {v d}, Rep K G H v d → Dp K H v (toP d)
  | _, _, .non => .non
  | _, _, .bl b => .bl b
  | _, _, .int i => .int i
  | _, _, .str x => .str x
  | _, _, .tup h r => .tup h (Reps.dp r)
  | _, _, .lst g h r => .lst (.of h) (Reps.dp r)
  | _, _, .fz h r => .lst h.sql (Reps.dp r)
theorem Reps.dp : ∀ {v d}, Reps K G H v d → DpAll K H v (toPs d)
  | _, _, .nil => .nil
  | _, _, .cons r rs => .cons (Rep.dp r) (Reps.dp rs)
end
end
/-- == of data -/
def eqv (x y : D) : Bool := PyData.eqv (toP x) (toP y)
def eqvs (xs ys : List D) : Bool := PyData.eqvAll (toPs xs) (toPs ys)
/-- no data too deep to be compared -/
def shp (x : D) : Bool := SeqAt.shaped (toP x)
@[simp] theorem eqv_ii (i j : Int) : eqv (.int i) (.int j) = (i == j) := rfl
@[simp] theorem eqv_bb (i j : Bool) : eqv (.bl i) (.bl j) = (i == j) := rfl
@[simp] theorem eqv_ss (i j : Str) : eqv (.str i) (.str j) = (i == j) := rfl
@[simp] theorem eqv_nn : eqv .non .non = true := rfl
@[simp] theorem eqv_tt (i j : List D) : eqv (.tup i) (.tup j) = eqvs i j := rfl
@[simp] theorem eqv_ll (i j : List D) : eqv (.lst i) (.lst j) = eqvs i j := rfl
@[simp] theorem eqv_fl (i j : List D) : eqv (.fz i) (.lst j) = eqvs i j := rfl
@[simp] theorem eqv_is (i : Int) (x : Str) : eqv (.int i) (.str x) = false := rfl
@[simp] theorem eqv_si (i : Int) (x : Str) : eqv (.str x) (.int i) = false := rfl
@[simp] theorem eqv_ns (x : Str) : eqv .non (.str x) = false := rfl
@[simp] theorem eqv_ni (x : Int) : eqv .non (.int x) = false := rfl
@[simp] theorem eqv_in (x : Int) : eqv (.int x) .non = false := rfl
@[simp] theorem eqv_sn (x : Str) : eqv (.str x) .non = false := rfl
@[simp] theorem eqv_ts (i : List D) (x : Str) : eqv (.tup i) (.str x) = false := rfl
@[simp] theorem eqv_ti (i : List D) (x : Int) : eqv (.tup i) (.int x) = false := rfl
@[simp] theorem eqv_it (i : List D) (x : Int) : eqv (.int x) (.tup i) = false := rfl
@[simp] theorem eqv_ls (i : List D) (x : Str) : eqv (.lst i) (.str x) = false := rfl
@[simp] theorem eqv_tn (i : List D) : eqv (.tup i) .non = false := rfl
@[simp] theorem eqv_nt (i : List D) : eqv .non (.tup i) = false := rfl
@[simp] theorem eqv_tl (i j : List D) : eqv (.tup i) (.lst j) = false := rfl
@[simp] theorem eqv_lt (i j : List D) : eqv (.lst i) (.tup j) = false := rfl
@[simp] theorem eqvs_nn : eqvs [] [] = true := rfl
@[simp] theorem eqvs_cn (x : D) (xs : List D) : eqvs (x :: xs) [] = false := rfl
@[simp] theorem eqvs_nc (x : D) (xs : List D) : eqvs [] (x :: xs) = false := rfl
@[simp] theorem eqvs_cc (x y : D) (xs ys : List D) : eqvs (x :: xs) (y :: ys) = (eqv x y && eqvs xs ys) := rfl
mutual
def lay : D → Bool
  | .str x => PySem.PyData.strOk x
  | .tup xs => lays xs
  | .lst xs => lays xs
  | .fz xs => lays xs
  | _ => true
def lays : List D → Bool
  | [] => true
  | x :: xs => lay x && lays xs
end
mutual
def dep : D → Nat
  | .tup xs => deps xs + 1
  | .lst xs => deps xs + 1
  | .fz xs => deps xs + 1
  | _ => 0
def deps : List D → Nat
  | [] => 0
  | x :: xs => max (dep x) (deps xs)
end
mutual
theorem lay_toP : ∀ d, PyData.canLay0 (toP d) = lay d
  | .non => rfl
  | .bl _ => rfl
  | .int _ => rfl
  | .str _ => rfl
  | .tup xs => lays_toP xs
  | .lst xs => lays_toP xs
  | .fz xs => lays_toP xs
theorem lays_toP : ∀ d, PyData.canLayAll0 (toPs d) = lays d
  | [] => rfl
  | x :: xs => by
    show (PyData.canLay0 (toP x) && PyData.canLayAll0 (toPs xs)) = (lay x && lays xs)
    rw [lay_toP x, lays_toP xs]
end
mutual
theorem dep_toP : ∀ d, PyData.depth (toP d) = dep d
  | .non => rfl
  | .bl _ => rfl
  | .int _ => rfl
  | .str _ => rfl
  | .tup xs => congrArg (· + 1) (deps_toP xs)
  | .lst xs => congrArg (· + 1) (deps_toP xs)
  | .fz xs => congrArg (· + 1) (deps_toP xs)
theorem deps_toP : ∀ d, PyData.depthAll (toPs d) = deps d
  | [] => rfl
  | x :: xs => by
    show max (PyData.depth (toP x)) (PyData.depthAll (toPs xs)) = max (dep x) (deps xs)
    rw [dep_toP x, deps_toP xs]
end
theorem shp_eq (d : D) : shp d = (lay d && decide (dep d ≤ 64)) := by
  unfold shp SeqAt.shaped
  rw [lay_toP, dep_toP]
def dEq (x y : D) : Option T := if shp x = true ∧ shp y = true then some (.im (.bl (eqv x y))) else none
def dNe (x y : D) : Option T := if shp x = true ∧ shp y = true then some (.im (.bl (!eqv x y))) else none
section
variable {X : Cx} {c : Cc} {W : WX} {pos : Pos} {a b : Expr} {fa fb : FE}
theorem RepO.dp {K : PySem.W.Frag} {G : Addr → Prop} {H : Hp} {v : V} {d : D} (h : RepO K G H v d) : Dp K H v (toP d) := h.any.dp
theorem d_eq : OpD c (rEqD c.K) dEq := by
  intro L σ H env x y dx dy t Q re hx hy e k
  unfold dEq at e
  split at e
  · rename_i q
    cases e
    exact ⟨_, _, hx.dp, hy.dp, q.1, q.2, k _ H re .refl (.bl _)⟩
  · cases e
theorem d_ne : OpD c (rNeD c.K) dNe := by
  intro L σ H env x y dx dy t Q re hx hy e k
  unfold dNe at e
  split at e
  · rename_i q
    cases e
    exact ⟨_, _, hx.dp, hy.dp, q.1, q.2, k _ H re .refl (.bl _)⟩
  · cases e
/-! ### is -/
@[simp] def dIs : D → D → Option T
  | .bl a, .bl b => some (.im (.bl (decide (a = b))))
  | .non, .non => some (.im (.bl true))
  | _, .non => some (.im (.bl false))
  | _, _ => none
@[simp] def dNis : D → D → Option T
  | .bl a, .bl b => some (.im (.bl (!decide (a = b))))
  | .non, .non => some (.im (.bl false))
  | _, .non => some (.im (.bl true))
  | _, _ => none
abbrev rIs : R2 := fun x y H Q => (y = .non ∧ Q (.bl (decide (x = .non))) H) ∨ rIsB x y H Q
abbrev rNis : R2 := fun x y H Q => (y = .non ∧ Q (.bl (!decide (x = .non))) H) ∨ rNotB x y H Q
theorem op_is : OpR X (compareOp .Is) rIs := op_isN.or op_isBl
theorem op_nis : OpR X (compareOp .IsNot) rNis := op_notN.or op_notBl
theorem d_is : OpD c rIs dIs := by
  intro L σ H env x y dx dy t Q re hx hy e k
  have key : ∀ d : D, RepO c.K (Av L σ env) H x d → d ≠ .non → Rep c.K (Av L σ env) H (.bl (decide (x = .non))) (.bl false) := fun d h n => by
    rw [decide_eq_false (not_non h n)]
    exact .bl _
  cases dy <;> cases dx <;> simp only [dIs] at e <;> (try (cases e; done)) <;> cases e
  · refine .inl ⟨hy.non, k _ H re .refl ?_⟩
    rw [hx.non]
    exact .bl _
  · exact .inl ⟨hy.non, k _ H re .refl (key _ hx (fun z => nomatch z))⟩
  · exact .inl ⟨hy.non, k _ H re .refl (key _ hx (fun z => nomatch z))⟩
  · exact .inl ⟨hy.non, k _ H re .refl (key _ hx (fun z => nomatch z))⟩
  · exact .inl ⟨hy.non, k _ H re .refl (key _ hx (fun z => nomatch z))⟩
  · exact .inl ⟨hy.non, k _ H re .refl (key _ hx (fun z => nomatch z))⟩
  · exact .inl ⟨hy.non, k _ H re .refl (key _ hx (fun z => nomatch z))⟩
  · exact .inr ⟨_, _, hx.bl, hy.bl, k _ H re .refl (.bl _)⟩
theorem d_nis : OpD c rNis dNis := by
  intro L σ H env x y dx dy t Q re hx hy e k
  have key : ∀ d : D, RepO c.K (Av L σ env) H x d → d ≠ .non → Rep c.K (Av L σ env) H (.bl (!decide (x = .non))) (.bl true) := fun d h n => by
    rw [decide_eq_false (not_non h n)]
    exact .bl _
  cases dy <;> cases dx <;> simp only [dNis] at e <;> (try (cases e; done)) <;> cases e
  · refine .inl ⟨hy.non, k _ H re .refl ?_⟩
    rw [hx.non]
    exact .bl _
  · exact .inl ⟨hy.non, k _ H re .refl (key _ hx (fun z => nomatch z))⟩
  · exact .inl ⟨hy.non, k _ H re .refl (key _ hx (fun z => nomatch z))⟩
  · exact .inl ⟨hy.non, k _ H re .refl (key _ hx (fun z => nomatch z))⟩
  · exact .inl ⟨hy.non, k _ H re .refl (key _ hx (fun z => nomatch z))⟩
  · exact .inl ⟨hy.non, k _ H re .refl (key _ hx (fun z => nomatch z))⟩
  · exact .inl ⟨hy.non, k _ H re .refl (key _ hx (fun z => nomatch z))⟩
  · exact .inr ⟨_, _, hx.bl, hy.bl, k _ H re .refl (.bl _)⟩
/-! ### in, not in -/
def sc : D → Bool
  | .non => true
  | .bl _ => true
  | .int _ => true
  | .str _ => true
  | _ => false
def items : D → Option (List D)
  | .tup ds => some ds
  | .lst ds => some ds
  | .fz ds => some ds
  | _ => none
@[simp] theorem items_tup (ds : List D) : items (.tup ds) = some ds := rfl
@[simp] theorem items_lst (ds : List D) : items (.lst ds) = some ds := rfl
@[simp] theorem items_fz (ds : List D) : items (.fz ds) = some ds := rfl
def hasD (x : D) (ds : List D) : Bool := ds.any fun y => eqv y x
@[simp] theorem hasD_nil (x : D) : hasD x [] = false := rfl
@[simp] theorem hasD_cons (x y : D) (ds : List D) : hasD x (y :: ds) = (eqv y x || hasD x ds) := rfl
def dIn (neg : Bool) (x y : D) : Option T := match items y with
  | some ds => if sc x = true ∧ ds.all sc = true then some (.im (.bl (if neg then !hasD x ds else hasD x ds))) else none
  | none => none
theorem sc_flat {K : PySem.W.Frag} {G : Addr → Prop} {H : Hp} {v : V} {d : D} (h : Rep K G H v d) (s : sc d = true) : flatV v = true := by
  cases h <;> simp_all [sc, flatV]
theorem sc_eqV {K : PySem.W.Frag} {G G' : Addr → Prop} {H : Hp} {v w : V} {d e : D} (h : Rep K G H v d) (s : sc d = true) (h' : Rep K G' H w e) (s' : sc e = true) : eqV v w = eqv d e := by
  cases h <;> first | (simp [sc] at s; done) | (cases h' <;> first | (simp [sc] at s'; done) | rfl)
theorem scs_flat {K : PySem.W.Frag} {G : Addr → Prop} {H : Hp} : ∀ {vs ds}, Reps K G H vs ds → ds.all sc = true → vs.all flatV = true
  | _, _, .nil, _ => rfl
  | _, _, .cons r rs, h => by
    simp only [List.all_cons, Bool.and_eq_true] at h ⊢
    exact ⟨sc_flat r h.1, scs_flat rs h.2⟩
theorem inV_has {K : PySem.W.Frag} {G G' : Addr → Prop} {H : Hp} {w : V} {e : D} (h' : Rep K G' H w e) (s' : sc e = true) : ∀ {vs ds}, Reps K G H vs ds → ds.all sc = true → inV w vs = hasD e ds
  | _, _, .nil, _ => rfl
  | _, _, .cons r rs, h => by
    simp only [List.all_cons, Bool.and_eq_true] at h
    have ih := inV_has h' s' rs h.2
    unfold inV at ih ⊢
    rw [List.any_cons, hasD_cons, ih, sc_eqV r h.1 h' s']
theorem RepO.seq {K : PySem.W.Frag} {G : Addr → Prop} {H : Hp} {v : V} {d : D} {ds : List D} (h : RepO K G H v d) (e : items d = some ds) : ∃ a xs, v = .ref a ∧ (SqL K H a xs ∨ SqT K H a xs) ∧ Reps K G H xs ds := by
  cases d <;> simp only [items] at e <;> (try (cases e; done)) <;> cases e
  · obtain ⟨a, xs, e1, e2, r⟩ := h.tup
    exact ⟨a, xs, e1, .inr e2, r⟩
  · obtain ⟨a, xs, e1, e2, r⟩ := h.lst
    exact ⟨a, xs, e1, .inl (.of e2), r⟩
  · obtain ⟨a, xs, e1, e2, r⟩ := h.fz
    exact ⟨a, xs, e1, .inl e2.sql, r⟩
theorem d_in (neg : Bool) : OpD c (rIn c.K neg) (dIn neg) := by
  intro L σ H env x y dx dy t Q re hx hy e k
  unfold dIn at e
  cases q : items dy with
  | none => rw [q] at e; cases e
  | some ds =>
    rw [q] at e
    dsimp only at e
    split at e
    · rename_i s
      cases e
      obtain ⟨a, xs, rfl, h, r⟩ := hy.seq q
      refine ⟨a, xs, rfl, h, sc_flat hx.any s.1, scs_flat r s.2, k _ H re .refl ?_⟩
      rw [inV_has hx.any s.1 r s.2]
      exact .bl _
    · cases e
/-! ### built-in functions -/
def dLen : List D → Option T
  | [.str z] => if z.length ≤ sizeLine then some (.im (.int z.length)) else none
  | [d] => (items d).map fun ds => .im (.int ds.length)
  | _ => none
@[simp] theorem dLen_tup (ds : List D) : dLen [.tup ds] = some (.im (.int ds.length)) := rfl
@[simp] theorem dLen_lst (ds : List D) : dLen [.lst ds] = some (.im (.int ds.length)) := rfl
@[simp] theorem dLen_fz (ds : List D) : dLen [.fz ds] = some (.im (.int ds.length)) := rfl
abbrev rLenA (K : PySem.W.Frag) : List V → Hp → VK → Prop := fun xs H Q => (∃ z, xs = [.str z] ∧ z.length ≤ sizeLine ∧ Q (.int z.length) H) ∨ ∃ p ys, xs = [.ref p] ∧ (SqL K H p ys ∨ SqT K H p ys) ∧ Q (.int ys.length) H
theorem call_lenA : CallR X (.builtin "len") (rLenA X.K) := call_len_str.or call_len_seq
theorem RepOs.one {K : PySem.W.Frag} {G : Addr → Prop} {H : Hp} {vs : List V} {d : D} (h : RepOs K G H vs [d]) : ∃ v, vs = [v] ∧ RepO K G H v d := by
  cases h with
  | cons r rs => cases rs; exact ⟨_, rfl, r⟩
theorem RepOs.two {K : PySem.W.Frag} {G : Addr → Prop} {H : Hp} {vs : List V} {d e : D} (h : RepOs K G H vs [d, e]) : ∃ v w, vs = [v, w] ∧ RepO K G H v d ∧ RepO K G H w e := by
  cases h with
  | cons r rs =>
    obtain ⟨w, rfl, q⟩ := rs.one
    exact ⟨_, w, rfl, r, q⟩
theorem d_len : CallD c (rLenA c.K) dLen := by
  intro L σ H env xs ds t Q re hx e k
  have go : ∀ d es, ds = [d] → items d = some es → t = .im (.int es.length) → rLenA c.K xs H Q := fun d es e1 e2 e3 => by
    subst e1 e3
    obtain ⟨v, rfl, r⟩ := hx.one
    obtain ⟨a, ys, rfl, h, rs⟩ := r.seq e2
    refine .inr ⟨a, ys, rfl, h, k _ H re .refl ?_⟩
    rw [rs.length]
    exact .int _
  unfold dLen at e
  split at e
  · split at e
    · rename_i z q
      cases e
      obtain ⟨v, rfl, r⟩ := hx.one
      rw [r.str]
      exact .inl ⟨z, rfl, q, k _ H re .refl (.int _)⟩
    · cases e
  · rename_i d _
    cases q : items d with
    | none => rw [q] at e; cases e
    | some es =>
      rw [q] at e
      exact go d es rfl q (Option.some.inj e).symm
  · cases e
def dTuple : List D → Option T
  | [.lst ds] => some (.im (.tup ds))
  | [.tup ds] => some (.im (.tup ds))
  | [.fz ds] => some (.im (.tup ds))
  | _ => none
@[simp] theorem dTuple_lst (ds : List D) : dTuple [.lst ds] = some (.im (.tup ds)) := rfl
@[simp] theorem dTuple_tup (ds : List D) : dTuple [.tup ds] = some (.im (.tup ds)) := rfl
abbrev rTuple (K : PySem.W.Frag) : List V → Hp → VK → Prop := fun xs H Q => ∃ p ys, xs = [.ref p] ∧ ((SqL K H p ys ∧ ∀ l, H l = none → Q (.ref l) (upd H l (.tup ys))) ∨ (SqT K H p ys ∧ Q (.ref p) H))
theorem d_tuple : CallD c (rTuple c.K) dTuple := by
  intro L σ H env xs ds t Q re hx e k
  unfold dTuple at e
  split at e <;> (try (cases e; done)) <;> cases e
  · obtain ⟨v, rfl, r⟩ := hx.one
    obtain ⟨a, ys, rfl, h, rs⟩ := r.lst
    exact ⟨a, ys, rfl, .inl ⟨.of h, new_tup re rs k⟩⟩
  · obtain ⟨v, rfl, r⟩ := hx.one
    obtain ⟨a, ys, rfl, h, rs⟩ := r.tup
    exact ⟨a, ys, rfl, .inr ⟨h, k _ H re .refl (.tup h rs)⟩⟩
  · obtain ⟨v, rfl, r⟩ := hx.one
    obtain ⟨a, ys, rfl, h, rs⟩ := r.fz
    exact ⟨a, ys, rfl, .inl ⟨h.sql, new_tup re rs k⟩⟩
def dList : List D → Option T
  | [d] => (items d).map .fr
  | _ => none
@[simp] theorem dList_lst (ds : List D) : dList [.lst ds] = some (.fr ds) := rfl
@[simp] theorem dList_tup (ds : List D) : dList [.tup ds] = some (.fr ds) := rfl
abbrev rListA (K : PySem.W.Frag) : List V → Hp → VK → Prop := fun xs H Q => ∃ p ys, xs = [.ref p] ∧ (SqL K H p ys ∨ SqT K H p ys) ∧ ∀ l, H l = none → Q (.ref l) (upd H l (.lst ys))
theorem d_list : CallD c (rListA c.K) dList := by
  intro L σ H env xs ds t Q re hx e k
  unfold dList at e
  split at e
  · rename_i d
    obtain ⟨v, rfl, r⟩ := hx.one
    obtain ⟨es, e1, rfl⟩ := Option.map_eq_some_iff.mp e
    obtain ⟨a, ys, rfl, h, rs⟩ := r.seq e1
    refine ⟨a, ys, rfl, h, fun l nl => ?_⟩
    obtain ⟨y1, y2, y3⟩ := re.newL rs nl
    exact k _ _ y1 y2 y3
  · cases e
@[simp] def dMax2 : List D → Option T
  | [.int i, .int j] => some (.im (.int (if j > i then j else i)))
  | _ => none
@[simp] def dMin2 : List D → Option T
  | [.int i, .int j] => some (.im (.int (if j < i then j else i)))
  | _ => none
theorem d_max2 : CallD c (fun xs H Q => ∃ i j, xs = [.int i, .int j] ∧ Q (.int (if j > i then j else i)) H) dMax2 := by
  intro L σ H env xs ds t Q re hx e k
  unfold dMax2 at e
  split at e <;> cases e
  obtain ⟨v, w, rfl, r, s⟩ := hx.two
  rw [r.int, s.int]
  exact ⟨_, _, rfl, k _ H re .refl (.int _)⟩
theorem d_min2 : CallD c (fun xs H Q => ∃ i j, xs = [.int i, .int j] ∧ Q (.int (if j < i then j else i)) H) dMin2 := by
  intro L σ H env xs ds t Q re hx e k
  unfold dMin2 at e
  split at e <;> cases e
  obtain ⟨v, w, rfl, r, s⟩ := hx.two
  rw [r.int, s.int]
  exact ⟨_, _, rfl, k _ H re .refl (.int _)⟩
@[simp] def dAbs : List D → Option T
  | [.int i] => some (.im (.int (if i < 0 then -i else i)))
  | _ => none
theorem d_abs : CallD c (fun xs H Q => ∃ i, xs = [.int i] ∧ Q (.int (if i < 0 then -i else i)) H) dAbs := by
  intro L σ H env xs ds t Q re hx e k
  unfold dAbs at e
  split at e <;> cases e
  obtain ⟨v, rfl, r⟩ := hx.one
  rw [r.int]
  exact ⟨_, rfl, k _ H re .refl (.int _)⟩
/-- the ints, the truth values of a list of data -/
def intsOf : List D → Option (List Int)
  | [] => some []
  | .int i :: ds => (intsOf ds).map (i :: ·)
  | _ => none
def blsOf : List D → Option (List Bool)
  | [] => some []
  | .bl i :: ds => (blsOf ds).map (i :: ·)
  | _ => none
@[simp] theorem intsOf_nil : intsOf [] = some [] := rfl
@[simp] theorem intsOf_cons (i : Int) (ds : List D) : intsOf (.int i :: ds) = (intsOf ds).map (i :: ·) := rfl
@[simp] theorem blsOf_nil : blsOf [] = some [] := rfl
@[simp] theorem blsOf_cons (i : Bool) (ds : List D) : blsOf (.bl i :: ds) = (blsOf ds).map (i :: ·) := rfl
@[simp] theorem intsOf_map : ∀ ns : List Int, intsOf (ns.map D.int) = some ns
  | [] => rfl
  | n :: ns => by rw [List.map_cons, intsOf_cons, intsOf_map ns]; rfl
@[simp] theorem blsOf_map : ∀ ns : List Bool, blsOf (ns.map D.bl) = some ns
  | [] => rfl
  | n :: ns => by rw [List.map_cons, blsOf_cons, blsOf_map ns]; rfl
theorem intsOf_is : ∀ {ds ns}, intsOf ds = some ns → ds = ns.map D.int
  | [], ns, h => by cases h; rfl
  | d :: ds, ns, h => by
    cases d <;> simp only [intsOf] at h <;> (try (cases h; done))
    obtain ⟨ms, e, rfl⟩ := Option.map_eq_some_iff.mp h
    rw [intsOf_is e]
    rfl
theorem blsOf_is : ∀ {ds ns}, blsOf ds = some ns → ds = ns.map D.bl
  | [], ns, h => by cases h; rfl
  | d :: ds, ns, h => by
    cases d <;> simp only [blsOf] at h <;> (try (cases h; done))
    obtain ⟨ms, e, rfl⟩ := Option.map_eq_some_iff.mp h
    rw [blsOf_is e]
    rfl
/-- sum of a list or a tuple -/
def rSumT (K : PySem.W.Frag) : List V → Hp → VK → Prop := fun vs H Q => ∃ (a : Addr) (ns : List Int), vs = [V.ref a] ∧ SqT K H a (ns.map V.int) ∧ Q (.int ns.sum) H
theorem cr_sumT (hc : X.calm = true) : CallR X (.builtin "sum") (rSumT X.K) := by
  intro pins s σ H vs us Q I r h
  obtain ⟨a, ns, rfl, hs, q⟩ := h
  obtain ⟨its, rv, ht, _⟩ := I.tuple hs
  rw [Vals.ref1 r]
  have hi := rv.ints
  obtain ⟨xs, e⟩ := hi.allInts.items
  have hn : numsOf (intItems xs).toList = ns := by rw [← e]; exact hi.numsOf
  rw [nums_intItems] at hn
  rw [e] at ht
  have hlt : a < s.heap.objs.size := ht.lt
  refine call_sum_walkG (wpAny_pyIter_tuple (show s.heap.IsTuple a (intItems xs) from ht) ?_)
  refine ⟨_, _, _, _, _, _, numAt xs, rfl, Walks.tuple (A := X.A.in1) (I.ok.hd hc) s.heap.objs.size a (Nat.ne_of_lt hlt) (intItems xs), ⟨⟨_, Heap.get?_push_size _ rfl, rfl, rfl⟩, ?_⟩, fun b hb => ?_, fun _ _ => intItems_at, fun h' tk t' hk => ?_⟩
  · obtain ⟨o, e1, e2⟩ := ht
    exact ⟨o, Heap.get?_push_of_some _ e1, e2⟩
  · have q : b = s.heap.objs.size ∨ b = a := by simpa using hb
    show b < (s.heap.push _).objs.size
    rw [Heap.size_push]
    rcases q with rfl | rfl
    · exact Nat.lt_succ_self _
    · exact Nat.lt_succ_of_lt hlt
  · refine ⟨.int _, H, I.kept fun b o eo => hk b o (fun hmem => ?_) (Heap.get?_push_of_some _ eo), ⟨t', ?_⟩, q⟩
    · rcases List.mem_cons.mp hmem with e1 | hmem
      · exact absurd (e1 ▸ Heap.lt_size eo) (Nat.lt_irrefl _)
      · cases hmem
    · rw [preSum_eq, List.take_of_length_le (by simp [intItems]), hn]
abbrev rSumA (K : PySem.W.Frag) : List V → Hp → VK → Prop := fun xs H Q => rSum K xs H Q ∨ rSumT K xs H Q
theorem call_sumA (hc : X.calm = true) : CallR X (.builtin "sum") (rSumA X.K) := (cr_sum hc).or (cr_sumT hc)
def dSum : List D → Option T
  | [d] => match items d with
    | some ds => (intsOf ds).map fun ns => .im (.int ns.sum)
    | none => none
  | _ => none
@[simp] theorem dSum_lst (ds : List D) : dSum [.lst ds] = (intsOf ds).map fun ns => .im (.int ns.sum) := rfl
@[simp] theorem dSum_tup (ds : List D) : dSum [.tup ds] = (intsOf ds).map fun ns => .im (.int ns.sum) := rfl
theorem d_sum : CallD c (rSumA c.K) dSum := by
  intro L σ H env xs ds t Q re hx e k
  unfold dSum at e
  split at e
  · rename_i d
    obtain ⟨v, rfl, r⟩ := hx.one
    cases q : items d with
    | none => rw [q] at e; cases e
    | some es =>
      rw [q] at e
      obtain ⟨ns, e1, rfl⟩ := Option.map_eq_some_iff.mp e
      obtain ⟨a, ys, rfl, h, rs⟩ := r.seq q
      rw [intsOf_is e1] at rs
      rw [rs.ints] at h
      rcases h with h | h
      · exact .inl ⟨a, ns, rfl, h, k _ H re .refl (.int _)⟩
      · exact .inr ⟨a, ns, rfl, h, k _ H re .refl (.int _)⟩
  · cases e
def dAll : List D → Option T
  | [.lst ds] => (blsOf ds).map fun bs => .im (.bl (bs.all id))
  | _ => none
def dAny : List D → Option T
  | [.lst ds] => (blsOf ds).map fun bs => .im (.bl (bs.any id))
  | _ => none
@[simp] theorem dAll_lst (ds : List D) : dAll [.lst ds] = (blsOf ds).map fun bs => .im (.bl (bs.all id)) := rfl
@[simp] theorem dAny_lst (ds : List D) : dAny [.lst ds] = (blsOf ds).map fun bs => .im (.bl (bs.any id)) := rfl
theorem d_all : CallD c (rAll c.K) dAll := by
  intro L σ H env xs ds t Q re hx e k
  unfold dAll at e
  split at e
  · obtain ⟨v, rfl, r⟩ := hx.one
    obtain ⟨ns, e1, rfl⟩ := Option.map_eq_some_iff.mp e
    obtain ⟨a, ys, rfl, h, rs⟩ := r.lst
    rw [blsOf_is e1] at rs
    rw [rs.bls] at h
    exact ⟨a, ns, rfl, .of h, k _ H re .refl (.bl _)⟩
  · cases e
theorem d_any : CallD c (rAny c.K) dAny := by
  intro L σ H env xs ds t Q re hx e k
  unfold dAny at e
  split at e
  · obtain ⟨v, rfl, r⟩ := hx.one
    obtain ⟨ns, e1, rfl⟩ := Option.map_eq_some_iff.mp e
    obtain ⟨a, ys, rfl, h, rs⟩ := r.lst
    rw [blsOf_is e1] at rs
    rw [rs.bls] at h
    exact ⟨a, ns, rfl, .of h, k _ H re .refl (.bl _)⟩
  · cases e
/-! ### isinstance(x, T), T a built-in class -/
def isTy (Ty : String) : D → Option Bool
  | .non => kitB "NoneType" Ty
  | .bl _ => kitB "bool" Ty
  | .int _ => kitB "int" Ty
  | .str _ => kitB "str" Ty
  | .tup _ => kitB "tuple" Ty
  | .lst _ => kitB "list" Ty
  | .fz _ => kitB "list" Ty
def eIsi (Ty : String) (fa : FE) : FE := fun env => (fa env).bind fun t e => op1 (fun d => (isTy Ty d).map fun b => .im (.bl b)) t e
theorem RepO.ty {K : PySem.W.Frag} {G : Addr → Prop} {H : Hp} {v : V} {d : D} (h : RepO K G H v d) : ∃ s : String, TyX K H v (.type s) ∧ ∀ Ty, isTy Ty d = kitB s Ty := by
  cases d with
  | non => rw [h.non]; exact ⟨_, .base .non, fun _ => rfl⟩
  | bl b => rw [h.bl]; exact ⟨_, .base (.bl b), fun _ => rfl⟩
  | int i => rw [h.int]; exact ⟨_, .base (.int i), fun _ => rfl⟩
  | str x => rw [h.str]; exact ⟨_, .base (.str x), fun _ => rfl⟩
  | tup xs =>
    obtain ⟨a, ys, rfl, h, rs⟩ := h.tup
    rcases h with (h | ⟨o, h⟩) | ⟨o, its, n, h, h2, _⟩
    · exact ⟨"tuple", .base (.tup h), fun _ => rfl⟩
    · exact ⟨"tuple", .fTuple h, fun _ => rfl⟩
    · exact ⟨"tuple", .kTuple h h2, fun _ => rfl⟩
  | lst xs =>
    obtain ⟨a, ys, rfl, h, rs⟩ := h.lst
    exact ⟨"list", .base (.lst h), fun _ => rfl⟩
  | fz xs =>
    obtain ⟨a, ys, rfl, h, rs⟩ := h.fz
    rcases h with ⟨o, h⟩ | ⟨o, its, n, h, h2, _⟩
    · exact ⟨"list", .base (.frz h), fun _ => rfl⟩
    · exact ⟨"list", .kList h h2, fun _ => rfl⟩
theorem de_isi {p : Pos} {Tn : String} (hg : Gl X "isinstance") (hm : X.mg "isinstance" = none) (ha : PE X a (dE c W fa)) (hb : PE X b (tC (.ty Tn))) (ht : Tn ∈ ["int", "bool", "str", "tuple", "list", "dict"] := by decide) (hK : c.K = X.K := by rfl)
    (he : starEach [a, b] X.env = (false, eval a X.env) :: starEach [b] X.env := by rfl) (he2 : starEach [b] X.env = (false, eval b X.env) :: starEach [] X.env := by rfl) (hpl : (backTo pos (starEach [b] X.env)).any (·.1) = false := by rfl) :
    PE X (.Call (.Name "isinstance" p) [a, b] [] pos) (dE c W (eIsi Tn fa)) :=
  PEw (pe_callB call_isi hg hm (by decide +kernel) (pa_cons ha (pa_cons hb pa_nil he2) he) (by decide) (by decide) he hpl) fun σ H Q h => by
    obtain ⟨env, L, re, h⟩ := dE_iff.mp h
    refine dE.of re (h.bind.mono fun ta e1 H1 r1 s1 h1 x q1 => ?_)
    unfold op1 at h1
    cases ea : ta.val e1 with
    | none => rw [ea] at h1; exact h1.elim
    | some dx =>
      rw [ea] at h1
      dsimp only at h1
      cases eb : isTy Tn dx with
      | none => rw [eb] at h1; exact h1.elim
      | some k =>
        rw [eb] at h1
        obtain ⟨s, tx, es⟩ := (q1.opr0 r1 ea).ty
        rw [hK] at tx
        exact ⟨x, .ty Tn, .type s, .type Tn, k, rfl, .ty Tn, tx, kit_ty ((es Tn).symm.trans eb), h1 H1 r1 .refl _ (.bl k)⟩
end
@[simp] theorem isTy_int_non : isTy "int" (.non) = some false := (by decide +kernel : kitB "NoneType" "int" = some false)
@[simp] theorem isTy_int_bl (b : Bool) : isTy "int" (.bl b) = some true := (by decide +kernel : kitB "bool" "int" = some true)
@[simp] theorem isTy_int_int (b : Int) : isTy "int" (.int b) = some true := (by decide +kernel : kitB "int" "int" = some true)
@[simp] theorem isTy_int_str (b : Str) : isTy "int" (.str b) = some false := (by decide +kernel : kitB "str" "int" = some false)
@[simp] theorem isTy_int_tup (b : List D) : isTy "int" (.tup b) = some false := (by decide +kernel : kitB "tuple" "int" = some false)
@[simp] theorem isTy_int_lst (b : List D) : isTy "int" (.lst b) = some false := (by decide +kernel : kitB "list" "int" = some false)
@[simp] theorem isTy_int_fz (b : List D) : isTy "int" (.fz b) = some false := (by decide +kernel : kitB "list" "int" = some false)
@[simp] theorem isTy_bool_non : isTy "bool" (.non) = some false := (by decide +kernel : kitB "NoneType" "bool" = some false)
@[simp] theorem isTy_bool_bl (b : Bool) : isTy "bool" (.bl b) = some true := (by decide +kernel : kitB "bool" "bool" = some true)
@[simp] theorem isTy_bool_int (b : Int) : isTy "bool" (.int b) = some false := (by decide +kernel : kitB "int" "bool" = some false)
@[simp] theorem isTy_bool_str (b : Str) : isTy "bool" (.str b) = some false := (by decide +kernel : kitB "str" "bool" = some false)
@[simp] theorem isTy_bool_tup (b : List D) : isTy "bool" (.tup b) = some false := (by decide +kernel : kitB "tuple" "bool" = some false)
@[simp] theorem isTy_bool_lst (b : List D) : isTy "bool" (.lst b) = some false := (by decide +kernel : kitB "list" "bool" = some false)
@[simp] theorem isTy_bool_fz (b : List D) : isTy "bool" (.fz b) = some false := (by decide +kernel : kitB "list" "bool" = some false)
@[simp] theorem isTy_str_non : isTy "str" (.non) = some false := (by decide +kernel : kitB "NoneType" "str" = some false)
@[simp] theorem isTy_str_bl (b : Bool) : isTy "str" (.bl b) = some false := (by decide +kernel : kitB "bool" "str" = some false)
@[simp] theorem isTy_str_int (b : Int) : isTy "str" (.int b) = some false := (by decide +kernel : kitB "int" "str" = some false)
@[simp] theorem isTy_str_str (b : Str) : isTy "str" (.str b) = some true := (by decide +kernel : kitB "str" "str" = some true)
@[simp] theorem isTy_str_tup (b : List D) : isTy "str" (.tup b) = some false := (by decide +kernel : kitB "tuple" "str" = some false)
@[simp] theorem isTy_str_lst (b : List D) : isTy "str" (.lst b) = some false := (by decide +kernel : kitB "list" "str" = some false)
@[simp] theorem isTy_str_fz (b : List D) : isTy "str" (.fz b) = some false := (by decide +kernel : kitB "list" "str" = some false)
@[simp] theorem isTy_tuple_non : isTy "tuple" (.non) = some false := (by decide +kernel : kitB "NoneType" "tuple" = some false)
@[simp] theorem isTy_tuple_bl (b : Bool) : isTy "tuple" (.bl b) = some false := (by decide +kernel : kitB "bool" "tuple" = some false)
@[simp] theorem isTy_tuple_int (b : Int) : isTy "tuple" (.int b) = some false := (by decide +kernel : kitB "int" "tuple" = some false)
@[simp] theorem isTy_tuple_str (b : Str) : isTy "tuple" (.str b) = some false := (by decide +kernel : kitB "str" "tuple" = some false)
@[simp] theorem isTy_tuple_tup (b : List D) : isTy "tuple" (.tup b) = some true := (by decide +kernel : kitB "tuple" "tuple" = some true)
@[simp] theorem isTy_tuple_lst (b : List D) : isTy "tuple" (.lst b) = some false := (by decide +kernel : kitB "list" "tuple" = some false)
@[simp] theorem isTy_tuple_fz (b : List D) : isTy "tuple" (.fz b) = some false := (by decide +kernel : kitB "list" "tuple" = some false)
@[simp] theorem isTy_list_non : isTy "list" (.non) = some false := (by decide +kernel : kitB "NoneType" "list" = some false)
@[simp] theorem isTy_list_bl (b : Bool) : isTy "list" (.bl b) = some false := (by decide +kernel : kitB "bool" "list" = some false)
@[simp] theorem isTy_list_int (b : Int) : isTy "list" (.int b) = some false := (by decide +kernel : kitB "int" "list" = some false)
@[simp] theorem isTy_list_str (b : Str) : isTy "list" (.str b) = some false := (by decide +kernel : kitB "str" "list" = some false)
@[simp] theorem isTy_list_tup (b : List D) : isTy "list" (.tup b) = some false := (by decide +kernel : kitB "tuple" "list" = some false)
@[simp] theorem isTy_list_lst (b : List D) : isTy "list" (.lst b) = some true := (by decide +kernel : kitB "list" "list" = some true)
@[simp] theorem isTy_list_fz (b : List D) : isTy "list" (.fz b) = some true := (by decide +kernel : kitB "list" "list" = some true)
end DL
namespace DL
open PySem PySem.Spec L2

/-! ### tests -/
def toB (t : T) (env : En) : R Bool := match t.val env with
  | some (.bl b) => .ok b env
  | _ => .er
@[simp] theorem toB_bl (b : Bool) (env : En) : toB (.im (.bl b)) env = .ok b env := rfl
def tV (fa : FE) : FT := fun env => (fa env).bind fun t e => toB t e
def tAn (fa fb : FT) : FT := fun env => (fa env).bind fun b e => bif b then fb e else .ok false e
def tOr' (fa fb : FT) : FT := fun env => (fa env).bind fun b e => bif b then .ok true e else fb e
def tNo (fa : FT) : FT := fun env => (fa env).bind fun b e => .ok (!b) e
def eAn (fa fb : FE) : FE := fun env => (fa env).bind fun t e => (toB t e).bind fun b e => bif b then fb e else .ok (.im (.bl false)) e
def eOr (fa fb : FE) : FE := fun env => (fa env).bind fun t e => (toB t e).bind fun b e => bif b then .ok (.im (.bl true)) e else fb e
def eNo (fa : FE) : FE := fun env => (fa env).bind fun t e => (toB t e).bind fun b e => .ok (.im (.bl (!b))) e
def eIf (fc : FT) (fa fb : FE) : FE := fun env => (fc env).bind fun b e => bif b then fa e else fb e
def eCh (g g' : D → D → Option T) (fa fb fc : FE) : FE := fun env => (fa env).bind fun ta e1 => (fb e1).bind fun tb e2 => (op2 g ta tb e2).bind fun t e2 => (toB t e2).bind fun b e2 => bif b then (fc e2).bind fun tc e3 => op2 g' tb tc e3 else .ok (.im (.bl false)) e2
section
variable {X : Cx} {c : Cc} {W : WX} {pos : Pos} {a b e3 : Expr} {fa fb fc : FE} {ft fu : FT} {rest : List Expr}
theorem toB_K {L N : Addr → Prop} {σ : St} {H : Hp} {env : En} {t : T} {v : V} {P : Bool → En → Hp → Prop} (r : RE c L σ H env) (q : RepT c L N σ H env v t) (h : dK c W L σ H env (toB t env) P) : ∃ b, v = .bl b ∧ dK c W L σ H env (.ok b env) P := by
  unfold toB at h
  cases e : t.val env with
  | none => rw [e] at h; exact h.elim
  | some d =>
    rw [e] at h
    cases d with
    | bl b => exact ⟨b, (q.opr0 r e).bl, h⟩
    | non => exact h.elim
    | int i => exact h.elim
    | str x => exact h.elim
    | tup xs => exact h.elim
    | lst xs => exact h.elim
    | fz xs => exact h.elim
theorem d_tB : ∀ σ H Q, dT c W (tV fa) σ H Q → tB (dE c W fa) σ H Q := fun σ H Q h => by
  obtain ⟨env, L, r, h⟩ := dT_iff.mp h
  refine dE.of r (h.bind.mono fun t e1 H1 r1 s1 h1 v q => ?_)
  obtain ⟨b, rfl, h2⟩ := toB_K r1 q h1
  exact ⟨b, rfl, h2 H1 r1 .refl⟩
theorem dt_val (h : PE X a (dE c W fa)) (he : ∀ whole, isTrue a X.env whole = (do let v ← whole; standAt a.pos; holding [v] (truthy v)) := by intro _; rfl) : PT X a (dT c W (tV fa)) := PTw (pt_val h he) d_tB
theorem dt_cmp {op : CmpOp} {r : R2} {g : D → D → Option T} (hr : OpR X (compareOp op) r) (ho : OpD c r g) (ha : PE X a (dE c W fa)) (hb : PE X b (dE c W fb)) (hm : behindInMarks op b = false) : PT X (.Compare a [op] [b] pos) (dT c W (tV (eOp g fa fb))) :=
  PTw (pt_cmpR hr ha hb hm) fun σ H Q h => by
    obtain ⟨env, L, r, h⟩ := dT_iff.mp h
    have key := d_tB (fa := eOp g fa fb) σ H Q ⟨env, L, r, h⟩
    exact d_tOp ho σ H _ key
theorem dt_and1 (ha : PT X a (dT c W ft)) : PW X (.BoolOp .And [a] pos) (dT c W ft) := pw_and1 ha
theorem dt_or1 (ha : PT X a (dT c W ft)) : PW X (.BoolOp .Or [a] pos) (dT c W ft) := pw_or1 ha
theorem dt_and (ha : PT X a (dT c W ft)) (hb : PW X (.BoolOp .And (b :: rest) pos) (dT c W fu)) : PW X (.BoolOp .And (a :: b :: rest) pos) (dT c W (tAn ft fu)) := PWw (pw_and ha hb) fun σ H Q h => by
  obtain ⟨env, L, r, h⟩ := dT_iff.mp h
  refine dT.of r (h.bind.mono fun b e1 H1 r1 s1 h1 => ?_)
  cases b with
  | true => rw [if_pos rfl]; exact dT.of r1 h1
  | false => rw [if_neg Bool.false_ne_true]; exact h1 H1 r1 .refl
theorem dt_or (ha : PT X a (dT c W ft)) (hb : PW X (.BoolOp .Or (b :: rest) pos) (dT c W fu)) : PW X (.BoolOp .Or (a :: b :: rest) pos) (dT c W (tOr' ft fu)) := PWw (pw_or ha hb) fun σ H Q h => by
  obtain ⟨env, L, r, h⟩ := dT_iff.mp h
  refine dT.of r (h.bind.mono fun b e1 H1 r1 s1 h1 => ?_)
  cases b with
  | true => rw [if_pos rfl]; exact h1 H1 r1 .refl
  | false => rw [if_neg Bool.false_ne_true]; exact dT.of r1 h1
theorem dt_not (ha : PT X a (dT c W ft)) : PT X (.UnaryOp .Not a pos) (dT c W (tNo ft)) := PTw (pt_not ha) fun σ H Q h => by
  obtain ⟨env, L, r, h⟩ := dT_iff.mp h
  exact dT.of r (h.bind.mono fun b e1 H1 r1 s1 h1 => h1 H1 r1 .refl)
theorem de_one {op} (h : PE X a (dE c W fa)) : PE X (.BoolOp op [a] pos) (dE c W fa) := pe_one h
theorem de_and (ha : PE X a (dE c W fa)) (hb : PE X (.BoolOp .And (b :: rest) pos) (dE c W fb)) : PE X (.BoolOp .And (a :: b :: rest) pos) (dE c W (eAn fa fb)) := PEw (pe_and ha hb) fun σ H Q h => by
  obtain ⟨env, L, r, h⟩ := dE_iff.mp h
  refine dE.of r (h.bind.mono fun t e1 H1 r1 s1 h1 v q => ?_)
  obtain ⟨b, rfl, h2⟩ := toB_K r1 q h1.bind
  refine ⟨b, rfl, ?_⟩
  have h3 := h2 H1 r1 .refl
  cases b with
  | true => rw [if_pos rfl]; exact dE.of r1 (h3.mono fun t e2 H2 r2 s2 h4 v q => h4 v (q.less (fun _ z => z) fun a n => s1.back n))
  | false => rw [if_neg Bool.false_ne_true]; exact h3 H1 r1 .refl _ (.bl false)
theorem de_or (ha : PE X a (dE c W fa)) (hb : PE X (.BoolOp .Or (b :: rest) pos) (dE c W fb)) : PE X (.BoolOp .Or (a :: b :: rest) pos) (dE c W (eOr fa fb)) := PEw (pe_or ha hb) fun σ H Q h => by
  obtain ⟨env, L, r, h⟩ := dE_iff.mp h
  refine dE.of r (h.bind.mono fun t e1 H1 r1 s1 h1 v q => ?_)
  obtain ⟨b, rfl, h2⟩ := toB_K r1 q h1.bind
  refine ⟨b, rfl, ?_⟩
  have h3 := h2 H1 r1 .refl
  cases b with
  | true => rw [if_pos rfl]; exact h3 H1 r1 .refl _ (.bl true)
  | false => rw [if_neg Bool.false_ne_true]; exact dE.of r1 (h3.mono fun t e2 H2 r2 s2 h4 v q => h4 v (q.less (fun _ z => z) fun a n => s1.back n))
theorem de_not (ha : PE X a (dE c W fa)) : PE X (.UnaryOp .Not a pos) (dE c W (eNo fa)) := PEw (pe_not ha) fun σ H Q h => by
  obtain ⟨env, L, r, h⟩ := dE_iff.mp h
  refine dE.of r (h.bind.mono fun t e1 H1 r1 s1 h1 v q => ?_)
  obtain ⟨b, rfl, h2⟩ := toB_K r1 q h1.bind
  exact ⟨b, rfl, (h2 H1 r1 .refl) H1 r1 .refl _ (.bl _)⟩
theorem de_if {tc : Expr} (hc : PT X tc (dT c W ft)) (ha : PE X a (dE c W fa)) (hb : PE X b (dE c W fb)) : PE X (.IfExp tc a b pos) (dE c W (eIf ft fa fb)) := PEw (pe_ifExp hc ha hb) fun σ H Q h => by
  obtain ⟨env, L, r, h⟩ := dE_iff.mp h
  refine dT.of r (h.bind.mono fun b e1 H1 r1 s1 h1 => ?_)
  cases b with
  | true => rw [if_pos rfl]; exact dE.of r1 (h1.mono fun t e2 H2 r2 s2 h4 v q => h4 v (q.less (fun _ z => z) fun a n => s1.back n))
  | false => rw [if_neg Bool.false_ne_true]; exact dE.of r1 (h1.mono fun t e2 H2 r2 s2 h4 v q => h4 v (q.less (fun _ z => z) fun a n => s1.back n))
theorem d_chain {r r' : R2} {g g' : D → D → Option T} (ho : OpD c r g) (ho' : OpD c r' g') : ∀ σ H Q, dE c W (eCh g g' fa fb fc) σ H Q → tChain r r' (dE c W fa) (dE c W fb) (dE c W fc) σ H Q := fun σ H Q h => by
  obtain ⟨env, L, re, h⟩ := dE_iff.mp h
  refine dE.of re (h.bind.mono fun ta e1 H1 r1 s1 h1 x q1 => ?_)
  refine dE.of r1 (h1.bind.mono fun tb e2 H2 r2 s2 h2 y q2 => ?_)
  have h2 := h2.bind
  refine dK_op2 (W := W) (N1 := fun _ => True) (N2 := fun _ => True) (N := Nn σ env H) ho r2 (fun d e => q1.opr r1 s2 r2 e) (fun d e => q2.opr0 r2 e) (fun a n => s1.back (s2.back n)) (h2.mono fun t e3 H3 r3 s3 h3 z q3 => ?_)
  obtain ⟨b, rfl, h4⟩ := toB_K r3 q3 h3.bind
  refine ⟨b, rfl, ?_⟩
  have h5 := h4 H3 r3 .refl
  cases b with
  | true =>
    rw [if_pos rfl]
    refine dE.of r3 (h5.bind.mono fun tc e4 H4 r4 s4 h6 w q4 => ?_)
    exact dK_op2 (W := W) (N1 := fun _ => True) (N2 := fun _ => True) (N := Nn σ env H) ho' r4 (fun d e => q2.opr r2 (s3.trans s4) r4 e) (fun d e => q4.opr0 r4 e) (fun a n => s1.back (s2.back (s3.back (s4.back n)))) h6
  | false =>
    rw [if_neg Bool.false_ne_true]
    exact h5 H3 r3 .refl _ (.bl false)
theorem de_chain {op op' : CmpOp} {r r' : R2} {g g' : D → D → Option T} (hr : OpR X (compareOp op) r) (ho : OpD c r g) (hr' : OpR X (compareOp op') r') (ho' : OpD c r' g') (ha : PE X a (dE c W fa)) (hb : PE X b (dE c W fb)) (hc : PE X e3 (dE c W fc))
    (hm : lastMarks [op, op'] [b, e3] = false := by with_unfolding_all rfl) : PE X (.Compare a [op, op'] [b, e3] pos) (dE c W (eCh g g' fa fb fc)) := PEw (pe_chain hr hr' ha hb hc hm) (d_chain ho ho')
theorem dt_chain {op op' : CmpOp} {r r' : R2} {g g' : D → D → Option T} (hr : OpR X (compareOp op) r) (ho : OpD c r g) (hr' : OpR X (compareOp op') r') (ho' : OpD c r' g') (ha : PE X a (dE c W fa)) (hb : PE X b (dE c W fb)) (hc : PE X e3 (dE c W fc))
    (hm : lastMarks [op, op'] [b, e3] = false := by with_unfolding_all rfl) : PT X (.Compare a [op, op'] [b, e3] pos) (dT c W (tV (eCh g g' fa fb fc))) := PTw (pt_chain hr hr' ha hb hc hm) fun σ H Q h => d_chain ho ho' σ H _ (d_tB (fa := eCh g g' fa fb fc) σ H Q h)
end

/-! ### slices -/
def tNp : En → R (Option Int) := fun env => .ok none env
def toI (t : T) (env : En) : R (Option Int) := match t.val env with
  | some (.int i) => .ok (some i) env
  | _ => .er
@[simp] theorem toI_int (i : Int) (env : En) : toI (.im (.int i)) env = .ok (some i) env := rfl
def tPa (fa : FE) : En → R (Option Int) := fun env => (fa env).bind toI
def dO (c : Cc) (W : WX) (f : En → R (Option Int)) : TO := fun σ H Q => ∃ env L, RE c L σ H env ∧ dK c W L σ H env (f env) fun o _ H' => Q o H'
def cutD (xs : List D) (lo hi : Option Int) : List D := (xs.drop (HT.sIx xs.length 0 lo)).take (HT.sIx xs.length xs.length hi - HT.sIx xs.length 0 lo)
def dSl (d : D) (lo hi : Option Int) : Option T := match d with
  | .tup ds => some (.im (.tup (cutD ds lo hi)))
  | .lst ds => some (.fr (cutD ds lo hi))
  | _ => none
def slT (t : T) (lo hi : Option Int) (env : En) : R T := match t.val env with
  | some d => R.opt (dSl d lo hi) env
  | none => .er
@[simp] theorem dSl_tup (ds : List D) (lo hi : Option Int) : dSl (.tup ds) lo hi = some (.im (.tup (cutD ds lo hi))) := rfl
@[simp] theorem dSl_lst (ds : List D) (lo hi : Option Int) : dSl (.lst ds) lo hi = some (.fr (cutD ds lo hi)) := rfl
def eSl (fa : FE) (fl fh : En → R (Option Int)) : FE := fun env => (fa env).bind fun t e1 => (fl e1).bind fun lo e2 => (fh e2).bind fun hi e3 => slT t lo hi e3
section
variable {X : Cx} {c : Cc} {W : WX} {pos p2 : Pos} {a : Expr} {fa : FE} {fl fh : En → R (Option Int)} {lo hi : Option Expr}
theorem do_none : PO X none (dO c W tNp) := ⟨fun pins s σ H Q I h => po_none.run pins s σ H Q I (by obtain ⟨env, L, r, h⟩ := h; exact h H r .refl)⟩
theorem do_some (h : PE X a (dE c W fa)) : PO X (some a) (dO c W (tPa fa)) := ⟨fun pins s σ H Q I q => (po_some h).run pins s σ H Q I (by
  obtain ⟨env, L, r, q⟩ := q
  refine dE.of r (q.bind.mono fun t e1 H1 r1 s1 h1 v q1 => ?_)
  unfold toI at h1
  cases e : t.val e1 with
  | none => rw [e] at h1; exact h1.elim
  | some d =>
    rw [e] at h1
    cases d with
    | int i => exact ⟨i, (q1.opr0 r1 e).int, h1 H1 r1 .refl⟩
    | non => exact h1.elim
    | bl i => exact h1.elim
    | str x => exact h1.elim
    | tup xs => exact h1.elim
    | lst xs => exact h1.elim
    | fz xs => exact h1.elim)⟩
theorem Reps.cut {K : PySem.W.Frag} {G : Addr → Prop} {H : Hp} {xs : List V} {ds : List D} (r : Reps K G H xs ds) (lo hi : Option Int) : Reps K G H (cutV xs lo hi) (cutD ds lo hi) := by
  unfold cutV cutD
  rw [r.length]
  exact (r.drop _).take _
abbrev rSl (K : PySem.W.Frag) : V → Option Int → Option Int → Hp → VK → Prop := fun x lo hi H Q => rSlA K x lo hi H Q ∨ rSlL K x lo hi H Q
theorem cut_whole {α : Type} (xs : List α) (l h : Nat) (e : l = 0 ∧ h = xs.length) : (xs.drop l).take (h - l) = xs := by
  obtain ⟨rfl, rfl⟩ := e
  simp
theorem de_slice (ha : PE X a (dE c W fa)) (hl : PO X lo (dO c W fl)) (hh : PO X hi (dO c W fh)) (hK : c.K = X.K := by rfl) : PE X (.Subscript a (.Slice lo hi none p2) pos) (dE c W (eSl fa fl fh)) :=
  PEw (pe_slice (r := rSl X.K) (sl_tupA.or sl_list) ha hl hh) fun σ H Q h => by
    obtain ⟨env, L, re, h⟩ := dE_iff.mp h
    refine dE.of re (h.bind.mono fun t e1 H1 r1 s1 h1 x q1 => ?_)
    refine ⟨e1, L, r1, h1.bind.mono fun lo e2 H2 r2 s2 h2 => ?_⟩
    refine ⟨e2, L, r2, h2.bind.mono fun hi e3 H3 r3 s3 h3 => ?_⟩
    unfold slT at h3
    cases e : t.val e3 with
    | none => rw [e] at h3; exact h3.elim
    | some d =>
      rw [e] at h3
      have q := q1.opr r1 (s2.trans s3) r3 e
      have kk : ∀ {t'}, R.opt (dSl d lo hi) e3 = .ok t' e3 → ∀ v H', RE c L σ H' e3 → Stp σ e3 H3 σ e3 H' → RepT c L (Nn σ e3 H3) σ H' e3 v t' → Q v H' := fun {t'} eq v H' a b q => by
        dsimp only at h3
        rw [eq] at h3
        exact h3 H' a b v (q.less (fun _ z => z) fun a n => s1.back (s2.back (s3.back n)))
      cases d with
      | tup ds =>
        obtain ⟨a, xs, rfl, h, r⟩ := q.tup
        rw [hK] at h
        refine .inl ⟨a, xs, rfl, h, fun w => ?_, fun w => new_tup r3 (r.cut lo hi) (kk rfl)⟩
        refine kk rfl _ H3 r3 .refl ?_
        have ew : cutD ds lo hi = ds := by
          unfold cutD
          rw [← r.length]
          exact cut_whole ds _ _ (by rw [← r.length]; exact w)
        rw [ew, ← hK] at *
        exact .tup h r
      | lst ds =>
        obtain ⟨a, xs, rfl, h, r⟩ := q.lst
        refine .inr ⟨a, xs, rfl, .of h, fun p n => ?_⟩
        obtain ⟨y1, y2, y3⟩ := r3.newL (r.cut lo hi) n
        exact kk rfl _ _ y1 y2 y3
      | non => exact h3.elim
      | bl i => exact h3.elim
      | int i => exact h3.elim
      | str x => exact h3.elim
      | fz xs => exact h3.elim
end
end DL
namespace DL
open PySem PySem.Spec L2

/-! ### one list changed in place -/
theorem own_put {σ : St} {env : En} {i : Nat} {io : Bool} {ds ds' : List D} (e : env[i]? = some (Sl.own io ds)) (b : Addr) : ownM σ (env.set i (.own io ds')) b ↔ ownM σ env b := by
  have hi : i < env.length := (List.getElem?_eq_some_iff.mp e).1
  constructor
  · rintro ⟨j, jo, es, e1, e2⟩
    by_cases q : i = j
    · subst q
      exact ⟨i, io, ds, e, e2⟩
    · rw [List.getElem?_set_ne q] at e1
      exact ⟨j, jo, es, e1, e2⟩
  · rintro ⟨j, jo, es, e1, e2⟩
    by_cases q : i = j
    · subst q
      exact ⟨i, io, ds', by rw [List.getElem?_set_self hi], e2⟩
    · exact ⟨j, jo, es, by rw [List.getElem?_set_ne q]; exact e1, e2⟩
theorem RE.put {c : Cc} {L : Addr → Prop} {σ : St} {H H' : Hp} {env : En} {i : Nat} {io : Bool} {ds ds' : List D} {a : Addr} {xs' : List V} (h : RE c L σ H env) (e : env[i]? = some (Sl.own io ds)) (s : σ[i]? = some (some (V.ref a)))
    (kp : ∀ b o, b ≠ a → H b = some o → H' b = some o) (ea : H' a = some (.lst xs')) (r' : Reps c.K (Av L σ env) H' xs' ds') : RE c L σ H' (env.set i (.own io ds')) ∧ Stp σ env H σ (env.set i (.own io ds')) H' := by
  have hi : i < env.length := (List.getElem?_eq_some_iff.mp e).1
  have ow := own_put (σ := σ) (ds' := ds') e
  have oa : ownM σ env a := ⟨i, io, ds, e, s⟩
  have st : Stp σ env H σ (env.set i (.own io ds')) H' := fun b n => by
    have na : b ≠ a := fun z => n (.inl (by rw [z]; exact oa))
    cases q : H b with
    | none => exact (n (.inr q)).elim
    | some o => exact ⟨kp b o na q, fun z => z.elim (fun z => n (.inl ((ow b).mp z))) fun z => by rw [kp b o na q] at z; cases z⟩
  have av : Av L σ (env.set i (.own io ds')) = Av L σ env := by funext b; simp [Av, ow b]
  obtain ⟨a0, xs0, ea0, _, _, f0, f1⟩ := h.own i io ds e
  rw [s] at ea0
  cases ea0
  refine ⟨⟨by rw [List.length_set]; exact h.len, fun j d q => ?_, fun j jo es q => ?_, fun j k jo ko ds1 es b q1 q2 q3 q4 => ?_, fun b lb => ?_, fun b o n q => ?_, fun b ib => ?_⟩, st⟩
  · have ne : i ≠ j := fun z => by
      subst z
      rw [List.getElem?_set_self hi] at q
      cases q
    rw [List.getElem?_set_ne ne] at q
    obtain ⟨v, e1, r⟩ := h.im j d q
    exact ⟨v, e1, h.rep st r⟩
  · by_cases ne : i = j
    · subst ne
      rw [List.getElem?_set_self hi] at q
      cases q
      rw [av]
      exact ⟨a, xs', s, ea, r', f0, f1⟩
    · rw [List.getElem?_set_ne ne] at q
      obtain ⟨b, ys, e1, e2, r, z⟩ := h.own j jo es q
      have nb : b ≠ a := fun z => ne (h.inj i j io jo ds es a e q s (by rw [← z]; exact e1))
      exact ⟨b, ys, e1, kp _ _ nb e2, h.reps st r, z⟩
  · have get : ∀ (j : Nat) (jo : Bool) (es : List D), (env.set i (.own io ds'))[j]? = some (Sl.own jo es) → ∃ (jo' : Bool) (es' : List D), env[j]? = some (Sl.own jo' es') := fun j jo es q => by
      by_cases ne : i = j
      · subst ne
        exact ⟨io, ds, e⟩
      · rw [List.getElem?_set_ne ne] at q
        exact ⟨jo, es, q⟩
    obtain ⟨x1, x2, x3⟩ := get j jo ds1 q1
    obtain ⟨y1, y2, y3⟩ := get k ko es q2
    exact h.inj j k x1 y1 x2 y2 b x3 y3 q3 q4
  · obtain ⟨n, ys, q⟩ := h.ext b lb
    exact ⟨fun z => n ((ow b).mp z), ys, kp _ _ (fun z => n (by rw [z]; exact oa)) q⟩
  · refine kp b o (fun z => ?_) (h.fr b o n q)
    subst z
    cases io with
    | true => exact n (f1 rfl).1
    | false => rw [f0 rfl] at q; cases q
  · by_cases z : b = a
    · subst z
      exact ⟨xs', ea⟩
    · exact (h.io b ib).imp fun xs q => kp _ _ z q
theorem RE.mores {c : Cc} {L S : Addr → Prop} {σ : St} {env : En} {H H' : Hp} (h : RE c L σ H env) (k : ∀ b o, H b = some o → H' b = some o) (n : ∀ a, S a → H a = none ∧ ∃ xs, H' a = some (.lst xs)) : RE c (fun b => L b ∨ S b) σ H' env := by
  have no : ∀ b, (∃ o, H b = some o) → ¬ S b := fun b ⟨o, q⟩ z => by rw [(n b z).1] at q; cases q
  have kk : ∀ {v d}, Rep c.K (Av L σ env) H v d → Rep c.K (Av (fun b => L b ∨ S b) σ env) H' v d := fun r =>
    r.mono (h.tk (Stp.grow k)) fun b ys g q => ⟨⟨fun z => z.elim g.1 fun z => no b ⟨_, q⟩ z, g.2⟩, k _ _ q⟩
  have ks : ∀ {v d}, Reps c.K (Av L σ env) H v d → Reps c.K (Av (fun b => L b ∨ S b) σ env) H' v d := fun r =>
    r.mono (h.tk (Stp.grow k)) fun b ys g q => ⟨⟨fun z => z.elim g.1 fun z => no b ⟨_, q⟩ z, g.2⟩, k _ _ q⟩
  refine ⟨h.len, fun i d e => ?_, fun i io ds e => ?_, h.inj, fun b lb => ?_, fun b o n e => k _ _ (h.fr b o n e), fun a i => (h.io a i).imp fun xs e => k _ _ e⟩
  · obtain ⟨v, e1, r⟩ := h.im i d e
    exact ⟨v, e1, kk r⟩
  · obtain ⟨a, xs, e1, e2, r, z⟩ := h.own i io ds e
    exact ⟨a, xs, e1, k _ _ e2, ks r, z⟩
  · rcases lb with lb | lb
    · exact ⟨(h.ext b lb).1, (h.ext b lb).2.imp fun xs e => k _ _ e⟩
    · refine ⟨fun ⟨i, io, ds, e1, e2⟩ => ?_, (n b lb).2⟩
      obtain ⟨a', ys, e3, e4, _⟩ := h.own i io ds e1
      rw [e2] at e3
      cases e3
      rw [(n b lb).1] at e4
      cases e4
theorem RE.h0 {c : Cc} {L : Addr → Prop} {σ : St} {H : Hp} {env : En} (re : RE c L σ H env) {p : Addr} (n : H p = none) : c.H0 p = none := by
  cases e : c.H0 p with
  | none => rfl
  | some o =>
    by_cases i : c.Io p
    · obtain ⟨ys, q⟩ := re.io p i
      rw [n] at q
      cases q
    · have q := re.fr p o i e
      rw [n] at q
      cases q

/-! ### what a def promises -/
abbrev FD := En → R T
abbrev cc0 (K : PySem.W.Frag) (mg : Str → Option Value) (H : Hp) (vs : List V) (env : En) : Cc := ⟨K, mg, H, ownM (vs.map some) env, vs⟩
def spD (K : PySem.W.Frag) (mg : Str → Option Value) (g : FD) : Sp := fun vs H Q E => ∃ env L, RE (cc0 K mg H vs env) L (vs.map some) H env ∧ match g env with
  | .er => False
  | .ex x out => ∀ H', RE (cc0 K mg H vs env) L (vs.map some) H' out → ∀ C, mg x = some (.ref C) → E (.ref C) none H'
  | .ok t out => ∀ v H', RE (cc0 K mg H vs env) L (vs.map some) H' out → RepT (cc0 K mg H vs env) L (fun a => H a = none) (vs.map some) H' out v t → Q v H'

/-! ### calls of defs that change no argument -/
def isAl : T → Bool
  | .al _ => true
  | _ => false
def flatC (c : Cp) : Bool := match c.fr, c.d with
  | true, .lst ds => D.flats ds
  | _, d => D.flat d
def flatT : T → Bool
  | .im d => D.flat d
  | .fr ds => D.flats ds
  | .ft cs => cs.all flatC
  | .al _ => false
def callT (g : FD) (ts : List T) (e : En) : R T := match vals e ts with
  | none => .er
  | some ds => match g (ds.map .im) with
    | .er => .er
    | .ex x _ => .ex x e
    | .ok t _ => if isAl t = false ∧ (ts.any isAl = false ∨ flatT t = true) then .ok t e else .er
def eCall (g : FD) (fa : FA) : FE := fun env => (fa env).bind fun ts e1 => callT g ts e1
section
variable {c : Cc} {L : Addr → Prop} {σ : St} {H : Hp} {env : En}
theorem RepAs.args {G G' : Addr → Prop} (g : ∀ b, G b → G' b) (ra : RE c L σ H env) (gl : ∀ b, Av L σ env b → G' b) : ∀ {As vs ts ds}, RepAs c.K G σ H env As vs ts → (∀ a ∈ As, G' a) → (ts.any isAl = false ∨ ∀ b, ownM σ env b → G' b) → vals env ts = some ds → Reps c.K G' H vs ds
  | _, _, _, ds, .nil, _, _, e => by cases e; exact .nil
  | _, _, _, ds, .im (ts := ts) r rs, n, hal, e => by
    simp only [vals, val_im] at e
    cases q : vals env ts with
    | none => rw [q] at e; cases e
    | some es =>
      rw [q] at e
      cases e
      exact .cons (r.mono (.refl H) fun b xs gb e => ⟨g b gb, e⟩) (RepAs.args g ra gl rs n (hal.imp (fun z => by simpa [isAl] using z) id) q)
  | _, _, _, ds, .fr (ts := ts) na ea r rs, n, hal, e => by
    simp only [vals, val_fr] at e
    cases q : vals env ts with
    | none => rw [q] at e; cases e
    | some es =>
      rw [q] at e
      cases e
      exact .cons (.lst (n _ List.mem_cons_self) ea (r.mono (.refl H) fun b xs gb e => ⟨g b gb, e⟩)) (RepAs.args g ra gl rs (fun b z => n b (List.mem_cons_of_mem _ z)) (hal.imp (fun z => by simpa [isAl] using z) id) q)
  | _, _, _, ds, .al (i := i) (ts := ts) o es rs, n, hal, e => by
    have hal : ∀ b, ownM σ env b → G' b := hal.elim (fun z => by simp [isAl] at z) id
    obtain ⟨io, es', eo⟩ := o
    have ev : (T.al i).val env = some (.lst es') := by simp [T.val, eo]
    simp only [vals, ev] at e
    cases q : vals env ts with
    | none => rw [q] at e; cases e
    | some fs =>
      rw [q] at e
      cases e
      obtain ⟨a, xs, e3, e4, r5, _⟩ := ra.own i io es' eo
      rw [es] at e3
      cases e3
      exact .cons (.lst (hal _ ⟨i, io, es', eo, es⟩) e4 (r5.mono (.refl H) fun b xs gb e => ⟨gl b gb, e⟩)) (RepAs.args g ra gl rs n (.inr hal) q)
theorem get_im {ds : List D} {i : Nat} {s : Sl} (h : (ds.map Sl.im)[i]? = some s) : ∃ d, ds[i]? = some d ∧ s = .im d := by
  rw [List.getElem?_map] at h
  cases q : ds[i]? with
  | none => rw [q] at h; cases h
  | some d => rw [q] at h; cases h; exact ⟨d, rfl, rfl⟩
theorem no_own_im {σ : St} {ds : List D} (b : Addr) : ¬ ownM σ (ds.map Sl.im) b := fun ⟨i, io, es, e1, _⟩ => by
  obtain ⟨d, _, e⟩ := get_im e1
  cases e
theorem RE.enter {K : PySem.W.Frag} {mg : Str → Option Value} {vs : List V} {ds : List D} {L' : Addr → Prop} (r : Reps K (fun b => ¬ L' b) H vs ds) (ext : ∀ a, L' a → ∃ xs, H a = some (.lst xs)) : RE (cc0 K mg H vs (ds.map .im)) L' (vs.map some) H (ds.map .im) where
  len := by rw [List.length_map, List.length_map, r.length]
  im := fun i d e => by
    obtain ⟨d', e1, e2⟩ := get_im e
    cases e2
    obtain ⟨v, e3, q⟩ := r.get e1
    exact ⟨v, by rw [List.getElem?_map, e3]; rfl, q.mono (.refl H) fun a xs g e => ⟨⟨g, no_own_im a⟩, e⟩⟩
  own := fun i io es e => by
    obtain ⟨d', _, e2⟩ := get_im e
    cases e2
  inj := fun i j io jo es fs a e => by
    obtain ⟨d', _, e2⟩ := get_im e
    cases e2
  ext := fun a la => ⟨no_own_im a, ext a la⟩
  fr := fun b o _ e => e
  io := fun a z => (no_own_im a z).elim
theorem RepC.flat {K : PySem.W.Frag} {G G' : Addr → Prop} {H : Hp} : ∀ {As vs cs}, RepC K G H As vs cs → flatT (.ft cs) = true → RepC K G' H As vs cs
  | _, _, _, .nil, _ => .nil
  | _, _, _, .im (d := d) r rs, f => by
    simp only [flatT, List.all_cons, Bool.and_eq_true] at f
    exact .im (r.flat f.1) (RepC.flat rs f.2)
  | _, _, _, .fr n e r rs, f => by
    simp only [flatT, List.all_cons, Bool.and_eq_true] at f
    exact .fr n e (r.flats f.1) (RepC.flat rs f.2)
/-- what a callee hands back, for the caller -/
theorem RepT.home {c0 : Cc} {L' : Addr → Prop} {σ0 : St} {H1 H' : Hp} {out env' : En} {v : V} {t : T} (h : RepT c0 L' (fun a => H1 a = none) σ0 H' out v t) (hc : c0.K = c.K) (na : ∀ i, t ≠ .al i) (hL : ∀ a, L a → L' a)
    (fl : flatT t = true ∨ ∀ a, ownM σ env' a → L' a ∨ ownM σ0 out a) (re : ∀ S : Addr → Prop, RE c0 (fun b => L' b ∨ S b) σ0 H' out → (∀ a, S a → H1 a = none ∧ ∃ xs, H' a = some (.lst xs)) → RE c (fun b => L b ∨ S b) σ H' env') (h0 : ∀ a, H1 a = none → c.H0 a = none) :
    RepT c L (fun a => H1 a = none) σ H' env' v t := by
  cases t with
  | al i => exact (na i rfl).elim
  | im d =>
    have h : Rep c0.K (Av L' σ0 out) H' v d := h
    rw [hc] at h
    rcases fl with f | f
    · exact h.flat f
    · exact h.mono (.refl H') fun a xs g e => ⟨⟨fun z => g.1 (hL a z), fun z => (f a z).elim g.1 g.2⟩, e⟩
  | fr ds =>
    obtain ⟨a, xs, e, e1, r, n1, n2, n3, q⟩ := h
    rw [hc] at r
    have rr := re (fun b => b = a) q fun b z => by subst z; exact ⟨n3, _, e1⟩
    refine ⟨a, xs, e, e1, ?_, fun z => n1 (hL a z), h0 a n3, n3, rr⟩
    rcases fl with f | f
    · exact r.flats f
    · exact r.mono (.refl H') fun b ys g e => ⟨⟨fun z => g.1 (z.imp (hL b) id), fun z => (f b z).elim (fun y => g.1 (.inl y)) g.2⟩, e⟩
  | ft cs =>
    obtain ⟨tt, vs, As, e, e1, r, n1, q⟩ := h
    rw [hc] at r e1
    have rr := re (fun b => b ∈ As) q fun b z => ⟨(n1 b z).2.2, r.in b z⟩
    refine ⟨tt, vs, As, e, e1, ?_, fun a z => ⟨fun y => (n1 a z).1 (hL a y), h0 a (n1 a z).2.2, (n1 a z).2.2⟩, rr⟩
    rcases fl with f | f
    · exact r.flat f
    · exact r.mono (.refl H') (fun b ys g e => ⟨⟨fun z => g.1 (z.imp (hL b) id), fun z => (f b z).elim (fun y => g.1 (.inl y)) g.2⟩, e⟩) fun _ _ _ e => e
end
def noAlT : T → Bool
  | .al _ => false
  | _ => true
section
variable {X : Cx} {c : Cc} {W : WX} {pos p : Pos} {x : Str} {e : Expr} {es : List Expr} {fa : FA} {g : FD} {k : Nat} {f : Addr} {fd : FuncData} {ps : List Str}
theorem d_call : ∀ σ H Q, dE c W (eCall g fa) σ H Q → tCallS (spD c.K c.mg g) (WE W) (dA c W fa) σ H Q := fun σ H Q h => by
  obtain ⟨env, L, re, h⟩ := dE_iff.mp h
  refine dA.of re (h.bind.mono fun ts e1 H1 r1 s1 h1 vs As q n r2 => ?_)
  unfold callT at h1
  cases ev : vals e1 ts with
  | none => rw [ev] at h1; exact h1.elim
  | some ds =>
    rw [ev] at h1
    dsimp only at h1
    -- what the callee must keep off
    obtain ⟨L', hL, hown, hrep, hext⟩ : ∃ L' : Addr → Prop, (∀ a, L a → L' a) ∧ (ts.any isAl = false → ∀ a, ownM σ e1 a → L' a) ∧ Reps c.K (fun b => ¬ L' b) H1 vs ds ∧ (∀ a, L' a → ∃ xs, H1 a = some (.lst xs)) := by
      by_cases na : ts.any isAl = false
      · refine ⟨fun a => L a ∨ ownM σ e1 a, fun a z => .inl z, fun _ a z => .inr z, q.args (G' := fun b => ¬ (L b ∨ ownM σ e1 b)) (fun b gb z => z.elim (fun z => gb.1 (.inl z)) gb.2) r1 (fun b gb z => z.elim gb.1 gb.2) (fun a z y => y.elim (n a z).1 (r2.ext a (.inr z)).1) (.inl na) ev, fun a z => ?_⟩
        rcases z with z | ⟨i, io, es, e1', e2'⟩
        · exact (r1.ext a z).2
        · obtain ⟨b, xs, e3, e4, _⟩ := r1.own i io es e1'
          rw [e2'] at e3
          cases e3
          exact ⟨xs, e4⟩
      · exact ⟨L, fun a z => z, fun z => (na z).elim, q.args (G' := fun b => ¬ L b) (fun b gb z => gb.1 (.inl z)) r1 (fun b gb => gb.1) (fun a z => (n a z).1) (.inr fun b ob z => (r1.ext b z).1 ob) ev, fun a z => (r1.ext a z).2⟩
    refine ⟨ds.map .im, L', RE.enter hrep hext, ?_⟩
    have grow : ∀ {H' : Hp} {out : En}, RE (cc0 c.K c.mg H1 vs (ds.map .im)) L' (vs.map some) H' out → ∀ b o, H1 b = some o → H' b = some o := fun {H' out} r b o e => r.fr b o (no_own_im b) e
    cases eg : g (ds.map .im) with
    | er => rw [eg] at h1; exact h1.elim
    | ex y out =>
      rw [eg] at h1
      exact fun H' rr C hC => h1 H' (r1.grow (grow rr)) (.grow (grow rr)) C hC
    | ok t out =>
      rw [eg] at h1
      dsimp only at h1
      split at h1
      · rename_i fl
        intro v H' rr qt
        have kp := grow rr
        have na : ∀ i, t ≠ .al i := fun i z => by
          subst z
          cases fl.1
        refine h1 H' (r1.grow kp) (.grow kp) v ?_
        have fl' : flatT t = true ∨ ∀ a, ownM σ e1 a → L' a ∨ ownM (vs.map some) out a := fl.2.elim (fun z => .inr fun a oa => .inl (hown z a oa)) .inl
        exact (qt.home (c := c) rfl na hL fl' (fun S _ hS => r1.mores kp hS) (fun a z => r1.h0 z)).less (fun _ z => z) fun a z => s1.back (.inr z)
      · exact h1.elim
theorem de_call (F : FnOk X.prog X.w X.K X.mg X.base (L2.CX X.prog X.w) k f fd ps (spD X.K X.mg g)) (hr : Room k X.A) (hg : Gl X x) (hm : X.mg x = some (.ref f)) (hk : PySem.W.keepIn X.K (.ref f) = true) (hb : Binds X.K fd ps []) (tk : Takes X W)
    (ha : PA X (e :: es) (dA c W fa)) (hK : c.K = X.K := by rfl) (hM : c.mg = X.mg := by rfl) (hdb : (x == ("__debug__" : Str)) = false := by decide) (he : starEach (e :: es) X.env = (false, eval e X.env) :: starEach es X.env := by rfl) (hpl : (backTo pos (starEach es X.env)).any (·.1) = false := by rfl) :
    PE X (.Call (.Name x p) (e :: es) [] pos) (dE c W (eCall g fa)) :=
  PEw (pe_callS F hr hg hm hk hb (fun σ => passAt tk σ) ha hdb he hpl) (by rw [← hK, ← hM]; exact d_call)
end

/-! ### calls of defs that change one list of the caller's -/
def argE : Option Nat → List T → En → Option En
  | _, [], _ => some []
  | some 0, t :: ts, e => match t with
    | .al i => match e[i]?, argE none ts e with
      | some (.own _ ds), some r => some (.own true ds :: r)
      | _, _ => none
    | _ => none
  | some (k + 1), t :: ts, e => match t.val e, argE (some k) ts e with
    | some d, some r => some (.im d :: r)
    | _, _ => none
  | none, t :: ts, e => match t.val e, argE none ts e with
    | some d, some r => some (.im d :: r)
    | _, _ => none
def isAli (i : Nat) : T → Bool
  | .al j => i == j
  | _ => false
def others : Option Nat → List T → List T
  | _, [] => []
  | some 0, _ :: ts => ts
  | some (k + 1), t :: ts => t :: others (some k) ts
  | none, t :: ts => t :: ts
def callI (k : Nat) (g : FD) (ts : List T) (e : En) : R T := match ts[k]? with
  | some (.al i) => match e[i]?, argE (some k) ts e with
    | some (.own b ds), some env0 => match g env0 with
      | .er => .er
      | .ex x out => match out[k]? with
        | some (.own true ds') => if (others (some k) ts).any (isAli i) = false ∧ ((others (some k) ts).any isAl = false ∨ D.flats ds' = true) then .ex x (e.set i (.own b ds')) else .er
        | _ => .er
      | .ok t out => match out[k]? with
        | some (.own true ds') => if isAl t = false ∧ (others (some k) ts).any (isAli i) = false ∧ ((others (some k) ts).any isAl = false ∨ (flatT t = true ∧ D.flats ds' = true)) then .ok t (e.set i (.own b ds')) else .er
        | _ => .er
    | _, _ => .er
  | _ => .er
def eCallI (k : Nat) (g : FD) (fa : FA) : FE := fun env => (fa env).bind fun ts e1 => callI k g ts e1
section
variable {c : Cc} {L : Addr → Prop} {σ : St} {H : Hp} {env : En}
theorem RepAs.uncons {K : PySem.W.Frag} {G : Addr → Prop} {As : List Addr} {vs : List V} {t : T} {ts : List T} (h : RepAs K G σ H env As vs (t :: ts)) : ∃ v vs' As', vs = v :: vs' ∧ RepAs K G σ H env As' vs' ts ∧ (∀ b ∈ As', b ∈ As) ∧
    ((∃ d, t = .im d ∧ Rep K G H v d) ∨ (∃ i, t = .al i ∧ (∃ (io : Bool) (ds : List D), env[i]? = some (Sl.own io ds)) ∧ σ[i]? = some (some v)) ∨ (∃ a xs ds, t = .fr ds ∧ v = .ref a ∧ a ∈ As ∧ H a = some (.lst xs) ∧ Reps K G H xs ds)) := by
  cases h with
  | im r rs => exact ⟨_, _, _, rfl, rs, fun _ z => z, .inl ⟨_, rfl, r⟩⟩
  | al o e rs => exact ⟨_, _, _, rfl, rs, fun _ z => z, .inr (.inl ⟨_, rfl, o, e⟩)⟩
  | fr n e r rs => exact ⟨_, _, _, rfl, rs, fun _ z => List.mem_cons_of_mem _ z, .inr (.inr ⟨_, _, _, rfl, rfl, List.mem_cons_self, e, r⟩)⟩
/-- the callee's slots: one list to be changed, at place k -/
theorem RepAs.argE {As0 : List Addr} {G' : Addr → Prop} {a : Addr} {i : Nat} {bi : Bool} {di : List D} (g : ∀ b, Av (Lu L As0) σ env b → G' b) (ra : RE c L σ H env) (gl : ∀ b, Av L σ env b → G' b) (si : σ[i]? = some (some (V.ref a))) (ei : env[i]? = some (Sl.own bi di)) :
    ∀ (ts : List T) (o : Option Nat) {As vs env0}, RepAs c.K (Av (Lu L As0) σ env) σ H env As vs ts → (∀ b ∈ As, G' b) →
    ((others o ts).any isAl = false ∨ ∀ b, ownM σ env b → b ≠ a → G' b) → (others o ts).any (isAli i) = false → (∀ k, o = some k → ts[k]? = some (T.al i)) → DL.argE o ts env = some env0 →
    env0.length = vs.length ∧ (∀ k, o = some k → vs[k]? = some (.ref a) ∧ env0[k]? = some (Sl.own true di)) ∧ (∀ (j : Nat) (d : D), env0[j]? = some (Sl.im d) → ∃ v, vs[j]? = some v ∧ Rep c.K G' H v d) ∧ (∀ (j : Nat) (io : Bool) (ds : List D), env0[j]? = some (Sl.own io ds) → o = some j ∧ io = true ∧ ds = di)
  | [], o, As, vs, env0, h, _, _, _, e, h2 => by
    cases h
    have : env0 = [] := by
      unfold DL.argE at h2
      exact (Option.some.inj h2).symm
    subst this
    exact ⟨rfl, fun k z => by simpa using e k z, fun j d z => by simp at z, fun j io ds z => by simp at z⟩
  | t :: ts, o, As, vs, env0, h, n, hal, hi, e, h2 => by
    obtain ⟨v, vs', As', rfl, rs, sub, hd⟩ := h.uncons
    -- a head that is not the list to be changed
    have reg : ∀ d, t.val env = some d → (isAl t = false ∨ ∀ b, ownM σ env b → b ≠ a → G' b) → isAli i t = false → Rep c.K G' H v d := fun d ev ha hb => by
      rcases hd with ⟨d', rfl, r⟩ | ⟨j, rfl, ⟨io, ds, eo⟩, es⟩ | ⟨b, xs, ds, rfl, rfl, hm, eb, r⟩
      · cases ev
        exact r.mono (.refl H) fun b xs gb e => ⟨g b gb, e⟩
      · have ev' : (T.al j).val env = some (.lst ds) := by simp [T.val, eo]
        rw [ev'] at ev
        cases ev
        obtain ⟨b, xs, e3, e4, r5, _⟩ := ra.own j io ds eo
        rw [es] at e3
        cases e3
        have ha := ha.elim (fun z => by cases z) id
        refine .lst (ha b ⟨j, io, ds, eo, es⟩ fun z => ?_) e4 (r5.mono (.refl H) fun b xs gb e => ⟨gl b gb, e⟩)
        subst z
        have : i = j := ra.inj i j bi io di ds b ei eo si es
        subst this
        simp [isAli] at hb
      · cases ev
        exact .lst (n b hm) eb (r.mono (.refl H) fun b xs gb e => ⟨g b gb, e⟩)
    have n' : ∀ b ∈ As', G' b := fun b z => n b (sub b z)
    cases o with
    | none =>
      unfold DL.argE at h2
      simp only [others] at hal hi
      have hal1 : isAl t = false ∨ ∀ b, ownM σ env b → b ≠ a → G' b := hal.imp (fun z => by simp at z; exact z.1) id
      have hal2 : (others none ts).any isAl = false ∨ ∀ b, ownM σ env b → b ≠ a → G' b := hal.imp (fun z => by cases ts <;> simp_all [others]) id
      have hi2 : (others none ts).any (isAli i) = false := by cases ts <;> simp_all [others]
      cases q1 : t.val env with
      | none => rw [q1] at h2; simp at h2
      | some d =>
        cases q2 : DL.argE none ts env with
        | none => rw [q1, q2] at h2; simp at h2
        | some r =>
          rw [q1, q2] at h2
          cases h2
          obtain ⟨y1, y2, y3, y4⟩ := RepAs.argE g ra gl si ei ts none rs n' hal2 hi2 (fun k z => nomatch z) q2
          refine ⟨by rw [List.length_cons, List.length_cons, y1], (fun k z => nomatch z), fun j d' z => ?_, fun j io ds z => ?_⟩
          · cases j with
            | zero => simp at z; subst z; exact ⟨v, rfl, reg d q1 hal1 (by simp at hi; exact hi.1)⟩
            | succ j => simpa using y3 j d' (by simpa using z)
          · cases j with
            | zero => simp at z
            | succ j => have q := y4 j io ds (by simpa using z); cases q.1
    | some k =>
      cases k with
      | zero =>
        have et : t = T.al i := by simpa using e 0 rfl
        subst et
        unfold DL.argE at h2
        simp only [others] at hal hi
        have hal2 : (others none ts).any isAl = false ∨ ∀ b, ownM σ env b → b ≠ a → G' b := hal.imp (fun z => by cases ts <;> simp_all [others]) id
        have hi2 : (others none ts).any (isAli i) = false := by cases ts <;> simp_all [others]
        cases q2 : DL.argE none ts env with
        | none => simp only [ei, q2] at h2; cases h2
        | some r =>
          simp only [ei, q2] at h2
          cases h2
          obtain ⟨y1, y2, y3, y4⟩ := RepAs.argE g ra gl si ei ts none rs n' hal2 hi2 (fun k z => nomatch z) q2
          have ev : v = .ref a := by
            rcases hd with ⟨d', z, r⟩ | ⟨j, z, _, es⟩ | ⟨b, xs, ds, z, _⟩
            · cases z
            · cases z
              rw [si] at es
              cases es
              rfl
            · cases z
          refine ⟨by rw [List.length_cons, List.length_cons, y1], (fun k z => by cases z; exact ⟨by rw [ev]; rfl, rfl⟩), fun j d' z => ?_, fun j io ds z => ?_⟩
          · cases j with
            | zero => simp at z
            | succ j => simpa using y3 j d' (by simpa using z)
          · cases j with
            | zero => simp at z; exact ⟨rfl, by simp_all, by simp_all⟩
            | succ j => have q := y4 j io ds (by simpa using z); cases q.1
      | succ k =>
        unfold DL.argE at h2
        simp only [others] at hal hi
        have hal1 : isAl t = false ∨ ∀ b, ownM σ env b → b ≠ a → G' b := hal.imp (fun z => by simp at z; exact z.1) id
        have hal2 : (others (some k) ts).any isAl = false ∨ ∀ b, ownM σ env b → b ≠ a → G' b := hal.imp (fun z => by simp at z; simpa using z.2) id
        have hi2 : (others (some k) ts).any (isAli i) = false := by simp at hi; simpa using hi.2
        cases q1 : t.val env with
        | none => rw [q1] at h2; simp at h2
        | some d =>
          cases q2 : DL.argE (some k) ts env with
          | none => rw [q1, q2] at h2; simp at h2
          | some r =>
            rw [q1, q2] at h2
            cases h2
            obtain ⟨y1, y2, y3, y4⟩ := RepAs.argE g ra gl si ei ts (some k) rs n' hal2 hi2 (fun k' z => by cases z; simpa using e _ rfl) q2
            refine ⟨by rw [List.length_cons, List.length_cons, y1], (fun k' z => by cases z; simpa using y2 k rfl), fun j d' z => ?_, fun j io ds z => ?_⟩
            · cases j with
              | zero => simp at z; subst z; exact ⟨v, rfl, reg d q1 hal1 (by simp at hi; exact hi.1)⟩
              | succ j => simpa using y3 j d' (by simpa using z)
            · cases j with
              | zero => simp at z
              | succ j =>
                have q := y4 j io ds (by simpa using z)
                exact ⟨by cases q.1; rfl, q.2⟩
end
section
variable {X : Cx} {c : Cc} {W : WX} {pos p : Pos} {x : Str} {e : Expr} {es : List Expr} {fa : FA} {g : FD} {k kk : Nat} {f : Addr} {fd : FuncData} {ps : List Str}
theorem d_callI : ∀ σ H Q, dE c W (eCallI kk g fa) σ H Q → tCallS (spD c.K c.mg g) (WE W) (dA c W fa) σ H Q := fun σ H Q h => by
  obtain ⟨env, L, re, h⟩ := dE_iff.mp h
  refine dA.of re (h.bind.mono fun ts e1 H1 r1 s1 h1 vs As q n r2 => ?_)
  unfold callI at h1
  cases et : ts[kk]? with
  | none => simp only [et] at h1; exact h1.elim
  | some tt =>
    cases tt with
    | im d => simp only [et] at h1; exact h1.elim
    | fr d => simp only [et] at h1; exact h1.elim
    | ft d => simp only [et] at h1; exact h1.elim
    | al i =>
      cases ei : e1[i]? with
      | none => simp only [et, ei] at h1; exact h1.elim
      | some s =>
        cases s with
        | no => simp only [et, ei] at h1; exact h1.elim
        | im d => simp only [et, ei] at h1; exact h1.elim
        | own bi di =>
          cases ev : argE (some kk) ts e1 with
          | none => simp only [et, ei, ev] at h1; exact h1.elim
          | some env0 =>
            simp only [et, ei, ev] at h1
            obtain ⟨a, xs, si, ea, ra, f0, f1⟩ := r1.own i bi di ei
            have oa : ownM σ e1 a := ⟨i, bi, di, ei, si⟩
            by_cases hi : (others (some kk) ts).any (isAli i) = false
            case neg =>
              exfalso
              cases eg : g env0 with
              | er => rw [eg] at h1; exact h1
              | ex y out =>
                rw [eg] at h1
                dsimp only at h1
                split at h1
                · rw [if_neg (fun z => hi z.1)] at h1
                  exact h1
                · exact h1
              | ok t out =>
                rw [eg] at h1
                dsimp only at h1
                split at h1
                · rw [if_neg (fun z => hi z.2.1)] at h1
                  exact h1
                · exact h1
            -- what the callee must keep off
            obtain ⟨L', hL, hown, hLo, harg⟩ : ∃ L' : Addr → Prop, (∀ a, L a → L' a) ∧ ((others (some kk) ts).any isAl = false → ∀ b, ownM σ e1 b → b ≠ a → L' b) ∧ (∀ b, L' b → L b ∨ (ownM σ e1 b ∧ b ≠ a)) ∧
                ((others (some kk) ts).any isAl = false ∨ ∀ b, ownM σ e1 b → b ≠ a → ¬ L' b ∧ b ≠ a) := by
              by_cases na : (others (some kk) ts).any isAl = false
              · exact ⟨fun b => L b ∨ (ownM σ e1 b ∧ b ≠ a), fun a z => .inl z, fun _ b o ne => .inr ⟨o, ne⟩, fun b z => z, .inl na⟩
              · exact ⟨L, fun a z => z, fun z => (na z).elim, fun b z => .inl z, .inr fun b o ne => ⟨fun z => (r1.ext b z).1 o, ne⟩⟩
            have nL : ∀ b, Av L σ e1 b → ¬ L' b ∧ b ≠ a := fun b g => ⟨fun z => (hLo b z).elim g.1 fun z => g.2 z.1, fun z => g.2 (by rw [z]; exact oa)⟩
            obtain ⟨y1, y2, y3, y4⟩ := RepAs.argE (G' := fun b => ¬ L' b ∧ b ≠ a) (fun b g => nL b ⟨fun z => g.1 (.inl z), g.2⟩) r1 nL si ei ts (some kk) q (fun b z => ⟨fun y => (hLo b y).elim (n b z).1 fun y => (r2.ext b (.inr z)).1 y.1, fun y => (r2.ext b (.inr z)).1 (by rw [y]; exact oa)⟩) harg hi
              (fun k' z => by cases z; exact et) ev
            obtain ⟨vk, ek⟩ := y2 kk rfl
            have ovs : ∀ b, ownM (vs.map some) env0 b ↔ b = a := fun b => by
              constructor
              · rintro ⟨j, io, ds, e1', e2'⟩
                obtain ⟨z1, _, _⟩ := y4 j io ds e1'
                cases z1
                rw [List.getElem?_map, vk] at e2'
                cases e2'
                rfl
              · rintro rfl
                exact ⟨kk, true, di, ek, by rw [List.getElem?_map, vk]; rfl⟩
            have enter : RE (cc0 c.K c.mg H1 vs env0) L' (vs.map some) H1 env0 := by
              refine ⟨by rw [y1, List.length_map], fun j d z => ?_, fun j io ds z => ?_, fun j j' io jo ds es b z1 z2 _ _ => ?_, fun b lb => ⟨fun z => ?_, ?_⟩, fun b o _ e => e, fun b ib => ?_⟩
              · obtain ⟨v, ev', r⟩ := y3 j d z
                exact ⟨v, by rw [List.getElem?_map, ev']; rfl, r.mono (.refl H1) fun b ys g e => ⟨⟨g.1, fun z => g.2 ((ovs b).mp z)⟩, e⟩⟩
              · obtain ⟨z1, z2, z3⟩ := y4 j io ds z
                cases z1
                subst z2 z3
                exact ⟨a, xs, by rw [List.getElem?_map, vk]; rfl, ea, ra.mono (.refl H1) fun b ys g e => ⟨⟨(nL b g).1, fun z => (nL b g).2 ((ovs b).mp z)⟩, e⟩, (fun z => nomatch z), fun _ => ⟨(ovs a).mpr rfl, vk⟩⟩
              · have w1 := (y4 j io ds z1).1
                have w2 := (y4 j' jo es z2).1
                rw [w1] at w2
                exact Option.some.inj w2
              · have := (ovs b).mp z
                subst this
                exact (hLo b lb).elim (fun z => (r1.ext b z).1 oa) fun z => z.2 rfl
              · rcases hLo b lb with z | ⟨⟨j, io, ds, e1', e2'⟩, _⟩
                · exact (r1.ext b z).2
                · obtain ⟨b', ys, e3, e4, _⟩ := r1.own j io ds e1'
                  rw [e2'] at e3
                  cases e3
                  exact ⟨ys, e4⟩
              · have := (ovs b).mp ib
                subst this
                exact ⟨xs, ea⟩
            refine ⟨env0, L', enter, ?_⟩
            -- behind the call
            have back : ∀ {H' : Hp} {out : En} {ds' : List D} {S : Addr → Prop}, RE (cc0 c.K c.mg H1 vs env0) (fun b => L' b ∨ S b) (vs.map some) H' out → out[kk]? = some (Sl.own true ds') → ((others (some kk) ts).any isAl = false ∨ D.flats ds' = true) →
                (∀ b, S b → H1 b = none ∧ ∃ xs, H' b = some (.lst xs)) → RE c (fun b => L b ∨ S b) σ H' (e1.set i (.own bi ds')) ∧ Stp σ e1 H1 σ (e1.set i (.own bi ds')) H' := fun {H' out ds' S} rr eo fl hS => by
              obtain ⟨a', xs', e3, e4, r5, _⟩ := rr.own kk true ds' eo
              rw [List.getElem?_map, vk] at e3
              cases e3
              have kp : ∀ b o, b ≠ a → H1 b = some o → H' b = some o := fun b o ne e => rr.fr b o (fun z => ne ((ovs b).mp z)) e
              have Sa : ¬ S a := fun z => by rw [(hS a z).1] at ea; cases ea
              have ox : ownM (vs.map some) out a := ⟨kk, true, ds', eo, by rw [List.getElem?_map, vk]; rfl⟩
              have r6 : Reps c.K (Av (fun b => L b ∨ S b) σ e1) H' xs' ds' := by
                rcases fl with fl | fl
                · refine r5.mono (.refl H') fun b ys g e => ⟨⟨fun z => g.1 (z.imp (hL b) id), fun z => ?_⟩, e⟩
                  by_cases ne : b = a
                  · subst ne
                    exact g.2 ox
                  · exact g.1 (.inl (hown fl b z ne))
                · exact r5.flats fl
              -- by a heap between
              let Hx : Hp := fun b => if b = a then H1 a else H' b
              have hx : ∀ b, b ≠ a → Hx b = H' b := fun b ne => if_neg ne
              have hxa : Hx a = H1 a := if_pos rfl
              have rx : RE c (fun b => L b ∨ S b) σ Hx e1 := r1.mores (fun b o e => by
                by_cases ne : b = a
                · subst ne
                  exact hxa.trans e
                · exact (hx b ne).trans (kp b o ne e)) fun b sb => ⟨(hS b sb).1, by
                  rw [hx b fun z => Sa (by rw [← z]; exact sb)]
                  exact (hS b sb).2⟩
              obtain ⟨q1, q2⟩ := rx.put ei si (fun b o ne e => (hx b ne).symm.trans e) e4 r6
              refine ⟨q1, Stp.trans (fun b nb => ?_) q2⟩
              have ne : b ≠ a := fun z => nb (.inl (by rw [z]; exact oa))
              cases e : H1 b with
              | none => exact (nb (.inr e)).elim
              | some o => exact ⟨(hx b ne).trans (kp b o ne e), fun z => z.elim (fun z => nb (.inl z)) fun z => by rw [hx b ne, kp b o ne e] at z; cases z⟩
            have noS : ∀ {H' : Hp} {out : En}, RE (cc0 c.K c.mg H1 vs env0) L' (vs.map some) H' out → RE (cc0 c.K c.mg H1 vs env0) (fun b => L' b ∨ False) (vs.map some) H' out := fun r => r.less fun b z => z.elim id False.elim
            cases eg : g env0 with
            | er => rw [eg] at h1; exact h1.elim
            | ex y out =>
              rw [eg] at h1
              dsimp only at h1
              split at h1
              · rename_i ds' eo
                split at h1
                · rename_i fl
                  intro H' rr C hC
                  obtain ⟨q1, q2⟩ := back (noS rr) eo fl.2 fun b z => z.elim
                  exact h1 H' (q1.less fun b z => .inl z) q2 C hC
                · exact h1.elim
              · exact h1.elim
            | ok t out =>
              rw [eg] at h1
              dsimp only at h1
              split at h1
              · rename_i ds' eo
                split at h1
                · rename_i fl
                  intro v H' rr qt
                  have fl' : (others (some kk) ts).any isAl = false ∨ D.flats ds' = true := fl.2.2.imp id And.right
                  obtain ⟨q1, q2⟩ := back (noS rr) eo fl' fun b z => z.elim
                  have ox : ownM (vs.map some) out a := ⟨kk, true, ds', eo, by rw [List.getElem?_map, vk]; rfl⟩
                  refine h1 H' (q1.less fun b z => .inl z) q2 v ?_
                  refine (qt.home (c := c) rfl (fun j z => by subst z; cases fl.1) hL (fl.2.2.elim (fun z => .inr fun b ob => ?_) fun z => .inl z.1) (fun S rS hS => (back rS eo fl' hS).1) (fun a z => r1.h0 z)).less (fun _ z => z) fun a z => s1.back (.inr z)
                  by_cases ne : b = a
                  · subst ne
                    exact .inr ox
                  · exact .inl (hown z b ((own_put ei b).mp ob) ne)
                · exact h1.elim
              · exact h1.elim
theorem de_callI (kk : Nat) (F : FnOk X.prog X.w X.K X.mg X.base (L2.CX X.prog X.w) k f fd ps (spD X.K X.mg g)) (hr : Room k X.A) (hg : Gl X x) (hm : X.mg x = some (.ref f)) (hk : PySem.W.keepIn X.K (.ref f) = true) (hb : Binds X.K fd ps []) (tk : Takes X W)
    (ha : PA X (e :: es) (dA c W fa)) (hK : c.K = X.K := by rfl) (hM : c.mg = X.mg := by rfl) (hdb : (x == ("__debug__" : Str)) = false := by decide) (he : starEach (e :: es) X.env = (false, eval e X.env) :: starEach es X.env := by rfl) (hpl : (backTo pos (starEach es X.env)).any (·.1) = false := by rfl) :
    PE X (.Call (.Name x p) (e :: es) [] pos) (dE c W (eCallI kk g fa)) :=
  PEw (pe_callS F hr hg hm hk hb (fun σ => passAt tk σ) ha hdb he hpl) (by rw [← hK, ← hM]; exact d_callI)
end
end DL
/-! enumerate over a tuple -/
namespace PySem
open AutoSeq1 (wpAny_loadPart')
theorem enum1_begins {v : Value} {o : Obj} {H : Heap → Prop} (B : Begins v o H) :
    Meets (Builtin.«enumerate.__new__» ⟨[.type "enumerate", v], []⟩) (fun _ R s => H s.heap ∧
      R (.ok (.ret (.ref (s.heap.push o).objs.size))) { s with heap := (s.heap.push o).push { cls := .type "enumerate", data := .fields #[.none, .bool false, .ref s.heap.objs.size, rawInt 0, .none, .none] } }) :=
  .of_wp fun prog w A R s h => by
    obtain ⟨hp, g, d, tk, os⟩ := s; obtain ⟨h1, h⟩ := h
    have hsub := sub_enumerate
    have q1 : ∀ {A' : Around} {E : Value → Shared → Prop} {Q : Value → Shared → Prop}, Q (.ref hp.objs.size) ⟨hp.push o, g, d, tk, os⟩ → wpAny (model prog w) A' (pyIter v) Q E ⟨hp, g, d, tk, os⟩ :=
      fun q => B.iter prog w _ _ ⟨hp, g, d, tk, os⟩ _ h1 q
    wp_walk using q1
    refine wpAny_stack_any fun st => wpAny_pure ?_
    split
    · rename_i c _ _ _ _ _
      cases (c == Value.type "enumerate")
      · wp_walk using q1
        exact ⟨_, rfl, h⟩
      · wp_walk using q1
        exact ⟨_, rfl, h⟩
    · wp_walk using q1
      exact ⟨_, rfl, h⟩
theorem call_enum1_tuple {prog : Program} {w : World} {A : Around} {E : Value → Shared → Prop} {s : Shared} {t : Addr} {items : Array Value} {Q : Value → Shared → Prop} (hL : s.heap.IsTuple t items)
    (h : ∀ h', IsEnum h' (s.heap.objs.size + 1) s.heap.objs.size 0 .none → h'.IsTupleIter s.heap.objs.size t 0 → h'.objs.size = s.heap.objs.size + 2 →
      (∀ b o, s.heap.get? b = some o → h'.get? b = some o) → Q (.ref (s.heap.objs.size + 1)) { s with heap := h' }) :
    wpAny (model prog w) A (call (.type "enumerate") [.ref t]) Q E s := by
  refine callType_new F.called_enumerate (by decide) (F.typeCall_enumerate_1 _) (F.newCall_enumerate_1 _) (fun obj => F.args_object_init_2 obj _) F.entry_enumerate_new
    (enum1_begins (begins_tuple t items)) ⟨hL, ?_⟩
  have hz : (s.heap.push { cls := .type "tuple_iterator", data := .fields #[.ref t, .int 0 0] }).objs.size = s.heap.objs.size + 1 := Heap.size_push ..
  show _ ∧ _
  rw [hz]
  have he : IsEnum ((s.heap.push { cls := .type "tuple_iterator", data := .fields #[.ref t, .int 0 0] }).push
      { cls := .type "enumerate", data := .fields #[.none, .bool false, .ref s.heap.objs.size, rawInt 0, .none, .none] }) (s.heap.objs.size + 1) s.heap.objs.size 0 .none := by
    have := Heap.get?_push_size (s.heap.push { cls := .type "tuple_iterator", data := .fields #[.ref t, .int 0 0] })
      (o := { cls := .type "enumerate", data := .fields #[.none, .bool false, .ref s.heap.objs.size, rawInt 0, .none, .none] }) rfl
    rw [hz] at this; exact this
  refine ⟨⟨_, he, rfl⟩, h _ he ⟨_, Heap.get?_push_of_some _ (Heap.get?_push_size _ rfl), rfl, rfl⟩ (by rw [Heap.size_push, hz]) fun b o x => Heap.get?_push_of_some _ (Heap.get?_push_of_some _ x)⟩
end PySem
namespace L2
open PySem PySem.Spec PyProof.Rows
def IteT (K : PySem.W.Frag) (a : Addr) : It :=
  ⟨fun i H => ∃ (xs : List V) (x : V), SqT K H a xs ∧ xs[i]? = some x, fun i H v H' => ∃ T x, v = .ref T ∧ H T = none ∧ H' = upd H T (.tup [.int (i : Nat), x]) ∧ ∀ xs, SqT K H a xs → xs[i]? = some x, fun i H => ∃ xs : List V, SqT K H a xs ∧ xs.length ≤ i⟩
theorem turn_enumT {P : Program} {w : World} {K : PySem.W.Frag} {elts : List Expr} {kk : Nat} {tpos : Pos} (a e it : Addr) :
    Turn P w K (.Tuple elts kk tpos) (IteT K a) [e, it] e (fun i h => (∃ old, IsEnum h e it ((i : Nat) : Int) old) ∧ h.IsTupleIter it a i ∧ e ≠ it) where
  mem := by simp
  obj := fun i h st b hb => by
    obtain ⟨⟨old, he⟩, ⟨o, ho, hc, hd⟩, _⟩ := st
    have e' : b = e ∨ b = it := by simpa using hb
    rcases e' with z | z
    · rw [z]; exact ⟨_, he, fun v q => nomatch q⟩
    · rw [z]; exact ⟨o, ho, fun v q => by rw [hd] at q; cases q⟩
  keep := fun i h h' st k => let ⟨⟨old, he⟩, hi, hne⟩ := st; ⟨⟨old, k e (by simp) _ he⟩, hi.at fun o q => k it (by simp) o q, hne⟩
  item := by
    intro X hP hw hK hc i pins s σ H E I hf st hg
    subst hP hw hK
    obtain ⟨⟨old, he⟩, hit, hne⟩ := st
    obtain ⟨xs, x, hq, hx⟩ := hg
    obtain ⟨its, rv, p, hz⟩ := I.tuple hq
    obtain ⟨u, hu, ru⟩ := rv.get hx
    have hel : e < s.heap.objs.size := Heap.lt_size he
    have hil : it < s.heap.objs.size := by obtain ⟨_, q, _⟩ := hit; exact Heap.lt_size q
    have hea : e ≠ a := fun z => by
      obtain ⟨o, ho, hc', _⟩ := p
      rw [← z, he] at ho
      cases ho
      exact absurd hc' (by simp)
    have hia : a ≠ it := fun z => by
      obtain ⟨o, ho, hc', _⟩ := p
      obtain ⟨o', ho', hc'', _⟩ := hit
      rw [z, ho'] at ho
      cases ho
      rw [hc''] at hc'
      exact absurd hc' (by simp)
    have p' : s.heap.IsTuple a its.toArray := p
    have hlt : i < its.toArray.size := by
      have := (List.getElem?_eq_some_iff.mp hu).1
      simpa using this
    refine wpAny_pyNext_enum_itemD (Draws.tuple (A := X.A.in1) (I.ok.hd hc) it a hia its.toArray) he ⟨hit, p'⟩ hlt hne (by simp; exact ⟨hne, hea⟩) fun x' h' tk hx' ho st' hT hsz hk => ?_
    have ex : x' = u := by
      have h1 : its[i]? = some x' := by simpa using hx'
      rw [hu] at h1
      exact (Option.some.inj h1).symm
    subst ex
    refine ⟨_, rfl, wpAny_letOwnedTupleGo_enum (s := { s with heap := h', toks := tk + 1 }) ho fun h'' he' sb => ?_⟩
    have hT2 : h''.get? s.heap.objs.size = some { cls := .type "tuple", data := .seq #[.int i tk, x'] } := (sb.2 _ (Nat.ne_of_gt hel)).trans hT
    have new : ObjOk X.prog X.w (upd H s.heap.objs.size (.tup [.int (i : Nat), x])) h'' s.heap.objs.size (.tup [.int (i : Nat), x]) :=
      ⟨by show 2 ≤ sizeLine; decide, [.int i tk, x'], .cons ⟨_, rfl⟩ (.cons ru .nil), ⟨_, hT2, rfl, _, rfl⟩⟩
    have I1 : Inv X pins σ (upd H s.heap.objs.size (.tup [.int (i : Nat), x])) { s with heap := h'', toks := tk + 1 } :=
      I.turnedNew (ch := [e, it]) (fun b ob hb q => (sb.2 b (fun z => hb (by simp [z]))).trans (hk b ob (fun z => hb (by simp [z])) (fun z => hb (by simp [z])) q)) hf (Nat.le_refl _) new
    refine ⟨.ref s.heap.objs.size, _, I1, rfl, ⟨_, x, rfl, I.hok.fresh (Nat.le_refl _), rfl, fun ys hy => by rw [I.tuple_inj hy hq]; exact hx⟩, ⟨⟨x', ?_⟩, st'.1.at fun o q => (sb.2 it (Ne.symm hne)).trans q, hne⟩, fun b hb => ?_⟩
    · have e1 : ((i + 1 : Nat) : Int) = (i : Int) + 1 := by omega
      rw [e1]; exact he'
    · have hb' : b < s.heap.objs.size := by
        have e' : b = e ∨ b = it := by simpa using hb
        rcases e' with z | z
        · rw [z]; exact hel
        · rw [z]; exact hil
      rw [upd_ne (Nat.ne_of_lt hb')]
      exact (hf b hb).1
  done := by
    intro X hP hw hK hc i pins s σ H E I hf st hg
    subst hP hw hK
    obtain ⟨⟨old, he⟩, hit, hne⟩ := st
    obtain ⟨xs, hq, hx⟩ := hg
    obtain ⟨its, rv, p, hz⟩ := I.tuple hq
    obtain ⟨f0, f1, f2, f3, f4, f5⟩ := hf it (by simp)
    have hl := rv.length
    have p' : s.heap.IsTuple a its.toArray := p
    have hT : s.TypeIs (.ref e) "enumerate" := ⟨_, he, rfl⟩
    unfold pyNext
    refine wpAny_bind (wpAny_attempt (wpAny_callSpecial?_slot (name := Str.ofString "__next__") hT F.slot_enumerate_next
      (wpAny_call_entry F.slot_enumerate_next hT F.entry_enumerate_next ?_ (F.args_enumerate_next_1 _))))
    show wpAny _ _ (field (.ref e) 2 >>= _) _ _ _
    refine wpAny_bind (wpAny_field he rfl (x := .ref it) rfl ?_)
    refine wpAny_bind (wpAny_nextOf_tuple_end (I.ok.hd hc) hit p' (by simp; omega) fun h' x eb hx' => ?_)
    obtain ⟨o, ho, hcc⟩ := hx'
    refine wpAny_bind (wpAny_isInstance (T := "StopIteration") (b := true) ⟨o, ho, hcc⟩ isSubtype_stop ?_)
    exact wpAny_pure ⟨rfl, I.turned (t' := s.toks) (fun b o hb q => eb b o hb q) f0 f1 f3 f4 f5⟩
  self := fun A i s Q E st h => let ⟨⟨_, he⟩, _⟩ := st; wpAny_pyIter_enum he h
/-- enumerate of a list or of a tuple -/
def iEnumA (K : PySem.W.Frag) (ta : TA) : TI := fun σ H R => ta σ H fun vs H1 => ∃ a xs, vs = [.ref a] ∧ ((SqL K H1 a xs ∧ R (Ite K a) H1) ∨ (SqT K H1 a xs ∧ R (IteT K a) H1))
theorem pi_enumA {X : Cx} {e : Expr} {ta : TA} {p pos tpos : Pos} {elts : List Expr} {kk : Nat} (hg : Gl X "enumerate") (hm : X.mg "enumerate" = none) (ha : PA X [e] ta) (hs : starEach [e] X.env = [(false, eval e X.env)] := by rfl) :
    PI X (.Tuple elts kk tpos) (.Call (.Name "enumerate" p) [e] [] pos) (iEnumA X.K ta) := by
  refine ⟨fun pins s σ H R I h => ?_⟩
  refine Call_ (ld_blt I hg hm boot_enumerate (PyProof.Rows.callWith_type1 (thn (ha.run pos pins s σ H _ I h) fun us s1 ⟨vs, H1, I1, r1, q1⟩ => ?_) hs rfl))
  obtain ⟨a, xs, ex, hq⟩ := q1
  subst ex
  cases r1 with
  | cons r rr =>
    cases rr
    cases r
    have fin : ∀ (b : Addr), (b = s1.heap.objs.size + 1 ∨ b = s1.heap.objs.size) → s1.heap.objs.size ≤ b := fun b e' => by
      rcases e' with z | z
      · rw [z]; exact Nat.le_add_right _ _
      · rw [z]; exact Nat.le_refl _
    rcases hq with ⟨hq, q⟩ | ⟨hq, q⟩
    · obtain ⟨its, rv, p', hz⟩ := I1.list hq
      refine call_enumerate_list p'.isList fun h' he hit hsz hk => wpAny_pyIter_enum he ?_
      have I2 : Inv X pins σ H1 { s1 with heap := h' } := I1.kept (t' := s1.toks) hk
      refine ⟨s1.heap.objs.size + 1, [s1.heap.objs.size + 1, s1.heap.objs.size], _, _, H1, rfl, I2, turn_enum a (s1.heap.objs.size + 1) s1.heap.objs.size, ⟨⟨.none, he⟩, hit, Nat.succ_ne_self _⟩, fun b hb => ?_, q⟩
      have hle := fin b (by simpa using hb)
      exact I1.fpOk hle (I1.hok.fresh hle)
    · obtain ⟨its, rv, p', hz⟩ := I1.tuple hq
      refine call_enum1_tuple (show s1.heap.IsTuple a its.toArray from p') fun h' he hit hsz hk => wpAny_pyIter_enum he ?_
      have I2 : Inv X pins σ H1 { s1 with heap := h' } := I1.kept (t' := s1.toks) hk
      refine ⟨s1.heap.objs.size + 1, [s1.heap.objs.size + 1, s1.heap.objs.size], _, _, H1, rfl, I2, turn_enumT a (s1.heap.objs.size + 1) s1.heap.objs.size, ⟨⟨.none, he⟩, hit, Nat.succ_ne_self _⟩, fun b hb => ?_, q⟩
      have hle := fin b (by simpa using hb)
      exact I1.fpOk hle (I1.hok.fresh hle)
end L2
namespace DL
open PySem PySem.Spec L2

/-! ### statements -/
inductive Fl where
  | er | nx (e : En) | rt (t : T) (e : En) | bk (e : En) | ct (e : En) | ex (x : Str) (e : En)
abbrev FS := En → Fl
abbrev FG := T → En → Fl
def R.bindF {α : Type} (r : R α) (g : α → En → Fl) : Fl := match r with
  | .er => .er
  | .ex x e => .ex x e
  | .ok a e => g a e
@[simp] theorem bindF_ok {α : Type} (a : α) (e : En) (g : α → En → Fl) : R.bindF (.ok a e) g = g a e := rfl
@[simp] theorem bindF_er {α : Type} (g : α → En → Fl) : R.bindF .er g = .er := rfl
@[simp] theorem bindF_ex {α : Type} (x : Str) (e : En) (g : α → En → Fl) : R.bindF (.ex x e) g = .ex x e := rfl
def Fl.seq (r : Fl) (g : FS) : Fl := match r with
  | .nx e => g e
  | r => r
@[simp] theorem seq_nx (e : En) (g : FS) : Fl.seq (.nx e) g = g e := rfl
@[simp] theorem seq_rt (t : T) (e : En) (g : FS) : Fl.seq (.rt t e) g = .rt t e := rfl
@[simp] theorem seq_er (g : FS) : Fl.seq .er g = .er := rfl
@[simp] theorem seq_bk (e : En) (g : FS) : Fl.seq (.bk e) g = .bk e := rfl
@[simp] theorem seq_ct (e : En) (g : FS) : Fl.seq (.ct e) g = .ct e := rfl
@[simp] theorem seq_ex (x : Str) (e : En) (g : FS) : Fl.seq (.ex x e) g = .ex x e := rfl
abbrev Sp0 := St → En → Hp → Prop
def sK (c : Cc) (W : WX) (L : Addr → Prop) (S : Sp0) (N : Addr → Prop) (r : Fl) (D : Ends) : Prop := match r with
  | .er => False
  | .nx e => ∀ σ' H', RE c L σ' H' e → S σ' e H' → D.nx σ' H'
  | .bk e => ∀ σ' H', RE c L σ' H' e → S σ' e H' → D.bk σ' H'
  | .ct e => ∀ σ' H', RE c L σ' H' e → S σ' e H' → D.ct σ' H'
  | .rt t e => ∀ v σ' H', RE c L σ' H' e → S σ' e H' → RepT c L N σ' H' e v t → D.rt v H'
  | .ex x e => ∀ σ' H', RE c L σ' H' e → S σ' e H' → Wx c.mg W x σ' H'
def dS (c : Cc) (W : WX) (f : FS) : TS := fun D σ H => ∃ env L, RE c L σ H env ∧ sK c W L (Stp σ env H) (Nn σ env H) (f env) D
section
variable {c : Cc} {W : WX} {L : Addr → Prop} {σ : St} {H : Hp} {env : En} {D : Ends}
theorem dS.of {f : FS} (r : RE c L σ H env) (h : sK c W L (Stp σ env H) (Nn σ env H) (f env) D) : dS c W f D σ H := ⟨env, L, r, h⟩
theorem sK.bind {α : Type} {r : R α} {g : α → En → Fl} (h : sK c W L (Stp σ env H) (Nn σ env H) (r.bindF g) D) : dK c W L σ H env r fun a e1 H1 => sK c W L (Stp σ env H) (Nn σ env H) (g a e1) D := by
  cases r with
  | er => exact h
  | ex x e => exact fun H' r s => h σ H' r s
  | ok a e => exact fun H' r s => h
theorem sK.imp {S S' : Sp0} {N N' : Addr → Prop} {r : Fl} (h : sK c W L S N r D) (hS : ∀ σ e H, S' σ e H → S σ e H) (hN : ∀ a, N' a → N a) : sK c W L S' N' r D := by
  cases r with
  | er => exact h
  | nx e => exact fun σ' H' r s => h σ' H' r (hS _ _ _ s)
  | bk e => exact fun σ' H' r s => h σ' H' r (hS _ _ _ s)
  | ct e => exact fun σ' H' r s => h σ' H' r (hS _ _ _ s)
  | rt t e => exact fun v σ' H' r s q => h v σ' H' r (hS _ _ _ s) (q.less (fun _ z => z) hN)
  | ex x e => exact fun σ' H' r s => h σ' H' r (hS _ _ _ s)
/-- from here on -/
theorem sK.here {r : Fl} {σ1 : St} {e1 : En} {H1 : Hp} (h : sK c W L (Stp σ env H) (Nn σ env H) r D) (s1 : Stp σ env H σ1 e1 H1) : sK c W L (Stp σ1 e1 H1) (Nn σ1 e1 H1) r D :=
  h.imp (fun _ _ _ s => s1.trans s) fun _ n => s1.back n
end
def sNx : FS := fun env => .nx env
def sSeq (f g : FS) : FS := fun env => (f env).seq g
def sIf (ft : FT) (f g : FS) : FS := fun env => (ft env).bindF fun b e => bif b then f e else g e
def sRet (fa : FE) : FS := fun env => (fa env).bindF fun t e => .rt t e
def sRetN : FS := fun env => .rt (.im .non) env
def sDrop (fa : FE) : FS := fun env => (fa env).bindF fun _ e => .nx e
def sBk : FS := fun env => .bk env
def sCt : FS := fun env => .ct env
def sEr : FS := fun _ => .er
section
variable {X : Cx} {c : Cc} {W : WX} {st : Stmt} {rest a b : List Stmt} {f g : FS} {fa : FE} {ft : FT} {e : Expr} {pos : Pos}
theorem dss_nil : PSs X [] (dS c W sNx) := PSsw pss_nil fun D σ H h => by
  obtain ⟨env, L, r, h⟩ := h
  exact h σ H r .refl
theorem ds_pass : PS X (.Pass pos) (dS c W sNx) := PSw ps_pass fun D σ H h => by
  obtain ⟨env, L, r, h⟩ := h
  exact h σ H r .refl
theorem ds_break : PS X (.Break pos) (dS c W sBk) := PSw ps_break fun D σ H h => by
  obtain ⟨env, L, r, h⟩ := h
  exact h σ H r .refl
theorem ds_continue : PS X (.Continue pos) (dS c W sCt) := PSw ps_continue fun D σ H h => by
  obtain ⟨env, L, r, h⟩ := h
  exact h σ H r .refl
theorem ds_doc {x j pos pos'} : PS X (.Expr (.Constant (.str x) j pos) pos') (dS c W sNx) := PSw ps_doc fun D σ H h => by
  obtain ⟨env, L, r, h⟩ := h
  exact h σ H r .refl
theorem ds_never : PS X st (dS c W sEr) := PSw ps_never fun D σ H h => by
  obtain ⟨env, L, r, h⟩ := h
  exact h
theorem dss_cons (h1 : PS X st (dS c W f)) (h2 : PSs X rest (dS c W g)) : PSs X (st :: rest) (dS c W (sSeq f g)) := PSsw (pss_cons h1 h2) fun D σ H h => by
  obtain ⟨env, L, r, h⟩ := h
  refine dS.of r ?_
  unfold sSeq at h
  cases q : f env with
  | er => rw [q] at h; exact h
  | nx e =>
    rw [q] at h
    exact fun σ' H' r' s' => dS.of r' (h.here s')
  | rt t e => rw [q] at h; exact h
  | bk e => rw [q] at h; exact h
  | ct e => rw [q] at h; exact h
  | ex x e => rw [q] at h; exact h
theorem dss_one (h1 : PS X st (dS c W f)) : PSs X [st] (dS c W f) := pss_one h1
theorem ds_if {t : Expr} (hc : PT X t (dT c W ft)) (ha : PSs X a (dS c W f)) (hb : PSs X b (dS c W g)) : PS X (.If t a b pos) (dS c W (sIf ft f g)) := PSw (ps_if hc ha hb) fun D σ H h => by
  obtain ⟨env, L, r, h⟩ := h
  refine dT.of r (h.bind.mono fun b e1 H1 r1 s1 h1 => ?_)
  cases b with
  | true => rw [if_pos rfl]; exact dS.of r1 (h1.here s1)
  | false => rw [if_neg Bool.false_ne_true]; exact dS.of r1 (h1.here s1)
theorem ds_ret (he : PE X e (dE c W fa)) : PS X (.Return (some e) pos) (dS c W (sRet fa)) := PSw (ps_ret he) fun D σ H h => by
  obtain ⟨env, L, r, h⟩ := h
  exact dE.of r (h.bind.mono fun t e1 H1 r1 s1 h1 v q => h1 v σ H1 r1 s1 q)
theorem ds_retN : PS X (.Return none pos) (dS c W sRetN) := PSw ps_retN fun D σ H h => by
  obtain ⟨env, L, r, h⟩ := h
  exact h _ σ H r .refl .non
theorem ds_expr (he : PE X e (dE c W fa)) (hs : swapsWith e none pos.line X.env = pure false := by rfl) : PS X (.Expr e pos) (dS c W (sDrop fa)) := PSw (ps_expr he hs) fun D σ H h => by
  obtain ⟨env, L, r, h⟩ := h
  exact dE.of r (h.bind.mono fun t e1 H1 r1 s1 h1 v q => h1 σ H1 r1 s1)
end

/-! ### targets -/
/-- a step in which also what N tells may have changed -/
def StpN (N : Addr → Prop) (σ : St) (env : En) (H : Hp) (σ' : St) (env' : En) (H' : Hp) : Prop := ∀ b, ¬ Nn σ env H b → ¬ N b → H' b = H b ∧ ¬ Nn σ' env' H' b
theorem StpN.after {σ σ1 σ2 : St} {env e1 e2 : En} {H H1 H2 : Hp} (s : Stp σ env H σ1 e1 H1) (n : StpN (Nn σ env H) σ1 e1 H1 σ2 e2 H2) : Stp σ env H σ2 e2 H2 := fun b nb => by
  obtain ⟨q1, q2⟩ := s b nb
  obtain ⟨q3, q4⟩ := n b q2 nb
  exact ⟨q3.trans q1, q4⟩
theorem StpN.of {N : Addr → Prop} {σ σ' : St} {env env' : En} {H H' : Hp} (s : Stp σ env H σ' env' H') : StpN N σ env H σ' env' H' := fun b n _ => s b n
theorem StpN.trans {N : Addr → Prop} {σ σ1 σ2 : St} {env e1 e2 : En} {H H1 H2 : Hp} (a : StpN N σ env H σ1 e1 H1) (b : StpN N σ1 e1 H1 σ2 e2 H2) : StpN N σ env H σ2 e2 H2 := fun x n m => by
  obtain ⟨q1, q2⟩ := a x n m
  obtain ⟨q3, q4⟩ := b x q2 m
  exact ⟨q3.trans q1, q4⟩
def dG (c : Cc) (g : FG) : TG := fun v σ H Q => ∃ env L N t, RE c L σ H env ∧ RepT c L N σ H env v t ∧ match g t env with
  | .nx e => ∀ σ' H', RE c L σ' H' e → StpN N σ env H σ' e H' → Q σ' H'
  | _ => False
def sAsg (fa : FE) (g : FG) : FS := fun env => (fa env).bindF fun t e => match g t e with
  | .nx e => .nx e
  | _ => .er
section
variable {c : Cc} {L : Addr → Prop} {σ : St} {H : Hp} {env : En}
theorem own_set {i : Nat} {v : V} {s : Sl} {b : Addr} (h : ownM (σ.set i (some v)) (env.set i s) b) : (ownM σ env b ∧ ∀ (io : Bool) (ds : List D), True) ∨ (v = .ref b ∧ ∃ (io : Bool) (ds : List D), s = .own io ds) := by
  obtain ⟨j, io, ds, e1, e2⟩ := h
  by_cases q : i = j
  · subst q
    rw [List.getElem?_set] at e1 e2
    simp only [if_true] at e1 e2
    split at e1
    · split at e2
      · cases e1
        cases e2
        exact .inr ⟨rfl, io, ds, rfl⟩
      · cases e2
    · cases e1
  · rw [List.getElem?_set_ne q] at e1 e2
    exact .inl ⟨⟨j, io, ds, e1, e2⟩, fun _ _ => trivial⟩
theorem RE.setIm {i : Nat} {v : V} {d : D} (h : RE c L σ H env) (r : Rep c.K (Av L σ env) H v d) : RE c L (σ.set i (some v)) H (env.set i (.im d)) ∧ Stp σ env H (σ.set i (some v)) (env.set i (.im d)) H := by
  have sub : ∀ b, ownM (σ.set i (some v)) (env.set i (.im d)) b → ownM σ env b := fun b z => by
    rcases own_set z with z | ⟨_, io, ds, z⟩
    · exact z.1
    · cases z
  have av : ∀ b, Av L σ env b → Av L (σ.set i (some v)) (env.set i (.im d)) b := fun b g => ⟨g.1, fun z => g.2 (sub b z)⟩
  have st : Stp σ env H (σ.set i (some v)) (env.set i (.im d)) H := fun b n => ⟨rfl, fun z => n (z.imp (sub b) id)⟩
  have get : ∀ {j : Nat} {s : Sl}, (env.set i (.im d))[j]? = some s → (j = i ∧ s = .im d ∧ i < env.length) ∨ (j ≠ i ∧ env[j]? = some s) := fun {j s} q => by
    by_cases z : i = j
    · subst z
      rw [List.getElem?_set] at q
      simp only [if_true] at q
      split at q
      · rename_i hi
        cases q
        exact .inl ⟨rfl, rfl, hi⟩
      · cases q
    · rw [List.getElem?_set_ne z] at q
      exact .inr ⟨fun y => z y.symm, q⟩
  refine ⟨⟨by rw [List.length_set, List.length_set]; exact h.len, fun j d' q => ?_, fun j io ds q => ?_, fun j k io jo ds es a q1 q2 q3 q4 => ?_, fun b lb => ⟨fun z => (h.ext b lb).1 (sub b z), (h.ext b lb).2⟩, h.fr, h.io⟩, st⟩
  · rcases get q with ⟨rfl, z, hi⟩ | ⟨ne, q⟩
    · cases z
      exact ⟨v, by rw [List.getElem?_set_self (by rw [← h.len]; exact hi)], r.mono (.refl H) fun b xs g e => ⟨av b g, e⟩⟩
    · obtain ⟨v', e1, r'⟩ := h.im j d' q
      exact ⟨v', by rw [List.getElem?_set_ne (Ne.symm ne)]; exact e1, r'.mono (.refl H) fun b xs g e => ⟨av b g, e⟩⟩
  · rcases get q with ⟨rfl, z, hi⟩ | ⟨ne, q⟩
    · cases z
    · obtain ⟨a, xs, e1, e2, r', z⟩ := h.own j io ds q
      exact ⟨a, xs, by rw [List.getElem?_set_ne (Ne.symm ne)]; exact e1, e2, r'.mono (.refl H) fun b xs g e => ⟨av b g, e⟩, z⟩
  · rcases get q1 with ⟨rfl, z, hi⟩ | ⟨ne1, q1⟩
    · cases z
    · rcases get q2 with ⟨rfl, z, hi⟩ | ⟨ne2, q2⟩
      · cases z
      · rw [List.getElem?_set_ne (Ne.symm ne1)] at q3
        rw [List.getElem?_set_ne (Ne.symm ne2)] at q4
        exact h.inj j k io jo ds es a q1 q2 q3 q4
theorem RE.setFr {i : Nat} {a : Addr} {xs : List V} {ds : List D} {N : Addr → Prop} (h : RE c (fun b => L b ∨ b = a) σ H env) (ea : H a = some (.lst xs)) (r : Reps c.K (Av (fun b => L b ∨ b = a) σ env) H xs ds) (nl : ¬ L a) (h0 : c.H0 a = none) (n : N a) :
    RE c L (σ.set i (some (.ref a))) H (env.set i (.own false ds)) ∧ StpN N σ env H (σ.set i (some (.ref a))) (env.set i (.own false ds)) H := by
  have sub : ∀ b, ownM (σ.set i (some (.ref a))) (env.set i (.own false ds)) b → ownM σ env b ∨ b = a := fun b z => by
    rcases own_set z with z | ⟨z, _⟩
    · exact .inl z.1
    · cases z
      exact .inr rfl
  have av : ∀ b, Av (fun b => L b ∨ b = a) σ env b → Av L (σ.set i (some (.ref a))) (env.set i (.own false ds)) b := fun b g => ⟨fun z => g.1 (.inl z), fun z => (sub b z).elim g.2 fun z => g.1 (.inr z)⟩
  have get : ∀ {j : Nat} {s : Sl}, (env.set i (.own false ds))[j]? = some s → (j = i ∧ s = .own false ds ∧ i < env.length) ∨ (j ≠ i ∧ env[j]? = some s) := fun {j s} q => by
    by_cases z : i = j
    · subst z
      rw [List.getElem?_set] at q
      simp only [if_true] at q
      split at q
      · rename_i hi
        cases q
        exact .inl ⟨rfl, rfl, hi⟩
      · cases q
    · rw [List.getElem?_set_ne z] at q
      exact .inr ⟨fun y => z y.symm, q⟩
  have na : ¬ ownM σ env a := (h.ext a (.inr rfl)).1
  refine ⟨⟨by rw [List.length_set, List.length_set]; exact h.len, fun j d' q => ?_, fun j io es q => ?_, fun j k io jo es fs b q1 q2 q3 q4 => ?_, fun b lb => ⟨fun z => (sub b z).elim (h.ext b (.inl lb)).1 fun z => nl (by rw [← z]; exact lb), (h.ext b (.inl lb)).2⟩, h.fr, h.io⟩, fun b nb nN => ⟨rfl, fun z => z.elim (fun z => (sub b z).elim (fun z => nb (.inl z)) fun z => nN (by rw [z]; exact n)) fun z => nb (.inr z)⟩⟩
  · rcases get q with ⟨rfl, z, hi⟩ | ⟨ne, q⟩
    · cases z
    · obtain ⟨v', e1, r'⟩ := h.im j d' q
      exact ⟨v', by rw [List.getElem?_set_ne (Ne.symm ne)]; exact e1, r'.mono (.refl H) fun b xs g e => ⟨av b g, e⟩⟩
  · rcases get q with ⟨rfl, z, hi⟩ | ⟨ne, q⟩
    · cases z
      exact ⟨a, xs, by rw [List.getElem?_set_self (by rw [← h.len]; exact hi)], ea, r.mono (.refl H) (fun b xs g e => ⟨av b g, e⟩), fun _ => h0, fun z => nomatch z⟩
    · obtain ⟨b, ys, e1, e2, r', z⟩ := h.own j io es q
      exact ⟨b, ys, by rw [List.getElem?_set_ne (Ne.symm ne)]; exact e1, e2, r'.mono (.refl H) (fun b xs g e => ⟨av b g, e⟩), z⟩
  · have own : ∀ {j : Nat} {io : Bool} {es : List D}, j ≠ i → env[j]? = some (Sl.own io es) → (σ.set i (some (V.ref a)))[j]? = some (some (V.ref b)) → ownM σ env b ∧ σ[j]? = some (some (V.ref b)) := fun {j io es} ne q z => by
      rw [List.getElem?_set_ne (Ne.symm ne)] at z
      exact ⟨⟨j, io, es, q, z⟩, z⟩
    have at_ : ∀ {j : Nat}, j = i → i < env.length → (σ.set i (some (V.ref a)))[j]? = some (some (V.ref b)) → b = a := fun {j} e hi z => by
      subst e
      rw [List.getElem?_set_self (by rw [← h.len]; exact hi)] at z
      cases z
      rfl
    rcases get q1 with ⟨e1, z1, hi1⟩ | ⟨ne1, q1⟩
    · rcases get q2 with ⟨e2, z2, hi2⟩ | ⟨ne2, q2⟩
      · rw [e1, e2]
      · have := at_ e1 hi1 q3
        subst this
        exact (na (own ne2 q2 q4).1).elim
    · rcases get q2 with ⟨e2, z2, hi2⟩ | ⟨ne2, q2⟩
      · have := at_ e2 hi2 q4
        subst this
        exact (na (own ne1 q1 q3).1).elim
      · exact h.inj j k io jo es fs b q1 q2 (own ne1 q1 q3).2 (own ne2 q2 q4).2
end
def gN (i : Nat) : FG := fun t env => match t with
  | .im d => .nx (env.set i (.im d))
  | .fr ds => .nx (env.set i (.own false ds))
  | .ft cs => .nx (env.set i (.im (.tup (cs.map Cp.d))))
  | .al j => match env[j]? with
    | some (.own false ds) => .nx ((env.set j .no).set i (.own false ds))
    | _ => .er
@[simp] theorem gN_im (i : Nat) (d : D) (env : En) : gN i (.im d) env = .nx (env.set i (.im d)) := rfl
@[simp] theorem gN_fr (i : Nat) (ds : List D) (env : En) : gN i (.fr ds) env = .nx (env.set i (.own false ds)) := rfl
@[simp] theorem gN_ft (i : Nat) (cs : List Cp) (env : En) : gN i (.ft cs) env = .nx (env.set i (.im (.tup (cs.map Cp.d)))) := rfl
section
variable {X : Cx} {c : Cc} {W : WX} {pos p : Pos} {e tg : Expr} {fa : FE} {g : FG}
theorem d_gN {i : Nat} : ∀ v σ H Q, dG c (gN i) v σ H Q → gName i v σ H Q := fun v σ H Q h => by
  obtain ⟨env, L, N, t, r, q, h⟩ := h
  cases t with
  | im d =>
    obtain ⟨q1, q2⟩ := r.setIm (i := i) q
    exact h _ _ q1 (.of q2)
  | ft cs =>
    obtain ⟨q1, q2⟩ := r.setIm (i := i) q.wk
    exact h _ _ q1 (.of q2)
  | fr ds =>
    obtain ⟨a, xs, rfl, e1, rr, n1, n2, n3, re⟩ := q
    obtain ⟨q1, q2⟩ := re.setFr (i := i) (N := N) e1 rr n1 n2 n3
    exact h _ _ q1 q2
  | al j =>
    obtain ⟨⟨io, ds, e1⟩, e2⟩ := q
    simp only [gN, e1] at h
    cases io with
    | true => exact h.elim
    | false =>
      obtain ⟨a, xs, e3, e4, rr, f0, _⟩ := r.own j false ds e1
      rw [e2] at e3
      cases e3
      obtain ⟨hd, sd⟩ := r.drop e1 e2
      have oa : ownM σ env a := ⟨j, false, ds, e1, e2⟩
      have rr' : Reps c.K (Av (fun b => L b ∨ b = a) σ (env.set j .no)) H xs ds := rr.mono (.refl H) fun b ys g e => ⟨⟨fun z => z.elim g.1 fun z => g.2 (by rw [z]; exact oa), fun z => g.2 (own_set_no z).1⟩, e⟩
      obtain ⟨q1, q2⟩ := hd.setFr (i := i) (N := Nn σ env H) e4 rr' (fun z => (r.ext a z).1 oa) (f0 rfl) (.inl oa)
      refine h _ _ q1 (.of fun b nb => ?_)
      obtain ⟨y1, y2⟩ := sd b nb
      obtain ⟨y3, y4⟩ := q2 b y2 nb
      exact ⟨y3.trans y1, y4⟩
theorem PGw {t t' : TG} (h : PG X tg t) (k : ∀ v σ H Q, t' v σ H Q → t v σ H Q) : PG X tg t' := ⟨fun pins s σ H v u Q I r q => h.run pins s σ H v u Q I r (k v σ H Q q)⟩
theorem dg_name {i : Nat} (h : PG X tg (gName i)) : PG X tg (dG c (gN i)) := PGw h d_gN
theorem d_asg : ∀ D σ H, dS c W (sAsg fa g) D σ H → tAsg (dE c W fa) (dG c g) D σ H := fun D σ H h => by
  obtain ⟨env, L, r, h⟩ := h
  refine dE.of r (h.bind.mono fun t e1 H1 r1 s1 h1 v q => ⟨e1, L, Nn σ env H, t, r1, q, ?_⟩)
  cases eg : g t e1 with
  | nx e2 => rw [eg] at h1; exact fun σ' H' r' s' => h1 σ' H' r' (s'.after s1)
  | er => rw [eg] at h1; exact h1
  | rt t e => rw [eg] at h1; exact h1
  | bk e => rw [eg] at h1; exact h1
  | ct e => rw [eg] at h1; exact h1
  | ex x e => rw [eg] at h1; exact h1
theorem ds_asg (he : PE X e (dE c W fa)) (hg : PG X tg (dG c g)) (hs : swapsWithSole [tg] e pos.line X.env = pure false := by rfl) (hw : swappedStores [tg] e X.env = pure none := by rfl)
    (h1 : (assignEach [tg] X.env).map (·.2) = [assign tg X.env] := by rfl) : PS X (.Assign [tg] e pos) (dS c W (sAsg fa g)) := PSw (ps_asg he hg hs hw h1) d_asg
theorem ds_set {i : Nat} {x : Str} {pos' : Pos} (hN : X.N.Nodup) (hi : X.N[i]? = some x) (hx : Loc X.env.scope x) (he : PE X e (dE c W fa)) (hs : swapsWith e (some (.Name x pos')) pos.line X.env = pure false := by rfl) (hf : X.fn x = true ∨ X.env.scope.names.lookup x = some .local := by first | exact .inl rfl | exact .inr rfl | assumption) :
    PS X (.Assign [.Name x pos'] e pos) (dS c W (sAsg fa (gN i))) := PSw (ps_set hN hi hx he hs hf) fun D σ H h => by
  have := d_asg D σ H h
  obtain ⟨env, L, r, q⟩ := this
  exact ⟨env, L, r, q.mono fun t e1 H1 r1 s1 h1 v q => d_gN _ _ _ _ (h1 v q)⟩
end
end DL
namespace DL
open PySem PySem.Spec L2

/-! ### tuple targets -/
def cpT (c : Cp) : T := match c.fr, c.d with
  | true, .lst ds => .fr ds
  | _, d => .im d
@[simp] theorem cpT_im (d : D) : cpT ⟨false, d⟩ = .im d := rfl
@[simp] theorem cpT_fr (ds : List D) : cpT ⟨true, .lst ds⟩ = .fr ds := rfl
abbrev FGs := List Cp → En → Fl
def dGs (c : Cc) (g : FGs) : TGs := fun vs σ H Q => ∃ env L N As cs, RE c (Lu L As) σ H env ∧ RepC c.K (Av (Lu L As) σ env) H As vs cs ∧ (∀ a ∈ As, ¬ L a ∧ c.H0 a = none ∧ N a) ∧ match g cs env with
  | .nx e => ∀ σ' H', RE c L σ' H' e → StpN N σ env H σ' e H' → Q σ' H'
  | _ => False
def gsNil : FGs := fun cs env => match cs with
  | [] => .nx env
  | _ => .er
def gsCons (g : FG) (gs : FGs) : FGs := fun cs env => match cs with
  | c :: cs => (g (cpT c) env).seq (gs cs)
  | [] => .er
/-- what may be unpacked -/
def cpsOf (t : T) (env : En) : Option (List Cp) := match t with
  | .im (.tup ds) => some (ds.map fun d => ⟨false, d⟩)
  | .ft cs => some cs
  | _ => none
@[simp] theorem cpsOf_tup (ds : List D) (env : En) : cpsOf (.im (.tup ds)) env = some (ds.map fun d => ⟨false, d⟩) := rfl
@[simp] theorem cpsOf_ft (cs : List Cp) (env : En) : cpsOf (.ft cs) env = some cs := rfl
def gT (n : Nat) (gs : FGs) : FG := fun t env => match cpsOf t env with
  | some cs => if cs.length = n then gs cs env else .er
  | none => .er
section
variable {X : Cx} {c : Cc} {W : WX} {pos : Pos} {e : Expr} {es : List Expr} {g : FG} {gs : FGs}
theorem PGsw {t t' : TGs} (h : PGs X es t) (k : ∀ v σ H Q, t' v σ H Q → t v σ H Q) : PGs X es t' := ⟨fun pins s σ H v u Q I r q => h.run pins s σ H v u Q I r (k v σ H Q q)⟩
theorem dgs_nil : PGs X [] (dGs c gsNil) := PGsw pgs_nil fun vs σ H Q h => by
  obtain ⟨env, L, N, As, cs, r, q, n, h⟩ := h
  cases q with
  | nil => exact ⟨rfl, h σ H (r.less fun b z => .inl z) (.of .refl)⟩
  | im r rs => exact h.elim
  | fr a b r rs => exact h.elim
theorem dgs_step {L N Nh : Addr → Prop} {σ : St} {H : Hp} {env : En} {Q : St → Hp → Prop} {As Br : List Addr} {v : V} {vr : List V} {cp : Cp} {cr : List Cp} (r : RE c (Lu L As) σ H env) (qt : RepT c (Lu L Br) Nh σ H env v (cpT cp)) (re : RE c (Lu L Br) σ H env) (rc : RepC c.K (Av (Lu L As) σ env) H Br vr cr)
    (sub : ∀ b ∈ Br, b ∈ As ∧ ¬ Nh b) (hN : ∀ b, Nh b → b ∈ As ∧ N b) (n : ∀ a ∈ As, ¬ L a ∧ c.H0 a = none ∧ N a) (h : match ((g (cpT cp) env).seq (gs cr)) with
      | .nx e => ∀ σ' H', RE c L σ' H' e → StpN N σ env H σ' e H' → Q σ' H'
      | _ => False) : dG c g v σ H fun σ' H' => dGs c gs vr σ' H' Q := by
  refine ⟨env, Lu L Br, Nh, cpT cp, re, qt, ?_⟩
  cases eg : g (cpT cp) env with
  | er => rw [eg] at h; exact h
  | rt t e => rw [eg] at h; exact h
  | bk e => rw [eg] at h; exact h
  | ct e => rw [eg] at h; exact h
  | ex x e => rw [eg] at h; exact h
  | nx e1 =>
    rw [eg] at h
    dsimp only [Fl.seq] at h
    intro σ1 H1 r1 s1
    have key : ∀ b o, H b = some o → ¬ ownM σ env b → ¬ Nh b → H1 b = some o ∧ ¬ ownM σ1 e1 b := fun b o e nb nh => by
      obtain ⟨q1, q2⟩ := s1 b (Nn.not e nb) nh
      exact ⟨q1.trans e, fun z => q2 (.inl z)⟩
    have isL : ∀ b, ownM σ env b ∨ Nh b → ∃ xs, H b = some (.lst xs) := fun b z => by
      rcases z with ⟨i, io, ds, e1, e2⟩ | z
      · obtain ⟨a, xs, e3, e4, _⟩ := r.own i io ds e1
        rw [e2] at e3
        cases e3
        exact ⟨xs, e4⟩
      · exact (r.ext b (.inr (hN b z).1)).2
    have tk : TK H H1 := by
      have nl : ∀ b o, H b = some o → (∀ xs, o ≠ .lst xs) → H1 b = some o := fun b o e nn => by
        refine (key b o e (fun z => ?_) fun z => ?_).1
        · obtain ⟨xs, q⟩ := isL b (.inl z)
          rw [e] at q
          cases q
          exact nn xs rfl
        · obtain ⟨xs, q⟩ := isL b (.inr z)
          rw [e] at q
          cases q
          exact nn xs rfl
      exact ⟨fun b xs e => nl b _ e (fun _ z => nomatch z), fun b o u e => nl b _ e (fun _ z => nomatch z)⟩
    have rc1 : RepC c.K (Av (Lu L Br) σ1 e1) H1 Br vr cr := rc.mono tk (fun b xs gb e => by
      obtain ⟨q1, q2⟩ := key b _ e gb.2 fun z => gb.1 (.inr (hN b z).1)
      exact ⟨⟨fun z => gb.1 (z.imp id fun z => (sub b z).1), q2⟩, q1⟩) fun b hb xs e => (key b _ e (r.ext b (.inr (sub b hb).1)).1 (sub b hb).2).1
    refine ⟨e1, L, N, Br, cr, r1, rc1, fun b hb => n b (sub b hb).1, ?_⟩
    cases eg2 : gs cr e1 with
    | er => rw [eg2] at h; exact h
    | rt t e => rw [eg2] at h; exact h
    | bk e => rw [eg2] at h; exact h
    | ct e => rw [eg2] at h; exact h
    | ex x e => rw [eg2] at h; exact h
    | nx e2 =>
      rw [eg2] at h
      exact fun σ2 H2 r2 s2 => h σ2 H2 r2 (StpN.trans (fun b nb nN => s1 b nb fun z => nN (hN b z).2) s2)
theorem d_gsCons : ∀ vs σ H Q, dGs c (gsCons g gs) vs σ H Q → gCons (dG c g) (dGs c gs) vs σ H Q := fun vs σ H Q h => by
  obtain ⟨env, L, N, As, cs, r, q, n, h⟩ := h
  cases q with
  | nil => exact h.elim
  | im rr rs => exact ⟨_, _, rfl, dgs_step (cp := ⟨false, _⟩) (Br := As) (Nh := fun _ => False) r rr r rs (fun b hb => ⟨hb, id⟩) (fun b z => z.elim) n h⟩
  | fr na ea rr rs =>
    rename_i As a xs ds vs cs
    have key : ∀ b, Lu L (a :: As) b ↔ (Lu L As b ∨ b = a) := fun b => by simp [Lu, or_assoc, or_comm, or_left_comm]
    have r' : RE c (fun b => Lu L As b ∨ b = a) σ H env := r.less fun b z => (key b).mpr z
    have rr' : Reps c.K (Av (fun b => Lu L As b ∨ b = a) σ env) H xs ds := rr.mono (.refl H) fun b ys gb e => ⟨⟨fun z => gb.1 ((key b).mpr z), gb.2⟩, e⟩
    have na' := n a List.mem_cons_self
    exact ⟨_, _, rfl, dgs_step (cp := ⟨true, .lst ds⟩) (Br := As) (Nh := fun b => b = a) r ⟨a, xs, rfl, ea, rr', fun z => z.elim na'.1 na, na'.2.1, rfl, r'⟩ (r.less fun b z => (key b).mpr (.inl z)) rs (fun b hb => ⟨List.mem_cons_of_mem _ hb, fun z => na (by rw [← z]; exact hb)⟩) (fun b z => by rw [z]; exact ⟨List.mem_cons_self, na'.2.2⟩) n h⟩
theorem d_gsNil : ∀ vs σ H Q, dGs c gsNil vs σ H Q → gNil vs σ H Q := fun vs σ H Q h => by
  obtain ⟨env, L, N, As, cs, r, q, n, h⟩ := h
  cases q with
  | nil => exact ⟨rfl, h σ H (r.less fun b z => .inl z) (.of .refl)⟩
  | im r rs => exact h.elim
  | fr a b r rs => exact h.elim
theorem dgs_cons (h1 : PG X e (dG c g)) (h2 : PGs X es (dGs c gs)) (hs : (assignEach (e :: es) X.env).map (·.2) = assign e X.env :: (assignEach es X.env).map (·.2) := by rfl) : PGs X (e :: es) (dGs c (gsCons g gs)) := PGsw (pgs_cons h1 h2 hs) d_gsCons
theorem dg_tup {k : Nat} {n : Nat} (hc : X.calm = true) (h : PGs X es (dGs c gs)) (hn : (assignEach es X.env).length = n := by rfl) (hst : (assignEach es X.env).findIdx? (·.1) = none := by rfl) (hK : c.K = X.K := by rfl) : PG X (.Tuple es k pos) (dG c (gT n gs)) :=
  PGw (pg_tup hc h hn hst) fun v σ H Q h => by
    obtain ⟨env, L, N, t, r, q, h⟩ := h
    unfold gT at h
    cases ec : cpsOf t env with
    | none => rw [ec] at h; exact h.elim
    | some cs =>
      rw [ec] at h
      dsimp only at h
      by_cases hl : cs.length = n
      · rw [if_pos hl] at h
        cases t with
        | al i => cases ec
        | fr ds => cases ec
        | im d =>
          cases d with
          | tup ds =>
            cases ec
            cases (show Rep c.K (Av L σ env) H v (.tup ds) from q) with
            | tup hs rs =>
              rename_i a xs
              rw [hK] at hs
              have conv : ∀ {xs : List V} {ds : List D}, Reps c.K (Av L σ env) H xs ds → RepC c.K (Av (Lu L []) σ env) H [] xs (ds.map fun d => ⟨false, d⟩) := fun {xs ds} r => by
                induction ds generalizing xs with
                | nil => cases r; exact .nil
                | cons d ds ih =>
                  cases r with
                  | cons r rs => exact .im (r.mono (.refl H) fun b ys g e => ⟨⟨fun z => z.elim g.1 (fun z => nomatch z), g.2⟩, e⟩) (ih rs)
              refine ⟨a, xs, rfl, hs, by rw [rs.length, ← hl, List.length_map], env, L, N, [], _, r.less (fun b z => z.elim id (fun z => nomatch z)), conv rs, (fun a z => nomatch z), h⟩
          | non => cases ec
          | bl b => cases ec
          | int b => cases ec
          | str b => cases ec
          | lst b => cases ec
          | fz b => cases ec
        | ft cs' =>
          cases ec
          obtain ⟨a, xs, As, rfl, hs, rc, n1, re⟩ := q
          rw [hK] at hs
          have len : ∀ {G : Addr → Prop} {As vs cs}, RepC c.K G H As vs cs → vs.length = cs.length := fun {G As vs cs} r => by
            induction r with
            | nil => rfl
            | im _ _ ih => simp [ih]
            | fr _ _ _ _ ih => simp [ih]
          exact ⟨a, xs, rfl, hs, by rw [len rc, hl], env, L, N, As, _, re, rc, n1, h⟩
      · rw [if_neg hl] at h
        exact h.elim
theorem sK.bind2 {α : Type} {S : Sp0} {N L : Addr → Prop} {σ : St} {H : Hp} {env : En} {D : Ends} {r : R α} {g : α → En → Fl} (h : sK c W L S N (r.bindF g) D) (hS : ∀ σ' e' H', Stp σ env H σ' e' H' → S σ' e' H') : dK c W L σ H env r fun a e1 H1 => sK c W L S N (g a e1) D := by
  cases r with
  | er => exact h
  | ex x e => exact fun H' r s => h σ H' r (hS _ _ _ s)
  | ok a e => exact fun H' r s => h
/-! ### a, b = x, y with plain local names -/
def sPar (i j : Nat) (fa : FA) : FS := fun env => (fa env).bindF fun ts e => (disp T.ft ts e).bindF fun t e => match t with
  | .ft [c1, c2] => match gsCons (gN i) (gsCons (gN j) gsNil) [c1, c2] e with
    | .nx e => .nx e
    | _ => .er
  | _ => .er
theorem ds_par {i j : Nat} {x y : Str} {a b : Expr} {fa : FA} {px py pt : Pos} {kt k2 pt2} (hc : X.calm = true) (hN : X.N.Nodup) (hi : X.N[i]? = some x) (hj : X.N[j]? = some y) (hij : i ≠ j)
    (hx : X.env.scope.names.lookup x = some .local) (hy : X.env.scope.names.lookup y = some .local) (ha : PA X [a, b] (dA c W fa))
    (hw : swappedStores [.Tuple [.Name x px, .Name y py] kt pt] (.Tuple [a, b] k2 pt2) X.env = pure (some [x, y]) := by rfl)
    (hs : swapsWithSole [.Tuple [.Name x px, .Name y py] kt pt] (.Tuple [a, b] k2 pt2) pos.line X.env = pure false := by rfl) :
    PS X (.Assign [.Tuple [.Name x px, .Name y py] kt pt] (.Tuple [a, b] k2 pt2) pos) (dS c W (sPar i j fa)) := PSw (ps_par hc hN hi hj hij hx hy ha hw hs) fun D σ H h => by
  obtain ⟨env, L, r, h⟩ := h
  refine dA.of r (h.bind.mono fun ts e1 H1 r1 s1 h1 vs As q n r2 => ?_)
  have h2 := h1.bind2 (σ := σ) (H := H1) (env := e1) fun _ _ _ s => s1.trans s
  refine disp_ok (N := Nn σ env H) r2 q (fun a z => n a z) (fun a z => s1.back (.inl z)) h2 fun len cs env' Bs r3 s3 q3 n3 h3 => ?_
  have h4 := h3 H1 r3.bare s3
  -- two components
  have two : ∃ c1 c2 v1 v2, cs = [c1, c2] ∧ vs = [v1, v2] := by
    have len : ∀ {G : Addr → Prop} {As vs cs}, RepC c.K G H1 As vs cs → vs.length = cs.length := fun {G As vs cs} r => by
      induction r with
      | nil => rfl
      | im _ _ ih => simp [ih]
      | fr _ _ _ _ ih => simp [ih]
    have l := len q3
    cases cs with
    | nil => exact h4.elim
    | cons c1 cs =>
      cases cs with
      | nil => exact h4.elim
      | cons c2 cs =>
        cases cs with
        | cons _ _ => exact h4.elim
        | nil =>
          cases vs with
          | nil => simp at l
          | cons v1 vs =>
            cases vs with
            | nil => simp at l
            | cons v2 vs =>
              cases vs with
              | nil => exact ⟨c1, c2, v1, v2, rfl, rfl⟩
              | cons _ _ => simp at l
  obtain ⟨c1, c2, v1, v2, rfl, rfl⟩ := two
  refine ⟨v1, v2, rfl, ?_⟩
  dsimp only at h4
  have final : dGs c (gsCons (gN i) (gsCons (gN j) gsNil)) [v1, v2] σ H1 fun σ' H' => D.nx σ' H' := by
    refine ⟨env', L, Nn σ env H, Bs, [c1, c2], r3, q3, n3, ?_⟩
    cases eg : gsCons (gN i) (gsCons (gN j) gsNil) [c1, c2] env' with
    | nx e2 =>
      rw [eg] at h4
      exact fun σ' H' r' s' => h4 σ' H' r' (s'.after (s1.trans s3))
    | er => rw [eg] at h4; exact h4
    | rt t e => rw [eg] at h4; exact h4
    | bk e => rw [eg] at h4; exact h4
    | ct e => rw [eg] at h4; exact h4
    | ex x e => rw [eg] at h4; exact h4
  -- the two names, one after the other, are the two slots
  obtain ⟨w1, wr, ew, f1⟩ := d_gsCons _ _ _ _ final
  cases ew
  obtain ⟨w2, wr2, ew, f2⟩ := d_gsCons _ _ _ _ (d_gN _ _ _ _ f1)
  cases ew
  exact (d_gsNil _ _ _ _ (d_gN _ _ _ _ f2)).2
end
end DL
namespace DL
open PySem PySem.Spec L2

/-! ### name op= e -/
def sAug (i : Nat) (g : D → D → Option T) (fa : FE) : FS := fun env => match env[i]? with
  | some (.im d) => (fa env).bindF fun t e => (op2 g (.im d) t e).bindF fun t' e2 => match gN i t' e2 with
    | .nx e3 => .nx e3
    | _ => .er
  | _ => .er
/-! ### o[i] = e -/
def elemD : T → Option D
  | .im d => some d
  | .fr ds => some (.lst ds)
  | .ft cs => some (.tup (cs.map Cp.d))
  | .al _ => none
@[simp] theorem elemD_im (d : D) : elemD (.im d) = some d := rfl
@[simp] theorem elemD_fr (d : List D) : elemD (.fr d) = some (.lst d) := rfl
def gSb (fo fi : FE) : FG := fun t env => match fo env with
  | .ok to e1 => match fi e1 with
    | .ok ti e2 => match to with
      | .al j => match e2[j]?, ti.val e2, elemD t with
        | some (.own b ds), some (.int k), some d => match ixN ds.length k with
          | some m => .nx (e2.set j (.own b (ds.set m d)))
          | none => .er
        | _, _, _ => .er
      | _ => .er
    | _ => .er
  | _ => .er
section
variable {X : Cx} {c : Cc} {W : WX} {pos p : Pos} {e o i : Expr} {es : List Expr} {fa fo fi : FE} {fas : FA}
theorem ds_aug {i : Nat} {x : Str} {op : Operator} {r : R2} {g : D → D → Option T} {pos' : Pos} (hN : X.N.Nodup) (hi : X.N[i]? = some x) (hx : Loc X.env.scope x) (hr : OpR X (inplaceOp op) r) (ho : OpD c r g) (he : PE X e (dE c W fa)) (hf : X.fn x = true ∨ X.env.scope.names.lookup x = some .local := by first | exact .inl rfl | exact .inr rfl | assumption) :
    PS X (.AugAssign (.Name x pos') op e pos) (dS c W (sAug i g fa)) := PSw (ps_aug (ti := r) hN hi hx he hr hf) fun D σ H h => by
  obtain ⟨env, L, re, h⟩ := h
  unfold sAug at h
  cases ei : env[i]? with
  | none => rw [ei] at h; exact h.elim
  | some s =>
    rw [ei] at h
    cases s with
    | no => exact h.elim
    | own b ds => exact h.elim
    | im d =>
      obtain ⟨v, ev, rv⟩ := re.im i d ei
      refine ⟨v, ev, dE.of re (h.bind.mono fun t e1 H1 r1 s1 h1 y q1 => ?_)⟩
      have h2 := h1.bind2 (σ := σ) (H := H1) (env := e1) fun _ _ _ s => s1.trans s
      refine dK_op2 (W := W) (N1 := fun _ => True) (N2 := fun _ => True) (N := Nn σ env H) ho r1 (fun d' e => by cases e; exact Rep.o (re.rep s1 rv)) (fun d e => q1.opr0 r1 e) (fun a n => s1.back n) (h2.mono fun t' e2 H2 r2 s2 h3 z q2 => ?_)
      refine d_gN _ _ _ _ ⟨e2, L, Nn σ env H, t', r2, q2, ?_⟩
      cases eg : gN i t' e2 with
      | nx e3 => rw [eg] at h3; exact fun σ' H' r' s' => h3 σ' H' r' (s'.after (s1.trans s2))
      | er => rw [eg] at h3; exact h3
      | rt t e => rw [eg] at h3; exact h3
      | bk e => rw [eg] at h3; exact h3
      | ct e => rw [eg] at h3; exact h3
      | ex x e => rw [eg] at h3; exact h3
theorem RepT.elem {L N : Addr → Prop} {σ : St} {H : Hp} {env : En} {v : V} {t : T} {d : D} (q : RepT c L N σ H env v t) (e : elemD t = some d) : Rep c.K (Av L σ env) H v d := by
  cases t with
  | al j => cases e
  | im d' => cases e; exact q
  | fr ds => cases e; exact q.wk
  | ft cs => cases e; exact q.wk
theorem dg_sub (ho : PE X o (dE c W fo)) (hi : PE X i (dE c W fi)) (ha : ∀ v, assign (.Subscript o i pos) X.env v = (do
      let ov ← holding [v] (eval o X.env)
      let iv ← holding [v, ov] (eval i X.env)
      standAt pos
      holding [v, ov, iv] (setItem ov iv v)
      release [v, ov, iv] []) := by intro _; rfl) : PG X (.Subscript o i pos) (dG c (gSb fo fi)) := PGw (pg_sub ho hi set_list ha) fun v σ H Q h => by
  obtain ⟨env, L, N, t, re, q, h⟩ := h
  unfold gSb at h
  cases e1 : fo env with
  | er => rw [e1] at h; exact h.elim
  | ex x e => rw [e1] at h; exact h.elim
  | ok to en1 =>
    rw [e1] at h
    dsimp only at h
    cases e2 : fi en1 with
    | er => rw [e2] at h; exact h.elim
    | ex x e => rw [e2] at h; exact h.elim
    | ok ti en2 =>
      rw [e2] at h
      dsimp only at h
      refine dE.of re ?_
      rw [e1]
      intro H1 r1 s1 x1 q1
      refine dE.of r1 ?_
      rw [e2]
      intro H2 r2 s2 x2 q2
      cases to with
      | im d => exact h.elim
      | fr d => exact h.elim
      | ft d => exact h.elim
      | al j =>
        dsimp only at h
        cases ej : en2[j]? with
        | none => rw [ej] at h; exact h.elim
        | some s =>
          cases s with
          | no => rw [ej] at h; exact h.elim
          | im d => rw [ej] at h; exact h.elim
          | own b ds =>
            cases et : ti.val en2 with
            | none => rw [ej, et] at h; exact h.elim
            | some dk =>
              cases ed : elemD t with
              | none => rw [ej, et, ed] at h; cases dk <;> exact h.elim
              | some d =>
                rw [ej, et, ed] at h
                cases dk with
                | int k =>
                  dsimp only at h
                  cases em : ixN ds.length k with
                  | none => rw [em] at h; exact h.elim
                  | some m =>
                    rw [em] at h
                    obtain ⟨a, xs, sj, ea, ra, _⟩ := r2.own j b ds ej
                    obtain ⟨_, sj'⟩ := q1
                    rw [sj] at sj'
                    cases sj'
                    have qv := re.rep (s1.trans s2) (q.elem ed)
                    refine ⟨a, xs, k, m, rfl, (q2.opr0 r2 et).int, ea, by rw [ra.length]; exact em, ?_⟩
                    have kp : ∀ b o, b ≠ a → H2 b = some o → upd H2 a (.lst (xs.set m v)) b = some o := fun b o ne e => by rw [upd_ne ne]; exact e
                    have oa : ownM σ en2 a := ⟨j, b, ds, ej, sj⟩
                    have tk : TK H2 (upd H2 a (.lst (xs.set m v))) := ⟨fun b xs e => kp b _ (fun z => by rw [z, ea] at e; cases e) e, fun b o u e => kp b _ (fun z => by rw [z, ea] at e; cases e) e⟩
                    have rs : Reps c.K (Av L σ en2) (upd H2 a (.lst (xs.set m v))) (xs.set m v) (ds.set m d) := Reps.set (qv.mono tk fun b ys g e => ⟨g, kp b _ (fun z => g.2 (by rw [z]; exact oa)) e⟩) m (ra.mono tk fun b ys g e => ⟨g, kp b _ (fun z => g.2 (by rw [z]; exact oa)) e⟩)
                    obtain ⟨y1, y2⟩ := r2.put ej sj kp upd_same rs
                    exact h _ _ y1 (.of ((s1.trans s2).trans y2))
                | non => exact h.elim
                | bl k => exact h.elim
                | str k => exact h.elim
                | tup k => exact h.elim
                | lst k => exact h.elim
                | fz k => exact h.elim

/-! ### methods of an owned list -/
/-- a list at its own slot, with what a method makes of it -/
def metT (k : List D → List T → En → Option (D × List D × En)) (to : T) (ts : List T) (e : En) : R T := match to with
  | .al j => match e[j]? with
    | some (.own _ ds) => match k ds ts e with
      | some (d, ds', e') => match e'[j]? with
        | some (.own b _) => .ok (.im d) (e'.set j (.own b ds'))
        | _ => .er
      | none => .er
    | _ => .er
  | _ => .er
def eMet (k : List D → List T → En → Option (D × List D × En)) (fo : FE) (fa : FA) : FE := fun env => (fo env).bind fun to e1 => match to with
  | .al j => (fa e1).bind fun ts e2 => metT k (.al j) ts e2
  | _ => .er
def eMet0 (k : List D → List T → En → Option (D × List D × En)) (fo : FE) : FE := fun env => (fo env).bind fun to e1 => match to with
  | .al j => metT k (.al j) [] e1
  | _ => .er
/-- what the method does to values -/
def MetD (c : Cc) (r : V → List V → Hp → VK → Prop) (k : List D → List T → En → Option (D × List D × En)) : Prop := ∀ (L : Addr → Prop) (σ : St) (H : Hp) (env : En) (a : Addr) (xs : List V) (ds : List D) (vs : List V) (As : List Addr) (ts : List T) (d : D) (ds' : List D) (env' : En) (Q : VK) (j : Nat) (b : Bool),
  RE c (Lu L As) σ H env → (∀ b ∈ As, ¬ L b ∧ c.H0 b = none) → RepAs c.K (Av (Lu L As) σ env) σ H env As vs ts → env[j]? = some (.own b ds) → σ[j]? = some (some (.ref a)) → H a = some (.lst xs) → Reps c.K (Av L σ env) H xs ds → k ds ts env = some (d, ds', env') → (∃ b' ds2, env'[j]? = some (Sl.own b' ds2)) →
  (∀ v xs', RE c L σ H env' → Stp σ env H σ env' H → Rep c.K (Av L σ env') H v d → Reps c.K (Av L σ env') H xs' ds' → Q v (upd H a (.lst xs'))) → r (.ref a) vs H Q

theorem met_ok {r : V → List V → Hp → VK → Prop} {k : List D → List T → En → Option (D × List D × En)} (hm : MetD c r k) {L : Addr → Prop} {σ : St} {H H0 H1 H2 : Hp} {env e1 e2 : En} {x : V} {to : T} {vs : List V} {As : List Addr} {ts : List T} {N : Addr → Prop} {Q : VK}
    (s02 : Stp σ env H σ e2 H2) (q1 : RepT c L N σ H1 e1 x to) (r2 : RE c L σ H2 e2) (q : RepAs c.K (Av (Lu L As) σ e2) σ H2 e2 As vs ts) (n : ∀ a ∈ As, ¬ L a ∧ c.H0 a = none ∧ Nn σ e1 H1 a) (r3 : RE c (Lu L As) σ H2 e2)
    (h : dK c W L σ H2 e2 (metT k to ts e2) fun t env' H' => ∀ v, RepT c L (Nn σ env H) σ H' env' v t → Q v H') : r x vs H2 Q := by
  unfold metT at h
  cases to with
  | im d => exact h.elim
  | fr d => exact h.elim
  | ft d => exact h.elim
  | al j =>
    dsimp only at h
    cases ej : e2[j]? with
    | none => rw [ej] at h; exact h.elim
    | some s =>
      cases s with
      | no => rw [ej] at h; exact h.elim
      | im d => rw [ej] at h; exact h.elim
      | own b ds =>
        rw [ej] at h
        dsimp only at h
        cases ek : k ds ts e2 with
        | none => rw [ek] at h; exact h.elim
        | some w =>
          obtain ⟨d, ds', e'⟩ := w
          rw [ek] at h
          dsimp only at h
          cases ej' : e'[j]? with
          | none => rw [ej'] at h; exact h.elim
          | some s' =>
            cases s' with
            | no => rw [ej'] at h; exact h.elim
            | im d => rw [ej'] at h; exact h.elim
            | own b' ds2 =>
              rw [ej'] at h
              obtain ⟨a, xs, sj, ea, ra, _⟩ := r2.own j b ds ej
              obtain ⟨_, sj'⟩ := q1
              rw [sj] at sj'
              cases sj'
              refine hm L σ H2 e2 a xs ds vs As ts d ds' e' Q j b r3 (fun b hb => ⟨(n b hb).1, (n b hb).2.1⟩) q ej sj ea ra ek ⟨b', ds2, ej'⟩ fun v xs' r4 s4 qv qs => ?_
              have kp : ∀ b o, b ≠ a → H2 b = some o → upd H2 a (.lst xs') b = some o := fun b o ne e => by rw [upd_ne ne]; exact e
              have oa : ownM σ e' a := ⟨j, b', ds2, ej', sj⟩
              have tk : TK H2 (upd H2 a (.lst xs')) := ⟨fun b xs e => kp b _ (fun z => by rw [z, ea] at e; cases e) e, fun b o u e => kp b _ (fun z => by rw [z, ea] at e; cases e) e⟩
              obtain ⟨y1, y2⟩ := r4.put ej' sj kp upd_same (qs.mono tk fun b ys g e => ⟨g, kp b _ (fun z => g.2 (by rw [z]; exact oa)) e⟩)
              exact h _ y1 (s4.trans y2) v (r4.rep y2 qv)
theorem RepT.tyL {L N : Addr → Prop} {σ : St} {H : Hp} {env : En} {v : V} {j : Nat} (r : RE c L σ H env) (q : RepT c L N σ H env v (.al j)) : tyV c.K "list" v H := by
  obtain ⟨⟨io, ds, e1⟩, e2⟩ := q
  obtain ⟨a, xs, e3, e4, _⟩ := r.own j io ds e1
  rw [e2] at e3
  cases e3
  exact .inl ⟨rfl, _, .of e4⟩
theorem de_met {r : V → List V → Hp → VK → Prop} {k : List D → List T → En → Option (D × List D × En)} {name : Str} {apos cpos : Pos} {id : String} (hm : MetD c r k) (slot : Slot "list" name id) (hty : typeOf (.builtin id) = pure (.type "method_descriptor")) (hr : MtR X id r) (ho : PE X o (dE c W fo)) (ha : PA X (e :: es) (dA c W fas)) (hK : c.K = X.K := by rfl)
    (hbase : attributeBase o name X.env (eval o X.env) = eval o X.env := by rfl)
    (hfew : ((backTo cpos (starEach (e :: es) X.env)).all (fun x => !x.1) && (backToKw cpos (keywordEach [] X.env)).all (fun x => x.1.isSome)
      && decide ((e :: es).length + ([] : List Keyword).length + (if ([] : List Keyword).isEmpty then 0 else 1) < 30)) = true := by rfl)
    (hline : (apos.endLine == cpos.line) = true := by rfl) (hs : starEach (e :: es) X.env = (false, eval e X.env) :: starEach es X.env := by rfl) (hplain : (backTo cpos (starEach es X.env)).any (·.1) = false := by rfl) :
    PE X (.Call (.Attribute o name apos) (e :: es) [] cpos) (dE c W (eMet k fo fas)) :=
  PEw (pe_bm PySem.F.plainAttrs_list slot hty hr ho ha hbase hfew hline hs hplain) fun σ H Q h => by
    obtain ⟨env, L, re, h⟩ := dE_iff.mp h
    refine dE.of re (h.bind.mono fun to e1 H1 r1 s1 h1 x q1 => ?_)
    cases to with
    | im d => exact h1.elim
    | fr d => exact h1.elim
    | ft d => exact h1.elim
    | al j =>
      refine ⟨by rw [← hK]; exact q1.tyL r1, dA.of r1 (h1.bind.mono fun ts e2 H2 r2 s2 h2 vs As q n r3 => ?_)⟩
      exact met_ok (H0 := H) hm (s1.trans s2) q1 r2 q n r3 h2
theorem de_met0 {r : V → List V → Hp → VK → Prop} {k : List D → List T → En → Option (D × List D × En)} {name : Str} {apos cpos : Pos} {id : String} (hm : MetD c r k) (slot : Slot "list" name id) (hty : typeOf (.builtin id) = pure (.type "method_descriptor")) (hr : MtR X id r) (ho : PE X o (dE c W fo)) (hK : c.K = X.K := by rfl)
    (hbase : attributeBase o name X.env (eval o X.env) = eval o X.env := by rfl) (hline : (apos.endLine == cpos.line) = true := by rfl) :
    PE X (.Call (.Attribute o name apos) [] [] cpos) (dE c W (eMet0 k fo)) :=
  PEw (pe_bm0 PySem.F.plainAttrs_list slot hty hr ho hbase hline) fun σ H Q h => by
    obtain ⟨env, L, re, h⟩ := dE_iff.mp h
    refine dE.of re (h.bind.mono fun to e1 H1 r1 s1 h1 x q1 => ?_)
    cases to with
    | im d => exact h1.elim
    | fr d => exact h1.elim
    | ft d => exact h1.elim
    | al j =>
      refine ⟨by rw [← hK]; exact q1.tyL r1, ?_⟩
      exact met_ok (H0 := H) (As := []) hm s1 q1 r1 .nil (fun a z => nomatch z) (r1.less fun b z => z.elim (fun y => y) fun z => nomatch z) h1
/-! append, extend, pop -/
def kApp (ds : List D) (ts : List T) (env : En) : Option (D × List D × En) := if ds.length < 1000000 then match mvs ts env with
  | some ([c], e) => some (.non, ds ++ [c.d], e)
  | _ => none else none
def kExt (ds : List D) (ts : List T) (env : En) : Option (D × List D × En) := match vals env ts with
  | some [.lst es] => if ds.length + es.length ≤ 1000000 then some (.non, ds ++ es, env) else none
  | _ => none
def kPopAt (ds : List D) (ts : List T) (env : En) : Option (D × List D × En) := match vals env ts with
  | some [.int i] => if -(2 ^ 63) ≤ i ∧ i < 2 ^ 63 then (match ixN ds.length i with
    | some m => (ds[m]?).map fun d => (d, ds.eraseIdx m, env)
    | none => none) else none
  | _ => none
def kPop (ds : List D) (ts : List T) (env : En) : Option (D × List D × En) := match ts with
  | [] => (ds[ds.length - 1]?).map fun d => (d, ds.dropLast, env)
  | _ => none
theorem m_app : MetD c rAppend kApp := by
  intro L σ H env a xs ds vs As ts d ds' env' Q j b r n q ej sj ea ra ek ow kk
  unfold kApp at ek
  split at ek
  · rename_i hl
    cases em : mvs ts env with
    | none => rw [em] at ek; cases ek
    | some w =>
      obtain ⟨cs, e'⟩ := w
      rw [em] at ek
      obtain ⟨S', Bs, h1, h2, h3, h4, h5, h6, h7⟩ := q.mv As env r (fun b => Iff.rfl) (fun _ z => z) em
      cases cs with
      | nil => cases ek
      | cons cp cs =>
        cases cs with
        | cons _ _ => cases ek
        | nil =>
          cases ek
          have rB : Reps c.K (Av L σ env') H vs [cp.d] := h5.reps (G' := Av L σ env') (fun b g => ⟨fun z => ((h3 b).mp g).1 (.inl z), ((h3 b).mp g).2⟩) fun b hb => ⟨fun z => by
            rcases (h6 b hb).2 with y | y
            · exact (n b y).1 z
            · exact y.2.2.2 z, (h1.ext b (.inr (h6 b hb).1)).1⟩
          cases rB with
          | cons r1 rs =>
            cases rs
            refine ⟨a, xs, _, rfl, rfl, ea, by rw [ra.length]; exact Nat.lt_of_lt_of_le hl (line6 (Nat.le_refl _)), ?_⟩
            exact kk .non _ h1.bare h2 .non ((r.bare.reps h2 ra).append (.cons r1 .nil))
  · cases ek
theorem m_ext : MetD c rExtend kExt := by
  intro L σ H env a xs ds vs As ts d ds' env' Q j b r n q ej sj ea ra ek ow kk
  unfold kExt at ek
  split at ek
  · rename_i es ev
    split at ek
    · rename_i hl
      cases ek
      obtain ⟨v, rfl, rv⟩ := (q.oprs r.bare r (fun a z => ⟨z, (n a z).1⟩) ev).one
      obtain ⟨b, ys, rfl, eb, rb⟩ := rv.lst
      exact ⟨a, b, xs, ys, rfl, rfl, ea, eb, by rw [ra.length, rb.length]; exact line6 hl, kk .non _ r.bare .refl .non (ra.append rb)⟩
    · cases ek
  · cases ek
theorem m_popAt : MetD c rPopAt kPopAt := by
  intro L σ H env a xs ds vs As ts d ds' env' Q j b r n q ej sj ea ra ek ow kk
  unfold kPopAt at ek
  split at ek
  · rename_i i ev
    split at ek
    · rename_i hl
      cases em : ixN ds.length i with
      | none => rw [em] at ek; cases ek
      | some m =>
        rw [em] at ek
        obtain ⟨d', e1, e2⟩ := Option.map_eq_some_iff.mp ek
        cases e2
        obtain ⟨v, rfl, rv⟩ := (q.oprs r.bare r (fun a z => ⟨z, (n a z).1⟩) ev).one
        rw [rv.int]
        obtain ⟨y, ey, ry⟩ := ra.get e1
        exact ⟨a, xs, i, m, y, rfl, rfl, ea, hl.1, hl.2, by rw [ra.length]; exact (ixN_seq em).1, ey, kk y _ r.bare .refl ry (ra.erase m)⟩
    · cases ek
  · cases ek
theorem Reps.dropLast {K : PySem.W.Frag} {G : Addr → Prop} {H : Hp} {vs : List V} {ds : List D} (h : Reps K G H vs ds) : Reps K G H vs.dropLast ds.dropLast := by
  rw [List.dropLast_eq_take, List.dropLast_eq_take, h.length]
  exact h.take _
theorem m_pop : MetD c rPop kPop := by
  intro L σ H env a xs ds vs As ts d ds' env' Q j b r n q ej sj ea ra ek ow kk
  unfold kPop at ek
  split at ek
  · obtain ⟨d', e1, e2⟩ := Option.map_eq_some_iff.mp ek
    cases e2
    cases q
    obtain ⟨y, ey, ry⟩ := ra.get e1
    exact ⟨a, xs, y, rfl, rfl, ea, by rw [ra.length]; exact ey, kk y _ r.bare .refl ry ra.dropLast⟩
  · cases ek
end
end DL
namespace DL
open PySem PySem.Spec L2

/-! ### what is walked -/
/-- the data that come, and the owned list that must stay as it is meanwhile -/
structure Wk where
  its : List D
  chk : Option (Nat × List D)
def Wk.ok (k : Wk) (env : En) : Prop := match k.chk with
  | none => True
  | some (j, ds) => ∃ b, env[j]? = some (Sl.own b ds)
@[simp] theorem wk_ok_none (its : List D) (env : En) : Wk.ok ⟨its, none⟩ env = True := rfl
abbrev FI := En → R Wk
/-- turns of a walk -/
structure Src (c : Cc) (A : (Addr → Prop) → Prop) (S : Sp0) (J : It) (k : Wk) : Prop where
  stop : ∀ L i σ H env, A L → RE c L σ H env → S σ env H → k.ok env → k.its.length ≤ i → J.stop i H
  go : ∀ L i σ H env, A L → RE c L σ H env → S σ env H → k.ok env → i < k.its.length → J.go i H
  yld : ∀ L i σ H env x H' d, A L → RE c L σ H env → S σ env H → k.ok env → k.its[i]? = some d → J.yld i H x H' → (∀ b o, H b = some o → H' b = some o) ∧ Rep c.K (Av L σ env) H' x d
/-- no slot beyond those at the start -/
def SubS (σ σ' : St) : Prop := ∀ (j : Nat) (v : V), σ'[j]? = some (some v) → σ[j]? = some (some v)
/-- lists to keep off that are not older than the walk, or were kept off before -/
abbrev Lx (L : Addr → Prop) (H : Hp) (L2 : Addr → Prop) : Prop := ∀ a, L2 a → L a ∨ H a = none
abbrev Sw (k : Wk) (σ : St) (env : En) (H : Hp) : Sp0 := fun σ' e' H' => Stp σ env H σ' e' H' ∧ (k.chk = none ∨ ∀ (j : Nat) (ds : List D), k.chk = some (j, ds) → ∀ v : V, σ'[j]? = some (some v) → σ[j]? = some (some v))
def dI (c : Cc) (W : WX) (f : FI) : TI := fun σ H R => ∃ env L, RE c L σ H env ∧ dK c W L σ H env (f env) fun k e1 H1 => ∀ J, (k.ok e1 ∧ Src c (Lx L H1) (Sw k σ e1 H1) J k) → R J H1
def iT (t : T) (env : En) : R Wk := match t with
  | .im (.tup ds) => .ok ⟨ds, none⟩ env
  | .ft cs => .ok ⟨cs.map Cp.d, none⟩ env
  | _ => .er
def iL (fz : Bool) (t : T) (env : En) : R Wk := match t with
  | .im (.lst ds) => .ok ⟨ds, none⟩ env
  | .im (.fz ds) => .ok ⟨ds, none⟩ env
  | .al j => match env[j]? with
    | some (.own _ ds) => if fz then .ok ⟨ds, none⟩ (env.set j (.im (.lst ds))) else .ok ⟨ds, some (j, ds)⟩ env
    | _ => .er
  | _ => .er
def fiT (fa : FE) : FI := fun env => (fa env).bind iT
def fiL (fz : Bool) (fa : FE) : FI := fun env => (fa env).bind fun t => iL fz t.weak
def rngD (m n : Int) : List D := (List.range (n - m).toNat).map fun (i : Nat) => D.int (m + (i : Int))
def iR1 (ts : List T) (env : En) : R Wk := match vals env ts with
  | some [.int n] => if -(2 ^ 62) ≤ n ∧ n < 2 ^ 62 then .ok ⟨rngD 0 n, none⟩ env else .er
  | _ => .er
def fiR1 (fa : FA) : FI := fun env => (fa env).bind iR1
def iR2 (ts : List T) (env : En) : R Wk := match vals env ts with
  | some [.int m, .int n] => if -(2 ^ 62) ≤ m ∧ m < 2 ^ 62 ∧ -(2 ^ 62) ≤ n ∧ n < 2 ^ 62 then .ok ⟨rngD m n, none⟩ env else .er
  | _ => .er
def fiR2 (fa : FA) : FI := fun env => (fa env).bind iR2
/-- pairs with their places -/
def enumD (ds : List D) : List D := ds.mapIdx fun (i : Nat) d => .tup [.int (i : Int), d]
def onI (f : List D → List D) (r : R Wk) : R Wk := r.bind fun k e => .ok ⟨f k.its, k.chk⟩ e
def iE (fz : Bool) (ts : List T) (env : En) : R Wk := match ts with
  | [.im (.tup ds)] => .ok ⟨enumD ds, none⟩ env
  | [t] => onI enumD (iL fz t.weak env)
  | _ => .er
def fiE (fz : Bool) (fa : FA) : FI := fun env => (fa env).bind (iE fz)
def zipD (xs ys : List D) : List D := xs.zipWith (fun x y => .tup [x, y]) ys
def iZ (fz : Bool) (ts : List T) (env : En) : R Wk := match ts with
  | [.im (.tup xs), .im (.tup ys)] => .ok ⟨zipD xs ys, none⟩ env
  | [t, u] => (iL true u.weak env).bind fun k2 e2 => onI (fun xs => zipD xs k2.its) (iL fz t.weak e2)
  | _ => .er
def fiZ (fz : Bool) (fa : FA) : FI := fun env => (fa env).bind (iZ fz)
theorem Rep.lx {K : PySem.W.Frag} {L L2 : Addr → Prop} {σ : St} {env : En} {H : Hp} {v : V} {d : D} (lx : Lx L H L2) (r : Rep K (Av L σ env) H v d) : Rep K (Av L2 σ env) H v d :=
  r.mono (.refl H) fun a xs g e => ⟨⟨fun z => (lx a z).elim g.1 fun z => (by rw [z] at e; cases e), g.2⟩, e⟩
theorem Reps.lx {K : PySem.W.Frag} {L L2 : Addr → Prop} {σ : St} {env : En} {H : Hp} {v : List V} {d : List D} (lx : Lx L H L2) (r : Reps K (Av L σ env) H v d) : Reps K (Av L2 σ env) H v d :=
  r.mono (.refl H) fun a xs g e => ⟨⟨fun z => (lx a z).elim g.1 fun z => (by rw [z] at e; cases e), g.2⟩, e⟩
theorem RE.freeze {c : Cc} {L : Addr → Prop} {σ : St} {H : Hp} {env : En} {i : Nat} {ds : List D} {io : Bool} (h : RE c L σ H env) (e : env[i]? = some (Sl.own io ds)) : RE c L σ H (env.set i (.im (.lst ds))) ∧ Stp σ env H σ (env.set i (.im (.lst ds))) H := by
  obtain ⟨a, xs, es, ea, ra, _⟩ := h.own i io ds e
  obtain ⟨q1, q2⟩ := h.drop e es
  have hi : i < env.length := (List.getElem?_eq_some_iff.mp e).1
  have oa : ownM σ env a := ⟨i, io, ds, e, es⟩
  have same : σ.set i (some (V.ref a)) = σ := by
    apply List.ext_getElem?
    intro j
    by_cases z : i = j
    · subst z
      rw [List.getElem?_set_self (by rw [← h.len]; exact hi), es]
    · rw [List.getElem?_set_ne z]
  have r1 : Rep c.K (Av L σ (env.set i .no)) H (.ref a) (.lst ds) := .lst ⟨fun z => (h.ext a z).1 oa, (q1.ext a (.inr rfl)).1⟩ ea (ra.mono (.refl H) fun b ys g e => ⟨⟨g.1, fun z => g.2 (own_set_no z).1⟩, e⟩)
  obtain ⟨q3, q4⟩ := (q1.less fun b z => .inl z).setIm (i := i) r1
  rw [same, List.set_set] at q3 q4
  exact ⟨q3, q2.trans q4⟩
section
variable {X : Cx} {c : Cc} {W : WX} {pos p : Pos} {e tg a b : Expr} {fa : FE} {fas : FA}
theorem PIw {t t' : TI} (h : PI X tg e t) (k : ∀ σ H R, t' σ H R → t σ H R) : PI X tg e t' := ⟨fun pins s σ H R I q => h.run pins s σ H R I (k σ H R q)⟩
/-- a datum, or what lies in a slot -/
def RepV (c : Cc) (L : Addr → Prop) (σ : St) (H : Hp) (env : En) (v : V) : T → Prop
  | .im d => Rep c.K (Av L σ env) H v d
  | .al i => σ[i]? = some (some v)
  | _ => False
theorem RepT.v {L N : Addr → Prop} {σ : St} {H : Hp} {env : En} {v : V} {t : T} (h : RepT c L N σ H env v t) : RepV c L σ H env v t.weak := by
  have h := h.wk
  cases t with
  | im d => exact h
  | al i => exact h.2
  | fr ds => exact h
  | ft cs => exact h
theorem RepV.step {L : Addr → Prop} {σ : St} {H H' : Hp} {env env' : En} {v : V} {t : T} (r : RE c L σ H env) (h : RepV c L σ H env v t) (s : Stp σ env H σ env' H') : RepV c L σ H' env' v t := by
  cases t with
  | im d => exact r.rep s h
  | al i => exact h
  | fr ds => exact h
  | ft cs => exact h
theorem RepAs.vs {L : Addr → Prop} {As0 : List Addr} {σ : St} {H : Hp} {env : En} : ∀ {As : List Addr} {vs : List V} {ts : List T}, RepAs c.K (Av (Lu L As0) σ env) σ H env As vs ts → RE c (Lu L As0) σ H env → (∀ a ∈ As, a ∈ As0 ∧ ¬ L a) → vs.length = ts.length ∧ ∀ (i : Nat) (v : V) (t : T), vs[i]? = some v → ts[i]? = some t → RepV c L σ H env v t.weak
  | _, _, _, .nil, _, _ => ⟨rfl, fun i v t (e : ([] : List V)[i]? = some v) => by simp at e⟩
  | _, _, _, .im r rs, h2, n => by
    obtain ⟨q1, q2⟩ := RepAs.vs rs h2 n
    refine ⟨by rw [List.length_cons, List.length_cons, q1], fun i v t e1 e2 => ?_⟩
    cases i with
    | zero =>
      cases e1
      cases e2
      exact r.mono (.refl H) fun a xs g e => ⟨⟨fun z => g.1 (.inl z), g.2⟩, e⟩
    | succ i => exact q2 i v t e1 e2
  | _, _, _, .al o es rs, h2, n => by
    obtain ⟨q1, q2⟩ := RepAs.vs rs h2 n
    refine ⟨by rw [List.length_cons, List.length_cons, q1], fun i v t e1 e2 => ?_⟩
    cases i with
    | zero =>
      cases e1
      cases e2
      exact es
    | succ i => exact q2 i v t e1 e2
  | _, _, _, .fr (a := a) na ea r rs, h2, n => by
    obtain ⟨q1, q2⟩ := RepAs.vs rs h2 fun b z => n b (List.mem_cons_of_mem _ z)
    refine ⟨by rw [List.length_cons, List.length_cons, q1], fun i v t e1 e2 => ?_⟩
    cases i with
    | zero =>
      cases e1
      cases e2
      obtain ⟨m1, m2⟩ := n a List.mem_cons_self
      exact .lst ⟨m2, (h2.ext a (.inr m1)).1⟩ ea (r.mono (.refl H) fun b ys g e => ⟨⟨fun z => g.1 (.inl z), g.2⟩, e⟩)
    | succ i => exact q2 i v t e1 e2
/-- a list of a temporary value: where it lies, through the walk -/
theorem lst_of {fz : Bool} {L : Addr → Prop} {σ1 : St} {H1 : Hp} {env1 env2 : En} {v : V} {t : T} {k : Wk} (r : RE c L σ1 H1 env1) (q : RepV c L σ1 H1 env1 v t) (e : iL fz t env1 = .ok k env2) :
    ∃ a, v = .ref a ∧ RE c L σ1 H1 env2 ∧ Stp σ1 env1 H1 σ1 env2 H1 ∧ k.ok env2 ∧ ∀ L2 σ H env, Lx L H1 L2 → RE c L2 σ H env → Sw k σ1 env2 H1 σ env H → k.ok env → ∃ xs, SqL c.K H a xs ∧ Reps c.K (Av L2 σ env) H xs k.its := by
  have im : ∀ ds, Rep c.K (Av L σ1 env1) H1 v (.lst ds) → ∃ a, v = .ref a ∧ RE c L σ1 H1 env1 ∧ Stp σ1 env1 H1 σ1 env1 H1 ∧ Wk.ok ⟨ds, none⟩ env1 ∧ ∀ L2 σ H env, Lx L H1 L2 → RE c L2 σ H env → Sw ⟨ds, none⟩ σ1 env1 H1 σ env H → Wk.ok ⟨ds, none⟩ env → ∃ xs, SqL c.K H a xs ∧ Reps c.K (Av L2 σ env) H xs ds := fun ds q => by
    have q0 := q
    cases q with
    | lst g ea rs =>
      rename_i a xs
      refine ⟨a, rfl, r, .refl, trivial, fun L2 σ H env lx re s _ => ?_⟩
      cases r.rep s.1 (Rep.lx lx q0) with
      | lst g e2 rs2 => exact ⟨_, .of e2, rs2⟩
  unfold iL at e
  cases t with
  | ft cs => cases e
  | fr ds => cases e
  | im d =>
    cases d with
    | lst ds => cases e; exact im ds q
    | fz ds =>
      cases e
      cases (show Rep c.K (Av L σ1 env1) H1 v (.fz ds) from q) with
      | fz h rs =>
        rename_i a xs
        exact ⟨a, rfl, r, .refl, trivial, fun L2 σ H env lx re s _ => ⟨xs, ((r.tk s.1).fz h).sql, r.reps s.1 (Reps.lx lx rs)⟩⟩
    | non => cases e
    | bl b => cases e
    | int b => cases e
    | str b => cases e
    | tup b => cases e
  | al j =>
    dsimp only at e
    cases ej : env1[j]? with
    | none => rw [ej] at e; cases e
    | some s =>
      cases s with
      | no => rw [ej] at e; cases e
      | im d => rw [ej] at e; cases e
      | own b ds =>
        rw [ej] at e
        dsimp only at e
        obtain ⟨a, xs, sj, ea, ra, _⟩ := r.own j b ds ej
        have sj' : σ1[j]? = some (some v) := q
        rw [sj] at sj'
        cases sj'
        cases fz with
        | true =>
          cases e
          obtain ⟨f1, f2⟩ := r.freeze ej
          have hj : j < env1.length := (List.getElem?_eq_some_iff.mp ej).1
          refine ⟨a, rfl, f1, f2, trivial, fun L2 σ H env lx re s _ => ?_⟩
          obtain ⟨v', e3, r4⟩ := f1.im j (.lst ds) (List.getElem?_set_self hj)
          rw [sj] at e3
          cases e3
          cases f1.rep s.1 (Rep.lx lx r4) with
          | lst g e2 rs2 => exact ⟨_, .of e2, rs2⟩
        | false =>
          cases e
          refine ⟨a, rfl, r, .refl, ⟨b, ej⟩, fun L2 σ H env lx re s ⟨b', ok⟩ => ?_⟩
          obtain ⟨a2, ys, sj2, ea2, ra2, _⟩ := re.own j b' ds ok
          have sub := s.2.elim (fun z => nomatch z) fun z => z j _ rfl
          have := sub _ sj2
          rw [sj] at this
          cases this
          exact ⟨ys, .of ea2, ra2⟩
theorem src_list {A : (Addr → Prop) → Prop} {S : Sp0} {a : Addr} {k : Wk} (hl : ∀ L σ H env, A L → RE c L σ H env → S σ env H → k.ok env → ∃ xs, SqL c.K H a xs ∧ Reps c.K (Av L σ env) H xs k.its) : Src c A S (Itl c.K a) k := by
  refine ⟨fun L i σ H env al re s k hi => ?_, fun L i σ H env al re s k hi => ?_, fun L i σ H env x H' d al re s k hd hy => ?_⟩
  · obtain ⟨xs, h, rs⟩ := hl L σ H env al re s k
    exact ⟨xs, h, by rw [rs.length]; exact hi⟩
  · obtain ⟨xs, h, rs⟩ := hl L σ H env al re s k
    have hi' : i < xs.length := by rw [rs.length]; exact hi
    exact ⟨xs, xs[i], h, List.getElem?_eq_getElem hi'⟩
  · obtain ⟨rfl, hy⟩ := hy
    obtain ⟨xs, h, rs⟩ := hl L σ H' env al re s k
    obtain ⟨v, ev, rv⟩ := rs.get hd
    have := hy xs h
    rw [ev] at this
    cases this
    exact ⟨fun _ _ e => e, rv⟩
theorem src_tup {A : (Addr → Prop) → Prop} {S : Sp0} {a : Addr} {k : Wk} (hl : ∀ L σ H env, A L → RE c L σ H env → S σ env H → k.ok env → ∃ xs, SqT c.K H a xs ∧ Reps c.K (Av L σ env) H xs k.its) : Src c A S (Itt c.K a) k := by
  refine ⟨fun L i σ H env al re s k hi => ?_, fun L i σ H env al re s k hi => ?_, fun L i σ H env x H' d al re s k hd hy => ?_⟩
  · obtain ⟨xs, h, rs⟩ := hl L σ H env al re s k
    exact ⟨xs, h, by rw [rs.length]; exact hi⟩
  · obtain ⟨xs, h, rs⟩ := hl L σ H env al re s k
    have hi' : i < xs.length := by rw [rs.length]; exact hi
    exact ⟨xs, xs[i], h, List.getElem?_eq_getElem hi'⟩
  · obtain ⟨rfl, hy⟩ := hy
    obtain ⟨xs, h, rs⟩ := hl L σ H' env al re s k
    obtain ⟨v, ev, rv⟩ := rs.get hd
    have := hy xs h
    rw [ev] at this
    cases this
    exact ⟨fun _ _ e => e, rv⟩
/-- a new pair -/
theorem pair_new {L : Addr → Prop} {σ : St} {H : Hp} {env : En} {Tt : Addr} {x y : V} {dx dy : D} (re : RE c L σ H env) (n : H Tt = none) (rx : Rep c.K (Av L σ env) H x dx) (ry : Rep c.K (Av L σ env) H y dy) :
    (∀ b o, H b = some o → upd H Tt (.tup [x, y]) b = some o) ∧ Rep c.K (Av L σ env) (upd H Tt (.tup [x, y])) (.ref Tt) (.tup [dx, dy]) := by
  have kp : ∀ b o, H b = some o → upd H Tt (.tup [x, y]) b = some o := fun b o e => by rw [upd_ne (ne_of_none e n)]; exact e
  exact ⟨kp, .tup (.inl (.inl upd_same)) (.cons (re.rep (.grow kp) rx) (.cons (re.rep (.grow kp) ry) .nil))⟩
theorem enumD_get {ds : List D} {i : Nat} {d : D} (h : (enumD ds)[i]? = some d) : ∃ d', ds[i]? = some d' ∧ d = .tup [.int (i : Int), d'] := by
  unfold enumD at h
  rw [List.getElem?_mapIdx] at h
  cases q : ds[i]? with
  | none => rw [q] at h; cases h
  | some d' => rw [q] at h; cases h; exact ⟨d', rfl, rfl⟩
theorem enumD_len (ds : List D) : (enumD ds).length = ds.length := by simp [enumD]
theorem src_enumL {A : (Addr → Prop) → Prop} {S : Sp0} {a : Addr} {k : Wk} (hl : ∀ L σ H env, A L → RE c L σ H env → S σ env H → k.ok env → ∃ xs, SqL c.K H a xs ∧ Reps c.K (Av L σ env) H xs k.its) : Src c A S (Ite c.K a) ⟨enumD k.its, k.chk⟩ := by
  refine ⟨fun L i σ H env al re s k hi => ?_, fun L i σ H env al re s k hi => ?_, fun L i σ H env x H' d al re s k hd hy => ?_⟩
  · obtain ⟨xs, h, rs⟩ := hl L σ H env al re s k
    exact ⟨xs, h, by rw [rs.length, ← enumD_len]; exact hi⟩
  · obtain ⟨xs, h, rs⟩ := hl L σ H env al re s k
    have hi' : i < xs.length := by rw [rs.length, ← enumD_len]; exact hi
    exact ⟨xs, xs[i], h, List.getElem?_eq_getElem hi'⟩
  · obtain ⟨Tt, y, rfl, n, rfl, hy⟩ := hy
    obtain ⟨xs, h, rs⟩ := hl L σ H env al re s k
    obtain ⟨d', e1, rfl⟩ := enumD_get hd
    obtain ⟨v, ev, rv⟩ := rs.get e1
    have := hy xs h
    rw [ev] at this
    cases this
    exact pair_new re n (.int _) rv
theorem src_enumT {A : (Addr → Prop) → Prop} {S : Sp0} {a : Addr} {k : Wk} (hl : ∀ L σ H env, A L → RE c L σ H env → S σ env H → k.ok env → ∃ xs, SqT c.K H a xs ∧ Reps c.K (Av L σ env) H xs k.its) : Src c A S (IteT c.K a) ⟨enumD k.its, k.chk⟩ := by
  refine ⟨fun L i σ H env al re s k hi => ?_, fun L i σ H env al re s k hi => ?_, fun L i σ H env x H' d al re s k hd hy => ?_⟩
  · obtain ⟨xs, h, rs⟩ := hl L σ H env al re s k
    exact ⟨xs, h, by rw [rs.length, ← enumD_len]; exact hi⟩
  · obtain ⟨xs, h, rs⟩ := hl L σ H env al re s k
    have hi' : i < xs.length := by rw [rs.length, ← enumD_len]; exact hi
    exact ⟨xs, xs[i], h, List.getElem?_eq_getElem hi'⟩
  · obtain ⟨Tt, y, rfl, n, rfl, hy⟩ := hy
    obtain ⟨xs, h, rs⟩ := hl L σ H env al re s k
    obtain ⟨d', e1, rfl⟩ := enumD_get hd
    obtain ⟨v, ev, rv⟩ := rs.get e1
    have := hy xs h
    rw [ev] at this
    cases this
    exact pair_new re n (.int _) rv
theorem zipD_get {xs ys : List D} {i : Nat} {d : D} (h : (zipD xs ys)[i]? = some d) : ∃ x y, xs[i]? = some x ∧ ys[i]? = some y ∧ d = .tup [x, y] := by
  unfold zipD at h
  rw [List.getElem?_zipWith] at h
  cases q : xs[i]? with
  | none => rw [q] at h; cases h
  | some x =>
    cases q2 : ys[i]? with
    | none => rw [q, q2] at h; cases h
    | some y => rw [q, q2] at h; cases h; exact ⟨x, y, rfl, rfl, rfl⟩
theorem zipD_len (xs ys : List D) : (zipD xs ys).length = min xs.length ys.length := by simp [zipD]
theorem src_zipL {A : (Addr → Prop) → Prop} {S : Sp0} {a b : Addr} {k : Wk} {es : List D} (hl : ∀ L σ H env, A L → RE c L σ H env → S σ env H → k.ok env → ∃ xs, SqL c.K H a xs ∧ Reps c.K (Av L σ env) H xs k.its) (hb : ∀ L σ H env, A L → RE c L σ H env → S σ env H → ∃ xs, SqL c.K H b xs ∧ Reps c.K (Av L σ env) H xs es) : Src c A S (Itz c.K a b) ⟨zipD k.its es, k.chk⟩ := by
  refine ⟨fun L i σ H env al re s k hi => ?_, fun L i σ H env al re s k hi => ?_, fun L i σ H env x H' d al re s k hd hy => ?_⟩
  · obtain ⟨xs, h, rs⟩ := hl L σ H env al re s k
    obtain ⟨ys, h2, rs2⟩ := hb L σ H env al re s
    refine ⟨xs, ys, h, h2, ?_⟩
    rw [rs.length, rs2.length]
    dsimp only at hi
    rw [zipD_len] at hi
    omega
  · obtain ⟨xs, h, rs⟩ := hl L σ H env al re s k
    obtain ⟨ys, h2, rs2⟩ := hb L σ H env al re s
    dsimp only at hi
    rw [zipD_len] at hi
    have h1' : i < xs.length := by rw [rs.length]; omega
    have h2' : i < ys.length := by rw [rs2.length]; omega
    exact ⟨xs, ys, xs[i], ys[i], h, h2, List.getElem?_eq_getElem h1', List.getElem?_eq_getElem h2'⟩
  · obtain ⟨Tt, y, z, rfl, n, rfl, hy, hz⟩ := hy
    obtain ⟨xs, h, rs⟩ := hl L σ H env al re s k
    obtain ⟨ys, h2, rs2⟩ := hb L σ H env al re s
    obtain ⟨d1, d2, e1, e2, rfl⟩ := zipD_get hd
    obtain ⟨v, ev, rv⟩ := rs.get e1
    obtain ⟨w, ew, rw'⟩ := rs2.get e2
    have q1 := hy xs h
    have q2 := hz ys h2
    rw [ev] at q1
    rw [ew] at q2
    cases q1
    cases q2
    exact pair_new re n rv rw'
theorem src_zipT {A : (Addr → Prop) → Prop} {S : Sp0} {a b : Addr} {ds es : List D} (hl : ∀ L σ H env, A L → RE c L σ H env → S σ env H → ∃ xs, SqT c.K H a xs ∧ Reps c.K (Av L σ env) H xs ds) (hb : ∀ L σ H env, A L → RE c L σ H env → S σ env H → ∃ xs, SqT c.K H b xs ∧ Reps c.K (Av L σ env) H xs es) : Src c A S (RZ.ItzT c.K a b) ⟨zipD ds es, none⟩ := by
  refine ⟨fun L i σ H env al re s k hi => ?_, fun L i σ H env al re s k hi => ?_, fun L i σ H env x H' d al re s k hd hy => ?_⟩
  · obtain ⟨xs, h, rs⟩ := hl L σ H env al re s
    obtain ⟨ys, h2, rs2⟩ := hb L σ H env al re s
    refine ⟨xs, ys, h, h2, ?_⟩
    rw [rs.length, rs2.length]
    dsimp only at hi
    rw [zipD_len] at hi
    omega
  · obtain ⟨xs, h, rs⟩ := hl L σ H env al re s
    obtain ⟨ys, h2, rs2⟩ := hb L σ H env al re s
    dsimp only at hi
    rw [zipD_len] at hi
    have h1' : i < xs.length := by rw [rs.length]; omega
    have h2' : i < ys.length := by rw [rs2.length]; omega
    exact ⟨xs, ys, xs[i], ys[i], h, h2, List.getElem?_eq_getElem h1', List.getElem?_eq_getElem h2'⟩
  · obtain ⟨Tt, y, z, rfl, n, rfl, hy, hz⟩ := hy
    obtain ⟨xs, h, rs⟩ := hl L σ H env al re s
    obtain ⟨ys, h2, rs2⟩ := hb L σ H env al re s
    obtain ⟨d1, d2, e1, e2, rfl⟩ := zipD_get hd
    obtain ⟨v, ev, rv⟩ := rs.get e1
    obtain ⟨w, ew, rw'⟩ := rs2.get e2
    have q1 := hy xs h
    have q2 := hz ys h2
    rw [ev] at q1
    rw [ew] at q2
    cases q1
    cases q2
    exact pair_new re n rv rw'
theorem src_rng {A : (Addr → Prop) → Prop} {S : Sp0} (m n : Int) : Src c A S (Itr m (n - m).toNat) ⟨rngD m n, none⟩ := by
  have len : (rngD m n).length = (n - m).toNat := by simp [rngD]
  refine ⟨fun L i σ H env al re s k hi => ?_, fun L i σ H env al re s k hi => ?_, fun L i σ H env x H' d al re s k hd hy => ?_⟩
  · show (n - m).toNat ≤ i
    rw [← len]; exact hi
  · show i < (n - m).toNat
    rw [← len]; exact hi
  · obtain ⟨rfl, rfl⟩ := hy
    dsimp only [rngD] at hd
    rw [List.getElem?_map] at hd
    cases q : (List.range (n - m).toNat)[i]? with
    | none => rw [q] at hd; cases hd
    | some j =>
      rw [q] at hd
      cases hd
      have : j = i := by
        have q2 := List.getElem?_eq_some_iff.mp q
        obtain ⟨h1, h2⟩ := q2
        simpa using h2.symm
      subst this
      exact ⟨fun _ _ e => e, .int _⟩
theorem di_tup (he : PE X e (dE c W fa)) (hK : c.K = X.K := by rfl) : PI X tg e (dI c W (fiT fa)) := PIw (pi_tup he) fun σ H R h => by
  obtain ⟨env, L, r, h⟩ := h
  refine dE.of r (h.bind.mono fun t e1 H1 r1 s1 h1 v q => ?_)
  rw [← hK]
  cases t with
  | al i => exact h1.elim
  | fr ds => exact h1.elim
  | im d =>
    cases d with
    | tup ds =>
      have q0 : Rep c.K (Av L σ e1) H1 v (.tup ds) := q
      cases (show Rep c.K (Av L σ e1) H1 v (.tup ds) from q) with
      | tup ht rs =>
        rename_i a xs
        exact ⟨a, rfl, ⟨xs, ht⟩, h1 H1 r1 .refl (Itt c.K a) ⟨trivial, src_tup fun L2 σ' H' env' lx re s _ => ⟨xs, (r1.tk s.1).sqt ht, r1.reps s.1 (Reps.lx lx rs)⟩⟩⟩
    | non => exact h1.elim
    | bl b => exact h1.elim
    | int b => exact h1.elim
    | str b => exact h1.elim
    | lst b => exact h1.elim
    | fz b => exact h1.elim
  | ft cs =>
    have q : Rep c.K (Av L σ e1) H1 v (.tup (cs.map Cp.d)) := q.wk
    cases q with
    | tup ht rs =>
      rename_i a xs
      exact ⟨a, rfl, ⟨xs, ht⟩, h1 H1 r1 .refl (Itt c.K a) ⟨trivial, src_tup fun L2 σ' H' env' lx re s _ => ⟨xs, (r1.tk s.1).sqt ht, r1.reps s.1 (Reps.lx lx rs)⟩⟩⟩
theorem dI_ok {σ : St} {H : Hp} {L : Addr → Prop} {env : En} {r : R Wk} {P : Wk → En → Hp → Prop} (h : dK c W L σ H env r P) (re : RE c L σ H env) (ok : ∀ cls e, r ≠ .ex cls e) (st : ∀ k e2, r = .ok k e2 → RE c L σ H e2 ∧ Stp σ env H σ e2 H) : ∃ k e2, r = .ok k e2 ∧ P k e2 H := by
  cases r with
  | er => exact h.elim
  | ex cls e => exact (ok cls e rfl).elim
  | ok k e2 => exact ⟨k, e2, rfl, h H (st k e2 rfl).1 (st k e2 rfl).2⟩
theorem iL_ex {fz : Bool} {t : T} {env : En} : ∀ cls e, iL fz t env ≠ .ex cls e := fun cls e z => by
  unfold iL at z
  split at z
  · cases z
  · cases z
  · split at z
    · split at z <;> cases z
    · cases z
  · cases z
theorem di_list (fz : Bool) (he : PE X e (dE c W fa)) (hK : c.K = X.K := by rfl) : PI X tg e (dI c W (fiL fz fa)) := PIw (pi_list he) fun σ H R h => by
  obtain ⟨env, L, r, h⟩ := h
  refine dE.of r (h.bind.mono fun t e1 H1 r1 s1 h1 v q => ?_)
  rw [← hK]
  obtain ⟨k, e2, ek, h1⟩ := dI_ok h1 r1 iL_ex fun k e2 e => by
    obtain ⟨a, _, re, st, _⟩ := lst_of r1 q.v e
    exact ⟨re, st⟩
  obtain ⟨a, rfl, re, st, ok, hl⟩ := lst_of r1 q.v ek
  obtain ⟨xs, hx, _⟩ := hl L σ H1 e2 (fun _ z => .inl z) re ⟨.refl, .inr fun _ _ _ _ e => e⟩ ok
  exact ⟨a, rfl, ⟨xs, hx⟩, h1 (Itl c.K a) ⟨ok, src_list hl⟩⟩
theorem RepO_int {K : PySem.W.Frag} {G : Addr → Prop} {H : Hp} {v : V} {n : Int} (h : RepO K G H v (.int n)) : v = .int n := by
  cases (show Rep K G H v (.int n) from h)
  rfl
theorem di_range1 {fas : FA} (hg : Gl X "range") (hm : X.mg "range" = none) (ha : PA X [a] (dA c W fas)) (hs : starEach [a] X.env = [(false, eval a X.env)] := by rfl) : PI X tg (.Call (.Name "range" p) [a] [] pos) (dI c W (fiR1 fas)) :=
  PIw (pi_range1 hg hm ha hs) fun σ H R h => by
  obtain ⟨env, L, r, h⟩ := h
  refine dA.of r (h.bind.mono fun ts e1 H1 r1 s1 h1 vs As q n r2 => ?_)
  unfold iR1 at h1
  split at h1
  · rename_i m ev
    have qq := q.oprs r1 r2 (fun a z => ⟨z, (n a z).1⟩) ev
    cases qq with
    | cons qa qs =>
      cases qs
      cases RepO_int qa
      by_cases z : -(2 ^ 62) ≤ m ∧ m < 2 ^ 62
      · rw [if_pos z] at h1
        refine ⟨m, rfl, z.1, z.2, ?_⟩
        have := h1 H1 r1 .refl (Itr 0 (m - 0).toNat) ⟨trivial, src_rng 0 m⟩
        rwa [Int.sub_zero] at this
      · rw [if_neg z] at h1
        exact h1.elim
  · exact h1.elim
theorem di_range2 {fas : FA} (hg : Gl X "range") (hm : X.mg "range" = none) (ha : PA X [a, b] (dA c W fas)) (hs : starEach [a, b] X.env = [(false, eval a X.env), (false, eval b X.env)] := by rfl) (hs2 : starEach [b] X.env = [(false, eval b X.env)] := by rfl) : PI X tg (.Call (.Name "range" p) [a, b] [] pos) (dI c W (fiR2 fas)) :=
  PIw (pi_range2 hg hm ha hs hs2) fun σ H R h => by
  obtain ⟨env, L, r, h⟩ := h
  refine dA.of r (h.bind.mono fun ts e1 H1 r1 s1 h1 vs As q n r2 => ?_)
  unfold iR2 at h1
  split at h1
  · rename_i m m2 ev
    have qq := q.oprs r1 r2 (fun a z => ⟨z, (n a z).1⟩) ev
    cases qq with
    | cons qa qs =>
      cases qs with
      | cons qb qs =>
        cases qs
        cases RepO_int qa
        cases RepO_int qb
        by_cases z : -(2 ^ 62) ≤ m ∧ m < 2 ^ 62 ∧ -(2 ^ 62) ≤ m2 ∧ m2 < 2 ^ 62
        · rw [if_pos z] at h1
          exact ⟨m, m2, rfl, z, h1 H1 r1 .refl (Itr m (m2 - m).toNat) ⟨trivial, src_rng m m2⟩⟩
        · rw [if_neg z] at h1
          exact h1.elim
  · exact h1.elim
theorem onI_ok {f : List D → List D} {r : R Wk} {k : Wk} {e : En} (h : onI f r = .ok k e) : ∃ k0, r = .ok k0 e ∧ k = ⟨f k0.its, k0.chk⟩ := by
  cases r with
  | er => cases h
  | ex x e => cases h
  | ok k0 e0 => cases h; exact ⟨k0, rfl, rfl⟩
theorem onI_ex {f : List D → List D} {r : R Wk} (h : ∀ cls e, r ≠ .ex cls e) : ∀ cls e, onI f r ≠ .ex cls e := fun cls e z => by
  cases r with
  | er => cases z
  | ex x e => exact h _ _ rfl
  | ok k0 e0 => cases z
theorem di_enum {fas : FA} {elts : List Expr} {kk : Nat} {tpos : Pos} (fz : Bool) (hg : Gl X "enumerate") (hm : X.mg "enumerate" = none) (ha : PA X [e] (dA c W fas)) (hK : c.K = X.K := by rfl) (hs : starEach [e] X.env = [(false, eval e X.env)] := by rfl) :
    PI X (.Tuple elts kk tpos) (.Call (.Name "enumerate" p) [e] [] pos) (dI c W (fiE fz fas)) :=
  PIw (pi_enumA hg hm ha hs) fun σ H R h => by
  obtain ⟨env, L, r, h⟩ := h
  refine dA.of r (h.bind.mono fun ts e1 H1 r1 s1 h1 vs As q n r2 => ?_)
  rw [← hK]
  obtain ⟨ql, qv⟩ := q.vs r2 fun a z => ⟨z, (n a z).1⟩
  unfold iE at h1
  split at h1
  · rename_i ds
    obtain ⟨v, rfl⟩ : ∃ v, vs = [v] := by
      cases vs with
      | nil => cases ql
      | cons v vs =>
        cases vs with
        | nil => exact ⟨v, rfl⟩
        | cons _ _ => cases ql
    have q : Rep c.K (Av L σ e1) H1 v (.tup ds) := qv 0 v _ rfl rfl
    cases q with
    | tup ht rs =>
      rename_i a xs
      exact ⟨a, xs, rfl, .inr ⟨ht, h1 H1 r1 .refl (IteT c.K a) ⟨trivial, src_enumT (k := ⟨ds, none⟩) fun L2 σ' H' env' lx re s _ => ⟨xs, (r1.tk s.1).sqt ht, r1.reps s.1 (Reps.lx lx rs)⟩⟩⟩⟩
  · rename_i t _
    obtain ⟨v, rfl⟩ : ∃ v, vs = [v] := by
      cases vs with
      | nil => cases ql
      | cons v vs =>
        cases vs with
        | nil => exact ⟨v, rfl⟩
        | cons _ _ => cases ql
    have qw := qv 0 v _ rfl rfl
    obtain ⟨k, e2, ek, h1⟩ := dI_ok h1 r1 (onI_ex iL_ex) fun k e2 e => by
      obtain ⟨k0, e, _⟩ := onI_ok e
      obtain ⟨a, _, re, st, _⟩ := lst_of r1 qw e
      exact ⟨re, st⟩
    obtain ⟨k0, ek0, rfl⟩ := onI_ok ek
    obtain ⟨a, rfl, re, st, ok, hl⟩ := lst_of r1 qw ek0
    have hl : ∀ L2 σ' H' env', Lx L H1 L2 → RE c L2 σ' H' env' → Sw ⟨enumD k0.its, k0.chk⟩ σ e2 H1 σ' env' H' → k0.ok env' → ∃ xs, SqL c.K H' a xs ∧ Reps c.K (Av L2 σ' env') H' xs k0.its := hl
    obtain ⟨xs, hx, _⟩ := hl L σ H1 e2 (fun _ z => .inl z) re ⟨.refl, .inr fun _ _ _ _ e => e⟩ ok
    exact ⟨a, xs, rfl, .inl ⟨hx, h1 (Ite c.K a) ⟨ok, src_enumL hl⟩⟩⟩
  · exact h1.elim
theorem di_zip {fas : FA} {elts : List Expr} {kk : Nat} {tpos : Pos} (fz : Bool) (hg : Gl X "zip") (hm : X.mg "zip" = none) (ha : PA X [a, b] (dA c W fas)) (hK : c.K = X.K := by rfl) (hs : starEach [a, b] X.env = (false, eval a X.env) :: starEach [b] X.env := by rfl) (hpl : (backTo pos (starEach [b] X.env)).any (·.1) = false := by rfl) :
    PI X (.Tuple elts kk tpos) (.Call (.Name "zip" p) [a, b] [] pos) (dI c W (fiZ fz fas)) :=
  PIw (RZ.pi_zipA hg hm ha hs hpl) fun σ H R h => by
  obtain ⟨env, L, r, h⟩ := h
  refine dA.of r (h.bind.mono fun ts e1 H1 r1 s1 h1 vs As q n r2 => ?_)
  rw [← hK]
  obtain ⟨ql, qv⟩ := q.vs r2 fun a z => ⟨z, (n a z).1⟩
  have two : ∀ t u, ts = [t, u] → ∃ v w, vs = [v, w] := fun t u e => by
    subst e
    match vs, ql with
    | [v, w], _ => exact ⟨v, w, rfl⟩
  unfold iZ at h1
  split at h1
  · rename_i ds es
    obtain ⟨v, w, rfl⟩ := two _ _ rfl
    have q : Rep c.K (Av L σ e1) H1 v (.tup ds) := qv 0 v _ rfl rfl
    have q2 : Rep c.K (Av L σ e1) H1 w (.tup es) := qv 1 w _ rfl rfl
    cases q with
    | tup ht rs =>
      rename_i a xs
      cases q2 with
      | tup ht2 rs2 =>
        rename_i b ys
        exact ⟨a, b, xs, ys, rfl, .inr ⟨ht, ht2, h1 H1 r1 .refl (RZ.ItzT c.K a b) ⟨trivial, src_zipT (fun L2 σ' H' env' lx re s => ⟨xs, (r1.tk s.1).sqt ht, r1.reps s.1 (Reps.lx lx rs)⟩) fun L2 σ' H' env' lx re s => ⟨ys, (r1.tk s.1).sqt ht2, r1.reps s.1 (Reps.lx lx rs2)⟩⟩⟩⟩
  · rename_i t u _
    obtain ⟨v, w, rfl⟩ := two _ _ rfl
    have qw := qv 0 v _ rfl rfl
    have qw2 := qv 1 w _ rfl rfl
    cases e2 : iL true u.weak e1 with
    | er => rw [e2] at h1; exact h1.elim
    | ex x e => exact (iL_ex _ _ e2).elim
    | ok k2 e2' =>
      rw [e2, bind_ok] at h1
      obtain ⟨b, rfl, re2, st2, ok2, hl2⟩ := lst_of r1 qw2 e2
      have qx := qw.step r1 st2
      obtain ⟨k, e3, ek, h1⟩ := dI_ok h1 r1 (onI_ex iL_ex) fun k e3 e => by
        obtain ⟨k0, e, _⟩ := onI_ok e
        obtain ⟨a, _, re, st, _⟩ := lst_of re2 qx e
        exact ⟨re, st2.trans st⟩
      obtain ⟨k0, ek0, rfl⟩ := onI_ok ek
      obtain ⟨a, rfl, re, st, ok, hl⟩ := lst_of re2 qx ek0
      have c2 : k2.chk = none := by
        unfold iL at e2
        split at e2
        · cases e2; rfl
        · cases e2; rfl
        · split at e2
          · cases e2; rfl
          · cases e2
        · cases e2
      have hl2 : ∀ L2 σ' H' env', Lx L H1 L2 → RE c L2 σ' H' env' → Sw ⟨zipD k0.its k2.its, k0.chk⟩ σ e3 H1 σ' env' H' → ∃ xs, SqL c.K H' b xs ∧ Reps c.K (Av L2 σ' env') H' xs k2.its := fun L2 σ' H' env' lx re' s => by
        refine hl2 L2 σ' H' env' lx re' ⟨st.trans s.1, .inl c2⟩ ?_
        unfold Wk.ok
        rw [c2]
        trivial
      obtain ⟨xs, hx, _⟩ := hl L σ H1 e3 (fun _ z => .inl z) re ⟨.refl, .inr fun _ _ _ _ e => e⟩ ok
      obtain ⟨ys, hy, _⟩ := hl2 L σ H1 e3 (fun _ z => .inl z) re ⟨.refl, .inr fun _ _ _ _ e => e⟩
      exact ⟨a, b, xs, ys, rfl, .inl ⟨hx, hy, h1 (Itz c.K a b) ⟨ok, src_zipL hl hl2⟩⟩⟩
  · exact h1.elim
end
end DL
namespace DL
open PySem PySem.Spec L2

/-! ### for -/
def loopF (g : FG) (f : FS) : List D → En → Fl
  | [], env => .nx env
  | d :: ds, env => match g (.im d) env with
    | .nx e => match f e with
      | .nx e1 => loopF g f ds e1
      | .ct e1 => loopF g f ds e1
      | .bk e1 => .nx e1
      | .rt t e1 => .rt t e1
      | .ex x e1 => .ex x e1
      | .er => .er
    | _ => .er
def sFor (fi : FI) (g : FG) (f : FS) : FS := fun env => (fi env).bindF fun k e => match k.chk with
  | none => loopF g f k.its e
  | some _ => .er
section
variable {X : Cx} {c : Cc} {W : WX} {pos p : Pos} {iter tg : Expr} {body : List Stmt} {fi : FI} {g : FG} {f : FS}
theorem d_for : ∀ D σ H, dS c W (sFor fi g f) D σ H → tFor (dI c W fi) (dG c g) (dS c W f) D σ H := fun D σ H h => by
  obtain ⟨env, L, re, h⟩ := h
  refine ⟨env, L, re, (sK.bind h).mono fun k e1 H1 r1 s1 h1 J ⟨ok, src⟩ => ?_⟩
  obtain ⟨its, chk⟩ := k
  cases chk with
  | some z => exact h1.elim
  | none =>
    have h1 : sK c W L (Stp σ env H) (Nn σ env H) (loopF g f its e1) D := h1
    have sw : ∀ {σ' env' H'}, Stp σ e1 H1 σ' env' H' → Sw ⟨its, none⟩ σ e1 H1 σ' env' H' := fun s => ⟨s, .inl rfl⟩
    refine ⟨fun i m σ' H' => m = its.length - i ∧ ∃ env', RE c L σ' H' env' ∧ Stp σ e1 H1 σ' env' H' ∧ sK c W L (Stp σ' env' H') (Nn σ' env' H') (loopF g f (its.drop i) env') D, ⟨_, rfl, e1, r1, .refl, h1.here s1⟩, fun i m σ' H' ⟨em, env', r, s, q⟩ => ?_⟩
    by_cases hi : its.length ≤ i
    · refine .inl ⟨src.stop L i σ' H' env' (fun _ z => .inl z) r (sw s) trivial hi, ?_⟩
      rw [List.drop_eq_nil_of_le hi] at q
      exact q σ' H' r .refl
    · have hi : i < its.length := Nat.lt_of_not_le hi
      refine .inr ⟨src.go L i σ' H' env' (fun _ z => .inl z) r (sw s) trivial hi, fun σ2 H2 => ∃ env2, RE c L σ2 H2 env2 ∧ Stp σ e1 H1 σ2 env2 H2 ∧ sK c W L (Stp σ2 env2 H2) (Nn σ2 env2 H2) (loopF g f (its.drop (i + 1)) env2) D, fun σ2 H2 n => ⟨its.length - (i + 1), by omega, rfl, n⟩, fun x H'' y => ?_⟩
      rw [List.drop_eq_getElem_cons hi] at q
      obtain ⟨kp, rx⟩ := src.yld L i σ' H' env' x H'' its[i] (fun _ z => .inl z) r (sw s) trivial (List.getElem?_eq_getElem hi) y
      have r' := r.grow kp
      have s' : Stp σ' env' H' σ' env' H'' := .grow kp
      refine ⟨env', L, Nn σ' env' H'', .im its[i], r', rx, ?_⟩
      have q : sK c W L (Stp σ' env' H'') (Nn σ' env' H'') (loopF g f (its[i] :: its.drop (i + 1)) env') D := q.here s'
      unfold loopF at q
      cases eg : g (.im its[i]) env' with
      | er => rw [eg] at q; exact q.elim
      | rt t e => rw [eg] at q; exact q.elim
      | bk e => rw [eg] at q; exact q.elim
      | ct e => rw [eg] at q; exact q.elim
      | ex x e => rw [eg] at q; exact q.elim
      | nx e2 =>
        rw [eg] at q
        intro σ2 H2 r2 n2
        have s2 : Stp σ' env' H'' σ2 e2 H2 := StpN.after .refl n2
        refine ⟨e2, L, r2, ?_⟩
        dsimp only at q
        have q := q.here s2
        cases ef : f e2 with
        | er => rw [ef] at q; exact q.elim
        | nx e3 => rw [ef] at q; exact fun σ3 H3 r3 s3 => ⟨e3, r3, ((s.trans s').trans s2).trans s3, q.here s3⟩
        | ct e3 => rw [ef] at q; exact fun σ3 H3 r3 s3 => ⟨e3, r3, ((s.trans s').trans s2).trans s3, q.here s3⟩
        | bk e3 => rw [ef] at q; exact q
        | rt t e3 => rw [ef] at q; exact q
        | ex x e3 => rw [ef] at q; exact q
theorem ds_for (hp : PassesOwn (model X.prog X.w) X.A X.env X.xe) (hc : X.calm = true) (hi : PI X tg iter (dI c W fi)) (hg : PG X tg (dG c g)) (hb : PSs X body (dS c W f))
    (hs : ∀ x, foldedSetIterable iter X.env x = pure x := by intro _; rfl) : PS X (.For tg iter body [] pos) (dS c W (sFor fi g f)) := PSw (ps_for hp hc hi hg hb hs) d_for
end

/-! ### comprehensions -/
inductive CT where
  | one (i : Nat) | tup (is : List Nat)
def setEach : List Nat → List D → En → En
  | i :: is, d :: ds, env => setEach is ds (env.set i (.im d))
  | _, _, env => env
def envT (t : CT) (d : D) (env : En) : Option En := match t with
  | .one i => some (env.set i (.im d))
  | .tup is => match d with
    | .tup ds => if is.length = ds.length then some (setEach is ds env) else none
    | _ => none
def gEach : List Nat → TGs
  | [] => gNil
  | i :: is => gCons (gName i) (gEach is)
def gCT (K : PySem.W.Frag) (t : CT) : TG := match t with
  | .one i => gName i
  | .tup is => gTup K is.length (gEach is)
def CT.ins (t : CT) (vs : List Nat) : Prop := match t with
  | .one i => i ∈ vs
  | .tup is => ∀ i ∈ is, i ∈ vs
def wipeE (env : En) : List Nat → En
  | [] => env
  | v :: vs => (wipeE env vs).set v .no
theorem wipeE_length (env : En) : ∀ vs : List Nat, (wipeE env vs).length = env.length
  | [] => rfl
  | v :: vs => by unfold wipeE; rw [List.length_set, wipeE_length env vs]
theorem wipeE_out {env : En} {i : Nat} : ∀ {vs : List Nat}, i ∉ vs → (wipeE env vs)[i]? = env[i]?
  | [], _ => rfl
  | v :: vs, h => by
    unfold wipeE
    rw [List.getElem?_set_ne (fun z => h (by rw [z]; exact List.mem_cons_self))]
    exact wipeE_out fun z => h (List.mem_cons_of_mem _ z)
theorem wipeE_in {env : En} {i : Nat} {s : Sl} : ∀ {vs : List Nat}, i ∈ vs → (wipeE env vs)[i]? = some s → s = .no
  | v :: vs, h, e => by
    unfold wipeE at e
    by_cases z : v = i
    · subst z
      rw [List.getElem?_set] at e
      simp only [if_true] at e
      split at e
      · cases e; rfl
      · cases e
    · rw [List.getElem?_set_ne z] at e
      exact wipeE_in ((List.mem_cons.mp h).resolve_left fun y => z y.symm) e
theorem wipe_in {σ : St} {i : Nat} : ∀ {vs : List Nat}, i ∈ vs → (wipe σ vs)[i]? = if i < σ.length then some none else none
  | v :: vs, h => by
    unfold wipe
    by_cases z : v = i
    · subst z
      rw [List.getElem?_set, wipe_length]
      simp
    · rw [List.getElem?_set_ne z]
      exact wipe_in ((List.mem_cons.mp h).resolve_left fun y => z y.symm)
theorem wipe_eq {σ σ' : St} {vs : List Nat} (l : σ'.length = σ.length) (o : ∀ j, j ∉ vs → σ'[j]? = σ[j]?) : wipe σ' vs = wipe σ vs := by
  apply List.ext_getElem?
  intro j
  by_cases z : j ∈ vs
  · rw [wipe_in z, wipe_in z, l]
  · rw [RZ_wipe_out z, RZ_wipe_out z, o j z]
where RZ_wipe_out {σ : St} {i : Nat} : ∀ {vs : List Nat}, i ∉ vs → (wipe σ vs)[i]? = σ[i]?
  | [], _ => rfl
  | v :: vs, h => by
    unfold wipe
    rw [List.getElem?_set_ne (fun z => h (by rw [z]; exact List.mem_cons_self))]
    exact RZ_wipe_out fun z => h (List.mem_cons_of_mem _ z)
theorem wipe_out' {σ : St} {i : Nat} {vs : List Nat} (h : i ∉ vs) : (wipe σ vs)[i]? = σ[i]? := wipe_eq.RZ_wipe_out h
/-- slots forgotten, or put back where nothing is known of them -/
theorem RE.sub {c : Cc} {L : Addr → Prop} {σ σ' : St} {H : Hp} {env env' : En} (h : RE c L σ H env) (l : env'.length = σ'.length) (k : ∀ (j : Nat) (s : Sl), env'[j]? = some s → s = .no ∨ (env[j]? = some s ∧ σ'[j]? = σ[j]?)) : RE c L σ' H env' ∧ (∀ a, ownM σ' env' a → ownM σ env a) ∧ Stp σ env H σ' env' H := by
  have ow : ∀ a, ownM σ' env' a → ownM σ env a := fun a ⟨i, io, ds, e1, e2⟩ => by
    rcases k i _ e1 with z | ⟨q1, q2⟩
    · cases z
    · exact ⟨i, io, ds, q1, q2 ▸ e2⟩
  have av : ∀ b, Av L σ env b → Av L σ' env' b := fun b g => ⟨g.1, fun z => g.2 (ow b z)⟩
  refine ⟨⟨l, fun i d e => ?_, fun i io ds e => ?_, fun i j io jo ds es a e1 e2 e3 e4 => ?_, fun a la => ⟨fun z => (h.ext a la).1 (ow a z), (h.ext a la).2⟩, h.fr, h.io⟩, ow, fun b n => ⟨rfl, fun z => n (z.imp (ow b) id)⟩⟩
  · rcases k i _ e with z | ⟨q1, q2⟩
    · cases z
    · obtain ⟨v, e1, r⟩ := h.im i d q1
      exact ⟨v, q2.trans e1, r.mono (.refl H) fun b xs g e => ⟨av b g, e⟩⟩
  · rcases k i _ e with z | ⟨q1, q2⟩
    · cases z
    · obtain ⟨a, xs, e1, e2, r, z⟩ := h.own i io ds q1
      exact ⟨a, xs, q2.trans e1, e2, r.mono (.refl H) (fun b xs g e => ⟨av b g, e⟩), z⟩
  · rcases k i _ e1 with z | ⟨q1, q2⟩
    · cases z
    · rcases k j _ e2 with z | ⟨q3, q4⟩
      · cases z
      · exact h.inj i j io jo ds es a q1 q3 (q2 ▸ e3) (q4 ▸ e4)
theorem RE.wipe {c : Cc} {L : Addr → Prop} {σ : St} {H : Hp} {env : En} (vs : List Nat) (h : RE c L σ H env) : RE c L (wipe σ vs) H (wipeE env vs) ∧ (∀ a, ownM (L2.wipe σ vs) (wipeE env vs) a → ownM σ env a) ∧ Stp σ env H (L2.wipe σ vs) (wipeE env vs) H :=
  h.sub (by rw [wipeE_length, wipe_length, h.len]) fun j s e => by
    by_cases z : j ∈ vs
    · exact .inl (wipeE_in z e)
    · rw [wipeE_out z] at e
      exact .inr ⟨e, wipe_out' z⟩
/-- a list to keep off is changed -/
theorem RE.ext_put {c : Cc} {L : Addr → Prop} {σ : St} {H H' : Hp} {env : En} {a : Addr} {xs' : List V} (h : RE c L σ H env) (la : L a) (kp : ∀ b, b ≠ a → H' b = H b) (ea : H' a = some (.lst xs')) (h0 : c.H0 a = none) : RE c L σ H' env := by
  have tk : TK H H' := by
    obtain ⟨_, ys, e⟩ := h.ext a la
    have ne : ∀ b o, H b = some o → (∀ xs, o ≠ .lst xs) → H' b = some o := fun b o e2 n => by
      rw [kp b fun z => ?_]
      · exact e2
      · rw [z, e] at e2
        cases e2
        exact n _ rfl
    exact ⟨fun b xs e => ne b _ e (fun _ z => nomatch z), fun b o u e => ne b _ e (fun _ z => nomatch z)⟩
  have go : ∀ b xs, Av L σ env b → H b = some (HO.lst xs) → Av L σ env b ∧ H' b = some (HO.lst xs) := fun b xs g e => ⟨g, by rw [kp b fun z => g.1 (by rw [z]; exact la)]; exact e⟩
  refine ⟨h.len, fun i d e => ?_, fun i io ds e => ?_, h.inj, fun b lb => ⟨(h.ext b lb).1, ?_⟩, fun b o n e => ?_, fun b ib => ?_⟩
  · obtain ⟨v, e1, r⟩ := h.im i d e
    exact ⟨v, e1, r.mono tk go⟩
  · obtain ⟨b, xs, e1, e2, r, z⟩ := h.own i io ds e
    refine ⟨b, xs, e1, ?_, r.mono tk go, z⟩
    rw [kp b fun z => (h.ext a la).1 ⟨i, io, ds, e, by rw [← z]; exact e1⟩]
    exact e2
  · by_cases z : b = a
    · exact ⟨_, by rw [z]; exact ea⟩
    · rw [kp b z]
      exact (h.ext b lb).2
  · rw [kp b fun z => by rw [z, h0] at e; cases e]
    exact h.fr b o n e
  · by_cases z : b = a
    · exact ⟨_, by rw [z]; exact ea⟩
    · rw [kp b z]
      exact h.io b ib
theorem RE.setEach {c : Cc} {L : Addr → Prop} {H : Hp} {vs : List Nat} {Q : St → Hp → Prop} : ∀ (is : List Nat) (ds : List D) {σ : St} {env : En} {xs : List V}, RE c L σ H env → Reps c.K (Av L σ env) H xs ds → is.length = ds.length → (∀ i ∈ is, i ∈ vs) →
    (∀ σ2, RE c L σ2 H (setEach is ds env) → Stp σ env H σ2 (DL.setEach is ds env) H → L2.wipe σ2 vs = L2.wipe σ vs → Q σ2 H) → gEach is xs σ H Q
  | [], [], σ, env, xs, r, q, _, _, k => by
    cases q
    exact ⟨rfl, k σ r .refl rfl⟩
  | [], d :: ds, _, _, _, _, _, e, _, _ => by cases e
  | i :: is, [], _, _, _, _, _, e, _, _ => by cases e
  | i :: is, d :: ds, σ, env, xs, r, q, e, n, k => by
    cases q with
    | cons q qs =>
      obtain ⟨q1, q2⟩ := r.setIm (i := i) q
      refine ⟨_, _, rfl, RE.setEach is ds q1 (r.reps q2 qs) (by simpa using e) (fun j z => n j (List.mem_cons_of_mem _ z)) fun σ2 r2 s2 w2 => k σ2 r2 (q2.trans s2) (w2.trans ?_)⟩
      refine wipe_eq (by rw [List.length_set]) fun j z => ?_
      rw [List.getElem?_set_ne]
      intro y
      exact z (y ▸ n i List.mem_cons_self)
theorem gCT_of {c : Cc} {L : Addr → Prop} {H : Hp} {vs : List Nat} {Q : St → Hp → Prop} {σ : St} {env env2 : En} {v : V} {d : D} {t : CT} (r : RE c L σ H env) (q : Rep c.K (Av L σ env) H v d) (e : envT t d env = some env2) (n : t.ins vs)
    (k : ∀ σ2, RE c L σ2 H env2 → Stp σ env H σ2 env2 H → L2.wipe σ2 vs = L2.wipe σ vs → Q σ2 H) : gCT c.K t v σ H Q := by
  cases t with
  | one i =>
    cases e
    obtain ⟨q1, q2⟩ := r.setIm (i := i) q
    refine k _ q1 q2 (wipe_eq (by rw [List.length_set]) fun j z => ?_)
    rw [List.getElem?_set_ne]
    intro y
    exact z (y ▸ n)
  | tup is =>
    cases q with
    | tup ht rs =>
      rename_i a xs ds
      dsimp only [envT] at e
      split at e
      · rename_i hl
        cases e
        exact ⟨a, xs, rfl, ht, by rw [rs.length, hl], RE.setEach is ds r rs hl n k⟩
      · cases e
    | _ => cases e
open Classical in
noncomputable def lcL (k : Wk) (vs : List Nat) (t : CT) (ft : FT) (fe : FE) : List D → List D → En → R (List D)
  | [], acc, env => if k.ok env then .ok acc env else .er
  | d :: ds, acc, env => if k.ok env ∧ acc.length < sizeLine then
      match envT t d env with
      | some e1 => match ft e1 with
        | .ok true e2 => match fe e2 with
          | .ok u e3 => match u.weak with
            | .im y => lcL k vs t ft fe ds (acc ++ [y]) (wipeE e3 vs)
            | _ => .er
          | _ => .er
        | .ok false e2 => lcL k vs t ft fe ds acc (wipeE e2 vs)
        | _ => .er
      | none => .er
    else .er
noncomputable def eLc (fi : FI) (vs : List Nat) (t : CT) (ft : FT) (fe : FE) : FE := fun env => (fi env).bind fun k e => (lcL k vs t ft fe k.its [] (wipeE e vs)).bind fun ys e2 => .ok (.fr ys) e2
theorem lcL_ex {k : Wk} {vs : List Nat} {t : CT} {ft : FT} {fe : FE} : ∀ ds acc env x e, lcL k vs t ft fe ds acc env ≠ .ex x e
  | [], acc, env, x, e, z => by
    unfold lcL at z
    split at z <;> cases z
  | d :: ds, acc, env, x, e, z => by
    unfold lcL at z
    split at z
    · split at z
      · split at z
        · split at z
          · split at z
            · exact lcL_ex _ _ _ _ _ z
            · cases z
          · cases z
        · exact lcL_ex _ _ _ _ _ z
        · cases z
      · cases z
    · cases z
abbrev WF : WX := fun _ _ _ _ => False
def tT : FT := fun env => .ok true env
section
variable {X : Cx} {c : Cc} {W : WX} {pos p : Pos} {elt iter tg cnd : Expr} {ifs : List Expr} {fi : FI} {ft : FT} {fe : FE} {t : CT} {vs : List Nat}
theorem PTsw {t t' : TT} (h : PTs X ifs t) (k : ∀ σ H Q, t' σ H Q → t σ H Q) : PTs X ifs t' := ⟨fun pins s σ H Q I q => h.run pins s σ H Q I (k σ H Q q)⟩
theorem dts_nil : PTs X [] (dT c W tT) := PTsw pts_nil fun σ H Q h => by
  obtain ⟨env, L, r, h⟩ := h
  exact h H r .refl
theorem dts_one (h : PT X cnd (dT c W ft)) : PTs X [cnd] (dT c W ft) := pts_one h
theorem d_lc (hv : t.ins vs) : ∀ σ H Q, dE c W (eLc fi vs t ft fe) σ H Q → tLc (dI c W fi) (gCT c.K t) (dT c WF ft) (dE c WF fe) vs σ H Q := fun σ H Q h => by
  obtain ⟨env, L, re, h⟩ := h
  refine ⟨env, L, re, h.bind.mono fun k e1 H1 r1 s1 h1 J ⟨ok, src⟩ => ?_⟩
  intro Dd nD
  cases el : lcL k vs t ft fe k.its [] (wipeE e1 vs) with
  | er => rw [el] at h1; exact h1.elim
  | ex x e => exact (lcL_ex _ _ _ _ _ el).elim
  | ok ys e2 =>
    rw [el] at h1
    have h1 : ∀ H', RE c L σ H' e2 → Stp σ e1 H1 σ e2 H' → ∀ v, RepT c L (Nn σ env H) σ H' e2 v (.fr ys) → Q v H' := h1
    have h0 : c.H0 Dd = none := r1.h0 nD
    have nL : ¬ L Dd := fun z => by
      obtain ⟨_, xs, e⟩ := r1.ext Dd z
      rw [nD] at e
      cases e
    have lx : Lx L H1 (fun b => L b ∨ b = Dd) := fun a z => z.imp id fun z => by rw [z]; exact nD
    have kp0 : ∀ b o, H1 b = some o → upd H1 Dd (.lst []) b = some o := fun b o e => by rw [upd_ne (ne_of_none e nD)]; exact e
    have rm : RE c (fun b => L b ∨ b = Dd) σ (upd H1 Dd (.lst [])) e1 := r1.more kp0 nD upd_same
    obtain ⟨rw0, _, sw0⟩ := rm.wipe vs
    -- the step from the walk's begin
    have sub : SubS σ (wipe σ vs) := fun j v e => (wipe_some e).1
    let Wv : Nat → Hp → Prop := fun i H' => ∃ env' xs acc, RE c (fun b => L b ∨ b = Dd) (wipe σ vs) H' env' ∧ (∀ (j : Nat) (s : Sl), env'[j]? = some s → j ∈ vs → s = .no) ∧ Stp σ e1 H1 (wipe σ vs) env' H' ∧ H' Dd = some (.lst xs) ∧ Reps c.K (Av (fun b => L b ∨ b = Dd) (wipe σ vs) env') H' xs acc ∧ lcL k vs t ft fe (k.its.drop i) acc env' = .ok ys e2
    refine ⟨fun i m H' => m = k.its.length - i ∧ Wv i H', ⟨_, rfl, wipeE e1 vs, [], [], rw0, fun j s e z => wipeE_in z e, (Stp.grow kp0).trans sw0, upd_same, .nil, el⟩, fun i m H' ⟨em, env', xs, acc, r, no, s, ed, rs, q⟩ => ?_⟩
    have sw : Sw k σ e1 H1 (wipe σ vs) env' H' := ⟨s, .inr fun j _ _ v e => sub j v e⟩
    by_cases hi : k.its.length ≤ i
    · rw [List.drop_eq_nil_of_le hi] at q
      unfold lcL at q
      split at q
      · rename_i kok
        obtain ⟨rfl, rfl⟩ : acc = ys ∧ env' = e2 := by
          cases q
          exact ⟨rfl, rfl⟩
        refine .inl ⟨src.stop _ i (wipe σ vs) H' env' lx r sw kok hi, ?_⟩
        obtain ⟨rb, _, sb⟩ := r.sub (σ' := σ) (env' := env') (by rw [r.len, wipe_length]) fun j sl e => by
          by_cases z : j ∈ vs
          · exact .inl (no j sl e z)
          · exact .inr ⟨e, (wipe_out' z).symm⟩
        exact h1 H' (rb.less fun b z => .inl z) (s.trans sb) _ ⟨Dd, xs, rfl, ed, rb.reps .refl (r.reps sb rs), nL, h0, s1.back (.inr nD), rb⟩
      · cases q
    · have hi : i < k.its.length := Nat.lt_of_not_le hi
      rw [List.drop_eq_getElem_cons hi] at q
      unfold lcL at q
      split at q
      · rename_i kok
        obtain ⟨kok, la⟩ := kok
        refine .inr ⟨src.go _ i (wipe σ vs) H' env' lx r sw kok hi, Wv (i + 1), fun H2 n => ⟨k.its.length - (i + 1), by omega, rfl, n⟩, fun x H'' y => ?_⟩
        obtain ⟨kp, rx⟩ := src.yld _ i (wipe σ vs) H' env' x H'' k.its[i] lx r sw kok (List.getElem?_eq_getElem hi) y
        have r' := r.grow kp
        have s' : Stp (wipe σ vs) env' H' (wipe σ vs) env' H'' := .grow kp
        have ed' := kp _ _ ed
        have rs' := r.reps s' rs
        cases ea : envT t k.its[i] env' with
        | none => rw [ea] at q; cases q
        | some e3 =>
          rw [ea] at q
          dsimp only at q
          refine gCT_of r' rx ea hv fun σ2 r2 s2 w2 => ⟨w2.trans (wipe_eq (wipe_length σ vs) fun j z => wipe_out' z), ?_⟩
          have w3 : wipe σ2 vs = wipe σ vs := w2.trans (wipe_eq (wipe_length σ vs) fun j z => wipe_out' z)
          -- the list made is kept through a step
          have keepD : ∀ {σa ea Ha σb eb Hb}, RE c (fun b => L b ∨ b = Dd) σa Ha ea → Stp σa ea Ha σb eb Hb → Ha Dd = some (.lst xs) → Hb Dd = some (.lst xs) := fun ra sa e => by
            rw [(sa Dd (Nn.not e (ra.ext Dd (.inr rfl)).1)).1, e]
          have ed2 := keepD r' s2 ed'
          have rs2 := r'.reps s2 rs'
          refine ⟨e3, _, r2, ?_⟩
          cases et : ft e3 with
          | er => rw [et] at q; cases q
          | ex x e => rw [et] at q; cases q
          | ok b e4 =>
            rw [et] at q
            intro H3 r3 s3
            have ed3 := keepD r2 s3 ed2
            have rs3 := r2.reps s3 rs2
            cases b with
            | false =>
              dsimp only at q
              show Wv (i + 1) H3
              obtain ⟨r4, _, s4⟩ := r3.wipe vs
              rw [w3] at r4 s4
              exact ⟨_, xs, acc, r4, fun j sl e z => wipeE_in z e, (((s.trans s').trans s2).trans s3).trans s4, keepD r3 s4 ed3, r3.reps s4 rs3, q⟩
            | true =>
              dsimp only at q
              show dE c WF fe σ2 H3 fun y H4 => ∃ acc, H4 Dd = some (HO.lst acc) ∧ acc.length < sizeLine ∧ Wv (i + 1) (upd H4 Dd (HO.lst (acc ++ [y])))
              refine ⟨e4, _, r3, ?_⟩
              cases ee : fe e4 with
              | er => rw [ee] at q; cases q
              | ex x e => rw [ee] at q; cases q
              | ok u e5 =>
                rw [ee] at q
                dsimp only at q
                intro H4 r4 s4 v qv
                have qv := qv.wk
                have ed4 := keepD r3 s4 ed3
                have rs4 := r3.reps s4 rs3
                refine ⟨xs, ed4, by rw [rs.length]; exact la, ?_⟩
                cases eu : u.weak with
                | al j => rw [eu] at q; cases q
                | fr ds => rw [eu] at q; cases q
                | ft ds => rw [eu] at q; cases q
                | im dy =>
                  rw [eu] at q qv
                  dsimp only at q
                  have rv : Rep c.K (Av (fun b => L b ∨ b = Dd) σ2 e5) H4 v dy := qv
                  obtain ⟨r5, _, s5⟩ := r4.wipe vs
                  rw [w3] at r5 s5
                  have rv5 := r4.rep s5 rv
                  have rs5 := r4.reps s5 rs4
                  have r6 := r5.ext_put (H' := upd H4 Dd (.lst (xs ++ [v]))) (.inr rfl) (fun b z => upd_ne z) upd_same h0
                  have tk : TK H4 (upd H4 Dd (.lst (xs ++ [v]))) := ⟨fun b zs e => by rw [upd_ne fun z => by rw [z, ed4] at e; cases e]; exact e, fun b o w e => by rw [upd_ne fun z => by rw [z, ed4] at e; cases e]; exact e⟩
                  have go : ∀ b zs, Av (fun b => L b ∨ b = Dd) (wipe σ vs) (wipeE e5 vs) b → H4 b = some (HO.lst zs) → Av (fun b => L b ∨ b = Dd) (wipe σ vs) (wipeE e5 vs) b ∧ upd H4 Dd (.lst (xs ++ [v])) b = some (HO.lst zs) := fun b zs g e => ⟨g, by rw [upd_ne fun z => g.1 (.inr z)]; exact e⟩
                  refine ⟨_, xs ++ [v], acc ++ [dy], r6, fun j sl e z => wipeE_in z e, fun b nb => ?_, upd_same, Reps.append (rs5.mono tk go) (.cons (rv5.mono tk go) .nil), q⟩
                  obtain ⟨z1, z2⟩ := (((((s.trans s').trans s2).trans s3).trans s4).trans s5) b nb
                  have nbD : b ≠ Dd := fun z => nb (.inr (by rw [z]; exact nD))
                  rw [upd_ne nbD]
                  exact ⟨z1, fun z => z2 (z.imp id fun z => by rw [upd_ne nbD] at z; exact z)⟩
      · cases q
theorem de_lc {scope : Scope} {own : List (Str × Nat)} (hc : X.calm = true) (hN : X.N.Nodup) (hi : PI X tg iter (dI c W fi)) (ok : BlkOk X.N X.env.scope scope own)
    (hg : ∀ (s : Shared) (H : Hp) (C : Addr) (cl : List (Str × Addr)) (fp : List Addr), PG (X.blk s H scope (compEnvC scope cl C X.env) fp) tg (gCT X.K t))
    (ht : ∀ (s : Shared) (H : Hp) (C : Addr) (cl : List (Str × Addr)) (fp : List Addr), PTs (X.blk s H scope (compEnvC scope cl C X.env) fp) ifs (dT c WF ft))
    (he : ∀ (s : Shared) (H : Hp) (C : Addr) (cl : List (Str × Addr)) (fp : List Addr), PE (X.blk s H scope (compEnvC scope cl C X.env) fp) elt (dE c WF fe)) (hv : t.ins (own.map (·.2)) := by decide) (hK : c.K = X.K := by rfl)
    (hs : ∀ x, foldedSetIterable iter X.env x = pure x := by intro _; rfl) :
    PE X (.ListComp elt [⟨tg, iter, ifs, 0⟩] scope pos) (dE c W (eLc fi (own.map (·.2)) t ft fe)) :=
  PEw (pe_lc hc hN hi ok hg ht he hs) (by rw [← hK]; exact d_lc hv)
theorem ds_setLc {i : Nat} {y : Str} {py spos : Pos} {scope : Scope} {own : List (Str × Nat)} (hc : X.calm = true) (hN : X.N.Nodup) (hy : X.N[i]? = some y) (hyl : X.env.scope.names.lookup y = some .local)
    (hsw : swapsWith (.ListComp elt [⟨tg, iter, ifs, 0⟩] scope pos) (some (.Name y py)) spos.line X.env = pure true) (hi : PI X tg iter (dI c W fi)) (ok : BlkOk X.N X.env.scope scope own)
    (hg : ∀ (s : Shared) (H : Hp) (C : Addr) (cl : List (Str × Addr)) (fp : List Addr), PG (X.blk s H scope (compEnvC scope cl C X.env) fp) tg (gCT X.K t))
    (ht : ∀ (s : Shared) (H : Hp) (C : Addr) (cl : List (Str × Addr)) (fp : List Addr), PTs (X.blk s H scope (compEnvC scope cl C X.env) fp) ifs (dT c WF ft))
    (he : ∀ (s : Shared) (H : Hp) (C : Addr) (cl : List (Str × Addr)) (fp : List Addr), PE (X.blk s H scope (compEnvC scope cl C X.env) fp) elt (dE c WF fe)) (hv : t.ins (own.map (·.2)) := by decide) (hK : c.K = X.K := by rfl)
    (hs : ∀ x, foldedSetIterable iter X.env x = pure x := by intro _; rfl) :
    PS X (.Assign [.Name y py] (.ListComp elt [⟨tg, iter, ifs, 0⟩] scope pos) spos) (dS c W (sAsg (eLc fi (own.map (·.2)) t ft fe) (gN i))) :=
  PSw (ps_setLc hc hN hy hyl hsw hi ok hg ht he hs) fun D σ H h => by
  have := d_asg D σ H h
  obtain ⟨env, L, r, q⟩ := this
  rw [← hK]
  exact d_lc hv σ H _ ⟨env, L, r, q.mono fun t e1 H1 r1 s1 h1 v q => d_gN _ _ _ _ (h1 v q)⟩
end
end DL
namespace DL
open PySem PySem.Spec L2

/-! ### a def as a whole -/
def padE (n : Nat) (env : En) : En := env ++ List.replicate (n - env.length) .no
/-- the lists that were the caller's, as they are left -/
def outE : En → En → Option En
  | [], _ => some []
  | .own true _ :: r, e :: es => match e, outE r es with
    | .own true ds, some o => some (.own true ds :: o)
    | _, _ => none
  | _ :: r, e :: es => (outE r es).map (.no :: ·)
  | _ :: _, [] => none
def finT (env0 : En) (t : T) (env : En) : R T := match t with
  | .al i => match env[i]? with
    | some (.own false ds) => match outE env0 (env.set i .no) with
      | some o => .ok (.fr ds) o
      | none => .er
    | _ => .er
  | t => match outE env0 env with
    | some o => .ok t o
    | none => .er
def finF (env : En) : Fl → R T
  | .nx e => finT env (.im .non) e
  | .rt t e => finT env t e
  | .ex x e => match outE env e with
    | some o => .ex x o
    | none => .er
  | _ => .er
def runD (n p : Nat) (f : FS) : FD := fun env => if env.length = p then finF env (f (padE n env)) else .er
theorem outE_get : ∀ {env0 env out : En}, outE env0 env = some out → out.length = env0.length ∧ ∀ (i : Nat) (s : Sl), out[i]? = some s → s = .no ∨ ∃ ds ds0, s = .own true ds ∧ env[i]? = some (.own true ds) ∧ env0[i]? = some (.own true ds0)
  | [], env, out, h => by
    cases h
    exact ⟨rfl, fun i s e => by simp at e⟩
  | a :: r, [], out, h => by cases a <;> try (rename_i b _; cases b) <;> cases h
                             all_goals cases h
  | a :: r, e :: es, out, h => by
    have no : (outE r es).map (Sl.no :: ·) = some out → out.length = (a :: r).length ∧ ∀ (i : Nat) (s : Sl), out[i]? = some s → s = .no ∨ ∃ ds ds0, s = .own true ds ∧ (e :: es)[i]? = some (.own true ds) ∧ (a :: r)[i]? = some (.own true ds0) := fun h => by
      cases q : outE r es with
      | none => rw [q] at h; cases h
      | some o =>
        rw [q] at h
        cases h
        obtain ⟨q1, q2⟩ := outE_get q
        refine ⟨by rw [List.length_cons, List.length_cons, q1], fun i s e => ?_⟩
        cases i with
        | zero => cases e; exact .inl rfl
        | succ i => exact q2 i s e
    cases a with
    | no => exact no h
    | im d => exact no h
    | own b ds0 =>
      cases b with
      | false => exact no h
      | true =>
        unfold outE at h
        split at h
        · rename_i ds o q
          cases h
          obtain ⟨q1, q2⟩ := outE_get q
          refine ⟨by rw [List.length_cons, List.length_cons, q1], fun i s e => ?_⟩
          cases i with
          | zero => cases e; exact .inr ⟨ds, ds0, rfl, rfl, rfl⟩
          | succ i => exact q2 i s e
        · cases h
section
variable {K : PySem.W.Frag} {mg : Str → Option Value} {H H' : Hp} {vs : List V} {env0 env out : En} {L : Addr → Prop} {σ : St}
theorem RE.pad {c : Cc} {n : Nat} {N : List Str} (h : RE c L (vs.map some) H env) (hn : N.length = n) (hl : env.length = vs.length) : RE c L (L2.start N vs) H (padE n env) := by
  refine (h.sub ?_ fun j s e => ?_).1
  · unfold padE L2.start
    simp [hn, hl]
  · unfold padE at e
    by_cases z : j < env.length
    · rw [List.getElem?_append_left z] at e
      refine .inr ⟨e, ?_⟩
      unfold L2.start
      rw [List.getElem?_append_left (by rw [List.length_map, ← hl]; exact z)]
    · rw [List.getElem?_append_right (Nat.le_of_not_lt z)] at e
      exact .inl (List.eq_of_mem_replicate (List.mem_of_getElem? e))
theorem out_own {c : Cc} (h : RE c L σ H' env) (eo : outE env0 env = some out) {a : Addr} (o : ownM (c.vs.map some) out a) : ownM σ env a := by
  obtain ⟨i, io, ds, e1, e2⟩ := o
  rcases (outE_get eo).2 i _ e1 with z | ⟨ds', ds0, z, e3, e4⟩
  · cases z
  · cases z
    obtain ⟨b, xs, f1, f2, f3, f4, f5⟩ := h.own i true ds e3
    obtain ⟨_, f6⟩ := f5 rfl
    rw [List.getElem?_map, f6] at e2
    cases e2
    exact ⟨i, true, ds, e3, f1⟩
theorem RE.outs {c : Cc} (h : RE c L σ H' env) (eo : outE env0 env = some out) (hl : env0.length = c.vs.length) : RE c L (c.vs.map some) H' out := by
  have av : ∀ b, Av L σ env b → Av L (c.vs.map some) out b := fun b g => ⟨g.1, fun z => g.2 (out_own h eo z)⟩
  refine ⟨by rw [List.length_map, (outE_get eo).1, hl], fun i d e => ?_, fun i io ds e => ?_, fun i j io jo ds es a e1 e2 e3 e4 => ?_, fun a la => ⟨fun z => (h.ext a la).1 (out_own h eo z), (h.ext a la).2⟩, h.fr, h.io⟩
  · rcases (outE_get eo).2 i _ e with z | ⟨ds', ds0, z, e3, e4⟩ <;> cases z
  · rcases (outE_get eo).2 i _ e with z | ⟨ds', ds0, z, e3, e4⟩
    · cases z
    · cases z
      obtain ⟨b, xs, f1, f2, f3, f4, f5⟩ := h.own i true ds e3
      refine ⟨b, xs, ?_, f2, f3.mono (.refl H') (fun b ys g e => ⟨av b g, e⟩), f4, f5⟩
      rw [List.getElem?_map, (f5 rfl).2]
      rfl
  · rcases (outE_get eo).2 i _ e1 with z | ⟨ds', ds0, z, f1, f2⟩
    · cases z
    · cases z
      rcases (outE_get eo).2 j _ e2 with z | ⟨ds'', ds1, z, g1, g2⟩
      · cases z
      · cases z
        obtain ⟨b, xs, p1, p2, p3, p4, p5⟩ := h.own i true ds f1
        obtain ⟨b', xs', q1, q2, q3, q4, q5⟩ := h.own j true es g1
        rw [List.getElem?_map, (p5 rfl).2] at e3
        rw [List.getElem?_map, (q5 rfl).2] at e4
        cases e3
        cases e4
        exact h.inj i j true true ds es a f1 g1 p1 q1
theorem fin_ok {N : Addr → Prop} {v : V} {t t' : T} (h : RE (cc0 K mg H vs env0) L σ H' env) (hl : env0.length = vs.length) (q : RepT (cc0 K mg H vs env0) L N σ H' env v t) (e : finT env0 t env = .ok t' out) :
    RE (cc0 K mg H vs env0) L (vs.map some) H' out ∧ RepT (cc0 K mg H vs env0) L (fun a => H a = none) (vs.map some) H' out v t' := by
  have pl : ∀ {t : T}, (∀ i, t ≠ .al i) → RepT (cc0 K mg H vs env0) L N σ H' env v t → outE env0 env = some out → RE (cc0 K mg H vs env0) L (vs.map some) H' out ∧ RepT (cc0 K mg H vs env0) L (fun a => H a = none) (vs.map some) H' out v t := fun {t} na q eo => by
    refine ⟨h.outs eo hl, ?_⟩
    have av : ∀ (L2 : Addr → Prop) b, Av L2 σ env b → Av L2 (vs.map some) out b := fun L2 b g => ⟨g.1, fun z => g.2 (out_own h eo z)⟩
    cases t with
    | al i => exact (na i rfl).elim
    | im d => exact Rep.mono (.refl H') (fun a xs g e => ⟨av _ a g, e⟩) q
    | fr ds =>
      obtain ⟨a, xs, e, e1, r, n1, n2, n3, re⟩ := q
      exact ⟨a, xs, e, e1, r.mono (.refl H') (fun b ys g e => ⟨av _ b g, e⟩), n1, n2, n2, re.outs eo hl⟩
    | ft cs =>
      obtain ⟨tt, ws, As, e, e1, r, n1, re⟩ := q
      exact ⟨tt, ws, As, e, e1, r.mono (.refl H') (fun b ys g e => ⟨av _ b g, e⟩) (fun _ _ _ e => e), fun a ha => ⟨(n1 a ha).1, (n1 a ha).2.1, (n1 a ha).2.1⟩, re.outs eo hl⟩
  unfold finT at e
  cases t with
  | im d =>
    dsimp only at e
    split at e
    · cases e; exact pl (fun i z => nomatch z) q (by assumption)
    · cases e
  | fr d =>
    dsimp only at e
    split at e
    · cases e; exact pl (fun i z => nomatch z) q (by assumption)
    · cases e
  | ft d =>
    dsimp only at e
    split at e
    · cases e; exact pl (fun i z => nomatch z) q (by assumption)
    · cases e
  | al i =>
    dsimp only at e
    split at e
    · rename_i ds ei
      split at e
      · rename_i o eo
        cases e
        obtain ⟨a, xs, s1, ea, r, f0, _⟩ := h.own i false ds ei
        have sv : σ[i]? = some (some v) := q.2
        rw [sv] at s1
        cases s1
        obtain ⟨q1, q2⟩ := h.drop ei sv
        have oa : ownM σ env a := ⟨i, false, ds, ei, sv⟩
        refine ⟨(q1.less fun b z => .inl z).outs eo hl, a, xs, rfl, ea, ?_, fun z => (h.ext a z).1 oa, f0 rfl, f0 rfl, q1.outs eo hl⟩
        refine r.mono (.refl H') fun b ys g e => ⟨⟨fun z => z.elim g.1 fun z => g.2 (by rw [z]; exact oa), fun z => g.2 (own_set_no (out_own q1 eo z)).1⟩, e⟩
      · cases e
    · cases e
end
theorem Room.le {j k : Nat} {A : Around} (h : Room k A) (hj : j ≤ k) : Room j A := h.mono hj
section
variable {P : Program} {w : World} {K : PySem.W.Frag} {mg : Str → Option Value} {base : Heap}
/-- THE RULE for a def -/
theorem fn_ok {x qual : Str} {st : Stmt} {f : Addr} {fd : FuncData} {N ps : List Str} {k n p : Nat} {g : FS} (F : Fun K x qual st f fd) (S : FnScope N ps (defScope st)) (hn : N.length = n) (hp : ps.length = p)
    (hb : ∀ (cdv : Value) (A : Around) (outer : List Env) (s : Shared) (H : Hp) (vs : List V) (E : XK) (env0 : En), Room k (A.deeper (PyProof.Rows.envOfC qual (defScope st) s.heap.objs.size f cdv)) →
      PSs (cxOf (L2.CX P w) P w K mg base N qual (defScope st) f cdv A outer s H E) (defBody st) (dS (cc0 K mg H vs env0) (fun cls d _ H => E cls d H) g)) :
    FnOk P w K mg base (L2.CX P w) (k + 1) f fd ps (spD K mg (runD n p g)) := by
  have len : ∀ (vs : List V) (H : Hp) (Q : VK) (E : XK), spD K mg (runD n p g) vs H Q E → vs.length = p := fun vs H Q E ⟨env, L, re, h⟩ => by
    have hl := re.len
    rw [List.length_map] at hl
    unfold runD at h
    by_cases z : env.length = p
    · rw [← hl, z]
    · rw [if_neg z] at h
      exact h.elim
  refine F.okX S (fun vs H Q E h => (len vs H Q E h).trans hp.symm) fun cdv A outer s H vs Q E hr h => ?_
  have hvl := len vs H Q E h
  obtain ⟨env, L, re, h⟩ := h
  have hl : env.length = vs.length := by
    have := re.len
    rwa [List.length_map] at this
  refine ⟨_, hb cdv A outer s H vs E env hr, padE n env, L, re.pad hn hl, ?_⟩
  unfold runD at h
  rw [if_pos (hl.trans hvl)] at h
  have fin : ∀ {t : T} {e : En} {σ' : St} {H' : Hp} {v : V} {N' : Addr → Prop}, (match finT env t e with
      | .er => False
      | .ex x out => ∀ H', RE (cc0 K mg H vs env) L (vs.map some) H' out → ∀ C, mg x = some (.ref C) → E (.ref C) none H'
      | .ok t out => ∀ v H', RE (cc0 K mg H vs env) L (vs.map some) H' out → RepT (cc0 K mg H vs env) L (fun a => H a = none) (vs.map some) H' out v t → Q v H') →
      RE (cc0 K mg H vs env) L σ' H' e → RepT (cc0 K mg H vs env) L N' σ' H' e v t → Q v H' := fun {t e σ' H' v N'} h r q => by
    cases ef : finT env t e with
    | er => rw [ef] at h; exact h.elim
    | ex x o =>
      unfold finT at ef
      split at ef
      · split at ef
        · split at ef <;> cases ef
        · cases ef
      · split at ef <;> cases ef
    | ok t' o =>
      rw [ef] at h
      obtain ⟨z1, z2⟩ := fin_ok r hl q ef
      exact h v H' z1 z2
  cases eg : g (padE n env) with
  | er => rw [eg] at h; exact h.elim
  | bk e => rw [eg] at h; exact h.elim
  | ct e => rw [eg] at h; exact h.elim
  | nx e =>
    rw [eg] at h
    exact fun σ' H' r s => fin (N' := fun _ => True) h r (show RepT _ _ _ _ _ _ _ (.im .non) from .non)
  | rt t e =>
    rw [eg] at h
    exact fun v σ' H' r s q => fin h r q
  | ex x e =>
    rw [eg] at h
    dsimp only [finF] at h
    cases eo : outE env e with
    | none => rw [eo] at h; exact h.elim
    | some o =>
      rw [eo] at h
      exact fun σ' H' r s C hC => h H' (r.outs eo hl) C hC
/-- the law's promise -/
def spLaw (K : PySem.W.Frag) : Sp := fun vs H Q _ => ∃ (a : Addr) (ns : List Int), vs = [.ref a] ∧ ns.length ≤ 63 ∧ FzAt K H a (ns.map V.int) ∧ ∀ H', Q (.bl true) H'
theorem law_ok {k f : _} {fd : FuncData} {x : Str} {g : FD} (F : FnOk P w K mg base (L2.CX P w) k f fd [x] (spD K mg g)) (h : ∀ ns : List Int, ns.length ≤ 63 → ∃ o, g [.im (.fz (ns.map D.int))] = .ok (.im (.bl true)) o) : FnOk P w K mg base (L2.CX P w) k f fd [x] (spLaw K) :=
  F.imp fun vs H Q E ⟨a, ns, ev, hl, hz, kk⟩ => by
    subst ev
    obtain ⟨o, eg⟩ := h ns hl
    have re : RE (cc0 K mg H [V.ref a] ([D.fz (ns.map D.int)].map Sl.im)) (fun _ => False) ([V.ref a].map some) H ([D.fz (ns.map D.int)].map Sl.im) :=
      RE.enter (.cons (.fz hz (Reps.of_ints ns)) .nil) fun a z => z.elim
    refine ⟨_, _, re, ?_⟩
    show match g [.im (.fz (ns.map D.int))] with
      | .er => False
      | .ex x out => ∀ H', RE (cc0 K mg H [V.ref a] ([D.fz (ns.map D.int)].map Sl.im)) (fun _ => False) ([V.ref a].map some) H' out → ∀ C, mg x = some (.ref C) → E (.ref C) none H'
      | .ok t out => ∀ v H', RE (cc0 K mg H [V.ref a] ([D.fz (ns.map D.int)].map Sl.im)) (fun _ => False) ([V.ref a].map some) H' out → RepT (cc0 K mg H [V.ref a] ([D.fz (ns.map D.int)].map Sl.im)) (fun _ => False) (fun a => H a = none) ([V.ref a].map some) H' out v t → Q v H'
    rw [eg]
    intro v H' _ q
    cases (show Rep _ _ _ v (.bl true) from q)
    exact kk H'
theorem law_hsp {H : Hp} {a : Addr} {ns : List Int} (hl : ns.length ≤ 63) (hO : Only H) (hS : SqL K H a (ns.map V.int)) : spLaw K [.ref a] H (fun v _ => v = .bl true) fun _ _ _ => False := by
  refine ⟨a, ns, rfl, hl, ?_, fun _ => rfl⟩
  rcases hS with (h | ⟨o, h⟩) | h
  · rcases hO a with z | ⟨o, xs, z⟩
    · rw [h] at z; cases z
    · rw [h] at z; cases z
  · exact .inl ⟨o, h⟩
  · exact .inr h
theorem law_cx {H : Hp} {s : Shared} {e : Value} {s' : Shared} (h : L2.CX P w [] H s (fun _ _ _ => False) e s') : False := by
  obtain ⟨_, _, _, _, _, _, _, _, _, _, _, _, z⟩ := h
  exact z
end
end DL
namespace DL
open PySem PySem.Spec L2

/-! ### products of all kinds -/
def dRep : D → D → Option T
  | .lst xs, .int k => if -(2 ^ 63) ≤ k ∧ k < 2 ^ 63 ∧ xs.length * k.toNat ≤ 1000000 then some (.fr (List.replicate k.toNat xs).flatten) else none
  | _, _ => none
def dRepT : D → D → Option T
  | .tup xs, .int k => if xs ≠ [] ∧ 2 ≤ k ∧ k ≤ 1000 ∧ xs.length ≤ 1000 then some (.im (.tup (List.replicate k.toNat xs).flatten)) else none
  | _, _ => none
def dMulA (x y : D) : Option T := match dMul x y with
  | some t => some t
  | none => match dRep x y with
    | some t => some t
    | none => dRepT x y
section
variable {X : Cx} {c : Cc}
abbrev rMulA (K : PySem.W.Frag) : R2 := fun x y H Q => rI CMul (fun i j => .int (i * j)) x y H Q ∨ (rRep x y H Q ∨ rRepT K x y H Q)
theorem op_mulA : OpR X (binaryOp .Mult) (rMulA X.K) := op_mul.or (op_rep.or op_repT)
theorem d_rep : OpD c rRep dRep := by
  intro L σ H env x y dx dy t Q re hx hy e k
  cases dx <;> cases dy <;> simp only [dRep] at e <;> try (cases e; done)
  split at e
  · rename_i q
    cases e
    obtain ⟨a, xs, rfl, h1, r1⟩ := hx.lst
    cases hy.int
    refine ⟨a, _, xs, rfl, rfl, h1, q.1, q.2.1, by rw [r1.length]; exact Nat.le_trans q.2.2 (by decide), fun p n => ?_⟩
    obtain ⟨q1, q2, q3⟩ := re.newL (r1.rep _) n
    exact k _ _ q1 q2 q3
  · cases e
theorem d_repT : OpD c (rRepT c.K) dRepT := by
  intro L σ H env x y dx dy t Q re hx hy e k
  cases dx <;> cases dy <;> simp only [dRepT] at e <;> try (cases e; done)
  split at e
  · rename_i q
    cases e
    obtain ⟨a, xs, rfl, h1, r1⟩ := hx.tup
    cases hy.int
    refine ⟨a, _, xs, rfl, rfl, h1, fun z => q.1 ?_, q.2.1, q.2.2.1, by rw [r1.length]; exact q.2.2.2, fun p n => ?_⟩
    · subst z
      cases r1
      rfl
    · have kp : ∀ {zs : HO} b o, H b = some o → upd H p zs b = some o := fun b o e => by rw [upd_ne (ne_of_none e n)]; exact e
      exact k _ _ (re.grow kp) (.grow kp) (.tup (.inl (.inl upd_same)) (re.reps (.grow kp) (r1.rep _)))
  · cases e
theorem d_mulA : OpD c (rMulA c.K) dMulA := d_mul.or (d_rep.or d_repT)
end
theorem de_gc {X : Cx} {c : Cc} {W : WX} {x : Str} {v : V} {d : D} {pos : Pos} (hg : Gl X x) (h : ∃ u, X.mg x = some u ∧ RelV v u) (k : ∀ G H, Rep c.K G H v d) (hd : (x == ("__debug__" : Str)) = false := by decide) : PE X (.Name x pos) (dE c W (eC d)) := by
  obtain ⟨u, h1, h2⟩ := h
  exact de_c (pe_glob hg h1 h2 (hd := hd)) k
/-! ### equality, of texts too -/
def dEqS : D → D → Option T
  | .str a, .str b => some (.im (.bl (a == b)))
  | _, _ => none
def dNeS : D → D → Option T
  | .str a, .str b => some (.im (.bl (!(a == b))))
  | _, _ => none
def dEqA (x y : D) : Option T := match dEqS x y with
  | some t => some t
  | none => dEq x y
def dNeA (x y : D) : Option T := match dNeS x y with
  | some t => some t
  | none => dNe x y
@[simp] theorem dEqA_ss (a b : Str) : dEqA (.str a) (.str b) = some (.im (.bl (a == b))) := rfl
@[simp] theorem dEqA_ii (a b : Int) : dEqA (.int a) (.int b) = some (.im (.bl (a == b))) := rfl
@[simp] theorem dNeA_ss (a b : Str) : dNeA (.str a) (.str b) = some (.im (.bl (!(a == b)))) := rfl
@[simp] theorem dNeA_ii (a b : Int) : dNeA (.int a) (.int b) = some (.im (.bl (!(a == b)))) := rfl
section
variable {X : Cx} {c : Cc}
abbrev rEqA (K : PySem.W.Frag) : R2 := fun x y H Q => rEq x y H Q ∨ rEqD K x y H Q
abbrev rNeA (K : PySem.W.Frag) : R2 := fun x y H Q => rNe x y H Q ∨ rNeD K x y H Q
theorem op_eqA (hu : X.A.units + 64 < cLine) : OpR X (compareOp .Eq) (rEqA X.K) := op_eq.or (op_eqD hu)
theorem op_neA (hu : X.A.units + 64 < cLine) : OpR X (compareOp .NotEq) (rNeA X.K) := op_ne.or (op_neD hu)
theorem d_eqS : OpD c rEq dEqS := by
  intro L σ H env x y dx dy t Q re hx hy e k
  cases dx <;> cases dy <;> simp only [dEqS] at e <;> try (cases e; done)
  cases e
  cases (show Rep _ _ _ x (.str _) from hx)
  cases (show Rep _ _ _ y (.str _) from hy)
  refine ⟨rfl, ?_⟩
  rw [dec_str]
  exact k _ H re .refl (.bl _)
theorem d_neS : OpD c rNe dNeS := by
  intro L σ H env x y dx dy t Q re hx hy e k
  cases dx <;> cases dy <;> simp only [dNeS] at e <;> try (cases e; done)
  cases e
  cases (show Rep _ _ _ x (.str _) from hx)
  cases (show Rep _ _ _ y (.str _) from hy)
  refine ⟨rfl, ?_⟩
  rw [dec_str]
  exact k _ H re .refl (.bl _)
theorem d_eqA : OpD c (rEqA c.K) dEqA := d_eqS.or d_eq
theorem d_neA : OpD c (rNeA c.K) dNeA := d_neS.or d_ne
end
def dAddI : D → D → Option T
  | .int i, .int j => some (.im (.int (i + j)))
  | _, _ => none
@[simp] theorem dAddI_int (i j : Int) : dAddI (.int i) (.int j) = some (.im (.int (i + j))) := rfl
theorem d_addI {c : Cc} : OpD c (rI0 fun i j => .int (i + j)) dAddI := opd_I0 fun x y t h => by
  cases x <;> cases y <;> simp only [dAddI] at h <;> try (cases h; done)
  exact ⟨_, _, _, rfl, rfl, (Option.some.inj h).symm, fun _ _ => .int _⟩
/-- a datum of the module's own -/
def GlT (K : PySem.W.Frag) (mg : Str → Option Value) (x : Str) (d : D) : Prop := ∃ u v, mg x = some u ∧ RelV v u ∧ ∀ G H, Rep K G H v d
theorem de_gt {X : Cx} {c : Cc} {W : WX} {x : Str} {d : D} {pos : Pos} (hg : Gl X x) (h : GlT X.K X.mg x d) (hK : c.K = X.K := by rfl) (hd : (x == ("__debug__" : Str)) = false := by decide) : PE X (.Name x pos) (dE c W (eC d)) := by
  obtain ⟨u, v, h1, h2, h3⟩ := h
  exact de_c (pe_glob hg h1 h2 (hd := hd)) fun G H => by rw [hK]; exact h3 G H
/-! ### what has its own name in the module -/
structure Cd (K : PySem.W.Frag) (mg : Str → Option Value) (x : Str) (st : Stmt) (ps : List Str) (f : Addr) (fd : FuncData) : Prop where
  F : Fun K x x st f fd
  g : mg x = some (.ref f)
  b : Binds K fd ps []
theorem bo_len : bootBuiltins "len" = some (.builtin "len") := by decide +kernel
theorem bo_sum : bootBuiltins "sum" = some (.builtin "sum") := by decide +kernel
theorem bo_max : bootBuiltins "max" = some (.builtin "max") := by decide +kernel
theorem bo_min : bootBuiltins "min" = some (.builtin "min") := by decide +kernel
theorem bo_abs : bootBuiltins "abs" = some (.builtin "abs") := by decide +kernel
theorem bo_all : bootBuiltins "all" = some (.builtin "all") := by decide +kernel
theorem bo_any : bootBuiltins "any" = some (.builtin "any") := by decide +kernel
theorem bo_tuple : bootBuiltins "tuple" = some (.type "tuple") := by decide +kernel
theorem bo_list : bootBuiltins "list" = some (.type "list") := by decide +kernel
theorem bo_int : bootBuiltins "int" = some (.type "int") := by decide +kernel
theorem bo_bool : bootBuiltins "bool" = some (.type "bool") := by decide +kernel
theorem bo_str : bootBuiltins "str" = some (.type "str") := by decide +kernel
end DL
namespace DL
open PySem PySem.Spec L2

/-! ### readings, applied -/
@[simp] theorem eVar_s (i : Nat) (env : En) : eVar i env = (match env[i]? with
  | some (.im d) => .ok (.im d) env
  | some (.own _ _) => .ok (.al i) env
  | _ => .er) := rfl
@[simp] theorem eC_s (d : D) (env : En) : eC d env = (.ok (.im d) env) := rfl
@[simp] theorem eOp_s (g : D → D → Option T) (fa fb : FE) (env : En) : eOp g fa fb env = ((fa env).bind fun ta e1 => (fb e1).bind fun tb e2 => op2 g ta tb e2) := rfl
@[simp] theorem eUn_s (g : D → Option T) (fa : FE) (env : En) : eUn g fa env = ((fa env).bind fun ta e1 => op1 g ta e1) := rfl
@[simp] theorem aNil_s  (env : En) : aNil  env = (.ok [] env) := rfl
@[simp] theorem aCons_s (fa : FE) (fr : FA) (env : En) : aCons fa fr env = ((fa env).bind fun t e1 => (fr e1).bind fun ts e2 => consT t ts e2) := rfl
@[simp] theorem eB_s (g : List D → Option T) (fa : FA) (env : En) : eB g fa env = ((fa env).bind fun ts e1 => opL g ts e1) := rfl
@[simp] theorem eTup_s (fa : FA) (env : En) : eTup fa env = ((fa env).bind fun ts e1 => disp mkTup ts e1) := rfl
@[simp] theorem eLst_s (fa : FA) (env : En) : eLst fa env = ((fa env).bind fun ts e1 => disp (fun cs => .fr (cs.map Cp.d)) ts e1) := rfl
@[simp] theorem eIsi_s (Ty : String) (fa : FE) (env : En) : eIsi Ty fa env = ((fa env).bind fun t e => op1 (fun d => (isTy Ty d).map fun b => .im (.bl b)) t e) := rfl
@[simp] theorem tV_s (fa : FE) (env : En) : tV fa env = ((fa env).bind fun t e => toB t e) := rfl
@[simp] theorem tAn_s (fa fb : FT) (env : En) : tAn fa fb env = ((fa env).bind fun b e => bif b then fb e else .ok false e) := rfl
@[simp] theorem tOr'_s (fa fb : FT) (env : En) : tOr' fa fb env = ((fa env).bind fun b e => bif b then .ok true e else fb e) := rfl
@[simp] theorem tNo_s (fa : FT) (env : En) : tNo fa env = ((fa env).bind fun b e => .ok (!b) e) := rfl
@[simp] theorem eAn_s (fa fb : FE) (env : En) : eAn fa fb env = ((fa env).bind fun t e => (toB t e).bind fun b e => bif b then fb e else .ok (.im (.bl false)) e) := rfl
@[simp] theorem eOr_s (fa fb : FE) (env : En) : eOr fa fb env = ((fa env).bind fun t e => (toB t e).bind fun b e => bif b then .ok (.im (.bl true)) e else fb e) := rfl
@[simp] theorem eNo_s (fa : FE) (env : En) : eNo fa env = ((fa env).bind fun t e => (toB t e).bind fun b e => .ok (.im (.bl (!b))) e) := rfl
@[simp] theorem eIf_s (fc : FT) (fa fb : FE) (env : En) : eIf fc fa fb env = ((fc env).bind fun b e => bif b then fa e else fb e) := rfl
@[simp] theorem eCh_s (g g' : D → D → Option T) (fa fb fc : FE) (env : En) : eCh g g' fa fb fc env = ((fa env).bind fun ta e1 => (fb e1).bind fun tb e2 => (op2 g ta tb e2).bind fun t e2 => (toB t e2).bind fun b e2 => bif b then (fc e2).bind fun tc e3 => op2 g' tb tc e3 else .ok (.im (.bl false)) e2) := rfl
@[simp] theorem tNp_s  (env : En) : tNp  env = (.ok none env) := rfl
@[simp] theorem tPa_s (fa : FE) (env : En) : tPa fa env = ((fa env).bind toI) := rfl
@[simp] theorem eSl_s (fa : FE) (fl fh : En → R (Option Int)) (env : En) : eSl fa fl fh env = ((fa env).bind fun t e1 => (fl e1).bind fun lo e2 => (fh e2).bind fun hi e3 => slT t lo hi e3) := rfl
@[simp] theorem eCall_s (g : FD) (fa : FA) (env : En) : eCall g fa env = ((fa env).bind fun ts e1 => callT g ts e1) := rfl
@[simp] theorem eCallI_s (k : Nat) (g : FD) (fa : FA) (env : En) : eCallI k g fa env = ((fa env).bind fun ts e1 => callI k g ts e1) := rfl
@[simp] theorem sNx_s  (env : En) : sNx  env = (.nx env) := rfl
@[simp] theorem sSeq_s (f g : FS) (env : En) : sSeq f g env = ((f env).seq g) := rfl
@[simp] theorem sIf_s (ft : FT) (f g : FS) (env : En) : sIf ft f g env = ((ft env).bindF fun b e => bif b then f e else g e) := rfl
@[simp] theorem sRet_s (fa : FE) (env : En) : sRet fa env = ((fa env).bindF fun t e => .rt t e) := rfl
@[simp] theorem sRetN_s  (env : En) : sRetN  env = (.rt (.im .non) env) := rfl
@[simp] theorem sDrop_s (fa : FE) (env : En) : sDrop fa env = ((fa env).bindF fun _ e => .nx e) := rfl
@[simp] theorem sBk_s  (env : En) : sBk  env = (.bk env) := rfl
@[simp] theorem sCt_s  (env : En) : sCt  env = (.ct env) := rfl
@[simp] theorem sAsg_s (fa : FE) (g : FG) (env : En) : sAsg fa g env = ((fa env).bindF fun t e => match g t e with
  | .nx e => .nx e
  | _ => .er) := rfl
@[simp] theorem gN_s (i : Nat) (t : T) (env : En) : gN i t env = (match t with
  | .im d => .nx (env.set i (.im d))
  | .fr ds => .nx (env.set i (.own false ds))
  | .ft cs => .nx (env.set i (.im (.tup (cs.map Cp.d))))
  | .al j => match env[j]? with
    | some (.own false ds) => .nx ((env.set j .no).set i (.own false ds))
    | _ => .er) := rfl
@[simp] theorem gsNil_s  (cs : List Cp) (env : En) : gsNil  cs env = (match cs with
  | [] => .nx env
  | _ => .er) := rfl
@[simp] theorem gsCons_s (g : FG) (gs : FGs) (cs : List Cp) (env : En) : gsCons g gs cs env = (match cs with
  | c :: cs => (g (cpT c) env).seq (gs cs)
  | [] => .er) := rfl
@[simp] theorem gT_s (n : Nat) (gs : FGs) (t : T) (env : En) : gT n gs t env = (match cpsOf t env with
  | some cs => if cs.length = n then gs cs env else .er
  | none => .er) := rfl
@[simp] theorem sPar_s (i j : Nat) (fa : FA) (env : En) : sPar i j fa env = ((fa env).bindF fun ts e => (disp T.ft ts e).bindF fun t e => match t with
  | .ft [c1, c2] => match gsCons (gN i) (gsCons (gN j) gsNil) [c1, c2] e with
    | .nx e => .nx e
    | _ => .er
  | _ => .er) := rfl
@[simp] theorem sAug_s (i : Nat) (g : D → D → Option T) (fa : FE) (env : En) : sAug i g fa env = (match env[i]? with
  | some (.im d) => (fa env).bindF fun t e => (op2 g (.im d) t e).bindF fun t' e2 => match gN i t' e2 with
    | .nx e3 => .nx e3
    | _ => .er
  | _ => .er) := rfl
@[simp] theorem gSb_s (fo fi : FE) (t : T) (env : En) : gSb fo fi t env = (match fo env with
  | .ok to e1 => match fi e1 with
    | .ok ti e2 => match to with
      | .al j => match e2[j]?, ti.val e2, elemD t with
        | some (.own b ds), some (.int k), some d => match ixN ds.length k with
          | some m => .nx (e2.set j (.own b (ds.set m d)))
          | none => .er
        | _, _, _ => .er
      | _ => .er
    | _ => .er
  | _ => .er) := rfl
@[simp] theorem eMet_s (k : List D → List T → En → Option (D × List D × En)) (fo : FE) (fa : FA) (env : En) : eMet k fo fa env = ((fo env).bind fun to e1 => match to with
  | .al j => (fa e1).bind fun ts e2 => metT k (.al j) ts e2
  | _ => .er) := rfl
@[simp] theorem eMet0_s (k : List D → List T → En → Option (D × List D × En)) (fo : FE) (env : En) : eMet0 k fo env = ((fo env).bind fun to e1 => match to with
  | .al j => metT k (.al j) [] e1
  | _ => .er) := rfl
@[simp] theorem fiT_s (fa : FE) (env : En) : fiT fa env = ((fa env).bind iT) := rfl
@[simp] theorem fiL_s (fz : Bool) (fa : FE) (env : En) : fiL fz fa env = ((fa env).bind fun t => iL fz t.weak) := rfl
@[simp] theorem fiR1_s (fa : FA) (env : En) : fiR1 fa env = ((fa env).bind iR1) := rfl
@[simp] theorem fiR2_s (fa : FA) (env : En) : fiR2 fa env = ((fa env).bind iR2) := rfl
@[simp] theorem fiE_s (fz : Bool) (fa : FA) (env : En) : fiE fz fa env = ((fa env).bind (iE fz)) := rfl
@[simp] theorem fiZ_s (fz : Bool) (fa : FA) (env : En) : fiZ fz fa env = ((fa env).bind (iZ fz)) := rfl
theorem sFor_s (fi : FI) (g : FG) (f : FS) (env : En) : sFor fi g f env = ((fi env).bindF fun k e => match k.chk with
  | none => loopF g f k.its e
  | some _ => .er) := rfl
theorem eLc_s (fi : FI) (vs : List Nat) (t : CT) (ft : FT) (fe : FE) (env : En) : eLc fi vs t ft fe env = ((fi env).bind fun k e => (lcL k vs t ft fe k.its [] (wipeE e vs)).bind fun ys e2 => .ok (.fr ys) e2) := rfl
@[simp] theorem tT_s  (env : En) : tT  env = (.ok true env) := rfl

/-! ### two ways become one -/
section
variable {α β : Type}
@[simp] theorem c_ok (b : Bool) (x y : α) (e : En) : (bif b then R.ok x e else R.ok y e) = R.ok (bif b then x else y) e := by cases b <;> rfl
@[simp] theorem c_im (b : Bool) (x y : D) : (bif b then T.im x else T.im y) = T.im (bif b then x else y) := by cases b <;> rfl
@[simp] theorem c_bl (b x y : Bool) : (bif b then D.bl x else D.bl y) = D.bl (bif b then x else y) := by cases b <;> rfl
@[simp] theorem c_int (b : Bool) (x y : Int) : (bif b then D.int x else D.int y) = D.int (bif b then x else y) := by cases b <;> rfl
@[simp] theorem c_rt (b : Bool) (x y : T) (e : En) : (bif b then Fl.rt x e else Fl.rt y e) = Fl.rt (bif b then x else y) e := by cases b <;> rfl
@[simp] theorem c_nx (b : Bool) (e : En) : (bif b then Fl.nx e else Fl.nx e) = Fl.nx e := by cases b <;> rfl
@[simp] theorem c_bind (b : Bool) (x y : R α) (g : α → En → R β) : R.bind (bif b then x else y) g = bif b then R.bind x g else R.bind y g := by cases b <;> rfl
@[simp] theorem c_bindF (b : Bool) (x y : R α) (g : α → En → Fl) : R.bindF (bif b then x else y) g = bif b then R.bindF x g else R.bindF y g := by cases b <;> rfl
@[simp] theorem c_seq (b : Bool) (x y : Fl) (g : FS) : Fl.seq (bif b then x else y) g = bif b then Fl.seq x g else Fl.seq y g := by cases b <;> rfl
@[simp] theorem c_fin (b : Bool) (x y : Fl) (e : En) : finF e (bif b then x else y) = bif b then finF e x else finF e y := by cases b <;> rfl
end
@[simp] theorem finF_nx (env e : En) : finF env (.nx e) = finT env (.im .non) e := rfl
@[simp] theorem finF_rt (env e : En) (t : T) : finF env (.rt t e) = finT env t e := rfl
@[simp] theorem finF_ex (env e : En) (x : Str) : finF env (.ex x e) = match outE env e with
    | some o => .ex x o
    | none => .er := rfl
@[simp] theorem shp_int (i : Int) : shp (.int i) = true := rfl
@[simp] theorem shp_bl (i : Bool) : shp (.bl i) = true := rfl
@[simp] theorem shp_non : shp .non = true := rfl

/-! ### comprehensions and loops as functions of lists -/
/-- an element that is read in the same slots -/
theorem lc_map {k : Wk} {vs : List Nat} {t : CT} {fe : FE} {h : D → D} {env : En} (ok : k.ok env) : ∀ (ds acc : List D), acc.length + ds.length ≤ sizeLine →
    (∀ d ∈ ds, ∃ e1 u e3, envT t d env = some e1 ∧ fe e1 = .ok u e3 ∧ u.weak = .im (h d) ∧ wipeE e3 vs = env) → lcL k vs t tT fe ds acc env = .ok (acc ++ ds.map h) env
  | [], acc, _, _ => by
    unfold lcL
    rw [if_pos ok, List.map_nil, List.append_nil]
  | d :: ds, acc, hl, hd => by
    obtain ⟨e1, u, e3, q1, q2, q3, q4⟩ := hd d List.mem_cons_self
    unfold lcL
    rw [List.length_cons] at hl
    rw [if_pos ⟨ok, by omega⟩, q1]
    simp only [tT, q2, q3, q4]
    rw [lc_map ok ds (acc ++ [h d]) (by rw [List.length_append]; simp; omega) fun x z => hd x (List.mem_cons_of_mem _ z)]
    simp
/-- the same with a condition -/
theorem lc_filter {k : Wk} {vs : List Nat} {t : CT} {ft : FT} {fe : FE} {p : D → Bool} {h : D → D} {env : En} (ok : k.ok env) : ∀ (ds acc : List D), acc.length + ds.length ≤ sizeLine →
    (∀ d ∈ ds, ∃ e1 e2, envT t d env = some e1 ∧ ft e1 = .ok (p d) e2 ∧ wipeE e2 vs = env ∧ (p d = true → ∃ u e3, fe e2 = .ok u e3 ∧ u.weak = .im (h d) ∧ wipeE e3 vs = env)) → lcL k vs t ft fe ds acc env = .ok (acc ++ (ds.filter p).map h) env
  | [], acc, _, _ => by
    unfold lcL
    rw [if_pos ok, List.filter_nil, List.map_nil, List.append_nil]
  | d :: ds, acc, hl, hd => by
    obtain ⟨e1, e2, q1, q2, q3, q4⟩ := hd d List.mem_cons_self
    unfold lcL
    rw [List.length_cons] at hl
    rw [if_pos ⟨ok, by omega⟩, q1]
    have hd' := fun x (z : x ∈ ds) => hd x (List.mem_cons_of_mem _ z)
    cases hp : p d with
    | false =>
      rw [hp] at q2
      simp only [q2, q3]
      rw [lc_filter ok ds acc (by omega) hd', List.filter_cons_of_neg (by simp [hp])]
    | true =>
      rw [hp] at q2
      obtain ⟨u, e3, r1, r2, r3⟩ := q4 hp
      simp only [q2, r1, r2, r3]
      rw [lc_filter ok ds (acc ++ [h d]) (by rw [List.length_append]; simp; omega) hd', List.filter_cons_of_pos hp]
      simp
/-- an element that goes on in the slots: E, the slots behind so many elements -/
theorem lc_some {k : Wk} {vs : List Nat} {t : CT} {fe : FE} {Pd : D → D → Prop} {E : Nat → En} (ok : ∀ j, k.ok (E j)) : ∀ (ds acc : List D) (j : Nat), acc.length + ds.length ≤ sizeLine →
    (∀ d ∈ ds, ∀ i, i < j + ds.length → ∃ e1 u e3 y, envT t d (E i) = some e1 ∧ fe e1 = .ok u e3 ∧ u.weak = .im y ∧ Pd d y ∧ wipeE e3 vs = E (i + 1)) → ∃ ys, lcL k vs t tT fe ds acc (E j) = .ok (acc ++ ys) (E (j + ds.length)) ∧ ys.length = ds.length ∧ ∀ (i : Nat) (d : D), ds[i]? = some d → ∃ y, ys[i]? = some y ∧ Pd d y
  | [], acc, j, _, _ => by
    refine ⟨[], ?_, rfl, fun i d e => by simp at e⟩
    unfold lcL
    rw [if_pos (ok j), List.append_nil]
    rfl
  | d :: ds, acc, j, hl, hd => by
    rw [List.length_cons] at hl
    obtain ⟨e1, u, e3, y, q1, q2, q3, q4, q5⟩ := hd d List.mem_cons_self j (by rw [List.length_cons]; omega)
    obtain ⟨ys, r1, r2, r3⟩ := lc_some ok ds (acc ++ [y]) (j + 1) (by rw [List.length_append]; simp; omega) fun x z i hi => hd x (List.mem_cons_of_mem _ z) i (by rw [List.length_cons]; omega)
    refine ⟨y :: ys, ?_, by rw [List.length_cons, List.length_cons, r2], fun i x e => ?_⟩
    · unfold lcL
      rw [if_pos ⟨ok j, by omega⟩, q1]
      simp only [tT, q2, q3, q5]
      rw [r1, List.length_cons, List.append_assoc, show j + 1 + ds.length = j + (ds.length + 1) by omega]
      rfl
    · cases i with
      | zero => cases e; exact ⟨y, rfl, q4⟩
      | succ i => exact r3 i x e
theorem eLc_of {fi : FI} {vs : List Nat} {t : CT} {ft : FT} {fe : FE} {env e e2 : En} {k : Wk} {ys : List D} (h1 : fi env = .ok k e) (h2 : lcL k vs t ft fe k.its [] (wipeE e vs) = .ok ys e2) : eLc fi vs t ft fe env = .ok (.fr ys) e2 := by
  rw [eLc_s, h1, bind_ok, h2]
  rfl
/-- a loop without break: the slots behind each turn -/
theorem loop_all {g : FG} {f : FS} {I : Nat → En → Prop} {ds : List D} {env : En} (h0 : I 0 env) (step : ∀ (i : Nat) (d : D) e, ds[i]? = some d → I i e → ∃ e1 e2, g (.im d) e = .nx e1 ∧ (f e1 = .nx e2 ∨ f e1 = .ct e2) ∧ I (i + 1) e2) : ∃ e, loopF g f ds env = .nx e ∧ I ds.length e := by
  have key : ∀ (rs : List D) (i : Nat) (e : En), ds.drop i = rs → I i e → ∃ e', loopF g f rs e = .nx e' ∧ I (i + rs.length) e' := by
    intro rs
    induction rs with
    | nil => exact fun i e _ h => ⟨e, rfl, h⟩
    | cons d rs ih =>
      intro i e hd h
      have hi : ds[i]? = some d := by
        have := List.getElem?_drop (xs := ds) (i := i) (j := 0)
        rw [hd] at this
        simpa using this.symm
      obtain ⟨e1, e2, q1, q2, q3⟩ := step i d e hi h
      have hd' : ds.drop (i + 1) = rs := by
        rw [← List.drop_drop, hd]
        rfl
      obtain ⟨e', r1, r2⟩ := ih (i + 1) e2 hd' q3
      refine ⟨e', ?_, by rw [List.length_cons, show i + (rs.length + 1) = i + 1 + rs.length by omega]; exact r2⟩
      unfold loopF
      rcases q2 with q2 | q2 <;> simp only [q1, q2] <;> exact r1
  obtain ⟨e, q1, q2⟩ := key ds 0 env (by simp) h0
  exact ⟨e, q1, by simpa using q2⟩
@[simp high] theorem dAll_map (p : D → Bool) (ds : List D) : dAll [.lst (ds.map fun d => .bl (p d))] = some (.im (.bl (ds.all p))) := by
  rw [dAll_lst, show (ds.map fun d => D.bl (p d)) = (ds.map p).map D.bl by rw [List.map_map]; rfl, blsOf_map]
  simp [List.all_map, Function.comp_def]
@[simp high] theorem dAny_map (p : D → Bool) (ds : List D) : dAny [.lst (ds.map fun d => .bl (p d))] = some (.im (.bl (ds.any p))) := by
  rw [dAny_lst, show (ds.map fun d => D.bl (p d)) = (ds.map p).map D.bl by rw [List.map_map]; rfl, blsOf_map]
  simp [List.any_map, Function.comp_def]
end DL
namespace DL
open PySem PySem.Spec L2 PyProof.Rows
/-! ### a tuple once, and not at all -/
theorem tuple_mul1 (l : Addr) (items : Array Value) (n : Nat) (dd : Option Addr) (sl : Array (Option Value)) (x : Int) (u : Tok) (hx : x = 1) :
    Meets (Builtin.«tuple.__mul__» ⟨[.ref l, .int x u], []⟩) (fun _ R s => s.heap.get? l = some { cls := .type "tuple", dict := dd, data := .seq items n, slots := sl } ∧ R (.ok (.ret (.ref l))) s) :=
  .of_wp fun prog w A R s h => by
    obtain ⟨hp, g, d, tk, os⟩ := s
    obtain ⟨hl, h⟩ := h
    have f1 := AutoSeq1.idx_int
    have c0 : (decide (x < -(2 ^ 63)) || decide (x ≥ 2 ^ 63)) = false := by subst hx; decide
    have c1 : (items.isEmpty || x == 1) = true := by subst hx; simp
    wp_walk using wpAny_loadPart' hl
    exact ⟨_, rfl, h⟩
theorem tuple_mul0 (l : Addr) (items : Array Value) (n : Nat) (dd : Option Addr) (sl : Array (Option Value)) (x : Int) (u : Tok) (hx : x = 0) (hi : items.isEmpty = false) :
    Meets (Builtin.«tuple.__mul__» ⟨[.ref l, .int x u], []⟩) (fun _ R s => s.heap.get? l = some { cls := .type "tuple", dict := dd, data := .seq items n, slots := sl } ∧
      R (.ok (.ret (Value.ref s.heap.objs.size))) { s with heap := s.heap.push { cls := Value.type "tuple", data := Data.seq #[] }, toks := s.toks }) :=
  .of_wp fun prog w A R s h => by
    obtain ⟨hp, g, d, tk, os⟩ := s
    obtain ⟨hl, h⟩ := h
    have f1 := AutoSeq1.idx_int
    have c0 : (decide (x < -(2 ^ 63)) || decide (x ≥ 2 ^ 63)) = false := by subst hx; decide
    have c1 : (items.isEmpty || x == 1) = false := by subst hx; rw [hi]; rfl
    have c2 : (decide (x ≤ 0) || items.isEmpty) = true := by subst hx; rfl
    wp_walk using wpAny_loadPart' hl
    repeat (first
      | (refine wpAny_ite_false (decide_eq_false (by rw [c0]; exact Bool.false_ne_true)) ?_; wp_walk using wpAny_loadPart' hl)
      | (refine wpAny_ite_false (decide_eq_false (by rw [c1]; exact Bool.false_ne_true)) ?_; wp_walk using wpAny_loadPart' hl)
      | (refine wpAny_ite_true (decide_eq_true (by rw [c2])) ?_; wp_walk using wpAny_loadPart' hl))
    exact ⟨_, rfl, h⟩
def rRep1 (K : PySem.W.Frag) : R2 := fun x y H Q => ∃ l xs, x = .ref l ∧ y = .int 1 ∧ SqT K H l xs ∧ Q (.ref l) H
def rRep0 (K : PySem.W.Frag) : R2 := fun x y H Q => ∃ l xs, x = .ref l ∧ y = .int 0 ∧ SqT K H l xs ∧ xs ≠ [] ∧ ∀ p, H p = none → Q (.ref p) (upd H p (.tup []))
section
variable {X : Cx} {c : Cc}
theorem op_rep1 : OpR X (binaryOp .Mult) (rRep1 X.K) := by
  intro pins s σ H x y v u Q I rx ry h
  obtain ⟨l, xs, rfl, rfl, hT, q⟩ := h
  cases rx
  obtain ⟨t, rfl⟩ := ry
  obtain ⟨its, r, ⟨⟨cls, dd, data, sl⟩, ho, hc, n, hd⟩, hs⟩ := I.tuple hT
  simp only at hc hd
  subst hc hd
  refine wpAny_binaryOp_repeat_ref (T := "tuple") (U := "int") (by decide) ⟨_, ho, rfl⟩ (fun s' => typeIs_int s' 1 t) noFill_tuple_mul F.fills_int_mul F.slot_int_rmul repeat_tuple F.slot_int_index.lookup
    (call_meets F.slot_int_rmul (typeIs_int s 1 t) F.entry_int_rmul (F.args_int_rmul_2 _ _) (int_rmul_tuple 1 t l its.toArray n dd sl)
      ⟨ho, rfl, ⟨_, ho, rfl⟩, call_meets F.slot_tuple_mul ⟨_, ho, rfl⟩ F.entry_tuple_mul (F.args_tuple_mul_2 _ _) (tuple_mul1 l its.toArray n dd sl 1 t rfl) ⟨ho, ?_⟩⟩)
  exact ⟨.ref l, H, I, rfl, q⟩
theorem op_rep0 : OpR X (binaryOp .Mult) (rRep0 X.K) := by
  intro pins s σ H x y v u Q I rx ry h
  obtain ⟨l, xs, rfl, rfl, hT, hne, q⟩ := h
  cases rx
  obtain ⟨t, rfl⟩ := ry
  obtain ⟨its, r, ⟨⟨cls, dd, data, sl⟩, ho, hc, n, hd⟩, hs⟩ := I.tuple hT
  simp only at hc hd
  subst hc hd
  have hi : its.toArray.isEmpty = false := by
    cases its with
    | nil =>
      cases r
      exact (hne rfl).elim
    | cons a b => rfl
  refine wpAny_binaryOp_repeat_ref (T := "tuple") (U := "int") (by decide) ⟨_, ho, rfl⟩ (fun s' => typeIs_int s' 0 t) noFill_tuple_mul F.fills_int_mul F.slot_int_rmul repeat_tuple F.slot_int_index.lookup
    (call_meets F.slot_int_rmul (typeIs_int s 0 t) F.entry_int_rmul (F.args_int_rmul_2 _ _) (int_rmul_tuple 0 t l its.toArray n dd sl)
      ⟨ho, rfl, ⟨_, ho, rfl⟩, call_meets F.slot_tuple_mul ⟨_, ho, rfl⟩ F.entry_tuple_mul (F.args_tuple_mul_2 _ _) (tuple_mul0 l its.toArray n dd sl 0 t rfl hi) ⟨ho, ?_⟩⟩)
  refine ⟨.ref s.heap.objs.size, _, I.laid (t' := s.toks) (o := .tup []) (fun b ob q => Heap.get?_push_of_some _ q) (Nat.le_refl _) ?_, rfl, q _ (I.hok.fresh (Nat.le_refl _))⟩
  exact ⟨Nat.zero_le _, _, .nil, IsTup.new _ _⟩
def dRep1 : D → D → Option T
  | .tup xs, .int k => if k = 1 then some (.im (.tup xs)) else none
  | _, _ => none
def dRep0 : D → D → Option T
  | .tup xs, .int k => if xs ≠ [] ∧ k = 0 then some (.im (.tup [])) else none
  | _, _ => none
theorem d_rep1 : OpD c (rRep1 c.K) dRep1 := by
  intro L σ H env x y dx dy t Q re hx hy e k
  cases dx <;> cases dy <;> simp only [dRep1] at e <;> try (cases e; done)
  split at e
  · rename_i q
    cases e
    obtain ⟨a, xs, rfl, h1, r1⟩ := hx.tup
    cases hy.int
    subst q
    exact ⟨a, xs, rfl, rfl, h1, k _ H re .refl (.tup h1 r1)⟩
  · cases e
theorem d_rep0 : OpD c (rRep0 c.K) dRep0 := by
  intro L σ H env x y dx dy t Q re hx hy e k
  cases dx <;> cases dy <;> simp only [dRep0] at e <;> try (cases e; done)
  split at e
  · rename_i q
    cases e
    obtain ⟨a, xs, rfl, h1, r1⟩ := hx.tup
    cases hy.int
    obtain ⟨q1, rfl⟩ := q
    refine ⟨a, xs, rfl, rfl, h1, fun z => q1 ?_, fun p n => ?_⟩
    · subst z
      cases r1
      rfl
    · have kp : ∀ {zs : HO} b o, H b = some o → upd H p zs b = some o := fun b o e => by rw [upd_ne (ne_of_none e n)]; exact e
      exact k _ _ (re.grow kp) (.grow kp) (.tup (.inl (.inl upd_same)) .nil)
  · cases e
abbrev rMulT (K : PySem.W.Frag) : R2 := fun x y H Q => rMulA K x y H Q ∨ (rRep1 K x y H Q ∨ rRep0 K x y H Q)
def dMulT (x y : D) : Option T := match dMulA x y with
  | some t => some t
  | none => match dRep1 x y with
    | some t => some t
    | none => dRep0 x y
theorem op_mulT : OpR X (binaryOp .Mult) (rMulT X.K) := op_mulA.or (op_rep1.or op_rep0)
theorem d_mulT : OpD c (rMulT c.K) dMulT := d_mulA.or (d_rep1.or d_rep0)
end
end DL
namespace DL
open PySem PySem.Spec L2

/-! ### order of data of one kind -/
abbrev alikeD (x y : D) : Bool := PySem.W.alike (toP x) (toP y)
abbrev ltD (x y : D) : Bool := PySem.W.dataLt (toP x) (toP y)
def isNonD : D → Bool
  | .non => true
  | _ => false
def dLtD (x y : D) : Option T := if alikeD x y = true ∧ isNonD x = false ∧ dep x ≤ 60 then some (.im (.bl (ltD x y))) else none
def dLtA (x y : D) : Option T := match dLt x y with
  | some t => some t
  | none => dLtD x y
section
variable {X : Cx} {c : Cc}
def rLtD (K : PySem.W.Frag) : R2 := fun x y H Q => ∃ d e, Dp K H x d ∧ Dp K H y e ∧ PySem.W.alike d e = true ∧ d ≠ .none ∧ d.depth ≤ 60 ∧ Q (.bl (PySem.W.dataLt d e)) H
theorem op_ltD (hu : X.A.units + 64 < cLine) : OpR X (compareOp .Lt) (rLtD X.K) := by
  intro pins s σ H x y v u Q I rx ry h
  obtain ⟨d, e, hd, he, ha, hn, hp, q⟩ := h
  obtain ⟨as, r1⟩ := Dp.reads I d x v hd rx
  obtain ⟨bs, r2⟩ := Dp.reads I e y u he ry
  exact PySem.W.lt_data r1 r2 ha hn (by omega) ⟨.bl _, H, I, rfl, q⟩
abbrev rLtA (K : PySem.W.Frag) : R2 := fun x y H Q => rI0 (fun i j => .bl (decide (i < j))) x y H Q ∨ rLtD K x y H Q
theorem op_ltA (hu : X.A.units + 64 < cLine) : OpR X (compareOp .Lt) (rLtA X.K) := op_lt.or (op_ltD hu)
theorem toP_none {x : D} (h : isNonD x = false) : toP x ≠ .none := by
  cases x <;> first | exact (Bool.noConfusion h) | exact fun z => nomatch z
theorem d_ltD : OpD c (rLtD c.K) dLtD := by
  intro L σ H env x y dx dy t Q re hx hy e k
  unfold dLtD at e
  split at e
  · rename_i q
    cases e
    exact ⟨_, _, hx.dp, hy.dp, q.1, toP_none q.2.1, by rw [dep_toP]; exact q.2.2, k _ H re .refl (.bl _)⟩
  · cases e
theorem d_ltA : OpD c (rLtA c.K) dLtA := d_lt.or d_ltD
end

/-! ### max, min of one thing -/
def rMaxT (K : PySem.W.Frag) : List V → Hp → VK → Prop := fun vs H Q => ∃ (a : Addr) (n : Int) (ns : List Int), vs = [V.ref a] ∧ SqT K H a ((n :: ns).map V.int) ∧ Q (.int (ns.foldl max n)) H
def rMinT (K : PySem.W.Frag) : List V → Hp → VK → Prop := fun vs H Q => ∃ (a : Addr) (n : Int) (ns : List Int), vs = [V.ref a] ∧ SqT K H a ((n :: ns).map V.int) ∧ Q (.int (ns.foldl min n)) H
theorem fold_max_mem : ∀ (ns : List Int) (n : Int), ns.foldl max n ∈ n :: ns
  | [], n => by simp
  | m :: ns, n => by
    rw [List.foldl_cons]
    have := fold_max_mem ns (max n m)
    rcases List.mem_cons.mp this with e | e
    · rw [e]
      by_cases h : n ≤ m
      · rw [Int.max_eq_right h]; simp
      · rw [Int.max_eq_left (by omega)]; simp
    · exact List.mem_cons_of_mem _ (List.mem_cons_of_mem _ e)
theorem fold_max_le : ∀ (ns : List Int) (n y : Int), y ∈ n :: ns → y ≤ ns.foldl max n
  | [], n, y, h => by simp at h; subst h; exact Int.le_refl _
  | m :: ns, n, y, h => by
    rw [List.foldl_cons]
    rcases List.mem_cons.mp h with e | h
    · have := fold_max_le ns (max n m) (max n m) List.mem_cons_self
      omega
    · rcases List.mem_cons.mp h with e | h
      · have := fold_max_le ns (max n m) (max n m) List.mem_cons_self
        omega
      · exact fold_max_le ns (max n m) y (List.mem_cons_of_mem _ h)
theorem fold_min_mem : ∀ (ns : List Int) (n : Int), ns.foldl min n ∈ n :: ns
  | [], n => by simp
  | m :: ns, n => by
    rw [List.foldl_cons]
    have := fold_min_mem ns (min n m)
    rcases List.mem_cons.mp this with e | e
    · rw [e]
      by_cases h : n ≤ m
      · rw [Int.min_eq_left h]; simp
      · rw [Int.min_eq_right (by omega)]; simp
    · exact List.mem_cons_of_mem _ (List.mem_cons_of_mem _ e)
theorem fold_min_le : ∀ (ns : List Int) (n y : Int), y ∈ n :: ns → ns.foldl min n ≤ y
  | [], n, y, h => by simp at h; subst h; exact Int.le_refl _
  | m :: ns, n, y, h => by
    rw [List.foldl_cons]
    rcases List.mem_cons.mp h with e | h
    · have := fold_min_le ns (min n m) (min n m) List.mem_cons_self
      omega
    · rcases List.mem_cons.mp h with e | h
      · have := fold_min_le ns (min n m) (min n m) List.mem_cons_self
        omega
      · exact fold_min_le ns (min n m) y (List.mem_cons_of_mem _ h)
theorem fold_max_eq {ns : List Int} {n m : Int} (h1 : m ∈ n :: ns) (h2 : ∀ y, y ∈ n :: ns → y ≤ m) : m = ns.foldl max n := by
  have a := fold_max_le ns n m h1
  have b := h2 _ (fold_max_mem ns n)
  omega
theorem fold_min_eq {ns : List Int} {n m : Int} (h1 : m ∈ n :: ns) (h2 : ∀ y, y ∈ n :: ns → m ≤ y) : m = ns.foldl min n := by
  have a := fold_min_le ns n m h1
  have b := h2 _ (fold_min_mem ns n)
  omega
theorem foldMaxD : ∀ (ns : List Int) (n : Int), PySem.W.maxD (.int n) (ns.map .int) = .int (ns.foldl max n)
  | [], n => rfl
  | m :: ns, n => by
    have := foldMaxD ns (max n m)
    unfold PySem.W.maxD at this ⊢
    rw [List.map_cons, List.foldl_cons, List.foldl_cons, ← this]
    congr 1
    rw [PySem.W.dataLt_int]
    by_cases h : n < m
    · rw [if_pos (by simpa using h), Int.max_eq_right (by omega)]
    · rw [if_neg (by simpa using h), Int.max_eq_left (by omega)]
theorem foldMinD : ∀ (ns : List Int) (n : Int), PySem.W.minD (.int n) (ns.map .int) = .int (ns.foldl min n)
  | [], n => rfl
  | m :: ns, n => by
    have := foldMinD ns (min n m)
    unfold PySem.W.minD at this ⊢
    rw [List.map_cons, List.foldl_cons, List.foldl_cons, ← this]
    congr 1
    rw [PySem.W.dataLt_int]
    by_cases h : m < n
    · rw [if_pos (by simpa using h), Int.min_eq_right (by omega)]
    · rw [if_neg (by simpa using h), Int.min_eq_left (by omega)]
theorem dp_ints (K : PySem.W.Frag) (H : Hp) : ∀ ns : List Int, DpAll K H (ns.map V.int) (ns.map PyData.int)
  | [] => .nil
  | n :: ns => .cons (.int n) (dp_ints K H ns)
theorem alike_ints (ns : List Int) : PySem.W.AlikeAll (ns.map PyData.int) := by
  refine ⟨fun x hx y hy => ?_, fun x hx => ?_⟩
  · obtain ⟨i, _, rfl⟩ := List.mem_map.mp hx
    obtain ⟨j, _, rfl⟩ := List.mem_map.mp hy
    rfl
  · obtain ⟨i, _, rfl⟩ := List.mem_map.mp hx
    exact fun z => nomatch z
theorem depth_ints (ns : List Int) : PyData.depthAll (ns.map PyData.int) = 0 := PySem.W.depth_ints ns
section
variable {X : Cx} {c : Cc}
theorem cr_maxT (hc : X.calm = true) (hu : X.A.units + 64 < cLine) : CallR X (.builtin "max") (rMaxT X.K) := by
  intro pins s σ H vs us Q I r h
  obtain ⟨a, n, ns, rfl, hs, q⟩ := h
  obtain ⟨its, rv, ht, _⟩ := I.tuple hs
  rw [Vals.ref1 r]
  obtain ⟨as, rs⟩ := Dp.readsAll I _ _ _ (dp_ints X.K H (n :: ns)) rv
  have rs' : ReadsAll s.heap its (PyData.int n :: ns.map PyData.int) as := rs
  refine PySem.W.max_tuple_data (I.ok.hd hc) ht rs' (alike_ints (n :: ns)) (by have := depth_ints (n :: ns); rw [List.map_cons] at this; rw [this]; omega) fun i v h' tk bs hv rd hk => ?_
  rw [foldMaxD] at rd
  cases rd
  exact ⟨.int _, H, I.kept hk, ⟨_, rfl⟩, q⟩
theorem cr_minT (hc : X.calm = true) (hu : X.A.units + 64 < cLine) : CallR X (.builtin "min") (rMinT X.K) := by
  intro pins s σ H vs us Q I r h
  obtain ⟨a, n, ns, rfl, hs, q⟩ := h
  obtain ⟨its, rv, ht, _⟩ := I.tuple hs
  rw [Vals.ref1 r]
  obtain ⟨as, rs⟩ := Dp.readsAll I _ _ _ (dp_ints X.K H (n :: ns)) rv
  have rs' : ReadsAll s.heap its (PyData.int n :: ns.map PyData.int) as := rs
  refine PySem.W.min_tuple_data (I.ok.hd hc) ht rs' (alike_ints (n :: ns)) (by have := depth_ints (n :: ns); rw [List.map_cons] at this; rw [this]; omega) fun i v h' tk bs hv rd hk => ?_
  rw [foldMinD] at rd
  cases rd
  exact ⟨.int _, H, I.kept hk, ⟨_, rfl⟩, q⟩
abbrev rMaxA (K : PySem.W.Frag) : List V → Hp → VK → Prop := fun xs H Q => rMax K xs H Q ∨ rMaxT K xs H Q
abbrev rMinA (K : PySem.W.Frag) : List V → Hp → VK → Prop := fun xs H Q => rMin K xs H Q ∨ rMinT K xs H Q
theorem call_maxA (hc : X.calm = true) (hu : X.A.units + 64 < cLine) : CallR X (.builtin "max") (rMaxA X.K) := (cr_max hc).or (cr_maxT hc hu)
theorem call_minA (hc : X.calm = true) (hu : X.A.units + 64 < cLine) : CallR X (.builtin "min") (rMinA X.K) := (cr_min hc).or (cr_minT hc hu)
def best (f : Int → Int → Int) : List Int → Option D
  | [] => none
  | n :: ns => some (.int (ns.foldl f n))
def dMax1 : List D → Option T
  | [d] => match items d with
    | some ds => ((intsOf ds).bind (best max)).map .im
    | none => none
  | _ => none
def dMin1 : List D → Option T
  | [d] => match items d with
    | some ds => ((intsOf ds).bind (best min)).map .im
    | none => none
  | _ => none
theorem dMax1_tup (n : Int) (ns : List Int) : dMax1 [.tup ((n :: ns).map D.int)] = some (.im (.int (ns.foldl max n))) := by
  show ((intsOf ((n :: ns).map D.int)).bind (best max)).map T.im = _
  rw [intsOf_map]
  rfl
theorem dMax1_lst (n : Int) (ns : List Int) : dMax1 [.lst ((n :: ns).map D.int)] = some (.im (.int (ns.foldl max n))) := by
  show ((intsOf ((n :: ns).map D.int)).bind (best max)).map T.im = _
  rw [intsOf_map]
  rfl
theorem dMin1_tup (n : Int) (ns : List Int) : dMin1 [.tup ((n :: ns).map D.int)] = some (.im (.int (ns.foldl min n))) := by
  show ((intsOf ((n :: ns).map D.int)).bind (best min)).map T.im = _
  rw [intsOf_map]
  rfl
theorem dMin1_lst (n : Int) (ns : List Int) : dMin1 [.lst ((n :: ns).map D.int)] = some (.im (.int (ns.foldl min n))) := by
  show ((intsOf ((n :: ns).map D.int)).bind (best min)).map T.im = _
  rw [intsOf_map]
  rfl
theorem d_max1 : CallD c (rMaxA c.K) dMax1 := by
  intro L σ H env xs ds t Q re hx e k
  unfold dMax1 at e
  split at e
  · rename_i d
    obtain ⟨v, rfl, r⟩ := hx.one
    cases q : items d with
    | none => rw [q] at e; cases e
    | some es =>
      rw [q] at e
      obtain ⟨b, e1, rfl⟩ := Option.map_eq_some_iff.mp e
      obtain ⟨ns, e2, e3⟩ := Option.bind_eq_some_iff.mp e1
      obtain ⟨a, ys, rfl, h, rs⟩ := r.seq q
      rw [intsOf_is e2] at rs
      rw [rs.ints] at h
      cases ns with
      | nil => cases e3
      | cons n ns =>
        cases e3
        rcases h with h | h
        · exact .inl ⟨a, n :: ns, rfl, h, by simp, fun m h1 h2 => by rw [fold_max_eq h1 h2]; exact k _ H re .refl (.int _)⟩
        · exact .inr ⟨a, n, ns, rfl, h, k _ H re .refl (.int _)⟩
  · cases e
theorem d_min1 : CallD c (rMinA c.K) dMin1 := by
  intro L σ H env xs ds t Q re hx e k
  unfold dMin1 at e
  split at e
  · rename_i d
    obtain ⟨v, rfl, r⟩ := hx.one
    cases q : items d with
    | none => rw [q] at e; cases e
    | some es =>
      rw [q] at e
      obtain ⟨b, e1, rfl⟩ := Option.map_eq_some_iff.mp e
      obtain ⟨ns, e2, e3⟩ := Option.bind_eq_some_iff.mp e1
      obtain ⟨a, ys, rfl, h, rs⟩ := r.seq q
      rw [intsOf_is e2] at rs
      rw [rs.ints] at h
      cases ns with
      | nil => cases e3
      | cons n ns =>
        cases e3
        rcases h with h | h
        · exact .inl ⟨a, n :: ns, rfl, h, by simp, fun m h1 h2 => by rw [fold_min_eq h1 h2]; exact k _ H re .refl (.int _)⟩
        · exact .inr ⟨a, n, ns, rfl, h, k _ H re .refl (.int _)⟩
  · cases e
end
end DL
namespace DL
open PySem PySem.Spec L2

/-! ### while -/
def whileF (ft : FT) (f : FS) : Nat → En → Fl
  | 0, _ => .er
  | n + 1, env => (ft env).bindF fun b e => bif b then (match f e with
    | .nx e1 => whileF ft f n e1
    | .ct e1 => whileF ft f n e1
    | .bk e1 => .nx e1
    | .rt t e1 => .rt t e1
    | .ex x e1 => .ex x e1
    | .er => .er) else .nx e
def sWhile (n : Nat) (ft : FT) (f : FS) : FS := whileF ft f n
section
variable {X : Cx} {c : Cc} {W : WX} {pos : Pos} {cnd : Expr} {body : List Stmt} {ft : FT} {f : FS}
theorem d_while {n : Nat} : ∀ D σ H, dS c W (sWhile n ft f) D σ H → tWhile (dT c W ft) (dS c W f) D σ H := fun D σ H h => by
  obtain ⟨env, L, re, h⟩ := h
  refine ⟨fun m σ' H' => ∃ env', RE c L σ' H' env' ∧ sK c W L (Stp σ' env' H') (Nn σ' env' H') (whileF ft f m env') D, ⟨n, env, re, h⟩, fun m σ1 H1 ⟨env1, r1, h1⟩ => ?_⟩
  cases m with
  | zero => exact h1.elim
  | succ m =>
    unfold whileF at h1
    refine dT.of r1 (h1.bind.mono fun b e2 H2 r2 s2 h2 => ?_)
    have h2 := h2.here s2
    cases b with
    | false =>
      rw [if_neg Bool.false_ne_true]
      exact h2 σ1 H2 r2 .refl
    | true =>
      rw [if_pos rfl]
      refine ⟨fun σ' H' => ∃ env', RE c L σ' H' env' ∧ sK c W L (Stp σ' env' H') (Nn σ' env' H') (whileF ft f m env') D, fun σ' H' z => ⟨m, Nat.lt_succ_self m, z⟩, ?_⟩
      refine dS.of r2 ?_
      dsimp only [cond_true] at h2
      cases ef : f e2 with
      | er => rw [ef] at h2; exact h2.elim
      | nx e3 => rw [ef] at h2; exact fun σ3 H3 r3 s3 => ⟨e3, r3, h2.here s3⟩
      | ct e3 => rw [ef] at h2; exact fun σ3 H3 r3 s3 => ⟨e3, r3, h2.here s3⟩
      | bk e3 => rw [ef] at h2; exact h2
      | rt t e3 => rw [ef] at h2; exact h2
      | ex x e3 => rw [ef] at h2; exact h2
theorem ds_while (n : Nat) (hp : PassesOwn (model X.prog X.w) X.A X.env X.xe) (hc : PT X cnd (dT c W ft)) (hb : PSs X body (dS c W f)) : PS X (.While cnd body [] pos) (dS c W (sWhile n ft f)) := PSw (ps_while hp hc hb) d_while
end

/-! ### reversed -/
def iV (t : T) (env : En) : R Wk := match t with
  | .im (.tup ds) => .ok ⟨ds.reverse, none⟩ env
  | .ft cs => .ok ⟨(cs.map Cp.d).reverse, none⟩ env
  | _ => .er
def fiV (fa : FE) : FI := fun env => (fa env).bind iV
theorem src_revT {c : Cc} {A : (Addr → Prop) → Prop} {S : Sp0} {a : Addr} {ds : List D} (hl : ∀ L σ H env, A L → RE c L σ H env → S σ env H → ∃ xs, SqT c.K H a xs ∧ Reps c.K (Av L σ env) H xs ds) : Src c A S (RT.ItvT c.K a ds.length) ⟨ds.reverse, none⟩ := by
  refine ⟨fun L i σ H env al re s k hi => ?_, fun L i σ H env al re s k hi => ?_, fun L i σ H env x H' d al re s k hd hy => ?_⟩
  · dsimp only at hi
    rw [List.length_reverse] at hi
    exact hi
  · dsimp only at hi
    rw [List.length_reverse] at hi
    obtain ⟨xs, h, rs⟩ := hl L σ H env al re s
    have hi' : ds.length - 1 - i < xs.length := by rw [rs.length]; omega
    exact ⟨hi, xs, xs[ds.length - 1 - i], h, List.getElem?_eq_getElem hi'⟩
  · obtain ⟨rfl, hy⟩ := hy
    dsimp only at hd
    have hi : i < ds.length := by
      have := (List.getElem?_eq_some_iff.mp hd).1
      rwa [List.length_reverse] at this
    rw [List.getElem?_reverse hi] at hd
    obtain ⟨xs, h, rs⟩ := hl L σ H' env al re s
    obtain ⟨v, ev, rv⟩ := rs.get hd
    have := hy xs h
    rw [ev] at this
    cases this
    exact ⟨fun _ _ e => e, rv⟩
section
variable {X : Cx} {c : Cc} {W : WX} {pos p : Pos} {e tg a b : Expr} {fa : FE} {fas : FA}
theorem di_rev (hg : Gl X "reversed") (hm : X.mg "reversed" = none) (he : PE X e (dE c W fa)) (hK : c.K = X.K := by rfl) (hs : starEach [e] X.env = (false, eval e X.env) :: starEach [] X.env := by rfl) : PI X tg (.Call (.Name "reversed" p) [e] [] pos) (dI c W (fiV fa)) := PIw (RT.pi_revA hg hm he hs) fun σ H R h => by
  obtain ⟨env, L, r, h⟩ := h
  refine dE.of r (h.bind.mono fun t e1 H1 r1 s1 h1 v q => ?_)
  rw [← hK]
  have key : ∀ ds : List D, Rep c.K (Av L σ e1) H1 v (.tup ds) → (∀ J, (Wk.ok ⟨ds.reverse, none⟩ e1 ∧ Src c (Lx L H1) (Sw ⟨ds.reverse, none⟩ σ e1 H1) J ⟨ds.reverse, none⟩) → R J H1) → ∃ (a : Addr) (xs : List V), v = .ref a ∧ ((SqL c.K H1 a xs ∧ R (Itv c.K a xs.length) H1) ∨ (SqT c.K H1 a xs ∧ R (RT.ItvT c.K a xs.length) H1)) := fun ds q h1 => by
    cases q with
    | tup ht rs =>
      rename_i a xs
      refine ⟨a, xs, rfl, .inr ⟨ht, ?_⟩⟩
      rw [rs.length]
      exact h1 _ ⟨trivial, src_revT fun L2 σ' H' env' lx re s => ⟨xs, (r1.tk s.1).sqt ht, r1.reps s.1 (Reps.lx lx rs)⟩⟩
  cases t with
  | al i => exact h1.elim
  | fr ds => exact h1.elim
  | im d =>
    cases d with
    | tup ds => exact key ds q (h1 H1 r1 .refl)
    | non => exact h1.elim
    | bl b => exact h1.elim
    | int b => exact h1.elim
    | str b => exact h1.elim
    | lst b => exact h1.elim
    | fz b => exact h1.elim
  | ft cs => exact key (cs.map Cp.d) q.wk (h1 H1 r1 .refl)
end

/-! ### sorted -/
theorem each_mk {β : Type} {R : Value → β → Prop} : ∀ {vs : List Value} {bs : List β}, vs.length = bs.length → (∀ (i : Nat) v b, vs[i]? = some v → bs[i]? = some b → R v b) → PySem.W.EachIs R vs bs
  | [], [], _, _ => .nil
  | [], _ :: _, h, _ => by cases h
  | _ :: _, [], h, _ => by cases h
  | v :: vs, b :: bs, h, k => .cons (k 0 v b rfl rfl) (each_mk (by simpa using h) fun i v b e1 e2 => k (i + 1) v b e1 e2)
theorem each_at {β : Type} {R : Value → β → Prop} {vs : List Value} {bs : List β} (h : PySem.W.EachIs R vs bs) : vs.length = bs.length ∧ ∀ (i : Nat) v b, vs[i]? = some v → bs[i]? = some b → R v b := by
  induction h with
  | nil => exact ⟨rfl, fun i v b e => by simp at e⟩
  | cons r _ ih =>
    refine ⟨by simp [ih.1], fun i v b e1 e2 => ?_⟩
    cases i with
    | zero => cases e1; cases e2; exact r
    | succ i => exact ih.2 i v b e1 e2
def okSort (ds : List D) : Prop := (∀ x ∈ ds, ∀ y ∈ ds, alikeD x y = true) ∧ PySem.W.Sortable (ds.map toP) ∧ (∀ x ∈ ds, dep x ≤ 60) ∧ ds.length ≤ 1000000
noncomputable def sortD (ds : List D) : List D := ds.mergeSort (PySem.W.dataLe false toP)
open Classical in
noncomputable def dSorted : List D → Option T
  | [.lst ds] => if okSort ds then some (.fr (sortD ds)) else none
  | _ => none
open Classical in
theorem dSorted_lst {ds : List D} (h : okSort ds) : dSorted [.lst ds] = some (.fr (sortD ds)) := by
  show (if okSort ds then some (T.fr (sortD ds)) else none) = _
  rw [if_pos h]
def rSortedDD (K : PySem.W.Frag) : List V → Hp → VK → Prop := fun vs H Q => ∃ (a : Addr) (xs : List V) (ds : List D) (G : Addr → Prop), vs = [V.ref a] ∧ SqL K H a xs ∧ Reps K G H xs ds ∧ okSort ds ∧
  ∀ (ys : List V) (p : Addr), Reps K G H ys (sortD ds) → H p = none → Q (.ref p) (upd H p (.lst ys))
theorem Reps.mk' {K : PySem.W.Frag} {G : Addr → Prop} {H : Hp} : ∀ {bs : List (V × D)}, (∀ b ∈ bs, Rep K G H b.1 b.2) → Reps K G H (bs.map Prod.fst) (bs.map Prod.snd)
  | [], _ => .nil
  | b :: bs, h => .cons (h b List.mem_cons_self) (Reps.mk' fun x z => h x (List.mem_cons_of_mem _ z))
theorem sort_snd (bs : List (V × D)) : (bs.mergeSort (PySem.W.dataLe false fun b => toP b.2)).map Prod.snd = sortD (bs.map Prod.snd) := by
  unfold sortD
  rw [List.map_mergeSort]
  intro a _ b _
  rfl
theorem cr_sortedDD {X : Cx} (hu : X.A.units + 64 < cLine) : CallR X (.builtin "sorted") (rSortedDD X.K) := by
  intro pins s σ H vs us Q I r h
  obtain ⟨a, xs, ds, G, rfl, hs, rs, ok, q⟩ := h
  obtain ⟨its, rv, hl, hz⟩ := I.list hs
  rw [Vals.ref1 r]
  have lx := rs.length
  have lv := rv.length
  have zl : (xs.zip ds).length = its.length := by rw [List.length_zip]; omega
  have z1 : (xs.zip ds).map Prod.fst = xs := List.map_fst_zip (by omega)
  have z2 : (xs.zip ds).map Prod.snd = ds := List.map_snd_zip (by omega)
  have mem : ∀ b ∈ xs.zip ds, Rep X.K G H b.1 b.2 := fun b hb => by
    obtain ⟨i, hi⟩ := List.getElem?_of_mem hb
    rw [List.getElem?_zip_eq_some] at hi
    obtain ⟨v, e1, e2⟩ := rs.get hi.2
    rw [hi.1] at e1
    cases e1
    exact e2
  have valAt : ∀ (i : Nat) u (v : V), its[i]? = some u → xs[i]? = some v → RelV v u := by
    have key : ∀ {xs : List V} {us : List Value}, Vals xs us → ∀ (i : Nat) u (v : V), us[i]? = some u → xs[i]? = some v → RelV v u := fun {xs us} h => by
      induction h with
      | nil => exact fun i u v e => by simp at e
      | cons r _ ih =>
        intro i u v e1 e2
        cases i with
        | zero => cases e1; cases e2; exact r
        | succ i => exact ih i u v e1 e2
    exact key rv
  have em : (xs.zip ds).map (fun b => toP b.2) = ds.map toP := by rw [← z2, List.map_map]; simp [Function.comp_def, z2]
  refine PySem.W.sorted_data (bs := xs.zip ds) (enc := fun b => toP b.2) (R := fun u b => RelV b.1 u) hl.isList (each_mk zl.symm fun i u b e1 e2 => ?_) (each_mk zl.symm fun i u b e1 e2 => ?_) (fun d hd e he => ?_) (by rw [em]; exact ok.2.1) (by rw [zl, ← lv]; exact hz) (fun b hb => ?_) fun out ho hout => ?_
  · rw [List.getElem?_zip_eq_some] at e2
    exact valAt i u _ e1 e2.1
  · have hb := List.mem_of_getElem? e2
    rw [List.getElem?_zip_eq_some] at e2
    exact Dp.reads I _ _ u (mem b hb).dp (valAt i u _ e1 e2.1)
  · rw [em] at hd he
    obtain ⟨x, hx, rfl⟩ := List.mem_map.mp hd
    obtain ⟨y, hy, rfl⟩ := List.mem_map.mp he
    exact ok.1 x hx y hy
  · have : b.2 ∈ ds := (List.of_mem_zip hb).2
    have := ok.2.2.1 _ this
    rw [dep_toP]
    omega
  · obtain ⟨e1, e2⟩ := each_at hout
    let bs' := (xs.zip ds).mergeSort (PySem.W.dataLe false fun b => toP b.2)
    have hv : Vals (bs'.map Prod.fst) out := by
      have key : ∀ {out : List Value} {bs : List (V × D)}, PySem.W.EachIs (fun u b => RelV b.1 u) out bs → Vals (bs.map Prod.fst) out := fun {out bs} h => by
        induction h with
        | nil => exact .nil
        | cons r _ ih => exact .cons r ih
      exact key hout
    have hR : Reps X.K G H (bs'.map Prod.fst) (sortD ds) := by
      have := Reps.mk' (bs := bs') fun b hb => mem b ((List.mergeSort_perm _ _).mem_iff.mp hb)
      rw [sort_snd, z2] at this
      exact this
    obtain ⟨ep, he'⟩ := PyProof.Rows.sortedAll_at s.heap its out.toArray
    have hlen : (bs'.map Prod.fst).length ≤ sizeLine := by
      rw [List.length_map, List.length_mergeSort, zl, ← lv]
      exact hz
    exact ⟨.ref _, upd H (s.heap.objs.size + 1) (.lst (bs'.map Prod.fst)), I.laid (t' := s.toks) (fun _ _ => PyProof.Rows.sortedAll_old) (Nat.le_succ _) ⟨hlen, out, ep, hv, he'⟩, rfl, q _ _ hR (I.hok.fresh (Nat.le_succ _))⟩
theorem d_sorted {c : Cc} : CallD c (rSortedDD c.K) dSorted := by
  intro L σ H env xs ds t Q re hx e k
  unfold dSorted at e
  split at e
  · rename_i es
    split at e
    · rename_i ok
      cases e
      obtain ⟨v, rfl, r⟩ := hx.one
      obtain ⟨a, ys, rfl, h, rs⟩ := r.lst
      refine ⟨a, ys, es, _, rfl, .of h, rs, ok, fun zs p hz n => ?_⟩
      obtain ⟨q1, q2, q3⟩ := re.newL hz n
      exact k _ _ q1 q2 q3
    · cases e
  · cases e
theorem bo_sorted : bootBuiltins "sorted" = some (.builtin "sorted") := by decide +kernel
end DL
namespace DL
open PySem PySem.Spec L2

/-! ### x in xs, of data of any depth -/
def dInD (neg : Bool) (x y : D) : Option T := if shp x = true ∧ shp y = true then (match y with
  | .tup ds => some (.im (.bl (if neg then !hasD x ds else hasD x ds)))
  | .lst ds => some (.im (.bl (if neg then !hasD x ds else hasD x ds)))
  | _ => none) else none
def dInA (neg : Bool) (x y : D) : Option T := match dIn neg x y with
  | some t => some t
  | none => dInD neg x y
theorem has_any (x : D) (ds : List D) : (toPs ds).any (fun y => PyData.eqv y (toP x)) = hasD x ds := by
  rw [toPs_map, List.any_map]
  rfl
section
variable {X : Cx} {c : Cc}
def rInDD (K : PySem.W.Frag) (neg : Bool) : R2 := fun x y H Q => ∃ d e ds, Dp K H x d ∧ Dp K H y e ∧ (e = .list ds ∨ e = .tuple ds) ∧ SeqAt.shaped d = true ∧ SeqAt.shaped e = true ∧ Q (.bl (if neg then !(ds.any fun z => PyData.eqv z d) else ds.any fun z => PyData.eqv z d)) H
theorem op_inDD (hu : X.A.units + 66 < cLine) : OpR X (compareOp .In) (rInDD X.K false) := by
  intro pins s σ H x y v u Q I rx ry h
  obtain ⟨d, e, ds, hd, he, hh, sd, se, q⟩ := h
  obtain ⟨as, r1⟩ := Dp.reads I d x v hd rx
  obtain ⟨bs, r2⟩ := Dp.reads I e y u he ry
  rcases hh with rfl | rfl
  · exact SeqAt.in_list_reads r2 r1 (SeqAt.canLay_of_shaped se) (SeqAt.canLay_of_shaped sd) (PyProof.Rows.room_in_shaped sd (by omega)) ⟨.bl _, H, I, rfl, q⟩
  · exact SeqAt.in_tuple_reads r2 r1 (SeqAt.canLay_of_shaped se) (SeqAt.canLay_of_shaped sd) (PyProof.Rows.room_in_shaped sd (by omega)) ⟨.bl _, H, I, rfl, q⟩
theorem op_notInDD (hu : X.A.units + 66 < cLine) : OpR X (compareOp .NotIn) (rInDD X.K true) := by
  intro pins s σ H x y v u Q I rx ry h
  obtain ⟨d, e, ds, hd, he, hh, sd, se, q⟩ := h
  obtain ⟨as, r1⟩ := Dp.reads I d x v hd rx
  obtain ⟨bs, r2⟩ := Dp.reads I e y u he ry
  rcases hh with rfl | rfl
  · exact SeqAt.notIn_list_reads r2 r1 (SeqAt.canLay_of_shaped se) (SeqAt.canLay_of_shaped sd) (PyProof.Rows.room_in_shaped sd (by omega)) ⟨.bl _, H, I, rfl, q⟩
  · exact SeqAt.notIn_tuple_reads r2 r1 (SeqAt.canLay_of_shaped se) (SeqAt.canLay_of_shaped sd) (PyProof.Rows.room_in_shaped sd (by omega)) ⟨.bl _, H, I, rfl, q⟩
abbrev rInA (K : PySem.W.Frag) (neg : Bool) : R2 := fun x y H Q => rIn K neg x y H Q ∨ rInDD K neg x y H Q
theorem op_inA (hu : X.A.units + 66 < cLine) : OpR X (compareOp .In) (rInA X.K false) := op_in_seq.or (op_inDD hu)
theorem op_notInA (hu : X.A.units + 66 < cLine) : OpR X (compareOp .NotIn) (rInA X.K true) := op_notIn_seq.or (op_notInDD hu)
theorem d_inDD (neg : Bool) : OpD c (rInDD c.K neg) (dInD neg) := by
  intro L σ H env x y dx dy t Q re hx hy e k
  unfold dInD at e
  split at e
  · rename_i q
    cases dy with
    | tup ds =>
      cases e
      refine ⟨_, _, toPs ds, hx.dp, hy.dp, .inr rfl, q.1, q.2, ?_⟩
      rw [has_any]
      exact k _ H re .refl (.bl _)
    | lst ds =>
      cases e
      refine ⟨_, _, toPs ds, hx.dp, hy.dp, .inl rfl, q.1, q.2, ?_⟩
      rw [has_any]
      exact k _ H re .refl (.bl _)
    | non => cases e
    | bl b => cases e
    | int b => cases e
    | str b => cases e
    | fz b => cases e
  · cases e
theorem d_inA (neg : Bool) : OpD c (rInA c.K neg) (dInA neg) := (d_in neg).or (d_inDD neg)
end

/-! ### len(set(xs)) of ints -/
/-- how many unlike ones -/
def unlike (ns : List Int) : Nat := (PyProof.Rows.firstMet (fun i => ns.getD i 0) ns.length).length
def tLenS (K : PySem.W.Frag) (ta : TE) : TE := fun σ H Q => ta σ H fun x H1 => ∃ (l : Addr) (ns : List Int), x = .ref l ∧ SqL K H1 l (ns.map V.int) ∧ ns.length ≤ 4000 ∧ Q (.int (unlike ns : Nat)) H1
theorem firstMet_le (f : Nat → Int) : ∀ i, (PyProof.Rows.firstMet f i).length ≤ i
  | 0 => Nat.le_refl _
  | i + 1 => by
    rw [PyProof.Rows.firstMet_succ]; unfold PyProof.Rows.step_dedup
    have := firstMet_le f i
    split
    · omega
    · rw [List.length_append]; simp; omega
theorem pe_lenS {X : Cx} {a : Expr} {ta : TE} {p p2 q pos : Pos} (hg : Gl X "len") (hm : X.mg "len" = none) (hg2 : Gl X "set") (hm2 : X.mg "set" = none) (ha : PE X a ta) (hc : X.calm = true := by rfl)
    (na : starEach [a] X.env = (false, eval a X.env) :: starEach [] X.env := by rfl) : PE X (.Call (.Name "len" p) [.Call (.Name "set" p2) [a] [] q] [] pos) (tLenS X.K ta) := by
  refine ⟨fun pins s σ H Q I h => ?_⟩
  refine PyProof.Rows.Call_ (ld_blt I hg hm boot_len ?_)
  refine PyProof.Rows.callWith_builtin1 (PyProof.Rows.args_cons ?_ rfl) rfl rfl
  refine PyProof.Rows.Call_ (ld_blt I hg2 hm2 PyProof.Rows.boot_set ?_)
  refine PyProof.Rows.callWith_type1 (PyProof.Rows.args_cons (thn (ha.run pins s σ H _ I h) fun v s1 ⟨x, H1, I1, r1, q1⟩ => PyProof.Rows.args_nil ?_) na) na rfl
  obtain ⟨l, ns, rfl, hq, hl, q1⟩ := q1
  cases r1
  obtain ⟨its, r, pl, hz⟩ := I1.list hq
  have hlen : its.toArray.size = ns.length := by rw [List.size_toArray, ← r.length, List.length_map]
  refine call_set_list (I1.ok.hd hc) pl.isList (by simpa using RZ.intsAre_vals r) (by rw [hlen]; unfold scanBound; omega) fun h' tk hS hk => ?_
  refine PyProof.Rows.args_nil ?_
  rw [hlen] at hS
  have hle := firstMet_le (fun i => ns.getD i 0) ns.length
  obtain ⟨o, es, ep, t, ho, hex, hd, _, _, _, hf, hn⟩ := hS
  have I2 : Inv X pins σ H1 { s1 with heap := h', toks := tk } := I1.kept fun b o e => hk b o (Heap.lt_size e) e
  exact call_len_set ho hex hd hf (by rw [hn]; omega) ⟨.int (unlike ns : Nat), H1, I2.tok _, ⟨_, by rw [hn]; rfl⟩, q1⟩
def eLs (fa : FE) : FE := fun env => (fa env).bind fun t e => match t.val e with
  | some (.lst ds) => match intsOf ds with
    | some ns => if ns.length ≤ 4000 then .ok (.im (.int (unlike ns : Nat))) e else .er
    | none => .er
  | _ => .er
section
variable {X : Cx} {c : Cc} {W : WX} {a : Expr} {fa : FE} {p p2 q pos : Pos}
theorem de_lenSet (hg : Gl X "len") (hm : X.mg "len" = none) (hg2 : Gl X "set") (hm2 : X.mg "set" = none) (ha : PE X a (dE c W fa)) (hK : c.K = X.K := by rfl) (hc : X.calm = true := by rfl)
    (na : starEach [a] X.env = (false, eval a X.env) :: starEach [] X.env := by rfl) : PE X (.Call (.Name "len" p) [.Call (.Name "set" p2) [a] [] q] [] pos) (dE c W (eLs fa)) :=
  PEw (pe_lenS hg hm hg2 hm2 ha hc na) fun σ H Q h => by
    obtain ⟨env, L, re, h⟩ := dE_iff.mp h
    refine dE.of re (h.bind.mono fun t e1 H1 r1 s1 h1 x q1 => ?_)
    cases e : t.val e1 with
    | none => rw [e] at h1; exact h1.elim
    | some d =>
      rw [e] at h1
      cases d with
      | lst ds =>
        dsimp only at h1
        cases ei : intsOf ds with
        | none => rw [ei] at h1; exact h1.elim
        | some ns =>
          rw [ei] at h1
          dsimp only at h1
          split at h1
          · rename_i hl
            obtain ⟨b, ys, rfl, hh, rs⟩ := (q1.opr0 r1 e).lst
            rw [intsOf_is ei] at rs
            rw [rs.ints] at hh
            refine ⟨b, ns, rfl, by rw [← hK]; exact .of hh, hl, h1 H1 r1 .refl _ (.int _)⟩
          · exact h1.elim
      | non => exact h1.elim
      | bl b => exact h1.elim
      | int b => exact h1.elim
      | str b => exact h1.elim
      | tup b => exact h1.elim
      | fz b => exact h1.elim
end

/-! ### xs.index(x), xs.count(x) -/
/-- a method that leaves its list as it is -/
theorem upd_self {H : Hp} {a : Addr} {o : HO} (h : H a = some o) : upd H a o = H := by
  funext b
  by_cases e : b = a
  · subst e
    rw [upd_same, h]
  · rw [upd_ne e]
def kIdx (ds : List D) (ts : List T) (env : En) : Option (D × List D × En) := match vals env ts with
  | some [x] => if shp x = true ∧ shp (.lst ds) = true then (ds.findIdx? fun y => eqv y x).map fun (j : Nat) => (D.int (j : Int), ds, env) else none
  | _ => none
def kCnt (ds : List D) (ts : List T) (env : En) : Option (D × List D × En) := match vals env ts with
  | some [x] => if (toP x).plain = true ∧ PyData.plainAll (toPs ds) = true ∧ dep x ≤ 60 then some (.int ((ds.countP fun y => eqv y x : Nat) : Int), ds, env) else none
  | _ => none
theorem m_idx {c : Cc} : MetD c (rIndexD c.K) kIdx := by
  intro L σ H env a xs ds vs As ts d ds' env' Q j b r n q ej sj ea ra ek ow kk
  unfold kIdx at ek
  cases ev : vals env ts with
  | none => rw [ev] at ek; cases ek
  | some es =>
    rw [ev] at ek
    have ro := q.oprs r.bare r (fun a z => ⟨z, (n a z).1⟩) ev
    match es, ro with
    | [], _ => cases ek
    | _ :: _ :: _, _ => cases ek
    | [x], .cons rx .nil =>
      dsimp only at ek
      split at ek
      · rename_i hs
        obtain ⟨i, hi, e⟩ := Option.map_eq_some_iff.mp ek
        cases e
        rw [List.findIdx?_eq_some_iff_getElem] at hi
        obtain ⟨hil, hi1, hi2⟩ := hi
        have kq := kk (.int (i : Int)) xs r.bare .refl (.int _) ra
        rw [upd_self ea] at kq
        refine ⟨a, _, toP x, toPs ds, i, toP ds[i], rfl, rfl, .lst (.of ea) (Reps.dp ra), rx.dp, hs.2, hs.1, ?_, hi1, fun m z' hm hz => ?_, kq⟩
        · rw [toPs_map, List.getElem?_map, List.getElem?_eq_getElem hil]
          rfl
        · rw [toPs_map, List.getElem?_map] at hz
          obtain ⟨z, e1, rfl⟩ := Option.map_eq_some_iff.mp hz
          obtain ⟨hml, e2⟩ := List.getElem?_eq_some_iff.mp e1
          have := hi2 m hm
          rw [e2] at this
          exact (by simpa using this : eqv z x = false)
      · cases ek
def rCountD (K : PySem.W.Frag) : V → List V → Hp → VK → Prop := fun x xs H Q => ∃ (a : Addr) (ys : List V) (y : V) (d : PyData) (ds : List PyData), x = V.ref a ∧ xs = [y] ∧ SqL K H a ys ∧ DpAll K H ys ds ∧ Dp K H y d ∧
  PyData.plainAll ds = true ∧ d.plain = true ∧ d.depth ≤ 60 ∧ Q (.int ((ds.countP fun z => PyData.eqv z d : Nat) : Int)) H
theorem mt_countD {X : Cx} (hu : X.A.units + 65 < cLine) : MtR X "list.count" (rCountD X.K) := by
  intro pins s σ H x xs v us Q I rx rxs h
  obtain ⟨a, ys, y, d, ds, rfl, rfl, hl, hys, hy, pl, pd, hd, q⟩ := h
  cases rx
  cases rxs with
  | cons ry rt =>
    cases rt
    obtain ⟨bs, r1⟩ := Dp.reads I d y _ hy ry
    obtain ⟨its, rv, hl', hz⟩ := I.list hl
    obtain ⟨as, r2⟩ := Dp.readsAll I _ _ _ hys rv
    refine PySem.SeqAt.count_list_data hl'.isList r2 r1 pl pd ?_ ⟨.int _, H, I.tok _, ⟨_, rfl⟩, q⟩
    have : min (PyData.depthAll ds) d.depth ≤ d.depth := Nat.min_le_right _ _
    omega
theorem m_cnt {c : Cc} : MetD c (rCountD c.K) kCnt := by
  intro L σ H env a xs ds vs As ts d ds' env' Q j b r n q ej sj ea ra ek ow kk
  unfold kCnt at ek
  cases ev : vals env ts with
  | none => rw [ev] at ek; cases ek
  | some es =>
    rw [ev] at ek
    have ro := q.oprs r.bare r (fun a z => ⟨z, (n a z).1⟩) ev
    match es, ro with
    | [], _ => cases ek
    | _ :: _ :: _, _ => cases ek
    | [x], .cons rx .nil =>
      dsimp only at ek
      split at ek
      · rename_i hs
        cases ek
        have kq := kk (.int ((ds.countP fun y => eqv y x : Nat) : Int)) xs r.bare .refl (.int _) ra
        rw [upd_self ea] at kq
        refine ⟨a, xs, _, toP x, toPs ds, rfl, rfl, .of ea, Reps.dp ra, rx.dp, hs.2.1, hs.1, by rw [dep_toP]; exact hs.2.2, ?_⟩
        rw [toPs_map, List.countP_map]
        exact kq
      · cases ek
theorem u66 {A : Around} {k : Nat} (h : Room k A) : A.units + 66 < cLine := by have := h.un; omega
theorem u65 {A : Around} {k : Nat} (h : Room k A) : A.units + 65 < cLine := by have := h.un; omega
end DL
namespace DL
open PySem PySem.Spec PyProof PyProof.Rows L2

/-! ### slices with the step -1: xs[i::-1] -/
/-- how many items stand before and at the first one taken -/
def rvN (n : Nat) : Option Int → Nat
  | none => n
  | some i => (max (-1) (min (if i < 0 then i + (n : Int) else i) ((n : Int) - 1)) + 1).toNat
theorem rvN_le (n : Nat) (o : Option Int) : rvN n o ≤ n := by
  cases o with
  | none => exact Nat.le_refl _
  | some i => unfold rvN; split <;> omega
theorem rv_bounds (o : Option Int) (n : Nat) : sliceBounds o none (some (-1)) n = (((rvN n o : Nat) : Int) - 1, -1, -1) := by
  cases o with
  | none => exact PySem.W.krv_bounds n
  | some i =>
    have h1 : ¬ ((-1 : Int) > 0) := by decide
    simp only [sliceBounds, rvN, Option.getD_some, h1, if_false]
    congr 1
    split <;> omega
theorem rv_items {α : Type} (xs : Array α) (r : Nat) : ((List.range r).map fun k => r - 1 - k).filterMap (xs[·]?) = (xs.toList.take r).reverse := by
  rw [PySem.W.krv_range, List.filterMap_reverse]
  congr 1
  have h := pick_run xs 0 r
  have e : (List.range r).map (0 + ·) = List.range r := by
    rw [show ((0 + ·) : Nat → Nat) = id from funext fun k => Nat.zero_add k, List.map_id]
  rw [e, List.drop_zero] at h
  exact h
theorem rv_pick (items : Array Value) (o : Option Int) : slicePick items o none (some (-1)) = (items.toList.take (rvN items.size o)).reverse.toArray := by
  unfold slicePick
  rw [rv_bounds]
  show ((sliceRange (((rvN items.size o : Nat) : Int) - 1) (-1) (-1)).filterMap (items[·]?)).toArray = _
  rw [PySem.W.krv_sliceRange, rv_items]
theorem rv_adjust (o : Option Int) (n : Nat) : Builtin.Slice.sliceAdjust o none (-1) (n : Int) = (((rvN n o : Nat) : Int) - 1, -1) := by
  have h1 : (-1 : Int) < 0 := by decide
  cases o with
  | none => simp only [Builtin.Slice.sliceAdjust, rvN, h1, if_true]
  | some i =>
    simp only [Builtin.Slice.sliceAdjust, rvN, h1, if_true]
    congr 1
    split <;> omega
theorem rv_places (r : Nat) : Builtin.Slice.slicePlaces ((r : Int) - 1) (-1) (-1) = r := by
  unfold Builtin.Slice.slicePlaces
  have h1 : ¬ ((-1 : Int) > 0) := by decide
  simp only [h1, if_false, show (- -1 : Int) = 1 by decide, Int.ediv_one]
  split <;> omega
theorem rv_gen (xs : Array Value) (r : Nat) : ((List.range r).filterMap fun (m : Nat) => xs[(((r : Int) - 1) + (m : Int) * (-1)).toNat]?).toArray = (xs.toList.take r).reverse.toArray := by
  rw [← rv_items xs r]
  show (List.filterMap ((fun x => xs[x]?) ∘ fun (m : Nat) => (((r : Int) - 1) + (m : Int) * (-1)).toNat) (List.range r)).toArray = _
  rw [← List.filterMap_map]
  congr 2
  apply List.map_congr_left
  intro k hk
  have := List.mem_range.mp hk
  omega
section
variable {prog : Program} {w : World} {A : Around} {E : Value → Shared → Prop} {s : Shared}
theorem sliceApplied_rv {sl : Addr} {vl vs : Value} {lo : Option Int} {n : Nat} {Q : Int × Int × Nat → Shared → Prop} (hs : s.heap.IsSliceOf sl vl .none vs) (pl : IsPart vl lo) (pk : IsPart vs (some (-1)))
    (h : Q (((rvN n lo : Nat) : Int) - 1, -1, rvN n lo) s) : wpAny (model prog w) A (Builtin.Slice.sliceApplied (.ref sl) (pure (n : Int))) Q E s := by
  obtain ⟨os, hos, hcs, hds⟩ := id hs
  unfold Builtin.Slice.sliceApplied Builtin.Slice.sliceFields
  refine wpAny_bind (wpAny_bind (wpAny_field hos hds (x := vl) rfl (wpAny_bind (wpAny_field hos hds (x := .none) rfl (wpAny_bind (wpAny_field hos hds (x := vs) rfl (wpAny_pure ?_)))))))
  refine wpAny_bind (HT.slicePart_ pk ?_)
  show wpAny _ _ (if ((-1 : Int) == 0) = true then _ else _) _ _ s
  rw [if_neg (by decide)]
  refine wpAny_bind (HT.slicePart_ pl (wpAny_bind (slicePart_none (wpAny_bind (wpAny_pure ?_)))))
  show wpAny _ _ (match Builtin.Slice.sliceAdjust lo none (-1) (n : Int) with | (lo, hi) => pure (lo, (-1 : Int), Builtin.Slice.slicePlaces lo hi (-1))) _ _ s
  rw [rv_adjust lo n]
  show wpAny _ _ (pure (((rvN n lo : Nat) : Int) - 1, (-1 : Int), Builtin.Slice.slicePlaces (((rvN n lo : Nat) : Int) - 1) (-1) (-1))) _ _ s
  rw [rv_places]
  exact wpAny_pure h
theorem getItem_tuple_rv {t sl : Addr} {items : Array Value} {vl vs : Value} {lo : Option Int} {Q : Value → Shared → Prop} (ht : IsTup s.heap t items) (hs : s.heap.IsSliceOf sl vl .none vs) (pl : IsPart vl lo) (pk : IsPart vs (some (-1)))
    (h : Q (.ref s.heap.objs.size) { s with heap := s.heap.push { cls := .type "tuple", data := .seq ((items.toList.take (rvN items.size lo)).reverse).toArray } })
    (hsz : items.size ≤ sizeLine) : wpAny (model prog w) A (getItem (.ref t) (.ref sl)) Q E s := by
  have htake : sizeOk (.seq ((items.toList.take (rvN items.size lo)).reverse).toArray) := by
    show ((items.toList.take (rvN items.size lo)).reverse).toArray.size ≤ sizeLine
    rw [List.size_toArray, List.length_reverse, List.length_take, Array.length_toList]
    omega
  obtain ⟨os, hos, hcs, hds⟩ := id hs
  have hTs : s.TypeIs (.ref sl) "slice" := ⟨os, hos, hcs⟩
  unfold getItem
  try with_reducible refine wpAny_holding ?_
  first | refine wpAny_bind (wpAny_pure ?_) | skip
  refine wpAny_bind (wpAny_sequenceKey ht.typeIs (by decide) ?_)
  refine wpAny_bind (wpAny_callSpecial?_slot (name := Str.ofString "__getitem__") ht.typeIs PyProof.Rows.slot_tuple_getitem
    (wpAny_call_entry PyProof.Rows.slot_tuple_getitem ht.typeIs entry_tuple_getitem ?_ (args_tuple_getitem _ _)))
  show wpAny _ _ (Builtin.Tuple.tupleItemsOf (.ref t) >>= _) _ _ s
  refine wpAny_bind (tupleItemsOf_ ht ?_)
  refine wpAny_bind (wpAny_typeOf hTs ?_)
  rw [if_pos (by decide)]
  refine wpAny_bind (sliceApplied_rv hs pl pk ?_)
  have hno : ¬ (((((rvN items.size lo : Nat) : Int) - 1) == 0 && (-1 : Int) == 1 && (rvN items.size lo) == items.size) = true) := by
    intro q
    rw [Bool.and_eq_true, Bool.and_eq_true] at q
    exact absurd q.1.2 (by decide)
  show wpAny _ _ (if ((((rvN items.size lo : Nat) : Int) - 1) == 0 && (-1 : Int) == 1 && (rvN items.size lo) == items.size) = true then _ else _) _ _ s
  rw [if_neg hno, rv_gen]
  first
    | exact wpAny_bind (m := Builtin.Tuple.tupleExact _) (wpAny_newObj_type (wpAny_pure ⟨_, rfl, wpAny_pure h⟩) htake)
    | exact wpAny_bind (m := Builtin.Tuple.tupleExact _) (wpAny_newObj_type (wpAny_bind (wpAny_pure (wpAny_pure ⟨_, rfl, wpAny_pure h⟩))) htake)
    | exact wpAny_bind (wpAny_bind (m := Builtin.Tuple.tupleExact _) (wpAny_newObj_type (wpAny_pure (wpAny_pure ⟨_, rfl, wpAny_pure h⟩)) htake))
    | exact wpAny_bind (wpAny_bind (m := Builtin.Tuple.tupleExact _) (wpAny_newObj_type (wpAny_pure ⟨_, rfl, wpAny_pure h⟩) htake))
end
def rvV {α : Type} (xs : List α) (o : Option Int) : List α := (xs.take (rvN xs.length o)).reverse
theorem rvV_length {α : Type} (xs : List α) (o : Option Int) : (rvV xs o).length ≤ xs.length := by
  unfold rvV
  rw [List.length_reverse, List.length_take]
  omega
def rRv (K : PySem.W.Frag) : V → Option Int → Hp → VK → Prop := fun x o H Q =>
  (∃ a xs, x = .ref a ∧ SqL K H a xs ∧ ∀ p, H p = none → Q (.ref p) (upd H p (.lst (rvV xs o)))) ∨ (∃ a xs, x = .ref a ∧ SqT K H a xs ∧ ∀ p, H p = none → Q (.ref p) (upd H p (.tup (rvV xs o))))
def tRv (K : PySem.W.Frag) (te : TE) (tl : TO) : TE := fun σ H Q => te σ H fun x H1 => tl σ H1 fun o H2 => rRv K x o H2 Q
section
variable {X : Cx} {e : Expr} {te : TE} {lo : Option Expr} {tl : TO} {k : Nat} {p1 p2 p3 pos : Pos}
theorem pe_rv (he : PE X e te) (hl : PO X lo tl) : PE X (.Subscript e (.Slice lo none (some (.UnaryOp .USub (.Constant (.int 1) k p1) p2)) p3) pos) (tRv X.K te tl) := by
  refine ⟨fun pins s σ H Q I h => ?_⟩
  refine Subscript_ (thn (he.run pins s σ H _ I h) fun v s1 ⟨x, H1, I1, r1, q1⟩ => ?_)
  have hst : PO X (some (.UnaryOp .USub (.Constant (.int 1) k p1) p2)) (tPart (tUn (rU fun i => .int (-i)) (tC (.int 1)))) := po_some (pe_un un_neg pe_int)
  refine wpAny_Slice (thn (hl.run pins s1 σ H1 _ I1 q1) fun vl s2 ⟨l, H2, I2, pl, q2⟩ => ?_)
  refine thn (po_none.run pins s2 σ H2 (fun o H3 => o = none ∧ H3 = H2) I2 ⟨rfl, rfl⟩) fun vu s3 ⟨u, H3, I3, pu, eu, e3⟩ => ?_
  subst eu e3
  cases pu
  refine thn (hst.run pins s3 σ H3 (fun o H4 => o = some (-1) ∧ H4 = H3) I3 ⟨1, rfl, -1, rfl, rfl, rfl⟩) fun vs s4 ⟨o, H4, I4, ps, eo, e4⟩ => ?_
  subst eo e4
  have I5 : Inv X pins σ H4 { s4 with heap := s4.heap.push { cls := .type "slice", data := .fields #[vl, .none, vs] } } := I4.kept (t' := s4.toks) fun b ob q => Heap.get?_push_of_some _ q
  rcases q2 with ⟨a, xs, rfl, hx, q⟩ | ⟨a, xs, rfl, hx, q⟩
  · cases r1
    obtain ⟨its, r, ht, hz⟩ := I5.list hx
    have hlen := r.length
    show wpAny (model X.prog X.w) X.A (subscriptTail e (.Slice lo none (some (.UnaryOp .USub (.Constant (.int 1) k p1) p2)) p3) (.ref a) (.ref s4.heap.objs.size)) (EP X pins σ Q) X.xe { s4 with heap := s4.heap.push { cls := .type "slice", data := .fields #[vl, .none, vs] } }
    refine tail_any (ops := [.ref a, .ref s4.heap.objs.size]) ht.isList.typeIs (PySem.slot_list_getitem.lookup) ?_ (by with_unfolding_all rfl)
    refine wpAny_getItem_list_slice ht.isList (Heap.IsSliceOf.new _ vl .none vs) pl .none ps (by decide) ?_ (by rw [List.size_toArray]; omega)
    rw [rv_pick, show its.toArray.size = xs.length by rw [List.size_toArray]; exact hlen.symm]
    refine ⟨.ref _, _, I5.laid (t' := s4.toks) (o := .lst (rvV xs l)) (fun b ob q => Heap.get?_push_of_some _ q) (Nat.le_refl _) ?_, rfl, q _ (I5.hok.fresh (Nat.le_refl _))⟩
    exact ⟨Nat.le_trans (rvV_length xs l) hz, _, 0, (r.take _).reverse, Heap.get?_push_size _ rfl⟩
  · cases r1
    obtain ⟨its, r, ht, hz⟩ := I5.tuple hx
    have hlen := r.length
    show wpAny (model X.prog X.w) X.A (subscriptTail e (.Slice lo none (some (.UnaryOp .USub (.Constant (.int 1) k p1) p2)) p3) (.ref a) (.ref s4.heap.objs.size)) (EP X pins σ Q) X.xe { s4 with heap := s4.heap.push { cls := .type "slice", data := .fields #[vl, .none, vs] } }
    refine tail_any (ops := [.ref a, .ref s4.heap.objs.size]) ht.typeIs (PyProof.Rows.slot_tuple_getitem.lookup) ?_ (by with_unfolding_all rfl)
    refine getItem_tuple_rv ht (Heap.IsSliceOf.new _ vl .none vs) pl ps ?_ (by rw [List.size_toArray]; omega)
    rw [show its.toArray.size = xs.length by rw [List.size_toArray]; exact hlen.symm]
    refine ⟨.ref _, _, I5.laid (t' := s4.toks) (o := .tup (rvV xs l)) (fun b ob q => Heap.get?_push_of_some _ q) (Nat.le_refl _) ?_, rfl, q _ (I5.hok.fresh (Nat.le_refl _))⟩
    exact ⟨Nat.le_trans (rvV_length xs l) hz, _, (r.take _).reverse, IsTup.new _ _⟩
end
def dRv (d : D) (o : Option Int) : Option T := match d with
  | .tup ds => some (.im (.tup (rvV ds o)))
  | .lst ds => some (.fr (rvV ds o))
  | _ => none
def rvT (t : T) (o : Option Int) (env : En) : R T := match t.val env with
  | some d => R.opt (dRv d o) env
  | none => .er
@[simp] theorem dRv_tup (ds : List D) (o : Option Int) : dRv (.tup ds) o = some (.im (.tup (rvV ds o))) := rfl
@[simp] theorem dRv_lst (ds : List D) (o : Option Int) : dRv (.lst ds) o = some (.fr (rvV ds o)) := rfl
def eRv (fa : FE) (fl : En → R (Option Int)) : FE := fun env => (fa env).bind fun t e1 => (fl e1).bind fun o e2 => rvT t o e2
@[simp] theorem eRv_s (fa : FE) (fl : En → R (Option Int)) (env : En) : eRv fa fl env = (fa env).bind fun t e1 => (fl e1).bind fun o e2 => rvT t o e2 := rfl
section
variable {X : Cx} {c : Cc} {W : WX} {a : Expr} {fa : FE} {fl : En → R (Option Int)} {lo : Option Expr} {k : Nat} {p1 p2 p3 pos : Pos}
theorem Reps.rv {K : PySem.W.Frag} {G : Addr → Prop} {H : Hp} {xs : List V} {ds : List D} (r : Reps K G H xs ds) (o : Option Int) : Reps K G H (rvV xs o) (rvV ds o) := by
  unfold rvV
  rw [r.length]
  exact (r.take _).reverse
theorem de_rv (ha : PE X a (dE c W fa)) (hl : PO X lo (dO c W fl)) (hK : c.K = X.K := by rfl) : PE X (.Subscript a (.Slice lo none (some (.UnaryOp .USub (.Constant (.int 1) k p1) p2)) p3) pos) (dE c W (eRv fa fl)) :=
  PEw (pe_rv ha hl) fun σ H Q h => by
    obtain ⟨env, L, re, h⟩ := dE_iff.mp h
    refine dE.of re (h.bind.mono fun t e1 H1 r1 s1 h1 x q1 => ?_)
    refine ⟨e1, L, r1, h1.bind.mono fun o e2 H2 r2 s2 h2 => ?_⟩
    unfold rvT at h2
    cases e : t.val e2 with
    | none => rw [e] at h2; exact h2.elim
    | some d =>
      rw [e] at h2
      have q := q1.opr r1 s2 r2 e
      have kk : ∀ {t'}, R.opt (dRv d o) e2 = .ok t' e2 → ∀ v H', RE c L σ H' e2 → Stp σ e2 H2 σ e2 H' → RepT c L (Nn σ e2 H2) σ H' e2 v t' → Q v H' := fun {t'} eq v H' a b q => by
        dsimp only at h2
        rw [eq] at h2
        exact h2 H' a b v (q.less (fun _ z => z) fun a n => s1.back (s2.back n))
      cases d with
      | tup ds =>
        obtain ⟨a, xs, rfl, h, r⟩ := q.tup
        rw [hK] at h
        exact .inr ⟨a, xs, rfl, h, new_tup r2 (r.rv o) (kk rfl)⟩
      | lst ds =>
        obtain ⟨a, xs, rfl, h, r⟩ := q.lst
        refine .inl ⟨a, xs, rfl, .of h, fun p n => ?_⟩
        obtain ⟨y1, y2, y3⟩ := r2.newL (r.rv o) n
        exact kk rfl _ _ y1 y2 y3
      | non => exact h2.elim
      | bl i => exact h2.elim
      | int i => exact h2.elim
      | str x => exact h2.elim
      | fz xs => exact h2.elim
end
end DL
namespace DL
open PySem PySem.Spec PyProof PyProof.Rows PySem.W L2

/-! ### sorted of a tuple -/
section
variable {prog : Program} {w : World} {A : Around} {E : Value → Shared → Prop} {s : Shared}
theorem collect_tup {l : Addr} {vs : List Value} {Q : List Value → Shared → Prop} (hl : IsTup s.heap l vs.toArray)
    (h : Q vs { s with heap := (s.heap.push (seqObj "list" #[] 0)).update s.heap.objs.size (Obj.mapSeq (· ++ vs.toArray)) }) (hsz : vs.length ≤ sizeLine) :
    wpAny (model prog w) A (collect (.ref l)) Q E s := by
  obtain ⟨o, ho, hc, n, hd⟩ := id hl
  unfold collect
  refine wpAny_bind (wpAny_runValue (codeAny_builtin entry_proto_collect' ?_))
  show wpAny _ _ (do again (.builtin "list.__iadd__" ⟨[← newList [], .ref l], []⟩)) _ _ s
  refine wpAny_bind (wpAny_newList (wpAny_pure ⟨Code.quiet_builtin _ (by decide +kernel), codeAny_builtin entry_list_iadd' ?_⟩))
  show wpAny _ _ (Builtin.List.listExtendWith (.ref s.heap.objs.size) (.ref l) (.ref s.heap.objs.size)) _ _ { s with heap := s.heap.push (seqObj "list" #[] 0) }
  unfold Builtin.List.listExtendWith
  have ho' : (s.heap.push (seqObj "list" #[] 0)).get? l = some o := Heap.get?_push_of_some _ ho
  refine wpAny_bind (wpAny_typeOf (T := "tuple") ⟨o, ho', hc⟩ ?_)
  have ht : (Value.type "tuple" == Value.type "tuple") = true := by rfl
  rw [if_pos (by rw [ht]; simp)]
  refine wpAny_bind (listItems_at ho' hd ?_)
  refine wpAny_bind (listItems_at (xs := #[]) (n := 0) (Heap.get?_push_size _ rfl) rfl ?_)
  rw [if_neg (by simp)]
  refine wpAny_bind (listUpdate_at (xs := #[]) (n := 0) (Heap.get?_push_size _ rfl) rfl ?_ (Nat.zero_le _) (by show (#[] ++ vs.toArray).size ≤ sizeLine + 1; simp only [Array.size_append, List.size_toArray, List.length_nil]; omega))
  refine wpAny_pure ?_
  show wpAny (model prog w) A (do
      let o ← load s.heap.objs.size
      match o.data with
      | .seq xs _ => pure xs.toList
      | _ => unsupported "internal:collect") Q E { s with heap := (s.heap.push (seqObj "list" #[] 0)).update s.heap.objs.size (Obj.mapSeq (· ++ vs.toArray)) }
  refine wpAny_bind (wpAny_load (get?_update_seq (Heap.get?_push_size _ rfl) _) ?_)
  show wpAny _ _ (pure ((#[] : Array Value) ++ vs.toArray).toList) Q E _
  rw [show ((#[] : Array Value) ++ vs.toArray).toList = vs by simp]
  exact wpAny_pure h
theorem sorted_of_sortT {l : Addr} {vs : List Value} {Q : Value → Shared → Prop} (hl : IsTup s.heap l vs.toArray) (hL : vs.length ≤ sizeLine)
    (body : ∀ E' : Value → Shared → Prop, wpAny (model prog w) A.in1.in1 (Builtin.«list.sort» ⟨[.ref (s.heap.objs.size + 1)], []⟩) (fun f s' => f = .done (.ret .none) ∧ Q (.ref (s.heap.objs.size + 1)) s') E' { s with heap := copyHeap s.heap vs }) :
    wpAny (model prog w) A (call (.builtin "sorted") [.ref l]) Q E s := by
  refine call_function_entry_kw kind_sorted plain_sorted entry_sorted (args_sorted1 _) ?_
  unfold Builtin.«sorted»
  refine wpAny_bind (m := checkCount "sorted" 1 1 _) (wpAny_pure ?_)
  refine wpAny_bind (collect_tup hl ?_ hL)
  refine wpAny_bind (wpAny_newList ?_ hL)
  have hsz : ((s.heap.push (seqObj "list" #[] 0)).update s.heap.objs.size (Obj.mapSeq (· ++ vs.toArray))).objs.size = s.heap.objs.size + 1 := by
    rw [Heap.size_update, size_push']
  show wpAny _ _ _ _ _ { s with heap := copyHeap s.heap vs }
  rw [hsz]
  refine wpAny_bind (wpAny_holding (wpAny_call_entry_kw slot_list_sort ⟨_, copyHeap_at s.heap vs, rfl⟩ entry_list_sort ?body (args_list_sort _)))
  case body =>
    show wpAny (model prog w) A.in1.in1 (Builtin.«list.sort» ⟨[.ref (s.heap.objs.size + 1)], []⟩) _ _ _
    refine wpAny_mono (body _) (fun f s' hf => ?_) fun _ _ e => e
    obtain ⟨rfl, hq⟩ := hf
    exact ⟨_, rfl, wpAny_pure ⟨_, rfl, hq⟩⟩
theorem sorted_dataT {β : Type} {enc : β → PyData} {R : Value → β → Prop} {vs : List Value} {bs : List β} {l : Addr} {Q : Value → Shared → Prop} (hl : IsTup s.heap l vs.toArray) (e : EachIs R vs bs) (er : EachIs (fun v b => ∃ as, Reads s.heap v (enc b) as) vs bs) (hal : AllAlike (bs.map enc)) (hk : Sortable (bs.map enc)) (hL : bs.length ≤ sizeLine)
    (hu : ∀ b, b ∈ bs → A.units + 2 + (enc b).depth < cLine) (h : ∀ out, out.length = bs.length → EachIs R out (bs.mergeSort (dataLe false enc)) → Q (.ref (s.heap.objs.size + 1)) { s with heap := sortedAll s.heap vs (List.toArray out) }) :
    wpAny (model prog w) A (call (.builtin "sorted") [.ref l]) Q E s := by
  have er' : EachIs (fun v b => ∃ as, Reads (sortingHeap (copyHeap s.heap vs) (s.heap.objs.size + 1) vs) v (enc b) as) vs bs := er.mono fun _ _ ⟨as, r⟩ => ⟨as, PyProof.Rows.Reads.keeps (fun _ _ => sorting_copy_old) r⟩
  refine sorted_of_sortT hl (by rw [e.length]; exact hL) fun _ => list_sort_vals (s := { s with heap := copyHeap s.heap vs }) (copyHeap_at s.heap vs) (SortsAt.data (s := { s with heap := sortingHeap (copyHeap s.heap vs) (s.heap.objs.size + 1) vs }) (each_map (R := fun v d => ∃ as, Reads (sortingHeap (copyHeap s.heap vs) (s.heap.objs.size + 1) vs) v d as) enc er') hal hk (bound_map hu)) (by rw [e.length]; exact hL) ⟨rfl, ?_⟩
  exact h _ (by rw [sortVals_length false rfl]; exact e.length) (sortVals_data false e er' hal)
end
open Classical in
noncomputable def dSortedT : List D → Option T
  | [.tup ds] => if okSort ds then some (.fr (sortD ds)) else none
  | _ => none
open Classical in
theorem dSortedT_tup {ds : List D} (h : okSort ds) : dSortedT [.tup ds] = some (.fr (sortD ds)) := by
  show (if okSort ds then some (T.fr (sortD ds)) else none) = _
  rw [if_pos h]
def rSortedDT (K : PySem.W.Frag) : List V → Hp → VK → Prop := fun vs H Q => ∃ (a : Addr) (xs : List V) (ds : List D) (G : Addr → Prop), vs = [V.ref a] ∧ SqT K H a xs ∧ Reps K G H xs ds ∧ okSort ds ∧
  ∀ (ys : List V) (p : Addr), Reps K G H ys (sortD ds) → H p = none → Q (.ref p) (upd H p (.lst ys))
theorem cr_sortedDT {X : Cx} (hu : X.A.units + 64 < cLine) : CallR X (.builtin "sorted") (rSortedDT X.K) := by
  intro pins s σ H vs us Q I r h
  obtain ⟨a, xs, ds, G, rfl, hs, rs, ok, q⟩ := h
  obtain ⟨its, rv, hl, hz⟩ := I.tuple hs
  rw [Vals.ref1 r]
  have lx := rs.length
  have lv := rv.length
  have zl : (xs.zip ds).length = its.length := by rw [List.length_zip]; omega
  have z1 : (xs.zip ds).map Prod.fst = xs := List.map_fst_zip (by omega)
  have z2 : (xs.zip ds).map Prod.snd = ds := List.map_snd_zip (by omega)
  have mem : ∀ b ∈ xs.zip ds, Rep X.K G H b.1 b.2 := fun b hb => by
    obtain ⟨i, hi⟩ := List.getElem?_of_mem hb
    rw [List.getElem?_zip_eq_some] at hi
    obtain ⟨v, e1, e2⟩ := rs.get hi.2
    rw [hi.1] at e1
    cases e1
    exact e2
  have valAt : ∀ (i : Nat) u (v : V), its[i]? = some u → xs[i]? = some v → RelV v u := by
    have key : ∀ {xs : List V} {us : List Value}, Vals xs us → ∀ (i : Nat) u (v : V), us[i]? = some u → xs[i]? = some v → RelV v u := fun {xs us} h => by
      induction h with
      | nil => exact fun i u v e => by simp at e
      | cons r _ ih =>
        intro i u v e1 e2
        cases i with
        | zero => cases e1; cases e2; exact r
        | succ i => exact ih i u v e1 e2
    exact key rv
  have em : (xs.zip ds).map (fun b => toP b.2) = ds.map toP := by rw [← z2, List.map_map]; simp [Function.comp_def, z2]
  refine sorted_dataT (bs := xs.zip ds) (enc := fun b => toP b.2) (R := fun u b => RelV b.1 u) hl (each_mk zl.symm fun i u b e1 e2 => ?_) (each_mk zl.symm fun i u b e1 e2 => ?_) (fun d hd e he => ?_) (by rw [em]; exact ok.2.1) (by rw [zl, ← lv]; exact hz) (fun b hb => ?_) fun out ho hout => ?_
  · rw [List.getElem?_zip_eq_some] at e2
    exact valAt i u _ e1 e2.1
  · have hb := List.mem_of_getElem? e2
    rw [List.getElem?_zip_eq_some] at e2
    exact Dp.reads I _ _ u (mem b hb).dp (valAt i u _ e1 e2.1)
  · rw [em] at hd he
    obtain ⟨x, hx, rfl⟩ := List.mem_map.mp hd
    obtain ⟨y, hy, rfl⟩ := List.mem_map.mp he
    exact ok.1 x hx y hy
  · have : b.2 ∈ ds := (List.of_mem_zip hb).2
    have := ok.2.2.1 _ this
    rw [dep_toP]
    omega
  · obtain ⟨e1, e2⟩ := each_at hout
    let bs' := (xs.zip ds).mergeSort (PySem.W.dataLe false fun b => toP b.2)
    have hv : Vals (bs'.map Prod.fst) out := by
      have key : ∀ {out : List Value} {bs : List (V × D)}, PySem.W.EachIs (fun u b => RelV b.1 u) out bs → Vals (bs.map Prod.fst) out := fun {out bs} h => by
        induction h with
        | nil => exact .nil
        | cons r _ ih => exact .cons r ih
      exact key hout
    have hR : Reps X.K G H (bs'.map Prod.fst) (sortD ds) := by
      have := Reps.mk' (bs := bs') fun b hb => mem b ((List.mergeSort_perm _ _).mem_iff.mp hb)
      rw [sort_snd, z2] at this
      exact this
    obtain ⟨ep, he'⟩ := PyProof.Rows.sortedAll_at s.heap its out.toArray
    have hlen : (bs'.map Prod.fst).length ≤ sizeLine := by
      rw [List.length_map, List.length_mergeSort, zl, ← lv]
      exact hz
    exact ⟨.ref _, upd H (s.heap.objs.size + 1) (.lst (bs'.map Prod.fst)), I.laid (t' := s.toks) (fun _ _ => PyProof.Rows.sortedAll_old) (Nat.le_succ _) ⟨hlen, out, ep, hv, he'⟩, rfl, q _ _ hR (I.hok.fresh (Nat.le_succ _))⟩
theorem d_sortedT {c : Cc} : CallD c (rSortedDT c.K) dSortedT := by
  intro L σ H env xs ds t Q re hx e k
  unfold dSortedT at e
  split at e
  · rename_i es
    split at e
    · rename_i ok
      cases e
      obtain ⟨v, rfl, r⟩ := hx.one
      obtain ⟨a, ys, rfl, h, rs⟩ := r.tup
      refine ⟨a, ys, es, _, rfl, h, rs, ok, fun zs p hz n => ?_⟩
      obtain ⟨q1, q2, q3⟩ := re.newL hz n
      exact k _ _ q1 q2 q3
    · cases e
  · cases e
end DL
namespace DL
open PySem PySem.Spec PyProof.Rows L2

/-! ### raise X('..') -/
/-- what the module's top must have left of an exception's class -/
def ExcK (K : PySem.W.Frag) (mg : Str → Option Value) (x : Str) : Prop := ∃ C : Addr, mg x = some (.ref C) ∧ PySem.W.excIn K C [.type "ValueError", .type "Exception", .type "BaseException", .type "object"] "ValueError.__new__" = true ∧
  PySem.W.keepIn K (.ref C) = true ∧ PySem.W.subIn K (.ref C) (.type "BaseException") = some true ∧ PySem.W.typeIn K (.ref C) = some (.type "type")
def sRz (x : Str) : FS := fun env => .ex x env
@[simp] theorem sRz_s (x : Str) (env : En) : sRz x env = .ex x env := rfl
section
variable {X : Cx} {c : Cc} {W : WX}
theorem ds_raise {x m : Str} {j : Nat} {p p2 pos pos' : Pos} (hc : X.calm = true) (tk : Takes X W) (xk : ExcK X.K X.mg x) (hg : Gl X x) (hM : c.mg = X.mg := by rfl) (hdb : (x == ("__debug__" : Str)) = false := by decide) :
    PS X (.Raise (some (.Call (.Name x p) [.Constant (.str m) j p2] [] pos)) none pos') (dS c W (sRz x)) := by
  obtain ⟨C, gC, eC, kC, bC, tC⟩ := xk
  refine PSw (ps_raise hc tk (pmk_own PySem.F.excBase_ValueError eC gC kC (raises_own bC tC) hg hdb)) fun D σ H h => ?_
  obtain ⟨env, L, r, h⟩ := h
  exact h σ H r .refl C (by rw [hM]; exact gC)
end

/-! ### a def that is called within an except suite and is passed the exception -/
open L2H in
/-- a def's promise where an object p is pinned -/
structure FnX (P : Program) (w : World) (K : PySem.W.Frag) (mg : Str → Option Value) (base : Heap) (CX : CXT) (k : Nat) (f : Addr) (fd : FuncData) (ps : List Str) (sp : Addr × Obj → Sp) : Prop where
  len : ∀ p vs H Q E, sp p vs H Q E → vs.length = ps.length
  run : ∀ (A : Around) (outer : List Env) (s : Shared) (H : Hp) (args : Args) (us : List Value) (vs : List V) (Q : VK) (E : XK) (p : Addr × Obj), RoomH k A → PinOk outer H s p → Env0 P w K mg base A outer s H → BindsTo s fd args (ps.zip us) → Vals vs us → sp p vs H Q E →
    codeAny (model P w) A (.call (.ref f) args) (CR CX outer P w H s Q E) s
open L2H in
theorem fn_ofX {CX : CXT} {P : Program} {w : World} {K : PySem.W.Frag} {mg : Str → Option Value} {base : Heap} {k : Nat} {f : Addr} {name qual : Str} {params : Arguments} {body : List Stmt} {scope : Scope} {dV kV doc pm cdv ct oc : Value} {an od : Option Addr}
    {osl : Array (Option Value)} {N ps : List Str} {sp : Addr × Obj → Sp} (lk : K.lookup f = some ⟨oc, od, .func (PySem.W.fnOf name qual params body scope dV kV doc pm an cdv ct), osl⟩) (hcd : PySem.W.codeIn K cdv qual = true) (S : FnScope N ps scope)
    (len : ∀ p vs H Q E, sp p vs H Q E → vs.length = ps.length)
    (hbody : ∀ (A : Around) (outer : List Env) (s : Shared) (H : Hp) (vs : List V) (Q : VK) (E : XK) (p : Addr × Obj), RoomH k (A.deeper (envOfC qual scope s.heap.objs.size f cdv)) → sp p vs H Q E →
      ∃ t, PSs (cxH CX P w K mg base N qual scope f cdv A outer s H E p) body t ∧ t { nx := fun _ H' => Q .non H', rt := Q } (L2.start N vs) H) :
    FnX P w K mg base CX (k + 1) f (PySem.W.fnOf name qual params body scope dV kV doc pm an cdv ct) ps sp := by
  refine ⟨len, fun A outer s H args us vs Q E p hr hpin e0 hb r hsp => ?_⟩
  have hl := len _ _ _ _ _ hsp
  have KX : K.In s.heap := e0.mod.kin.keeps fun b o e => (e0.bs b o e).1
  have lim : s.heap.NoLimit := e0.mod.nolimit.keeps fun b o e => (e0.bs b o e).1
  have hkind : ∀ y ∈ ps.zip us, scope.names.lookup y.1 = some .local ∨ (scope.names.lookup y.1 = some .cell ∧ ((cellsFrom (s.heap.objs.size + 1) scope.names []).lookup y.1).isSome = true) := fun ⟨n, v⟩ hy => by
    rcases S.par n (List.of_mem_zip hy).1 with q | q
    · exact .inl q
    · exact .inr ⟨q, PySem.W.cellsFrom_some _ _ _ (.inl q)⟩
  refine codeAny_call_function hr.depth (KX _ _ lk) rfl S.co S.gen rfl (PySem.W.codeRec_of KX hcd) (hb _ _ _ _ ?_)
  refine wpAny_newFunctionEnv_cells S.kind hkind fun env he s1 x => ?_
  subst he
  refine ⟨lim.keeps x.toInCall.keep, codeAny_func ?_⟩
  obtain ⟨t, ht, hq⟩ := hbody A outer s H vs Q E p (hr.deeper _) hsp
  have I : Inv (cxH CX P w K mg base N qual scope f cdv A outer s H E p) [] (L2.start N vs) H s1 := inv_startH S hpin e0 hl r x
  refine wpAny_mono (ht.run [] s1 (L2.start N vs) H _ I hq) (fun fl s' hs => ?_) fun e s' hs => hs
  have fin : ∀ {σ' : L2.St} {H' : Hp} {v : V} {u : Value}, Inv (cxH CX P w K mg base N qual scope f cdv A outer s H E p) [] σ' H' s' → RelV v u → Q v H' → CE outer P w H s Q u s' :=
    fun {σ' H' v u} J rv q => ⟨v, H', J.os, J.bare, J.base, J.hok, rv, q⟩
  cases fl with
  | ret u =>
    obtain ⟨v, σ', H', J, rv, q⟩ := hs
    exact fin J rv q
  | next =>
    obtain ⟨σ', H', J, q⟩ := hs
    exact fin (v := V.non) (u := Value.none) J rfl q
  | brk =>
    obtain ⟨_, _, _, q⟩ := hs
    exact False.elim q
  | cont =>
    obtain ⟨_, _, _, q⟩ := hs
    exact False.elim q
section
variable {X : Cx} {CX : CXT} {k : Nat} {f C : Addr} {fd : FuncData} {ps : List Str} {sp : Addr × Obj → Sp} {E : L2.St → XK} {x m : Str} {q pos apos : Pos} {e o : Expr} {es : List Expr} {ta : TE} {t : TA}
open L2H in
theorem run_fnX {pins : List (Addr × Obj)} {σ : L2.St} {H : Hp} {s : Shared} {Q : VK} {us : List Value} {vs : List V} {p : Addr × Obj} (F : FnX X.prog X.w X.K X.mg X.base CX k f fd ps sp) (hr : RoomH k X.A) (hp : p ∈ X.pn) (hb : Binds X.K fd ps []) (hx : PassesAt CX X σ (E σ))
    (I : Inv X pins σ H s) (r : Vals vs us) (h : sp p vs H Q (E σ)) : wpAny (model X.prog X.w) X.A (call (.ref f) us) (EP X pins σ Q) X.xe s := by
  have hl : us.length = ps.length := by rw [← r.length]; exact F.len _ _ _ _ _ h
  have b := hb s us I.kIn (by rw [List.append_nil]; exact hl)
  rw [List.append_nil] at b
  have P1 := I.pin p (List.mem_append_left _ hp)
  have hpin : PinOk X.stack H s p := ⟨P1.1, P1.2.1, fun hm => (List.mem_cons.mp (I.stkSub p.1 hm)).elim P1.2.2.1 P1.2.2.2.1, P1.2.2.2.2⟩
  refine wpAny_call (codeAny_mono (F.run X.A X.stack s H ⟨us, []⟩ us vs Q (E σ) p hr hpin I.env0 b r h) fun r s' hq => ?_)
  cases r with
  | error e => exact hx pins H s e s' I hq
  | ok fl =>
    cases fl with
    | ret u => exact I.after hq
    | next => exact False.elim hq
    | brk => exact False.elim hq
    | cont => exact False.elim hq
open L2H in
theorem pe_callX {p : Addr × Obj} (F : FnX X.prog X.w X.K X.mg X.base CX k f fd ps sp) (hr : RoomH k X.A) (hp : p ∈ X.pn) (hg : Gl X x) (hm : X.mg x = some (.ref f)) (hk : PySem.W.keepIn X.K (.ref f) = true) (hb : Binds X.K fd ps []) (hx : ∀ σ, PassesAt CX X σ (E σ))
    (ha : PA X (e :: es) t) (hdb : (x == ("__debug__" : Str)) = false := by decide) (he : starEach (e :: es) X.env = (false, eval e X.env) :: starEach es X.env := by rfl) (hpl : (backTo pos (starEach es X.env)).any (·.1) = false := by rfl) :
    PE X (.Call (.Name x q) (e :: es) [] pos) (tCallS (sp p) E t) := by
  refine ⟨fun pins s σ H Q I h => ?_⟩
  refine wpAny_Call_Name_kw (ld_glob I hg hm ?_ hdb)
  refine PySem.W.callWith_K (h₀ := X.base) I.ok.mod.kin hk (thn (ha.run pos pins s σ H _ I h) fun us s1 ⟨vs, H1, I1, r, q⟩ => ⟨I1.kIn, ?_⟩) he hpl
  exact run_fnX F hr hp hb (hx σ) I1 r q
end
/-- isinstance(e, c), e an exception that is pinned -/
theorem call_isX {X : Cx} {a D : Addr} {oe : Obj} (hp : (a, oe) ∈ X.pn) (C : ExcC X.K D) (hz : Zc (.ref D) none oe) (hf : ∃ vs, oe.data = .fields vs) : CallR X (.builtin "isinstance") (rIsE X.K D a) := by
  intro pins s σ H xs us Q I r h
  obtain ⟨c, cv, b, rfl, hcv, e, q⟩ := h
  cases r with
  | cons rx rr =>
    cases rr with
    | cons rt rr =>
      cases rr
      cases rx
      have ec := hcv _ rt
      subst ec
      obtain ⟨hget, _⟩ := I.pin (a, oe) (List.mem_append.mpr (.inl hp))
      obtain ⟨vs, hv⟩ := hf
      have J : PySem.W.InstAt s.heap a oe D none := by
        obtain ⟨oc, od, oda, osl⟩ := oe
        obtain ⟨h1, h2⟩ := hz
        dsimp only at h1 h2 hv
        subst h1 h2 hv
        exact ⟨hget, rfl, rfl, trivial⟩
      exact PySem.W.kia_one (PySem.W.handS_kitx_exc C.hg C.hk C.hs C.hd C.ha C.hn C.ht C.hm) I.kIn J e (fun z => nomatch z) fun tk => ⟨.bl b, H, I.kept (t' := tk) fun _ _ z => z, rfl, q⟩
end DL
/-! DLY: try .. except PriceError as e: return _law_which(e) -/
namespace DL
open PySem PySem.Spec PyProof.Rows L2

/-- the twelve exceptions that the laws tell apart -/
def xn : List Str := ["InvalidShop", "InvalidBasket", "InvalidActs", "InvalidAct", "InvalidOffers", "InvalidKinds", "InvalidNumber", "Different", "NoFault", "NotThere", "NothingToUndo", "ParseError"]
structure XF (K : PySem.W.Frag) (P C : Addr) : Prop where
  cd : ∃ cd, PySem.W.clsIn K C = some cd ∧ cd.mro = [.ref C, .ref P, .type "ValueError", .type "Exception", .type "BaseException", .type "object"]
  ty : PySem.W.typeIn K (.ref C) = some (.type "type")
  hg : PySem.W.findIn K (.ref C) "__getattribute__" = some (some (.builtin "BaseException.__getattribute__"))
  hk : PySem.W.findIn K (.ref C) "__getattr__" = some none
  hd : PySem.W.hasDictIn K C = true
  ha : PySem.W.findIn K (.ref C) "__class__" = some (some (.builtin "object.__class__"))
inductive XFs (K : PySem.W.Frag) (mg : Str → Option Value) (P : Addr) : List Str → List Addr → Prop
  | nil : XFs K mg P [] []
  | cons {x C xs cs} (g : mg x = some (.ref C)) (f : XF K P C) (r : XFs K mg P xs cs) : XFs K mg P (x :: xs) (C :: cs)
theorem XFs.get {K : PySem.W.Frag} {mg : Str → Option Value} {P : Addr} : ∀ {xs : List Str} {cs : List Addr}, XFs K mg P xs cs → ∀ {j : Nat} {x : Str}, xs[j]? = some x → ∃ C, cs[j]? = some C ∧ mg x = some (.ref C) ∧ XF K P C
  | _, _, .nil, j, x, h => by simp at h
  | _, _, .cons g f r, 0, x, h => by simp at h; subst h; exact ⟨_, rfl, g, f⟩
  | _, _, .cons g f r, j + 1, x, h => by simpa using XFs.get r (by simpa using h)
structure Exn (K : PySem.W.Frag) (mg : Str → Option Value) (P : Addr) (cs : List Addr) : Prop where
  xs : XFs K mg P xn cs
  nd : (P :: cs).Nodup
  gP : mg "PriceError" = some (.ref P)
  bP : PySem.W.subIn K (.ref P) (.type "BaseException") = some true
  iP : PySem.W.isClsIn K P = true
  tP : PySem.W.typeIn K (.ref P) = some (.type "type")
  hn : PySem.W.specialIn K (.builtin "object.__class__") "__get__" = some (some (.builtin "getset_descriptor.__get__"))
  ht : PySem.W.takesIn K (.builtin "object.__class__") = some true
section
variable {K : PySem.W.Frag} {mg : Str → Option Value} {P C : Addr} {cs : List Addr}
theorem XFs.len : ∀ {xs : List Str} {cs : List Addr}, XFs K mg P xs cs → cs.length = xs.length
  | _, _, .nil => rfl
  | _, _, .cons _ _ r => congrArg (· + 1) (XFs.len r)
theorem XFs.at : ∀ {xs : List Str} {cs : List Addr}, XFs K mg P xs cs → ∀ {j : Nat} {C : Addr}, cs[j]? = some C → XF K P C
  | _, _, .nil, j, C, h => by simp at h
  | _, _, .cons _ f r, 0, C, h => by simp at h; subst h; exact f
  | _, _, .cons _ f r, j + 1, C, h => XFs.at r (by simpa using h)
theorem Exn.len (x : Exn K mg P cs) : cs.length = 12 := x.xs.len
theorem Exn.at (x : Exn K mg P cs) {j : Nat} {C : Addr} (h : cs[j]? = some C) : XF K P C := x.xs.at h
theorem XF.sub (f : XF K P C) (b : Value) : PySem.W.subIn K (.ref C) b = some ([Value.ref C, .ref P, .type "ValueError", .type "Exception", .type "BaseException", .type "object"].contains b) := by
  obtain ⟨cd, h1, h2⟩ := f.cd
  show PySem.W.mroIn K C b = _
  unfold PySem.W.mroIn
  rw [h1, Option.bind_some, h2]
  rfl
theorem XF.is (f : XF K P C) : PySem.W.isClsIn K C = true := by
  obtain ⟨cd, h1, h2⟩ := f.cd
  unfold PySem.W.isClsIn
  rw [h1]
  rfl
theorem Exn.excC (x : Exn K mg P cs) (f : XF K P C) : ExcC K C := ⟨f.hg, f.hk, by rw [f.sub]; rfl, f.hd, f.ha, x.hn, x.ht, by
  have := f.sub (.type "object")
  exact this.trans rfl⟩
theorem kitCls_ref {t : Value} {D : Addr} {b : Bool} (h1 : PySem.W.isClsIn K D = true) (h2 : PySem.W.typeIn K (.ref D) = some (.type "type")) (h3 : PySem.W.subIn K t (.ref D) = some b) : PySem.W.kitCls K t (.ref D) = some b := by
  show (if ((PySem.W.clsIn K D).isSome && PySem.W.typeIn K (.ref D) == some (.type "type")) = true then PySem.W.subIn K t (.ref D) else none) = some b
  have e1 : (PySem.W.clsIn K D).isSome = true := h1
  rw [e1, h2, if_pos (by rfl)]
  exact h3
theorem Exn.kit (x : Exn K mg P cs) {i j : Nat} {C D : Addr} (hi : cs[i]? = some C) (hj : cs[j]? = some D) (fC : XF K P C) (fD : XF K P D) : PySem.W.kitOne K (.ref C) (.ref D) = some (decide (i = j)) := by
  have hil := (List.getElem?_eq_some_iff.mp hi).1
  have hjl := (List.getElem?_eq_some_iff.mp hj).1
  have nd := x.nd
  rw [List.nodup_cons] at nd
  have np : (Value.ref P == Value.ref D) = false := Bool.eq_false_iff.mpr fun q => by
    have e := Value.ref.inj (beq_iff_eq.mp q)
    exact nd.1 (by rw [e]; exact List.mem_of_getElem? hj)
  unfold PySem.W.kitOne
  by_cases e : i = j
  · subst e
    rw [hi] at hj
    cases hj
    rw [if_pos (beq_self_eq_true _), decide_eq_true rfl]
  · have nc : (Value.ref C == Value.ref D) = false := Bool.eq_false_iff.mpr fun q => by
      have e' := Value.ref.inj (beq_iff_eq.mp q)
      subst e'
      exact e ((List.getElem?_inj hil nd.2).mp (hi.trans hj.symm))
    rw [if_neg (by rw [nc]; exact Bool.false_ne_true), decide_eq_false e]
    refine kitCls_ref fD.is fD.ty ?_
    rw [fC.sub]
    have n1 : (Value.ref D == Value.ref C) = false := by rw [BEq.comm]; exact nc
    have n2 : (Value.ref D == Value.ref P) = false := by rw [BEq.comm]; exact np
    simp only [List.contains_cons, n1, n2, Bool.false_or]
    rfl
theorem Exn.kitV (x : Exn K mg P cs) (fC : XF K P C) : PySem.W.kitOne K (.ref C) (.type "ValueError") = some true := by
  unfold PySem.W.kitOne
  have e : (Value.ref C == Value.type "ValueError") = false := rfl
  rw [e, if_neg Bool.false_ne_true]
  show (if PySem.W.kitMeta "ValueError" = true then PySem.W.subIn K (.ref C) (.type "ValueError") else none) = some true
  have m : PySem.W.kitMeta "ValueError" = true := by decide +kernel
  rw [if_pos m, fC.sub]
  have n1 : (Value.type "ValueError" == Value.ref C) = false := rfl
  have n2 : (Value.type "ValueError" == Value.ref P) = false := rfl
  simp only [List.contains_cons, n1, n2, Bool.false_or]
  rfl
theorem Exn.exm (x : Exn K mg P cs) (fC : XF K P C) : PySem.W.exmOne K (.ref C) (.ref P) = some true := by
  unfold PySem.W.exmOne
  rw [x.bP, if_pos (by rfl)]
  refine kitCls_ref x.iP x.tP ?_
  rw [fC.sub]
  simp
end
end DL
namespace DL
open PySem PySem.Spec PyProof.Rows L2

/-- what _law_which(e) promises -/
def spWhich (cs : List Addr) (p : Addr × Obj) : Sp := fun vs H Q E => vs = [.ref p.1] ∧ ∃ (C : Addr) (j : Nat), cs[j]? = some C ∧ Zc (.ref C) none p.2 ∧ (∃ vs, p.2.data = .fields vs) ∧
  ∀ t H', (∀ b o, H b = some o → H' b = some o) → H t = none → H' t = some (.tup [.str "raised", .int (j : Nat)]) → Q (.ref t) H'
theorem spWhich_len {cs : List Addr} : ∀ p vs H Q E, spWhich cs p vs H Q E → vs.length = ["_law_e"].length := fun p vs H Q E h => by
  rw [h.1]
  rfl
def tryE (i : Nat) (x : Str) (e : En) : Fl := if i < e.length then (match xn.idxOf? x with
  | some j => .rt (.im (.tup [.str "raised", .int (j : Nat)])) e
  | none => .er) else .er
def sTry (i : Nat) (f : FS) : FS := fun env => match f env with
  | .ex x e => tryE i x e
  | r => r
/-- the reading of the suite -/
def tSuite (cs : List Addr) (i : Nat) : Addr → Value → Option Addr → TS := fun a cls d D σ H => ∃ (C : Addr) (j : Nat), cls = .ref C ∧ d = none ∧ cs[j]? = some C ∧ σ[i]? = some (some (.ref a)) ∧
  ∀ t H', (∀ b o, H b = some o → H' b = some o) → H t = none → H' t = some (.tup [.str "raised", .int (j : Nat)]) → D.rt (.ref t) H'
theorem xn_get {x : Str} {j : Nat} (h : xn.idxOf? x = some j) : xn[j]? = some x := by
  rw [List.idxOf?, List.findIdx?_eq_some_iff_getElem] at h
  obtain ⟨h1, h2, _⟩ := h
  rw [List.getElem?_eq_getElem h1]
  exact congrArg some (beq_iff_eq.mp h2)
section
variable {X : Cx} {c : Cc} {Wout : WX} {n : Str} {i k : Nat} {body : List Stmt} {np pos pos' q1 q2 q3 q4 : Pos} {f : FS} {P a : Addr} {cs : List Addr} {fd : FuncData}
theorem ds_try (FW : FnX X.prog X.w X.K X.mg X.base (L2.CX X.prog X.w) k a fd ["_law_e"] (spWhich cs)) (hr : L2H.RoomH k X.A) (hg : Gl X "_law_which") (hm : X.mg "_law_which" = some (.ref a)) (hk : PySem.W.keepIn X.K (.ref a) = true) (hb : Binds X.K fd ["_law_e"] [])
    (xs : Exn X.K X.mg P cs) (hgP : Gl X "PriceError") (hs : X.stack = X.env :: X.outer) (hf : X.env.frame = some X.env.locals) (hN : X.N.Nodup) (hi : X.N[i]? = some n) (hln : X.env.kindOf n = some .local) (hv : Vis X.env.scope n) (hd1 : (n == ("__debug__" : Str)) = false) (hd2 : (n == ("__classdict__" : Str)) = false)
    (tk : Takes X Wout) (hM : c.mg = X.mg)
    (hbd : ∀ (W : WX) (pn : List (Addr × Obj)) (xe : Value → Shared → Prop), Takes (X.tr pn xe) W → PassesOwn (model X.prog X.w) X.A X.env xe → PSs (X.tr pn xe) body (dS c W f)) :
    PS X (.Try body [.ExceptHandler (some (.Name "PriceError" np)) (some n) [.Return (some (.Call (.Name "_law_which" q1) [.Name n q2] [] q3)) q4] pos'] [] [] pos) (dS c Wout (sTry i f)) := by
  refine PSw (ps_try_as (c := .ref P) (tb := fun W => dS c W f) (ts := tSuite cs i) hs hf hN hi hln ⟨hgP, by decide, .inl xs.gP⟩ tk hbd (fun a' oe cls d pn hz hfd => ?_)) fun D σ H h => ?_
  · refine PSsw (pss_one (ps_ret (pe_callX (X := X.suite a' ((a', oe) :: pn)) (p := (a', oe)) (E := fun _ _ _ _ => False) FW ⟨hr.dp, hr.un⟩ List.mem_cons_self hg hm hk hb (fun σ pins H s e s' I cx => ?_) (pa_cons (pe_var hi hv hd1 hd2) pa_nil)))) fun D σ H h => ?_
    · obtain ⟨_, _, _, _, _, _, _, _, _, _, _, _, z⟩ := cx
      exact z.elim
    · obtain ⟨C, j, rfl, rfl, hj, hσ, q⟩ := h
      exact ⟨_, hσ, rfl, C, j, hj, hz, hfd, q⟩
  · obtain ⟨env, L, r, h⟩ := h
    refine dS.of r ?_
    unfold sTry at h
    cases e : f env with
    | er => rw [e] at h; exact h
    | nx e' => rw [e] at h; exact h
    | bk e' => rw [e] at h; exact h
    | ct e' => rw [e] at h; exact h
    | rt t e' => rw [e] at h; exact h
    | ex x e' =>
      rw [e] at h
      dsimp only [tryE] at h
      by_cases hl0 : i < e'.length
      case neg => rw [if_neg hl0] at h; exact h.elim
      rw [if_pos hl0] at h
      cases ej : xn.idxOf? x with
      | none => rw [ej] at h; exact h.elim
      | some j =>
        rw [ej] at h
        dsimp only at h
        intro σ' H' re st C hC
        obtain ⟨C', hc', g', f'⟩ := xs.xs.get (xn_get ej)
        rw [hM] at hC
        have eC : C' = C := by
          rw [g'] at hC
          exact Value.ref.inj (Option.some.inj hC)
        subst eC
        refine ⟨true, xs.exm f', fun _ a na => ⟨C', j, rfl, rfl, hc', ?_, fun t H'' kp nt et => ?_⟩, fun z => nomatch z⟩
        · exact List.getElem?_set_self (by rw [← re.len]; exact hl0)
        · exact h (.ref t) σ' H'' (re.grow kp) (st.trans (.grow kp)) (.tup (xs := [.str "raised", .int (j : Nat)]) (.inl (.inl et)) (.cons (.str _) (.cons (.int _) .nil)))
end
end DL
namespace DL
open PySem PySem.Spec L2
theorem bo_isinstance : bootBuiltins "isinstance" = some (.builtin "isinstance") := by decide +kernel
theorem bo_ValueError : bootBuiltins "ValueError" = some (.type "ValueError") := by decide +kernel
section
variable {K : PySem.W.Frag} {a C D1 D2 D3 : Addr} {b b1 b2 b3 : Bool} {σ : St} {H : Hp}
abbrev tI (K : PySem.W.Frag) (C a : Addr) (v : V) : TE := tCB (rIsE K C a) (tCons (tVar 0) (tCons (tC v) tNil))
theorem rd_is {Q : VK} {v : V} {u : Value} (h0 : σ[0]? = some (some (.ref a))) (hv : ∀ w, RelV v w → w = u) (hk : PySem.W.kitOne K (.ref C) u = some b) (q : Q (.bl b) H) : tI K C a v σ H Q :=
  ⟨_, h0, _, u, b, rfl, hv, hk, q⟩
theorem rel_me {D : Addr} : RelV (.ref D) (.ref D) := rfl
theorem rel_ref {D : Addr} : ∀ w, RelV (.ref D) w → w = .ref D := fun w h => h
theorem rd_list3 {Q : VK} (h0 : σ[0]? = some (some (.ref a))) (k1 : PySem.W.kitOne K (.ref C) (.ref D1) = some b1) (k2 : PySem.W.kitOne K (.ref C) (.ref D2) = some b2) (k3 : PySem.W.kitOne K (.ref C) (.ref D3) = some b3)
    (q : ∀ p, H p = none → Q (.ref p) (upd H p (.lst ([b1, b2, b3].map V.bl)))) : tLst (tCons (tI K C a (.ref D1)) (tCons (tI K C a (.ref D2)) (tCons (tI K C a (.ref D3)) tNil))) σ H Q :=
  rd_is h0 rel_ref k1 (rd_is h0 rel_ref k2 (rd_is h0 rel_ref k3 ⟨by show (3 : Nat) ≤ sizeLine; decide, q⟩))
theorem rd_ext3 {Q : VK} {l : Addr} {bs : List Bool} (h0 : σ[0]? = some (some (.ref a))) (h1 : σ[1]? = some (some (.ref l))) (hl : H l = some (.lst (bs.map V.bl))) (hb : bs.length ≤ 100) (k1 : PySem.W.kitOne K (.ref C) (.ref D1) = some b1) (k2 : PySem.W.kitOne K (.ref C) (.ref D2) = some b2) (k3 : PySem.W.kitOne K (.ref C) (.ref D3) = some b3)
    (q : ∀ H', (∀ b o, b ≠ l → H b = some o → H' b = some o) → H' l = some (.lst ((bs ++ [b1, b2, b3]).map V.bl)) → Q .non H') :
    tBM K "list" rExtend (tVar 1) (tCons (tLst (tCons (tI K C a (.ref D1)) (tCons (tI K C a (.ref D2)) (tCons (tI K C a (.ref D3)) tNil)))) tNil) σ H Q := by
  refine ⟨V.ref l, h1, Or.inl ⟨rfl, _, SqL.of hl⟩, rd_list3 h0 k1 k2 k3 fun p np => ?_⟩
  have ne : l ≠ p := ne_of_none hl np
  refine ⟨l, p, _, _, rfl, rfl, by rw [upd_ne ne]; exact hl, upd_same, ?_, ?_⟩
  · rw [List.length_map, List.length_map]
    refine Nat.le_trans (show bs.length + 3 ≤ 103 from Nat.add_le_add_right hb 3) (line6 (by decide))
  · rw [← List.map_append]
    refine q _ (fun b o nb e => ?_) upd_same
    rw [upd_ne nb, upd_ne (ne_of_none e np)]
    exact e
theorem reps_bls {G : Addr → Prop} : ∀ bs : List Bool, Reps K G H (bs.map V.bl) (bs.map D.bl)
  | [] => .nil
  | b :: bs => .cons (.bl b) (reps_bls bs)
theorem plain_bls : ∀ bs : List Bool, PyData.plainAll (toPs (bs.map D.bl)) = true
  | [] => rfl
  | b :: bs => plain_bls bs
/-- count(True), index(True) of a list of truth values -/
theorem rd_count {Q : VK} {l : Addr} {bs : List Bool} (h1 : σ[1]? = some (some (.ref l))) (hl : H l = some (.lst (bs.map V.bl))) (q : Q (.int (bs.countP id : Nat)) H) :
    tBM K "list" (rCountD K) (tVar 1) (tCons (tC (.bl true)) tNil) σ H Q := by
  refine ⟨V.ref l, h1, Or.inl ⟨rfl, _, SqL.of hl⟩, l, bs.map V.bl, .bl true, .bool true, toPs (bs.map D.bl), rfl, rfl, .of hl, Reps.dp (G := fun _ => True) (reps_bls bs), .bl true, plain_bls bs, rfl, by decide, ?_⟩
  have e : (toPs (bs.map D.bl)).countP (fun z => PyData.eqv z (.bool true)) = bs.countP id := by
    rw [toPs_map, List.map_map, List.countP_map]
    refine List.countP_congr fun b _ => ?_
    cases b <;> decide
  rw [e]
  exact q
theorem rd_index {Q : VK} {l : Addr} {bs : List Bool} {j : Nat} (h1 : σ[1]? = some (some (.ref l))) (hl : H l = some (.lst (bs.map V.bl))) (hs : SeqAt.shaped (.list (toPs (bs.map D.bl))) = true) (hj : bs[j]? = some true) (hm : ∀ m, m < j → bs[m]? = some true → False) (q : Q (.int (j : Nat)) H) :
    tBM K "list" (rIndexD K) (tVar 1) (tCons (tC (.bl true)) tNil) σ H Q := by
  refine ⟨V.ref l, h1, Or.inl ⟨rfl, _, SqL.of hl⟩, l, .bl true, .bool true, toPs (bs.map D.bl), j, .bool true, rfl, rfl, .lst (.of hl) (Reps.dp (G := fun _ => True) (reps_bls bs)), .bl true, hs, by decide, ?_, by decide, fun m z' hm' hz => ?_, q⟩
  · rw [toPs_map, List.map_map, List.getElem?_map, hj]
    rfl
  · rw [toPs_map, List.map_map, List.getElem?_map] at hz
    obtain ⟨b, e1, rfl⟩ := Option.map_eq_some_iff.mp hz
    cases b with
    | true => exact (hm m hm' e1).elim
    | false => decide
end
def wbs (j : Nat) : List Bool := [decide (j = 0), decide (j = 1), decide (j = 2), decide (j = 3), decide (j = 4), decide (j = 5), decide (j = 6), decide (j = 7), decide (j = 8), decide (j = 9), decide (j = 10), decide (j = 11)]
theorem wbs_ok {j : Nat} (h : j < 12) : (wbs j).countP id = 1 ∧ SeqAt.shaped (.list (toPs ((wbs j).map D.bl))) = true ∧ (wbs j)[j]? = some true ∧ ∀ m, m < j → (wbs j)[m]? = some true → False := by
  have : ∀ j : Fin 12, (wbs j.1).countP id = 1 ∧ SeqAt.shaped (.list (toPs ((wbs j.1).map D.bl))) = true ∧ (wbs j.1)[j.1]? = some true ∧ ∀ m : Fin 12, m.1 < j.1 → (wbs j.1)[m.1]? = some true → False := by decide +kernel
  obtain ⟨h1, h2, h3, h4⟩ := this ⟨j, h⟩
  exact ⟨h1, h2, h3, fun m hm e => h4 ⟨m, Nat.lt_trans hm h⟩ hm e⟩
section
variable {K : PySem.W.Frag} {a C c0 c1 c2 c3 c4 c5 c6 c7 c8 c9 c10 c11 : Addr} {j : Nat} {H : Hp}
theorem rd_asg {te : TE} {r : TS} {D : Ends} {σ : L2.St} {i : Nat} (h : te σ H fun x H1 => r D (σ.set i (some x)) H1) : tSeq (tAsg te (gName i)) r D σ H := h
theorem rd_drop {te : TE} {r : TS} {D : Ends} {σ : L2.St} (h : te σ H fun _ H1 => r D σ H1) : tSeq (tDrop te) r D σ H := h
theorem rd_if2 {tc : TE} {t2 : TT} {u r : TS} {D : Ends} {σ : L2.St} (h : tc σ H fun x H1 => scal x (.int 1) = true ∧ ∃ k, V.bl (!decide (x = .int 1)) = .bl k ∧ (if k = true then (if true = true then u { D with nx := r D } σ H1 else r D σ H1) else t2 σ H1 fun c H2 => if (!c) = true then u { D with nx := r D } σ H2 else r D σ H2)) :
    tSeq (tIfS (tOr (tTest (tOp rNe tc (tC (V.int 1)))) (tNot t2)) u tNext) r D σ H := h
theorem rd_ret2 {ti : TE} {D : Ends} {σ : L2.St} {x : Str} (h : ti σ H fun y H1 => (2 : Nat) ≤ sizeLine ∧ ∀ p, H1 p = none → D.rt (.ref p) (upd H1 p (.tup [.str x, y]))) : tRet (tTup (tCons (tC (V.str x)) (tCons ti tNil))) D σ H := h
theorem which_reading {D : Ends} {u : TS} (hlen : j < 12)
    (k0 : PySem.W.kitOne K (.ref C) (.ref c0) = some (decide (j = 0))) (k1 : PySem.W.kitOne K (.ref C) (.ref c1) = some (decide (j = 1))) (k2 : PySem.W.kitOne K (.ref C) (.ref c2) = some (decide (j = 2)))
    (k3 : PySem.W.kitOne K (.ref C) (.ref c3) = some (decide (j = 3))) (k4 : PySem.W.kitOne K (.ref C) (.ref c4) = some (decide (j = 4))) (k5 : PySem.W.kitOne K (.ref C) (.ref c5) = some (decide (j = 5)))
    (k6 : PySem.W.kitOne K (.ref C) (.ref c6) = some (decide (j = 6))) (k7 : PySem.W.kitOne K (.ref C) (.ref c7) = some (decide (j = 7))) (k8 : PySem.W.kitOne K (.ref C) (.ref c8) = some (decide (j = 8)))
    (k9 : PySem.W.kitOne K (.ref C) (.ref c9) = some (decide (j = 9))) (k10 : PySem.W.kitOne K (.ref C) (.ref c10) = some (decide (j = 10))) (k11 : PySem.W.kitOne K (.ref C) (.ref c11) = some (decide (j = 11)))
    (kV : PySem.W.kitOne K (.ref C) (.type "ValueError") = some true)
    (q : ∀ t H', (∀ b o, H b = some o → H' b = some o) → H t = none → H' t = some (.tup [.str "raised", .int (j : Nat)]) → D.rt (.ref t) H') :
    tSeq (tAsg (tLst (tCons (tI K C a (.ref c0)) (tCons (tI K C a (.ref c1)) (tCons (tI K C a (.ref c2)) tNil)))) (gName 1))
      (tSeq (tDrop (tBM K "list" rExtend (tVar 1) (tCons (tLst (tCons (tI K C a (.ref c3)) (tCons (tI K C a (.ref c4)) (tCons (tI K C a (.ref c5)) tNil)))) tNil)))
      (tSeq (tDrop (tBM K "list" rExtend (tVar 1) (tCons (tLst (tCons (tI K C a (.ref c6)) (tCons (tI K C a (.ref c7)) (tCons (tI K C a (.ref c8)) tNil)))) tNil)))
      (tSeq (tDrop (tBM K "list" rExtend (tVar 1) (tCons (tLst (tCons (tI K C a (.ref c9)) (tCons (tI K C a (.ref c10)) (tCons (tI K C a (.ref c11)) tNil)))) tNil)))
      (tSeq (tIfS (tOr (tTest (tOp rNe (tBM K "list" (rCountD K) (tVar 1) (tCons (tC (V.bl true)) tNil)) (tC (V.int 1)))) (tNot (tB (tI K C a (V.ty "ValueError"))))) u tNext)
        (tRet (tTup (tCons (tC (V.str "raised")) (tCons (tBM K "list" (rIndexD K) (tVar 1) (tCons (tC (V.bl true)) tNil)) tNil))))))))
      D (L2.start ["_law_e", "_law_own"] [V.ref a]) H := by
  refine rd_asg (rd_list3 (σ := [some (.ref a), none]) (H := H) (a := a) rfl k0 k1 k2 fun l nl => ?_)
  refine rd_drop (rd_ext3 (σ := [some (.ref a), some (.ref l)]) (a := a) (l := l) (bs := [decide (j = 0), decide (j = 1), decide (j = 2)]) rfl rfl upd_same (by show (3 : Nat) ≤ 100; decide) k3 k4 k5 fun H1 kp1 e1 => ?_)
  refine rd_drop (rd_ext3 (σ := [some (.ref a), some (.ref l)]) (a := a) (l := l) rfl rfl e1 (by show (6 : Nat) ≤ 100; decide) k6 k7 k8 fun H2 kp2 e2 => ?_)
  refine rd_drop (rd_ext3 (σ := [some (.ref a), some (.ref l)]) (a := a) (l := l) rfl rfl e2 (by show (9 : Nat) ≤ 100; decide) k9 k10 k11 fun H3 kp3 e3 => ?_)
  obtain ⟨w1, w2, w3, w4⟩ := wbs_ok hlen
  have kp : ∀ b o, H b = some o → H3 b = some o := fun b o e => by
    have nb : b ≠ l := ne_of_none e nl
    exact kp3 b o nb (kp2 b o nb (kp1 b o nb (by rw [upd_ne nb]; exact e)))
  have cnt : ∀ Q : VK, Q (.int 1) H3 → tBM K "list" (rCountD K) (tVar 1) (tCons (tC (V.bl true)) tNil) [some (.ref a), some (.ref l)] H3 Q := fun Q h =>
    rd_count (σ := [some (.ref a), some (.ref l)]) (l := l) (bs := wbs j) rfl e3 (by rw [w1]; exact h)
  refine rd_if2 (cnt _ ⟨rfl, _, rfl, ?_⟩)
  show if false = true then _ else _
  rw [if_neg Bool.false_ne_true]
  refine rd_is (σ := [some (.ref a), some (.ref l)]) (a := a) (b := true) rfl (fun w h => h) kV ?_
  refine ⟨true, rfl, ?_⟩
  show if false = true then _ else _
  rw [if_neg Bool.false_ne_true]
  refine rd_ret2 ?_
  refine rd_index (σ := [some (.ref a), some (.ref l)]) (l := l) (bs := wbs j) (j := j) rfl e3 w2 w3 w4 ?_
  refine ⟨by show (2 : Nat) ≤ sizeLine; decide, fun t nt => ?_⟩
  refine q t _ (fun b o e => ?_) ?_ upd_same
  · rw [upd_ne (ne_of_none (kp b o e) nt)]; exact kp b o e
  · cases e : H t with
    | none => rfl
    | some o => rw [kp t o e] at nt; cases nt
end
end DL
/-! DLV: for over an owned list that stays owned -/
namespace DL
open PySem PySem.Spec L2

/-- the ways on, if slot j is as at σ -/
def keepE (D : Ends) (j : Nat) (σ : L2.St) : Ends := { D with nx := fun σ' H' => σ'[j]? = σ[j]? → D.nx σ' H', bk := fun σ' H' => σ'[j]? = σ[j]? → D.bk σ' H', ct := fun σ' H' => σ'[j]? = σ[j]? → D.ct σ' H' }
def dX (j : Nat) (c : Cc) (W : WX) (f : FS) : TS := fun D σ H => dS c W f (keepE D j σ) σ H
def dGk (j : Nat) (c : Cc) (g : FG) : TG := fun v σ H Q => dG c g v σ H fun σ' H' => σ'[j]? = σ[j]? → Q σ' H'
theorem keepE_eq {D : Ends} {j : Nat} {σ σ' : L2.St} (h : σ'[j]? = σ[j]?) : keepE D j σ' = keepE D j σ := by
  unfold keepE
  rw [h]
section
variable {X : Cx} {c : Cc} {W : WX} {j : Nat} {st : Stmt} {rest a b : List Stmt} {f g : FS} {fa : FE} {ft : FT} {e : Expr} {pos : Pos}
theorem dE_mono {σ : L2.St} {H : Hp} {Q Q' : VK} (h : dE c W fa σ H Q) (k : ∀ v H, Q v H → Q' v H) : dE c W fa σ H Q' := by
  obtain ⟨env, L, r, h⟩ := h
  exact ⟨env, L, r, h.mono fun t e1 H1 r1 s1 h1 v q => k _ _ (h1 v q)⟩
theorem dxs_nil : PSs X [] (dX j c W sNx) := PSsw pss_nil fun D σ H h => by
  obtain ⟨env, L, r, h⟩ := h
  exact h σ H r .refl rfl
theorem dxs_one (h1 : PS X st (dX j c W f)) : PSs X [st] (dX j c W f) := pss_one h1
theorem dxs_cons (h1 : PS X st (dX j c W f)) (h2 : PSs X rest (dX j c W g)) : PSs X (st :: rest) (dX j c W (sSeq f g)) := PSsw (pss_cons h1 h2) fun D σ H h => by
  obtain ⟨env, L, r, h⟩ := h
  refine dS.of (f := f) (D := keepE { D with nx := dX j c W g D } j σ) r ?_
  unfold sSeq at h
  cases q : f env with
  | er => rw [q] at h; exact h
  | nx e =>
    rw [q] at h
    intro σ' H' r' s' hj
    show dS c W g (keepE D j σ') σ' H'
    rw [keepE_eq hj]
    exact dS.of r' (h.here s')
  | rt t e => rw [q] at h; exact h
  | bk e => rw [q] at h; exact h
  | ct e => rw [q] at h; exact h
  | ex x e => rw [q] at h; exact h
theorem dx_if {t : Expr} (hc : PT X t (dT c W ft)) (ha : PSs X a (dX j c W f)) (hb : PSs X b (dX j c W g)) : PS X (.If t a b pos) (dX j c W (sIf ft f g)) := PSw (ps_if hc ha hb) fun D σ H h => by
  obtain ⟨env, L, r, h⟩ := h
  refine dT.of r (h.bind.mono fun b e1 H1 r1 s1 h1 => ?_)
  cases b with
  | true => rw [if_pos rfl]; exact dS.of r1 (h1.here s1)
  | false => rw [if_neg Bool.false_ne_true]; exact dS.of r1 (h1.here s1)
theorem dx_ret (he : PE X e (dE c W fa)) : PS X (.Return (some e) pos) (dX j c W (sRet fa)) := PSw (ds_ret (c := c) (W := W) he) fun D σ H h => by
  obtain ⟨env, L, r, h⟩ := h
  refine ⟨env, L, r, ?_⟩
  unfold sRet at h ⊢
  cases q : fa env with
  | er => rw [q] at h; exact h
  | ex x e => rw [q] at h; exact h
  | ok t e => rw [q] at h; exact h
theorem dx_set {i : Nat} {x : Str} {pos' : Pos} (hij : i ≠ j) (hN : X.N.Nodup) (hi : X.N[i]? = some x) (hx : Loc X.env.scope x) (he : PE X e (dE c W fa)) (hs : swapsWith e (some (.Name x pos')) pos.line X.env = pure false := by rfl) (hf : X.fn x = true ∨ X.env.scope.names.lookup x = some .local := by first | exact .inl rfl | exact .inr rfl | assumption) :
    PS X (.Assign [.Name x pos'] e pos) (dX j c W (sAsg fa (gN i))) := PSw (ps_set hN hi hx he hs hf) fun D σ H h => by
  have q := d_asg (keepE D j σ) σ H h
  refine dE_mono (Q := fun x H1 => dG c (gN i) x σ H1 (keepE D j σ).nx) q fun v H1 h1 => ?_
  have h2 := d_gN _ _ _ _ h1
  exact h2 (by rw [List.getElem?_set_ne hij])
/-- a tuple of names as a target -/
theorem d_gT {n : Nat} {gs : FGs} {K : PySem.W.Frag} (hK : c.K = K) : ∀ v σ H Q, dG c (gT n gs) v σ H Q → gTup K n (dGs c gs) v σ H Q := fun v σ H Q h => by
  subst hK
  obtain ⟨env, L, N, t, r, q, h⟩ := h
  unfold gT at h
  cases ec : cpsOf t env with
  | none => rw [ec] at h; exact h.elim
  | some cs =>
    rw [ec] at h
    dsimp only at h
    by_cases hl : cs.length = n
    · rw [if_pos hl] at h
      cases t with
      | al i => cases ec
      | fr ds => cases ec
      | im d =>
        cases d with
        | tup ds =>
          cases ec
          cases (show Rep c.K (Av L σ env) H v (.tup ds) from q) with
          | tup hs rs =>
            rename_i a xs
            have conv : ∀ {xs : List V} {ds : List D}, Reps c.K (Av L σ env) H xs ds → RepC c.K (Av (Lu L []) σ env) H [] xs (ds.map fun d => ⟨false, d⟩) := fun {xs ds} r => by
              induction ds generalizing xs with
              | nil => cases r; exact .nil
              | cons d ds ih =>
                cases r with
                | cons r rs => exact .im (r.mono (.refl H) fun b ys g e => ⟨⟨fun z => z.elim g.1 (fun z => nomatch z), g.2⟩, e⟩) (ih rs)
            refine ⟨a, xs, rfl, hs, by rw [rs.length, ← hl, List.length_map], env, L, N, [], _, r.less (fun b z => z.elim id (fun z => nomatch z)), conv rs, (fun a z => nomatch z), h⟩
        | non => cases ec
        | bl b => cases ec
        | int b => cases ec
        | str b => cases ec
        | lst b => cases ec
        | fz b => cases ec
      | ft cs' =>
        cases ec
        obtain ⟨a, xs, As, rfl, hs, rc, n1, re⟩ := q
        have len : ∀ {G : Addr → Prop} {As vs cs}, RepC c.K G H As vs cs → vs.length = cs.length := fun {G As vs cs} r => by
          induction r with
          | nil => rfl
          | im _ _ ih => simp [ih]
          | fr _ _ _ _ ih => simp [ih]
        exact ⟨a, xs, rfl, hs, by rw [len rc, hl], env, L, N, As, _, re, rc, n1, h⟩
    · rw [if_neg hl] at h
      exact h.elim
theorem dgk_two {i k : Nat} {e1 e2 : Expr} {kk : Nat} (hik : i ≠ j ∧ k ≠ j) (hc : X.calm = true) (h1 : PG X e1 (gName i)) (h2 : PG X e2 (gName k)) (hs1 : (assignEach [e1, e2] X.env).map (·.2) = assign e1 X.env :: (assignEach [e2] X.env).map (·.2) := by rfl) (hs2 : (assignEach [e2] X.env).map (·.2) = assign e2 X.env :: (assignEach [] X.env).map (·.2) := by rfl)
    (hn : (assignEach [e1, e2] X.env).length = 2 := by rfl) (hst : (assignEach [e1, e2] X.env).findIdx? (·.1) = none := by rfl) (hK : c.K = X.K := by rfl) :
    PG X (.Tuple [e1, e2] kk pos) (dGk j c (gT 2 (gsCons (gN i) (gsCons (gN k) gsNil)))) :=
  PGw (pg_tup hc (pgs_cons h1 (pgs_cons h2 pgs_nil hs2) hs1) hn hst) fun v σ H Q h => by
    obtain ⟨a, xs, e, hs, hl, q1⟩ := d_gT hK _ _ _ _ h
    obtain ⟨v1, r1, ex1, q2⟩ := d_gsCons _ _ _ _ q1
    have q3 := d_gN _ _ _ _ q2
    obtain ⟨v2, r2, ex2, q4⟩ := d_gsCons _ _ _ _ q3
    have q5 := d_gN _ _ _ _ q4
    obtain ⟨ex3, q6⟩ := d_gsNil _ _ _ _ q5
    exact ⟨a, _, e, hs, hl, v1, _, ex1, v2, _, ex2, ex3, q6 (by rw [List.getElem?_set_ne hik.2, List.getElem?_set_ne hik.1])⟩
end
open Classical in
noncomputable def loopK (j : Nat) (ds0 : List D) (g : FG) (f : FS) : List D → En → Fl
  | [], env => if (∃ b, env[j]? = some (Sl.own b ds0)) then .nx env else .er
  | d :: ds, env => if (∃ b, env[j]? = some (Sl.own b ds0)) then (match g (.im d) env with
    | .nx e => match f e with
      | .nx e1 => loopK j ds0 g f ds e1
      | .rt t e1 => .rt t e1
      | .ex x e1 => .ex x e1
      | _ => .er
    | _ => .er) else .er
noncomputable def sForK (j : Nat) (fi : FI) (g : FG) (f : FS) : FS := fun env => (fi env).bindF fun k e => match k.chk with
  | some (i, ds0) => if i = j then loopK j ds0 g f k.its e else .er
  | none => .er
section
variable {X : Cx} {c : Cc} {W : WX} {j : Nat} {pos p : Pos} {iter tg : Expr} {body : List Stmt} {fi : FI} {g : FG} {f : FS}
theorem d_forK : ∀ D σ H, dS c W (sForK j fi g f) D σ H → tFor (dI c W fi) (dGk j c g) (dX j c W f) D σ H := fun D σ H h => by
  obtain ⟨env, L, re, h⟩ := h
  refine ⟨env, L, re, (sK.bind h).mono fun k e1 H1 r1 s1 h1 J ⟨ok, src⟩ => ?_⟩
  obtain ⟨its, chk⟩ := k
  cases chk with
  | none => exact h1.elim
  | some z =>
    obtain ⟨i0, ds0⟩ := z
    dsimp only at h1
    by_cases ij : i0 = j
    case neg => rw [if_neg ij] at h1; exact h1.elim
    subst ij
    rw [if_pos rfl] at h1
    have sw : ∀ {σ' env' H'}, Stp σ e1 H1 σ' env' H' → σ'[i0]? = σ[i0]? → Sw ⟨its, some (i0, ds0)⟩ σ e1 H1 σ' env' H' := fun s hj => ⟨s, .inr fun j ds e v ev => by cases e; rw [← hj]; exact ev⟩
    refine ⟨fun i m σ' H' => m = its.length - i ∧ ∃ env', RE c L σ' H' env' ∧ Stp σ e1 H1 σ' env' H' ∧ σ'[i0]? = σ[i0]? ∧ sK c W L (Stp σ' env' H') (Nn σ' env' H') (loopK i0 ds0 g f (its.drop i) env') D, ⟨_, rfl, e1, r1, .refl, rfl, h1.here s1⟩, fun i m σ' H' ⟨em, env', r, s, hj, q⟩ => ?_⟩
    by_cases hi : its.length ≤ i
    · rw [List.drop_eq_nil_of_le hi] at q
      unfold loopK at q
      by_cases okk : ∃ b, env'[i0]? = some (Sl.own b ds0)
      case neg => rw [if_neg okk] at q; exact q.elim
      rw [if_pos okk] at q
      exact .inl ⟨src.stop L i σ' H' env' (fun _ z => .inl z) r (sw s hj) okk hi, q σ' H' r .refl⟩
    · have hi : i < its.length := Nat.lt_of_not_le hi
      rw [List.drop_eq_getElem_cons hi] at q
      unfold loopK at q
      by_cases okk : ∃ b, env'[i0]? = some (Sl.own b ds0)
      case neg => rw [if_neg okk] at q; exact q.elim
      rw [if_pos okk] at q
      refine .inr ⟨src.go L i σ' H' env' (fun _ z => .inl z) r (sw s hj) okk hi, fun σ2 H2 => ∃ env2, RE c L σ2 H2 env2 ∧ Stp σ e1 H1 σ2 env2 H2 ∧ σ2[i0]? = σ[i0]? ∧ sK c W L (Stp σ2 env2 H2) (Nn σ2 env2 H2) (loopK i0 ds0 g f (its.drop (i + 1)) env2) D, fun σ2 H2 n => ⟨its.length - (i + 1), by omega, rfl, n⟩, fun x H'' y => ?_⟩
      obtain ⟨kp, rx⟩ := src.yld L i σ' H' env' x H'' its[i] (fun _ z => .inl z) r (sw s hj) okk (List.getElem?_eq_getElem hi) y
      have r' := r.grow kp
      have s' : Stp σ' env' H' σ' env' H'' := .grow kp
      refine ⟨env', L, Nn σ' env' H'', .im its[i], r', rx, ?_⟩
      have q := q.here s'
      cases eg : g (.im its[i]) env' with
      | er => rw [eg] at q; exact q.elim
      | rt t e => rw [eg] at q; exact q.elim
      | bk e => rw [eg] at q; exact q.elim
      | ct e => rw [eg] at q; exact q.elim
      | ex x e => rw [eg] at q; exact q.elim
      | nx e2 =>
        rw [eg] at q
        intro σ2 H2 r2 n2 hj2
        have s2 : Stp σ' env' H'' σ2 e2 H2 := StpN.after .refl n2
        refine ⟨e2, L, r2, ?_⟩
        dsimp only at q
        have q := q.here s2
        cases ef : f e2 with
        | er => rw [ef] at q; exact q.elim
        | nx e3 => rw [ef] at q; exact fun σ3 H3 r3 s3 hj3 => ⟨e3, r3, ((s.trans s').trans s2).trans s3, (hj3.trans hj2).trans hj, q.here s3⟩
        | ct e3 => rw [ef] at q; exact q.elim
        | bk e3 => rw [ef] at q; exact q.elim
        | rt t e3 => rw [ef] at q; exact q
        | ex x e3 => rw [ef] at q; exact q
theorem ds_forK (hp : PassesOwn (model X.prog X.w) X.A X.env X.xe) (hc : X.calm = true) (hi : PI X tg iter (dI c W fi)) (hg : PG X tg (dGk j c g)) (hb : PSs X body (dX j c W f))
    (hs : ∀ x, foldedSetIterable iter X.env x = pure x := by intro _; rfl) : PS X (.For tg iter body [] pos) (dS c W (sForK j fi g f)) := PSw (ps_for hp hc hi hg hb hs) d_forK
end
end DL
/-! DLU: texts: join, split, isascii, isdigit, str, int, f'..' -/
namespace DL
open PySem PySem.Spec L2

def MtD (c : Cc) (r : V → List V → Hp → VK → Prop) (g : Str → D → Option T) : Prop := ∀ (L : Addr → Prop) (σ : L2.St) (H : Hp) (env : En) (a : Str) (y : V) (dy : D) (t : T) (Q : VK), RE c L σ H env → RepO c.K (Av L σ env) H y dy → g a dy = some t →
  (∀ v H', RE c L σ H' env → Stp σ env H σ env H' → RepT c L (Nn σ env H) σ H' env v t → Q v H') → r (.str a) [y] H Q
def strT (t : T) (k : Str → R T) : R T := match t with
  | .im (.str a) => k a
  | _ => .er
@[simp] theorem strT_s (a : Str) (k : Str → R T) : strT (.im (.str a)) k = k a := rfl
def eM1 (g : Str → D → Option T) (fa fb : FE) : FE := fun env => (fa env).bind fun ta e1 => strT ta fun a => (fb e1).bind fun tb e2 => op1 (g a) tb e2
def eM0 (g : Str → Option T) (fa : FE) : FE := fun env => (fa env).bind fun ta e1 => strT ta fun a => R.opt (g a) e1
section
variable {X : Cx} {c : Cc} {W : WX} {pos : Pos} {fa fb : FE} {r : V → List V → Hp → VK → Prop}
theorem strT_of {L N : Addr → Prop} {σ : L2.St} {H : Hp} {env : En} {t : T} {v : V} {k : Str → R T} {P : T → En → Hp → Prop} (q : RepT c L N σ H env v t) (h : dK c W L σ H env (strT t k) P) : ∃ a, v = .str a ∧ dK c W L σ H env (k a) P := by
  cases t with
  | im d =>
    cases d with
    | str a =>
      cases (show Rep c.K (Av L σ env) H v (.str a) from q)
      exact ⟨a, rfl, h⟩
    | non => exact h.elim
    | bl b => exact h.elim
    | int i => exact h.elim
    | tup xs => exact h.elim
    | lst xs => exact h.elim
    | fz xs => exact h.elim
  | al i => exact h.elim
  | fr ds => exact h.elim
  | ft cs => exact h.elim
theorem d_tM1 {g : Str → D → Option T} (ho : MtD c r g) : ∀ σ H Q, dE c W (eM1 g fa fb) σ H Q → tM1 r (dE c W fa) (dE c W fb) σ H Q := fun σ H Q h => by
  obtain ⟨env, L, re, h⟩ := dE_iff.mp h
  refine dE.of re (h.bind.mono fun ta e1 H1 r1 s1 h1 x q1 => ?_)
  obtain ⟨a, rfl, h2⟩ := strT_of q1 h1
  refine ⟨⟨a, rfl⟩, dE.of r1 (h2.bind.mono fun tb e2 H2 r2 s2 h3 y q2 => ?_)⟩
  unfold op1 at h3
  cases eb : tb.val e2 with
  | none => rw [eb] at h3; exact h3.elim
  | some dy =>
    rw [eb] at h3
    cases eg : g a dy with
    | none => simp only [eg] at h3; exact h3.elim
    | some t =>
      simp only [eg] at h3
      exact ho L σ H2 e2 a y dy t Q r2 (q2.opr0 r2 eb) eg fun v H' re' s q => h3 H' re' s v (q.less (fun _ z => z) fun a n => s1.back (s2.back n))
/-- a method that is passed nothing and gives a datum without objects -/
theorem d_tM0 {g : Str → Option T} (ho : ∀ (a : Str) (t : T) (H : Hp) (Q : VK), g a = some t → ∃ d : D, t = .im d ∧ ∃ v, (∀ G H, Rep c.K G H v d) ∧ (Q v H → r (.str a) [] H Q)) : ∀ σ H Q, dE c W (eM0 g fa) σ H Q → tM0 r (dE c W fa) σ H Q := fun σ H Q h => by
  obtain ⟨env, L, re, h⟩ := dE_iff.mp h
  refine dE.of re (h.bind.mono fun ta e1 H1 r1 s1 h1 x q1 => ?_)
  obtain ⟨a, rfl, h2⟩ := strT_of q1 h1
  cases eg : g a with
  | none => rw [eg] at h2; exact h2.elim
  | some t =>
    rw [eg] at h2
    obtain ⟨d, rfl, v, hv, k⟩ := ho a t H1 Q eg
    exact ⟨⟨a, rfl⟩, k (h2 H1 r1 .refl v (hv _ H1))⟩
end
/-! ### join, split -/
def strsOf : List D → Option (List Str)
  | [] => some []
  | .str i :: ds => (strsOf ds).map (i :: ·)
  | _ => none
@[simp] theorem strsOf_map : ∀ ns : List Str, strsOf (ns.map D.str) = some ns
  | [] => rfl
  | n :: ns => by rw [List.map_cons]; unfold strsOf; rw [strsOf_map ns]; rfl
theorem strsOf_is : ∀ {ds ns}, strsOf ds = some ns → ds = ns.map D.str
  | [], ns, h => by cases h; rfl
  | d :: ds, ns, h => by
    cases d <;> simp only [strsOf] at h <;> (try (cases h; done))
    obtain ⟨ms, e, rfl⟩ := Option.map_eq_some_iff.mp h
    rw [strsOf_is e]
    rfl
theorem Reps.strs {K : PySem.W.Frag} {G : Addr → Prop} {H : Hp} {vs : List V} : ∀ {ns : List Str}, Reps K G H vs (ns.map .str) → vs = ns.map .str
  | [], h => by cases h; rfl
  | n :: ns, h => by
    cases h with
    | cons r rs => cases r; rw [Reps.strs rs]; rfl
theorem Reps.of_strs {K : PySem.W.Frag} {G : Addr → Prop} {H : Hp} : ∀ (ns : List Str), Reps K G H (ns.map V.str) (ns.map D.str)
  | [] => .nil
  | n :: ns => .cons (.str n) (Reps.of_strs ns)
def dJoin (a : Str) (d : D) : Option T := match items d with
  | some ds => match strsOf ds with
    | some ys => if (ys.map (·.length)).sum + ys.length * a.length ≤ 16777216 then some (.im (.str (Txt.join a ys))) else none
    | none => none
  | none => none
def dSplit (a : Str) (d : D) : Option T := match d with
  | .str b => if (b.length == 0) = false ∧ a.length + 2 ≤ 1000000 then some (.fr ((Txt.split a b).map D.str)) else none
  | _ => none
section
variable {X : Cx} {c : Cc} {W : WX} {pos apos : Pos} {o e : Expr} {fa fb : FE}
theorem d_join {K : PySem.W.Frag} (hK : c.K = K) : MtD c (fun x xs H Q => ∃ a p, ∃ ys : List Str, x = .str a ∧ xs = [.ref p] ∧ (SqL K H p (ys.map V.str) ∨ SqT K H p (ys.map V.str)) ∧ (ys.map (·.length)).sum + ys.length * a.length ≤ 16777216 ∧ Q (.str (Txt.join a ys)) H) dJoin := by
  subst hK
  intro L σ H env a y dy t Q re hy eg k
  unfold dJoin at eg
  cases ei : items dy with
  | none => rw [ei] at eg; cases eg
  | some ds =>
    rw [ei] at eg
    dsimp only at eg
    cases es : strsOf ds with
    | none => rw [es] at eg; cases eg
    | some ys =>
      rw [es] at eg
      dsimp only at eg
      split at eg
      · rename_i hz
        cases eg
        obtain ⟨p, xs, rfl, h, rs⟩ := hy.seq ei
        rw [strsOf_is es] at rs
        rw [rs.strs] at h
        exact ⟨a, p, ys, rfl, rfl, h, hz, k _ H re .refl (.str _)⟩
      · cases eg
theorem d_split : MtD c (fun x xs H Q => ∃ a b, x = .str a ∧ xs = [.str b] ∧ (b.length == 0) = false ∧ a.length + 2 ≤ sizeLine ∧ rNewStrs (Txt.split a b) H Q) dSplit := by
  intro L σ H env a y dy t Q re hy eg k
  unfold dSplit at eg
  split at eg
  · rename_i b
    split at eg
    · rename_i hz
      cases eg
      rw [hy.str]
      refine ⟨a, b, rfl, rfl, hz.1, line6 hz.2, fun p np => ?_⟩
      obtain ⟨q1, q2, q3⟩ := re.newL (Reps.of_strs (K := c.K) (G := Av L σ env) (H := H) (Txt.split a b)) np
      exact k _ _ q1 q2 q3
    · cases eg
  · cases eg
theorem de_join (ho : PE X o (dE c W fa)) (he : PE X e (dE c W fb)) (hs : starEach [e] X.env = [(false, eval e X.env)] := by rfl) (hbase : attributeBase o "join" X.env (eval o X.env) = eval o X.env := by rfl) (hline : (apos.endLine == pos.line) = true := by rfl) (hK : c.K = X.K := by rfl) :
    PE X (.Call (.Attribute o "join" apos) [e] [] pos) (dE c W (eM1 dJoin fa fb)) := PEw (pe_join ho he hs hbase hline) (d_tM1 (d_join hK))
theorem de_split (ho : PE X o (dE c W fa)) (he : PE X e (dE c W fb)) (hs : starEach [e] X.env = [(false, eval e X.env)] := by rfl) (hbase : attributeBase o "split" X.env (eval o X.env) = eval o X.env := by rfl) (hline : (apos.endLine == pos.line) = true := by rfl) :
    PE X (.Call (.Attribute o "split" apos) [e] [] pos) (dE c W (eM1 dSplit fa fb)) := PEw (pe_split ho he hs hbase hline) (d_tM1 d_split)
def dAscii (a : Str) : Option T := some (.im (.bl (Txt.isascii a)))
def dDigit (a : Str) : Option T := some (.im (.bl (Txt.isdigit a)))
theorem de_isascii (ho : PE X o (dE c W fa)) (hbase : attributeBase o "isascii" X.env (eval o X.env) = eval o X.env := by rfl) (hline : (apos.endLine == pos.line) = true := by rfl) : PE X (.Call (.Attribute o "isascii" apos) [] [] pos) (dE c W (eM0 dAscii fa)) :=
  PEw (pe_m0 PySem.F.slot_str_isascii PySem.F.type_str_isascii mt_isascii ho hbase hline) (d_tM0 fun a t H Q eg => by
    cases eg
    exact ⟨_, rfl, _, fun _ _ => .bl _, fun q => ⟨a, rfl, rfl, trivial, q⟩⟩)
theorem de_isdigit (ho : PE X o (dE c W fa)) (hbase : attributeBase o "isdigit" X.env (eval o X.env) = eval o X.env := by rfl) (hline : (apos.endLine == pos.line) = true := by rfl) : PE X (.Call (.Attribute o "isdigit" apos) [] [] pos) (dE c W (eM0 dDigit fa)) :=
  PEw (pe_m0 PySem.F.slot_str_isdigit PySem.F.type_str_isdigit mt_isdigit ho hbase hline) (d_tM0 fun a t H Q eg => by
    cases eg
    exact ⟨_, rfl, _, fun _ _ => .bl _, fun q => ⟨a, rfl, rfl, trivial, q⟩⟩)
/-! ### str, int -/
def dStr : List D → Option T
  | [.int i] => if i.natAbs.log2 < 1920 then some (.im (.str (toString i))) else none
  | [.str a] => some (.im (.str a))
  | _ => none
def dInt : List D → Option T
  | [.str a] => match PySem.intText? a with
    | some n => if a.length ≤ 640 then some (.im (.int n)) else none
    | none => none
  | _ => none
theorem d_str : CallD c (fun xs H Q => (∃ i, xs = [.int i] ∧ i.natAbs.log2 < 1920 ∧ Q (.str (toString i)) H) ∨ (∃ a, xs = [.str a] ∧ Q (.str a) H)) dStr := by
  intro L σ H env xs ds t Q re hx e k
  unfold dStr at e
  split at e
  · split at e
    · rename_i hz
      cases e
      obtain ⟨v, rfl, r⟩ := hx.one
      rw [r.int]
      exact .inl ⟨_, rfl, hz, k _ H re .refl (.str _)⟩
    · cases e
  · cases e
    obtain ⟨v, rfl, r⟩ := hx.one
    rw [r.str]
    exact .inr ⟨_, rfl, k _ H re .refl (.str _)⟩
  · cases e
theorem call_strA : CallR X (.type "str") (fun xs H Q => (∃ i, xs = [.int i] ∧ i.natAbs.log2 < 1920 ∧ Q (.str (toString i)) H) ∨ (∃ a, xs = [.str a] ∧ Q (.str a) H)) := call_str_int.or SkE.call_str_str
theorem d_intS : CallD c (fun xs H Q => ∃ a n, xs = [.str a] ∧ PySem.intText? a = some n ∧ a.length ≤ 640 ∧ Q (.int n) H) dInt := by
  intro L σ H env xs ds t Q re hx e k
  unfold dInt at e
  split at e
  · split at e
    · rename_i n hn
      split at e
      · rename_i hz
        cases e
        obtain ⟨v, rfl, r⟩ := hx.one
        rw [r.str]
        exact ⟨_, n, rfl, hn, hz, k _ H re .refl (.int _)⟩
      · cases e
    · cases e
  · cases e
/-! ### f'..' -/
def dFmt : D → Option T
  | .str y => if y.length ≤ 1000000 then some (.im (.str y)) else none
  | .int i => if i.natAbs.log2 < 1920 then some (.im (.str (toString i))) else none
  | _ => none
theorem de_fmt (he : PE X e (dE c W fa)) : PE X (.FormattedValue e (-1) none pos) (dE c W (eUn dFmt fa)) := PEw (pe_fmt he) (d_tUn (r := fun x H1 Q => (∃ y : Str, x = .str y ∧ y.length ≤ sizeLine ∧ Q (.str y) H1) ∨ ∃ i : Int, x = .int i ∧ i.natAbs.log2 < 1920 ∧ Q (.str (toString i)) H1) (by
  intro L σ H env x dx t Q re hx e k
  unfold dFmt at e
  split at e
  · split at e
    · rename_i hz
      cases e
      exact .inl ⟨_, hx.str, line6 hz, k _ H re .refl (.str _)⟩
    · cases e
  · split at e
    · rename_i hz
      cases e
      exact .inr ⟨_, hx.int, hz, k _ H re .refl (.str _)⟩
    · cases e
  · cases e))
def jsR : List FE → Str → En → R Str
  | [], acc, env => .ok acc env
  | f :: fs, acc, env => (f env).bind fun t e => match t with
    | .im (.str y) => if (acc ++ y).length ≤ 1000000 then jsR fs (acc ++ y) e else .er
    | _ => .er
def eJs (fs : List FE) : FE := fun env => (jsR fs Str.empty env).bind fun y e => .ok (.im (.str y)) e
inductive PJD (X : Cx) (c : Cc) (W : WX) : List Expr → List FE → Prop
  | nil : PJD X c W [] []
  | cons {e fe es fs} (h : PE X e (dE c W fe)) (r : PJD X c W es fs) : PJD X c W (e :: es) (fe :: fs)
theorem PJD.pj : ∀ {es fs}, PJD X c W es fs → PJ X es (fs.map (dE c W))
  | _, _, .nil => .nil
  | _, _, .cons h r => .cons h (PJD.pj r)
theorem js_of : ∀ (fs : List FE) (acc : Str) (L : Addr → Prop) (σ : L2.St) (H : Hp) (env : En) (Q : Str → Hp → Prop), RE c L σ H env → dK c W L σ H env (jsR fs acc env) (fun y _ H' => Q y H') → tJs (fs.map (dE c W)) acc σ H Q
  | [], acc, L, σ, H, env, Q, re, h => h H re .refl
  | f :: fs, acc, L, σ, H, env, Q, re, h => by
    refine dE.of re ((dK.bind h).mono fun t e1 H1 r1 s1 h1 x q1 => ?_)
    cases t with
    | im d =>
      cases d with
      | str y =>
        cases (show Rep c.K (Av L σ e1) H1 x (.str y) from q1)
        dsimp only at h1
        by_cases hz : (acc ++ y).length ≤ 1000000
        · rw [if_pos hz] at h1
          exact ⟨y, rfl, line6 hz, js_of fs (acc ++ y) L σ H1 e1 Q r1 h1⟩
        · rw [if_neg hz] at h1
          exact h1.elim
      | non => exact h1.elim
      | bl b => exact h1.elim
      | int i => exact h1.elim
      | tup xs => exact h1.elim
      | lst xs => exact h1.elim
      | fz xs => exact h1.elim
    | al i => exact h1.elim
    | fr ds => exact h1.elim
    | ft cs => exact h1.elim
theorem de_js {v1 v2 : Expr} {rest : List Expr} {fs : List FE} (h : PJD X c W (v1 :: v2 :: rest) fs) : PE X (.JoinedStr (v1 :: v2 :: rest) pos) (dE c W (eJs fs)) := PEw (pe_joined h.pj) fun σ H Q h => by
  obtain ⟨env, L, re, h⟩ := dE_iff.mp h
  refine js_of fs Str.empty L σ H env (fun out H1 => Q (.str out) H1) re ((dK.bind h).mono fun y e1 H1 r1 s1 h1 => ?_)
  exact h1 H1 r1 .refl _ (.str y)
/-! ### a, b = an own list -/
def gTl (n : Nat) (gs : FGs) : FG := fun t env => match t with
  | .al i => match env[i]? with
    | some (.own _ ds) => if ds.length = n then gs (ds.map fun d => ⟨false, d⟩) env else .er
    | _ => .er
  | _ => .er
theorem dg_lst {gs : FGs} {es : List Expr} {k : Nat} {n : Nat} (hc : X.calm = true) (h : PGs X es (dGs c gs)) (hn : (assignEach es X.env).length = n := by rfl) (hst : (assignEach es X.env).findIdx? (·.1) = none := by rfl) (hK : c.K = X.K := by rfl) : PG X (.Tuple es k pos) (dG c (gTl n gs)) :=
  PGw (pg_unl hc h hn hst) fun v σ H Q h => by
    obtain ⟨env, L, N, t, r, q, h⟩ := h
    unfold gTl at h
    cases t with
    | im d => exact h.elim
    | fr ds => exact h.elim
    | ft ds => exact h.elim
    | al i =>
      dsimp only at h
      cases es : env[i]? with
      | none => rw [es] at h; exact h.elim
      | some s =>
        rw [es] at h
        cases s with
        | no => exact h.elim
        | im d => exact h.elim
        | own io ds =>
          dsimp only at h
          by_cases hl : ds.length = n
          · rw [if_pos hl] at h
            obtain ⟨⟨_, _, _⟩, q2⟩ := q
            obtain ⟨a, xs, e1, e2, rs, _, _⟩ := r.own i io ds es
            rw [e1] at q2
            cases q2
            have conv : ∀ {xs : List V} {ds : List D}, Reps c.K (Av L σ env) H xs ds → RepC c.K (Av (Lu L []) σ env) H [] xs (ds.map fun d => ⟨false, d⟩) := fun {xs ds} r => by
              induction ds generalizing xs with
              | nil => cases r; exact .nil
              | cons d ds ih =>
                cases r with
                | cons r rs => exact .im (r.mono (.refl H) fun b ys g e => ⟨⟨fun z => z.elim g.1 (fun z => nomatch z), g.2⟩, e⟩) (ih rs)
            exact ⟨a, xs, rfl, .inl (.inl e2), by rw [rs.length, hl], env, L, N, [], _, r.less (fun b z => z.elim id (fun z => nomatch z)), conv rs, (fun a z => nomatch z), h⟩
          · rw [if_neg hl] at h
            exact h.elim
end
end DL
/-! DLT: joined texts, what stands in them, and how they are split -/
namespace DL
open PySem PySem.Spec L2 TL
abbrev numS (i : Int) : Str := (toString i : String)
theorem joinL_mem {S : List Nat} {c : Nat} (hS : c ∉ S) : ∀ {ps : List (List Nat)}, (∀ p ∈ ps, c ∉ p) → c ∉ joinL S ps
  | [], _ => by simp [joinL]
  | [p], h => h p (List.mem_singleton.mpr rfl)
  | p :: q :: r, h => by
    show c ∉ p ++ (S ++ joinL S (q :: r))
    have := joinL_mem hS (ps := q :: r) fun z hz => h z (List.mem_cons_of_mem _ hz)
    simp [h p List.mem_cons_self, hS, this]
theorem joinL_len {S : List Nat} {M : Nat} : ∀ {ps : List (List Nat)}, (∀ p ∈ ps, p.length ≤ M) → (joinL S ps).length ≤ ps.length * (M + S.length)
  | [], _ => by simp [joinL]
  | [p], h => by
    have := h p (List.mem_singleton.mpr rfl)
    simp [joinL]
    omega
  | p :: q :: r, h => by
    have h1 := h p List.mem_cons_self
    have := joinL_len (S := S) (ps := q :: r) fun z hz => h z (List.mem_cons_of_mem _ hz)
    show (p ++ (S ++ joinL S (q :: r))).length ≤ _
    simp only [List.length_append, List.length_cons] at this ⊢
    rw [Nat.succ_mul]
    omega
theorem join_tl (y : Str) (ps : List Str) : tl (Txt.join y ps) = joinL (tl y) (ps.map tl) := by rw [join_eq, tl_join]
theorem join_mem {y : Str} {c : Nat} (hy : c ∉ tl y) {ps : List Str} (h : ∀ p ∈ ps, c ∉ tl p) : c ∉ tl (Txt.join y ps) := by
  rw [join_tl]
  refine joinL_mem hy fun p hp => ?_
  obtain ⟨z, hz, rfl⟩ := List.mem_map.mp hp
  exact h z hz
theorem join_len {y : Str} {M : Nat} {ps : List Str} (h : ∀ p ∈ ps, p.length ≤ M) : (Txt.join y ps).length ≤ ps.length * (M + y.length) := by
  rw [len_tl, join_tl, len_tl y]
  have := joinL_len (S := tl y) (M := M) (ps := ps.map tl) fun p hp => by
    obtain ⟨z, hz, rfl⟩ := List.mem_map.mp hp
    rw [← len_tl]
    exact h z hz
  simpa using this
theorem sum_len {M : Nat} : ∀ {ps : List Str}, (∀ p ∈ ps, p.length ≤ M) → (ps.map (·.length)).sum ≤ ps.length * M
  | [], _ => by simp
  | p :: ps, h => by
    have := sum_len (ps := ps) fun z hz => h z (List.mem_cons_of_mem _ hz)
    have := h p List.mem_cons_self
    simp only [List.map_cons, List.sum_cons, List.length_cons]
    rw [Nat.succ_mul]
    omega
theorem dJoin_of {y : Str} {M : Nat} {ps : List Str} {d : D} (hd : items d = some (ps.map D.str)) (h : ∀ p ∈ ps, p.length ≤ M) (hb : ps.length * M + ps.length * y.length ≤ 16777216) : dJoin y d = some (.im (.str (Txt.join y ps))) := by
  unfold dJoin
  rw [hd]
  dsimp only
  rw [strsOf_map]
  dsimp only
  have := sum_len h
  rw [if_pos (by omega)]
theorem dSplit_of {y : Str} {s : Nat} {S : List Nat} (ey : tl y = s :: S) (hk : y.cps.all (· < 256) = true) {ps : List Str} (hne : ps ≠ []) (hp : ∀ p ∈ ps, s ∉ tl p) (hl : (Txt.join y ps).length ≤ 999998) : dSplit (Txt.join y ps) (.str y) = some (.fr (ps.map D.str)) := by
  have h1 : (y.length == 0) = false := by
    rw [len_tl, ey]
    rfl
  show (if (y.length == 0) = false ∧ (Txt.join y ps).length + 2 ≤ 1000000 then _ else _) = _
  rw [if_pos ⟨h1, by omega⟩, split_join ey hk hne hp]
/-- one more piece -/
theorem fold_join {y : Str} : ∀ (ps : List Str) (a : Str) (rs : List Str), tl (ps.foldl (fun x p => x ++ y ++ p) (Txt.join y (rs ++ [a]))) = tl (Txt.join y (rs ++ [a] ++ ps))
  | [], a, rs => by simp
  | p :: ps, a, rs => by
    have e : Txt.join y (rs ++ [a]) ++ y ++ p = Txt.join y ((rs ++ [a]) ++ [p]) := by
      refine ext_tl ?_
      rw [tl_append, tl_append, join_tl, join_tl]
      clear fold_join
      induction rs with
      | nil => simp [joinL]
      | cons b bs ih =>
        cases bs with
        | nil => simp [joinL]
        | cons c cs =>
          have : ∀ (l : List (List Nat)) (z : List Nat), l ≠ [] → joinL (tl y) (z :: l) = z ++ (tl y ++ joinL (tl y) l) := fun l z hl => by
            cases l with
            | nil => exact absurd rfl hl
            | cons _ _ => rfl
          simp only [List.cons_append, List.map_cons, List.map_append] at ih ⊢
          rw [this _ _ (by simp), this _ (tl b) (by simp), List.append_assoc, List.append_assoc, List.append_assoc, ← ih]
          simp
    rw [List.foldl_cons, e, fold_join ps p (rs ++ [a])]
    simp
theorem fold_join1 (y a : Str) (ps : List Str) : ps.foldl (fun x p => x ++ y ++ p) a = Txt.join y (a :: ps) := by
  have h := ext_tl (fold_join (y := y) ps a [])
  have e : Txt.join y ([] ++ [a]) = a := ext_tl (by rw [join_tl]; rfl)
  rw [e] at h
  exact h
theorem join_two (y a b : Str) : Txt.join y [a, b] = a ++ y ++ b := ext_tl (by
  rw [join_tl, tl_append, tl_append]
  simp [joinL])
theorem empty_app (x : Str) : Str.empty ++ x = x := ext_tl (by rw [tl_append]; rfl)
/-! ### numbers below 100 -/
theorem num_ok : ∀ n : Fin 100, let x : Str := (toString ((n.val : Nat) : Int) : String)
    (x == ("-" : Str)) = false ∧ x.length ≤ 2 ∧ Txt.isascii x = true ∧ Txt.isdigit x = true ∧ PySem.intText? x = some (n.val : Int) ∧ (∀ c ∈ tl x, c ≠ 32 ∧ c ≠ 44 ∧ c ≠ 47 ∧ c ≠ 59) := by decide +kernel
end DL
namespace DL
open PySem PySem.Spec L2
def g_ALL_KINDS : D := .tup [.tup [.str "less"], .tup [.str "less", .str "loss"], .tup [.str "loss"]]
def g_DEAR : D := .tup [.str "dear"]
def g_SUM_WORDS : D := .tup [.str "over", .str "each"]
noncomputable def f_is_integer : FS := (sRet (eAn (eIsi "int" (eVar 0)) (eNo (eIsi "bool" (eVar 0)))))
noncomputable def d_is_integer : FD := runD 1 1 f_is_integer
noncomputable def f_is_between : FS := (sRet (eAn (eCall d_is_integer (aCons (eVar 0) aNil)) (eCh dLe dLe (eVar 1) (eVar 0) (eVar 2))))
noncomputable def d_is_between : FD := runD 3 3 f_is_between
noncomputable def f_is_tuple_of : FS := (sRet (eAn (eIsi "tuple" (eVar 0)) (eOp dEqA (eB dLen (aCons (eVar 0) aNil)) (eVar 1))))
noncomputable def d_is_tuple_of : FD := runD 2 2 f_is_tuple_of
noncomputable def f_is_most : FS := (sRet (eOr (eOp dIs (eVar 0) (eC .non)) (eCall d_is_between (aCons (eVar 0) (aCons (eC (.int 1)) (aCons (eC (.int 2)) aNil))))))
noncomputable def d_is_most : FD := runD 1 1 f_is_most
noncomputable def f_is_good : FS := (sSeq (sIf (tNo (tV (eCall d_is_tuple_of (aCons (eVar 0) (aCons (eC (.int 2)) aNil))))) (sRet (eC (.bl false))) sNx)
    (sSeq (sAsg (eVar 0) (gT 2 (gsCons (gN 1) (gsCons (gN 2) gsNil))))
    (sRet (eAn (eCall d_is_between (aCons (eVar 1) (aCons (eC (.int 1)) (aCons (eC (.int 9)) aNil)))) (eCall d_is_between (aCons (eVar 2) (aCons (eC (.int 0)) (aCons (eC (.int 9)) aNil))))))))
noncomputable def d_is_good : FD := runD 3 1 f_is_good
noncomputable def f_is_pack : FS := (sSeq (sIf (tNo (tV (eCall d_is_tuple_of (aCons (eVar 0) (aCons (eC (.int 5)) aNil))))) (sRet (eC (.bl false))) sNx)
    (sSeq (sAsg (eVar 0) (gT 5 (gsCons (gN 2) (gsCons (gN 3) (gsCons (gN 4) (gsCons (gN 5) (gsCons (gN 6) gsNil)))))))
    (sRet (eAn (eCall d_is_between (aCons (eVar 3) (aCons (eC (.int 0)) (aCons (eOp dSub (eVar 1) (eC (.int 1))) aNil)))) (eAn (eCall d_is_between (aCons (eVar 4) (aCons (eC (.int 2)) (aCons (eC (.int 3)) aNil)))) (eAn (eCall d_is_between (aCons (eVar 5) (aCons (eVar 4) (aCons (eC (.int 30)) aNil)))) (eCall d_is_most (aCons (eVar 6) aNil))))))))
noncomputable def d_is_pack : FD := runD 7 2 f_is_pack
noncomputable def f_is_from : FS := (sSeq (sIf (tNo (tV (eCall d_is_tuple_of (aCons (eVar 0) (aCons (eC (.int 4)) aNil))))) (sRet (eC (.bl false))) sNx)
    (sSeq (sAsg (eVar 0) (gT 4 (gsCons (gN 2) (gsCons (gN 3) (gsCons (gN 4) (gsCons (gN 5) gsNil))))))
    (sRet (eAn (eCall d_is_between (aCons (eVar 3) (aCons (eC (.int 0)) (aCons (eOp dSub (eVar 1) (eC (.int 1))) aNil)))) (eAn (eCall d_is_between (aCons (eVar 4) (aCons (eC (.int 2)) (aCons (eC (.int 4)) aNil)))) (eCall d_is_between (aCons (eVar 5) (aCons (eC (.int 1)) (aCons (eC (.int 9)) aNil)))))))))
noncomputable def d_is_from : FD := runD 6 2 f_is_from
noncomputable def f_is_over : FS := (sSeq (sIf (tNo (tV (eCall d_is_tuple_of (aCons (eVar 0) (aCons (eC (.int 3)) aNil))))) (sRet (eC (.bl false))) sNx)
    (sSeq (sAsg (eVar 0) (gT 3 (gsCons (gN 1) (gsCons (gN 2) (gsCons (gN 3) gsNil)))))
    (sRet (eAn (eCall d_is_between (aCons (eVar 2) (aCons (eC (.int 2)) (aCons (eC (.int 12)) aNil)))) (eCall d_is_between (aCons (eVar 3) (aCons (eC (.int 1)) (aCons (eB dMin2 (aCons (eC (.int 6)) (aCons (eVar 2) aNil))) aNil))))))))
noncomputable def d_is_over : FD := runD 4 1 f_is_over
noncomputable def f_is_each : FS := (sSeq (sIf (tNo (tV (eCall d_is_tuple_of (aCons (eVar 0) (aCons (eC (.int 4)) aNil))))) (sRet (eC (.bl false))) sNx)
    (sSeq (sAsg (eVar 0) (gT 4 (gsCons (gN 1) (gsCons (gN 2) (gsCons (gN 3) (gsCons (gN 4) gsNil))))))
    (sSeq (sIf (tOr' (tNo (tV (eCall d_is_between (aCons (eVar 2) (aCons (eC (.int 2)) (aCons (eC (.int 6)) aNil)))))) (tNo (tV (eCall d_is_between (aCons (eVar 3) (aCons (eC (.int 1)) (aCons (eVar 2) aNil))))))) (sRet (eC (.bl false))) sNx)
    (sRet (eAn (eCall d_is_most (aCons (eVar 4) aNil)) (eOr (eOp dNis (eVar 4) (eC .non)) (eOp dLe (eOp dMulA (eC (.int 2)) (eVar 3)) (eVar 2))))))))
noncomputable def d_is_each : FD := runD 5 1 f_is_each
noncomputable def f_is_rule : FS := (sSeq (sIf (tOr' (tNo (tV (eIsi "tuple" (eVar 0)))) (tV (eOp dEqA (eB dLen (aCons (eVar 0) aNil)) (eC (.int 0))))) (sRet (eC (.bl false))) sNx)
    (sSeq (sAsg (eOp dIx (eVar 0) (eC (.int 0))) (gN 2))
    (sSeq (sIf (tNo (tV (eIsi "str" (eVar 2)))) (sRet (eC (.bl false))) sNx)
    (sSeq (sIf (tV (eOp dEqA (eVar 2) (eC (.str "pack")))) (sRet (eCall d_is_pack (aCons (eVar 0) (aCons (eVar 1) aNil)))) sNx)
    (sSeq (sIf (tV (eOp dEqA (eVar 2) (eC (.str "from")))) (sRet (eCall d_is_from (aCons (eVar 0) (aCons (eVar 1) aNil)))) sNx)
    (sSeq (sIf (tV (eOp dEqA (eVar 2) (eC (.str "over")))) (sRet (eCall d_is_over (aCons (eVar 0) aNil))) sNx)
    (sRet (eAn (eOp dEqA (eVar 2) (eC (.str "each"))) (eCall d_is_each (aCons (eVar 0) aNil))))))))))
noncomputable def d_is_rule : FD := runD 3 2 f_is_rule
noncomputable def f_is_endless_each : FS := (sRet (eAn (eOp dEqA (eOp dIx (eVar 0) (eC (.int 0))) (eC (.str "each"))) (eOp dIs (eOp dIx (eVar 0) (eC (.int 3))) (eC .non))))
noncomputable def d_is_endless_each : FD := runD 1 1 f_is_endless_each
noncomputable def f_are_goods : FS := (sSeq (sIf (tOr' (tNo (tV (eIsi "tuple" (eVar 0)))) (tNo (tV (eCh dLe dLe (eC (.int 1)) (eB dLen (aCons (eVar 0) aNil)) (eC (.int 2)))))) (sRet (eC (.bl false))) sNx)
    (sRet (eB dAll (aCons (eLc (fiT (eVar 0)) [1] (.one 1) tT (eCall d_is_good (aCons (eVar 1) aNil))) aNil))))
noncomputable def d_are_goods : FD := runD 2 1 f_are_goods
noncomputable def f_are_rules : FS := (sSeq (sIf (tOr' (tNo (tV (eIsi "tuple" (eVar 0)))) (tV (eOp dGt (eB dLen (aCons (eVar 0) aNil)) (eC (.int 4))))) (sRet (eC (.bl false))) sNx)
    (sSeq (sIf (tNo (tV (eB dAll (aCons (eLc (fiT (eVar 0)) [2] (.one 2) tT (eCall d_is_rule (aCons (eVar 2) (aCons (eVar 1) aNil)))) aNil)))) (sRet (eC (.bl false))) sNx)
    (sRet (eOp dLe (eB dLen (aCons (eLc (fiT (eVar 0)) [2] (.one 2) (tV (eCall d_is_endless_each (aCons (eVar 2) aNil))) (eVar 2)) aNil)) (eC (.int 1))))))
noncomputable def d_are_rules : FD := runD 3 2 f_are_rules
noncomputable def f_is_shop : FS := (sSeq (sIf (tNo (tV (eCall d_is_tuple_of (aCons (eVar 0) (aCons (eC (.int 2)) aNil))))) (sRet (eC (.bl false))) sNx)
    (sSeq (sAsg (eVar 0) (gT 2 (gsCons (gN 1) (gsCons (gN 2) gsNil))))
    (sRet (eAn (eCall d_are_goods (aCons (eVar 1) aNil)) (eCall d_are_rules (aCons (eVar 2) (aCons (eB dLen (aCons (eVar 1) aNil)) aNil)))))))
noncomputable def d_is_shop : FD := runD 3 1 f_is_shop
noncomputable def f__law_cell_at : FS := (sSeq (sIf (tV (eOp dLt (eVar 1) (eB dLen (aCons (eVar 0) aNil)))) (sRet (eOp dIx (eVar 0) (eVar 1))) sNx)
    (sSeq (sIf (tV (eOp dEqA (eVar 0) (eLst aNil))) (sRet (eC (.int 0))) sNx)
    (sSeq (sAsg (eOp dIx (eVar 0) (eOp dMod (eVar 1) (eB dLen (aCons (eVar 0) aNil)))) (gN 2))
    (sSeq (sFor (fiR1 (aCons (eB dMin2 (aCons (eOp dFdiv (eVar 1) (eB dLen (aCons (eVar 0) aNil))) (aCons (eC (.int 60)) aNil))) aNil)) (gN 3) (sAsg (eOp dFdiv (eVar 2) (eC (.int 1000003))) (gN 2)))
    (sRet (eOp dAdd (eOp dAdd (eOp dMulA (eOp dIx (eVar 0) (eOp dMod (eVar 1) (eB dLen (aCons (eVar 0) aNil)))) (eC (.int 31))) (eVar 1)) (eOp dMulA (eVar 2) (eC (.int 101)))))))))
noncomputable def d__law_cell_at : FD := runD 4 2 f__law_cell_at
noncomputable def f__law_mixed : FS := (sSeq (sAsg (eOp dMod (eOp dAdd (eOp dAdd (eOp dMulA (eCall d__law_cell_at (aCons (eVar 0) (aCons (eVar 1) aNil))) (eC (.int 1103515245))) (eOp dMulA (eC (.int 7919)) (eVar 1))) (eC (.int 12345))) (eC (.int 2147483647))) (gN 3))
    (sRet (eOp dMod (eOp dMod (eOp dMod (eOp dPow (eVar 3) (eC (.int 5))) (eC (.int 2147483647))) (eC (.int 999983))) (eVar 2))))
noncomputable def d__law_mixed : FD := runD 4 3 f__law_mixed
noncomputable def f__law_draw : FS := (sSeq (sDrop (eMet kApp (eVar 1) (aCons (eC (.int 0)) aNil)))
    (sRet (eCall d__law_mixed (aCons (eVar 0) (aCons (eB dLen (aCons (eVar 1) aNil)) (aCons (eVar 2) aNil))))))
noncomputable def d__law_draw : FD := runD 3 3 f__law_draw
noncomputable def f__law_pick : FS := (sRet (eOp dIx (eVar 2) (eCallI 1 d__law_draw (aCons (eVar 0) (aCons (eVar 1) (aCons (eB dLen (aCons (eVar 2) aNil)) aNil))))))
noncomputable def d__law_pick : FD := runD 3 3 f__law_pick
noncomputable def f__law_some_rule_1 : FS := (sAsg (eCallI 1 d__law_draw (aCons (eVar 0) (aCons (eVar 1) (aCons (eC (.int 5)) aNil)))) (gN 4))
noncomputable def f__law_some_rule_2 : FS := (sAsg (eCallI 1 d__law_draw (aCons (eVar 0) (aCons (eVar 1) (aCons (eB dLen (aCons (eVar 2) aNil)) aNil)))) (gN 5))
noncomputable def f__law_some_rule_3 : FS := (sAsg (eOp dIx (eOp dIx (eVar 2) (eVar 5)) (eC (.int 0))) (gN 6))
noncomputable def f__law_some_rule_4 : FS := (sIf (tV (eOp dLt (eVar 4) (eC (.int 2)))) (sSeq (sAsg (eOp dAdd (eC (.int 2)) (eCallI 1 d__law_draw (aCons (eVar 0) (aCons (eVar 1) (aCons (eC (.int 2)) aNil))))) (gN 9))
    (sSeq (sAsg (eB dMax2 (aCons (eVar 9) (aCons (eOp dSub (eOp dMulA (eVar 9) (eVar 6)) (eCallI 1 d__law_draw (aCons (eVar 0) (aCons (eVar 1) (aCons (eOp dAdd (eOp dMulA (eC (.int 2)) (eVar 9)) (eC (.int 2))) aNil))))) aNil))) (gN 10))
    (sRet (eTup (aCons (eC (.str "pack")) (aCons (eVar 5) (aCons (eVar 9) (aCons (eVar 10) (aCons (eCallI 1 d__law_pick (aCons (eVar 0) (aCons (eVar 1) (aCons (eTup (aCons (eC .non) (aCons (eC .non) (aCons (eC (.int 1)) (aCons (eC (.int 2)) aNil))))) aNil)))) aNil))))))))) sNx)
noncomputable def f__law_some_rule_5 : FS := (sIf (tV (eOp dEqA (eVar 4) (eC (.int 2)))) (sRet (eTup (aCons (eC (.str "from")) (aCons (eVar 5) (aCons (eOp dAdd (eC (.int 2)) (eCallI 1 d__law_draw (aCons (eVar 0) (aCons (eVar 1) (aCons (eC (.int 3)) aNil))))) (aCons (eB dMax2 (aCons (eC (.int 1)) (aCons (eOp dSub (eVar 6) (eCallI 1 d__law_draw (aCons (eVar 0) (aCons (eVar 1) (aCons (eC (.int 4)) aNil))))) aNil))) aNil)))))) sNx)
noncomputable def f__law_some_rule_6 : FS := (sIf (tV (eOp dEqA (eVar 4) (eC (.int 3)))) (sSeq (sAsg (eOp dAdd (eC (.int 4)) (eCallI 1 d__law_draw (aCons (eVar 0) (aCons (eVar 1) (aCons (eC (.int 9)) aNil))))) (gN 7))
    (sRet (eTup (aCons (eC (.str "over")) (aCons (eVar 7) (aCons (eOp dAdd (eC (.int 1)) (eCallI 1 d__law_draw (aCons (eVar 0) (aCons (eVar 1) (aCons (eC (.int 4)) aNil))))) aNil)))))) sNx)
noncomputable def f__law_some_rule_7 : FS := (sAsg (eOp dAdd (eC (.int 2)) (eCallI 1 d__law_draw (aCons (eVar 0) (aCons (eVar 1) (aCons (eC (.int 5)) aNil))))) (gN 7))
noncomputable def f__law_some_rule_8 : FS := (sAsg (eCallI 1 d__law_pick (aCons (eVar 0) (aCons (eVar 1) (aCons (eIf (tV (eVar 3)) (eTup (aCons (eC (.int 1)) (aCons (eC (.int 2)) aNil))) (eTup (aCons (eC .non) (aCons (eC .non) (aCons (eC (.int 1)) (aCons (eC (.int 2)) aNil)))))) aNil)))) (gN 8))
noncomputable def f__law_some_rule_9 : FS := (sRet (eTup (aCons (eC (.str "each")) (aCons (eVar 7) (aCons (eOp dAdd (eC (.int 1)) (eCallI 1 d__law_draw (aCons (eVar 0) (aCons (eVar 1) (aCons (eOp dFdiv (eVar 7) (eC (.int 2))) aNil))))) (aCons (eVar 8) aNil))))))
noncomputable def f__law_some_rule : FS := sSeq f__law_some_rule_1 (sSeq f__law_some_rule_2 (sSeq f__law_some_rule_3 (sSeq f__law_some_rule_4 (sSeq f__law_some_rule_5 (sSeq f__law_some_rule_6 (sSeq f__law_some_rule_7 (sSeq f__law_some_rule_8 (f__law_some_rule_9))))))))
noncomputable def d__law_some_rule : FD := runD 11 4 f__law_some_rule
noncomputable def f__law_some_goods : FS := (sSeq (sAsg (eIf (tV (eOp dEqA (eCallI 1 d__law_draw (aCons (eVar 0) (aCons (eVar 1) (aCons (eC (.int 3)) aNil)))) (eC (.int 0)))) (eC (.int 2)) (eC (.int 1))) (gN 2))
    (sRet (eB dTuple (aCons (eLc (fiR1 (aCons (eVar 2) aNil)) [3] (.one 3) tT (eTup (aCons (eOp dAdd (eC (.int 3)) (eCallI 1 d__law_draw (aCons (eVar 0) (aCons (eVar 1) (aCons (eC (.int 7)) aNil))))) (aCons (eCallI 1 d__law_draw (aCons (eVar 0) (aCons (eVar 1) (aCons (eC (.int 8)) aNil)))) aNil)))) aNil))))
noncomputable def d__law_some_goods : FD := runD 4 2 f__law_some_goods
noncomputable def f__law_some_shop : FS := (sSeq (sPar 3 4 (aCons (eCallI 1 d__law_some_goods (aCons (eVar 0) (aCons (eVar 1) aNil))) (aCons (eLst aNil) aNil)))
    (sSeq (sFor (fiR1 (aCons (eCallI 1 d__law_draw (aCons (eVar 0) (aCons (eVar 1) (aCons (eC (.int 5)) aNil)))) aNil)) (gN 2) (sSeq (sAsg (eB dAny (aCons (eLc (fiL false (eVar 4)) [6] (.one 6) tT (eAn (eOp dEqA (eOp dIx (eVar 6) (eC (.int 0))) (eC (.str "each"))) (eOp dIs (eOp dIx (eVar 6) (eC (.int 3))) (eC .non)))) aNil)) (gN 5))
    (sDrop (eMet kApp (eVar 4) (aCons (eCallI 1 d__law_some_rule (aCons (eVar 0) (aCons (eVar 1) (aCons (eVar 3) (aCons (eVar 5) aNil))))) aNil)))))
    (sRet (eTup (aCons (eVar 3) (aCons (eB dTuple (aCons (eVar 4) aNil)) aNil))))))
noncomputable def d__law_some_shop : FD := runD 7 2 f__law_some_shop
noncomputable def f_check_shop : FS := (sIf (tNo (tV (eCall d_is_shop (aCons (eVar 0) aNil)))) (sRz "InvalidShop") sNx)
noncomputable def d_check_shop : FD := runD 1 1 f_check_shop
noncomputable def f_are_pieces_1 : FS := (sIf (tNo (tV (eCall d_is_tuple_of (aCons (eVar 1) (aCons (eB dLen (aCons (eOp dIx (eVar 0) (eC (.int 0))) aNil)) aNil))))) (sRet (eC (.bl false))) sNx)
noncomputable def f_are_pieces_2 : FS := (sRet (eB dAll (aCons (eLc (fiT (eVar 1)) [2] (.one 2) tT (eAn (eCall d_is_integer (aCons (eVar 2) aNil)) (eOp dGe (eVar 2) (eC (.int 0))))) aNil)))
noncomputable def f_are_pieces : FS := sSeq f_are_pieces_1 (f_are_pieces_2)
noncomputable def d_are_pieces : FD := runD 3 2 f_are_pieces
noncomputable def f_is_basket : FS := (sSeq (sDrop (eCall d_check_shop (aCons (eVar 0) aNil)))
    (sRet (eAn (eCall d_are_pieces (aCons (eVar 0) (aCons (eVar 1) aNil))) (eOp dLe (eB dMax1 (aCons (eVar 1) aNil)) (eC (.int 1000000))))))
noncomputable def d_is_basket : FD := runD 2 2 f_is_basket
noncomputable def f_check_basket : FS := (sIf (tNo (tV (eCall d_is_basket (aCons (eVar 0) (aCons (eVar 1) aNil))))) (sRz "InvalidBasket") sNx)
noncomputable def d_check_basket : FD := runD 2 2 f_check_basket
noncomputable def f_full_times : FS := (sSeq (sAsg (eOp dFdiv (eVar 0) (eVar 1)) (gN 3))
    (sRet (eIf (tV (eOp dIs (eVar 2) (eC .non))) (eVar 3) (eB dMin2 (aCons (eVar 3) (aCons (eVar 2) aNil))))))
noncomputable def d_full_times : FD := runD 4 3 f_full_times
noncomputable def f_fitting_rule : FS := (sSeq (sFor (fiE true (aCons (eVar 0) aNil)) (gT 2 (gsCons (gN 3) (gsCons (gN 4) gsNil))) (sIf (tAn (tV (eOp (dIn true) (eOp dIx (eVar 4) (eC (.int 0))) (eC g_SUM_WORDS))) (tAn (tV (eOp dEqA (eOp dIx (eVar 4) (eC (.int 1))) (eVar 1))) (tV (eOp dGe (eVar 2) (eOp dIx (eVar 4) (eC (.int 2))))))) (sRet (eVar 3)) sNx))
    (sRet (eC .non)))
noncomputable def d_fitting_rule : FD := runD 5 3 f_fitting_rule
noncomputable def f_pack_times : FS := (sSeq (sAsg (eVar 0) (gT 5 (gsCons (gN 2) (gsCons (gN 2) (gsCons (gN 3) (gsCons (gN 2) (gsCons (gN 4) gsNil)))))))
    (sRet (eCall d_full_times (aCons (eVar 1) (aCons (eVar 3) (aCons (eVar 4) aNil))))))
noncomputable def d_pack_times : FD := runD 5 2 f_pack_times
noncomputable def f_pack_amount : FS := (sSeq (sAsg (eVar 0) (gT 5 (gsCons (gN 4) (gsCons (gN 4) (gsCons (gN 5) (gsCons (gN 6) (gsCons (gN 4) gsNil)))))))
    (sSeq (sAsg (eCall d_pack_times (aCons (eVar 0) (aCons (eVar 2) aNil))) (gN 3))
    (sRet (eOp dAdd (eOp dMulA (eVar 3) (eVar 6)) (eOp dMulA (eOp dSub (eVar 2) (eOp dMulA (eVar 3) (eVar 5))) (eVar 1))))))
noncomputable def d_pack_amount : FD := runD 7 3 f_pack_amount
noncomputable def f_good_amount : FS := (sSeq (sAsg (eVar 0) (gT 2 (gsCons (gN 5) (gsCons (gN 6) gsNil))))
    (sSeq (sAsg (eOp dIx (eVar 5) (eVar 1)) (gT 2 (gsCons (gN 7) (gsCons (gN 8) gsNil))))
    (sSeq (sAsg (eCall d_fitting_rule (aCons (eVar 6) (aCons (eVar 1) (aCons (eVar 2) aNil)))) (gN 3))
    (sSeq (sIf (tV (eOp dIs (eVar 3) (eC .non))) (sRet (eOp dMulA (eVar 2) (eVar 7))) sNx)
    (sSeq (sAsg (eOp dIx (eVar 6) (eVar 3)) (gN 4))
    (sSeq (sIf (tV (eOp dEqA (eOp dIx (eVar 4) (eC (.int 0))) (eC (.str "pack")))) (sRet (eCall d_pack_amount (aCons (eVar 4) (aCons (eVar 7) (aCons (eVar 2) aNil))))) sNx)
    (sRet (eOp dMulA (eVar 2) (eOp dIx (eVar 4) (eC (.int 3)))))))))))
noncomputable def d_good_amount : FD := runD 9 3 f_good_amount
noncomputable def f_amounts_of : FS := (sRet (eB dTuple (aCons (eLc (fiE false (aCons (eVar 1) aNil)) [2, 3] (.tup [2, 3]) tT (eCall d_good_amount (aCons (eVar 0) (aCons (eVar 2) (aCons (eVar 3) aNil))))) aNil)))
noncomputable def d_amounts_of : FD := runD 4 2 f_amounts_of
noncomputable def f_amounts : FS := (sSeq (sDrop (eCall d_check_basket (aCons (eVar 0) (aCons (eVar 1) aNil))))
    (sRet (eCall d_amounts_of (aCons (eVar 0) (aCons (eVar 1) aNil)))))
noncomputable def d_amounts : FD := runD 2 2 f_amounts
noncomputable def f__law_some_basket : FS := (sSeq (sAsg (eCallI 1 d__law_pick (aCons (eVar 0) (aCons (eVar 1) (aCons (eTup (aCons (eC (.int 3)) (aCons (eC (.int 9)) (aCons (eC (.int 30)) (aCons (eC (.int 1000)) aNil))))) aNil)))) (gN 3))
    (sRet (eB dTuple (aCons (eLc (fiT (eOp dIx (eVar 2) (eC (.int 0)))) [4] (.one 4) tT (eCallI 1 d__law_draw (aCons (eVar 0) (aCons (eVar 1) (aCons (eVar 3) aNil))))) aNil))))
noncomputable def d__law_some_basket : FD := runD 5 3 f__law_some_basket
noncomputable def f__law_fits : FS := (sSeq (sFor (fiE true (aCons (eOp dIx (eVar 0) (eC (.int 1))) aNil)) (gT 2 (gsCons (gN 3) (gsCons (gN 4) gsNil))) (sIf (tAn (tV (eOp (dIn false) (eOp dIx (eVar 4) (eC (.int 0))) (eTup (aCons (eC (.str "pack")) (aCons (eC (.str "from")) aNil))))) (tAn (tV (eOp dEqA (eOp dIx (eVar 4) (eC (.int 1))) (eVar 1))) (tV (eOp dLe (eOp dIx (eVar 4) (eC (.int 2))) (eVar 2))))) (sRet (eVar 3)) sNx))
    (sRet (eC .non)))
noncomputable def d__law_fits : FD := runD 5 3 f__law_fits
noncomputable def f__law_amount : FS := (sSeq (sPar 5 6 (aCons (eCall d__law_fits (aCons (eVar 0) (aCons (eVar 1) (aCons (eVar 2) aNil)))) (aCons (eOp dIx (eOp dIx (eOp dIx (eVar 0) (eC (.int 0))) (eVar 1)) (eC (.int 0))) aNil)))
    (sSeq (sIf (tV (eOp dIs (eVar 5) (eC .non))) (sRet (eTup (aCons (eOp dMulA (eVar 2) (eVar 6)) (aCons (eC (.int 0)) aNil)))) sNx)
    (sSeq (sAsg (eOp dIx (eOp dIx (eVar 0) (eC (.int 1))) (eVar 5)) (gN 3))
    (sSeq (sIf (tV (eOp dEqA (eOp dIx (eVar 3) (eC (.int 0))) (eC (.str "from")))) (sRet (eTup (aCons (eOp dMulA (eVar 2) (eOp dIx (eVar 3) (eC (.int 3)))) (aCons (eC (.int 1)) aNil)))) sNx)
    (sSeq (sAsg (eOp dFdiv (eVar 2) (eOp dIx (eVar 3) (eC (.int 2)))) (gN 4))
    (sSeq (sIf (tAn (tV (eOp dNis (eOp dIx (eVar 3) (eC (.int 4))) (eC .non))) (tV (eOp dGt (eVar 4) (eOp dIx (eVar 3) (eC (.int 4)))))) (sAsg (eOp dIx (eVar 3) (eC (.int 4))) (gN 4)) sNx)
    (sRet (eTup (aCons (eOp dAdd (eOp dMulA (eVar 4) (eOp dIx (eVar 3) (eC (.int 3)))) (eOp dMulA (eOp dSub (eVar 2) (eOp dMulA (eVar 4) (eOp dIx (eVar 3) (eC (.int 2))))) (eVar 6))) (aCons (eVar 4) aNil))))))))))
noncomputable def d__law_amount : FD := runD 7 3 f__law_amount
noncomputable def f_off_times : FS := (sSeq (sIf (tV (eOp dEqA (eOp dIx (eVar 0) (eC (.int 0))) (eC (.str "over")))) (sRet (eIf (tV (eOp dGe (eVar 1) (eOp dIx (eVar 0) (eC (.int 1))))) (eC (.int 1)) (eC (.int 0)))) sNx)
    (sSeq (sIf (tV (eOp dEqA (eOp dIx (eVar 0) (eC (.int 0))) (eC (.str "each")))) (sRet (eCall d_full_times (aCons (eVar 1) (aCons (eOp dIx (eVar 0) (eC (.int 1))) (aCons (eOp dIx (eVar 0) (eC (.int 3))) aNil))))) sNx)
    (sRet (eC (.int 0)))))
noncomputable def d_off_times : FD := runD 2 2 f_off_times
noncomputable def b_apply_sums_1_1 : FS := (sAsg (eCall d_off_times (aCons (eVar 4) (aCons (eVar 2) aNil))) (gN 5))
noncomputable def b_apply_sums_1_2 : FS := (sAug 2 dSub (eOp dMulA (eVar 5) (eOp dIx (eVar 4) (eC (.int 2)))))
noncomputable def b_apply_sums_1_3 : FS := (sDrop (eMet kApp (eVar 3) (aCons (eVar 5) aNil)))
noncomputable def b_apply_sums_1 : FS := sSeq b_apply_sums_1_1 (sSeq b_apply_sums_1_2 (b_apply_sums_1_3))
noncomputable def f_apply_sums_1 : FS := (sAsg (eVar 1) (gN 2))
noncomputable def f_apply_sums_2 : FS := (sAsg (eLst aNil) (gN 3))
noncomputable def f_apply_sums_3 : FS := (sFor (fiT (eVar 0)) (gN 4) b_apply_sums_1)
noncomputable def f_apply_sums_4 : FS := (sRet (eTup (aCons (eVar 2) (aCons (eVar 3) aNil))))
noncomputable def f_apply_sums : FS := sSeq f_apply_sums_1 (sSeq f_apply_sums_2 (sSeq f_apply_sums_3 (f_apply_sums_4)))
noncomputable def d_apply_sums : FD := runD 6 2 f_apply_sums
noncomputable def f_left_of_1 : FS := (sAsg (eCall d_apply_sums (aCons (eVar 0) (aCons (eVar 1) aNil))) (gT 2 (gsCons (gN 2) (gsCons (gN 3) gsNil))))
noncomputable def f_left_of_2 : FS := (sRet (eVar 2))
noncomputable def f_left_of : FS := sSeq f_left_of_1 (f_left_of_2)
noncomputable def d_left_of : FD := runD 4 2 f_left_of
noncomputable def f_charge_of : FS := (sRet (eCall d_left_of (aCons (eOp dIx (eVar 0) (eC (.int 1))) (aCons (eB dSum (aCons (eCall d_amounts_of (aCons (eVar 0) (aCons (eVar 1) aNil))) aNil)) aNil))))
noncomputable def d_charge_of : FD := runD 2 2 f_charge_of
noncomputable def f_charge : FS := (sSeq (sDrop (eCall d_check_basket (aCons (eVar 0) (aCons (eVar 1) aNil))))
    (sRet (eCall d_charge_of (aCons (eVar 0) (aCons (eVar 1) aNil)))))
noncomputable def d_charge : FD := runD 2 2 f_charge
noncomputable def b__law_bill_1_1 : FS := (sAsg (eCall d__law_amount (aCons (eVar 0) (aCons (eVar 4) (aCons (eVar 5) aNil)))) (gT 2 (gsCons (gN 8) (gsCons (gN 9) gsNil))))
noncomputable def b__law_bill_1_2 : FS := (sAug 3 dAddI (eVar 8))
noncomputable def b__law_bill_1_3 : FS := (sAsg (eCall d__law_fits (aCons (eVar 0) (aCons (eVar 4) (aCons (eVar 5) aNil)))) (gN 6))
noncomputable def b__law_bill_1_4 : FS := (sIf (tV (eOp dNis (eVar 6) (eC .non))) (sAsg (eVar 9) (gSb (eVar 2) (eVar 6))) sNx)
noncomputable def b__law_bill_1 : FS := sSeq b__law_bill_1_1 (sSeq b__law_bill_1_2 (sSeq b__law_bill_1_3 (b__law_bill_1_4)))
noncomputable def b__law_bill_2_1 : FS := (sIf (tAn (tV (eOp dEqA (eOp dIx (eVar 7) (eC (.int 0))) (eC (.str "over")))) (tV (eOp dGe (eVar 3) (eOp dIx (eVar 7) (eC (.int 1)))))) (sAsg (eTup (aCons (eC (.int 1)) (aCons (eOp dSub (eVar 3) (eOp dIx (eVar 7) (eC (.int 2)))) aNil))) (gT 2 (gsCons (gSb (eVar 2) (eVar 6)) (gsCons (gN 3) gsNil)))) sNx)
noncomputable def b__law_bill_2_2 : FS := (sIf (tV (eOp dEqA (eOp dIx (eVar 7) (eC (.int 0))) (eC (.str "each")))) (sSeq (sAsg (eOp dFdiv (eVar 3) (eOp dIx (eVar 7) (eC (.int 1)))) (gN 9))
    (sSeq (sAsg (eIf (tOr' (tV (eOp dIs (eOp dIx (eVar 7) (eC (.int 3))) (eC .non))) (tV (eOp dLt (eVar 9) (eOp dIx (eVar 7) (eC (.int 3)))))) (eVar 9) (eOp dIx (eVar 7) (eC (.int 3)))) (gN 9))
    (sAsg (eTup (aCons (eVar 9) (aCons (eOp dSub (eVar 3) (eOp dMulA (eVar 9) (eOp dIx (eVar 7) (eC (.int 2))))) aNil))) (gT 2 (gsCons (gSb (eVar 2) (eVar 6)) (gsCons (gN 3) gsNil)))))) sNx)
noncomputable def b__law_bill_2 : FS := sSeq b__law_bill_2_1 (b__law_bill_2_2)
noncomputable def f__law_bill_1 : FS := (sPar 2 3 (aCons (eOp dMulA (eLst (aCons (eC (.int 0)) aNil)) (eB dLen (aCons (eOp dIx (eVar 0) (eC (.int 1))) aNil))) (aCons (eC (.int 0)) aNil)))
noncomputable def f__law_bill_2 : FS := (sFor (fiE true (aCons (eVar 1) aNil)) (gT 2 (gsCons (gN 4) (gsCons (gN 5) gsNil))) b__law_bill_1)
noncomputable def f__law_bill_3 : FS := (sFor (fiE true (aCons (eOp dIx (eVar 0) (eC (.int 1))) aNil)) (gT 2 (gsCons (gN 6) (gsCons (gN 7) gsNil))) b__law_bill_2)
noncomputable def f__law_bill_4 : FS := (sRet (eTup (aCons (eVar 3) (aCons (eVar 2) aNil))))
noncomputable def f__law_bill : FS := sSeq f__law_bill_1 (sSeq f__law_bill_2 (sSeq f__law_bill_3 (f__law_bill_4)))
noncomputable def d__law_bill : FD := runD 10 2 f__law_bill
noncomputable def b_uses_of_1_1 : FS := (sAsg (eCall d_fitting_rule (aCons (eVar 2) (aCons (eVar 5) (aCons (eVar 6) aNil)))) (gN 7))
noncomputable def b_uses_of_1_2 : FS := (sIf (tV (eOp dNis (eVar 7) (eC .non))) (sSeq (sAsg (eOp dIx (eVar 2) (eVar 7)) (gN 8))
    (sAsg (eIf (tV (eOp dEqA (eOp dIx (eVar 8) (eC (.int 0))) (eC (.str "pack")))) (eCall d_pack_times (aCons (eVar 8) (aCons (eVar 6) aNil))) (eC (.int 1))) (gSb (eVar 4) (eVar 7)))) sNx)
noncomputable def b_uses_of_1 : FS := sSeq b_uses_of_1_1 (b_uses_of_1_2)
noncomputable def f_uses_of_1 : FS := (sAsg (eOp dIx (eVar 0) (eC (.int 1))) (gN 2))
noncomputable def f_uses_of_2 : FS := (sAsg (eCall d_apply_sums (aCons (eVar 2) (aCons (eB dSum (aCons (eCall d_amounts_of (aCons (eVar 0) (aCons (eVar 1) aNil))) aNil)) aNil))) (gT 2 (gsCons (gN 3) (gsCons (gN 4) gsNil))))
noncomputable def f_uses_of_3 : FS := (sFor (fiE true (aCons (eVar 1) aNil)) (gT 2 (gsCons (gN 5) (gsCons (gN 6) gsNil))) b_uses_of_1)
noncomputable def f_uses_of_4 : FS := (sRet (eB dTuple (aCons (eVar 4) aNil)))
noncomputable def f_uses_of : FS := sSeq f_uses_of_1 (sSeq f_uses_of_2 (sSeq f_uses_of_3 (f_uses_of_4)))
noncomputable def d_uses_of : FD := runD 9 2 f_uses_of
noncomputable def f_uses : FS := (sSeq (sDrop (eCall d_check_basket (aCons (eVar 0) (aCons (eVar 1) aNil))))
    (sRet (eCall d_uses_of (aCons (eVar 0) (aCons (eVar 1) aNil)))))
noncomputable def d_uses : FD := runD 2 2 f_uses
noncomputable def f_costs_of : FS := (sRet (eB dSum (aCons (eLc (fiZ false (aCons (eOp dIx (eVar 0) (eC (.int 0))) (aCons (eVar 1) aNil))) [2, 3] (.tup [2, 3]) tT (eOp dMulA (eOp dIx (eVar 2) (eC (.int 1))) (eVar 3))) aNil)))
noncomputable def d_costs_of : FD := runD 4 2 f_costs_of
noncomputable def f_gain_of : FS := (sRet (eOp dSub (eCall d_charge_of (aCons (eVar 0) (aCons (eVar 1) aNil))) (eCall d_costs_of (aCons (eVar 0) (aCons (eVar 1) aNil)))))
noncomputable def d_gain_of : FD := runD 2 2 f_gain_of
noncomputable def f_gain : FS := (sSeq (sDrop (eCall d_check_basket (aCons (eVar 0) (aCons (eVar 1) aNil))))
    (sRet (eCall d_gain_of (aCons (eVar 0) (aCons (eVar 1) aNil)))))
noncomputable def d_gain : FD := runD 2 2 f_gain
noncomputable def f__law_costs : FS := (sRet (eB dSum (aCons (eLc (fiZ false (aCons (eOp dIx (eVar 0) (eC (.int 0))) (aCons (eVar 1) aNil))) [2, 3] (.tup [2, 3]) tT (eOp dMulA (eOp dIx (eVar 2) (eC (.int 1))) (eVar 3))) aNil)))
noncomputable def d__law_costs : FD := runD 4 2 f__law_costs
noncomputable def f_without_rule_1 : FS := (sAsg (eVar 0) (gT 2 (gsCons (gN 2) (gsCons (gN 3) gsNil))))
noncomputable def f_without_rule_2 : FS := (sRet (eTup (aCons (eVar 2) (aCons (eOp dAdd (eSl (eVar 3) tNp (tPa (eVar 1))) (eSl (eVar 3) (tPa (eOp dAdd (eVar 1) (eC (.int 1)))) tNp)) aNil))))
noncomputable def f_without_rule : FS := sSeq f_without_rule_1 (f_without_rule_2)
noncomputable def d_without_rule : FD := runD 4 2 f_without_rule
noncomputable def f_effects_1 : FS := (sDrop (eCall d_check_basket (aCons (eVar 0) (aCons (eVar 1) aNil))))
noncomputable def f_effects_2 : FS := (sAsg (eCall d_charge_of (aCons (eVar 0) (aCons (eVar 1) aNil))) (gN 2))
noncomputable def f_effects_3 : FS := (sRet (eLc (fiR1 (aCons (eB dLen (aCons (eOp dIx (eVar 0) (eC (.int 1))) aNil)) aNil)) [3] (.one 3) tT (eOp dSub (eCall d_charge_of (aCons (eCall d_without_rule (aCons (eVar 0) (aCons (eVar 3) aNil))) (aCons (eVar 1) aNil))) (eVar 2))))
noncomputable def f_effects : FS := sSeq f_effects_1 (sSeq f_effects_2 (f_effects_3))
noncomputable def d_effects : FD := runD 4 2 f_effects
noncomputable def f_baskets_of_1 : FS := (sIf (tV (eOp dEqA (eB dLen (aCons (eVar 1) aNil)) (eC (.int 1)))) (sRet (eIf (tV (eOp dLe (eVar 0) (eOp dIx (eVar 1) (eC (.int 0))))) (eLst (aCons (eTup (aCons (eVar 0) aNil)) aNil)) (eLst aNil))) sNx)
noncomputable def f_baskets_of_2 : FS := (sAsg (eVar 1) (gT 2 (gsCons (gN 3) (gsCons (gN 4) gsNil))))
noncomputable def f_baskets_of_3 : FS := sEr
noncomputable def f_baskets_of_4 : FS := (sRet (eLc (fiT (eVar 2)) [5] (.one 5) tT (eTup (aCons (eVar 5) (aCons (eOp dSub (eVar 0) (eVar 5)) aNil)))))
noncomputable def f_baskets_of : FS := sSeq f_baskets_of_1 (sSeq f_baskets_of_2 (sSeq f_baskets_of_3 (f_baskets_of_4)))
noncomputable def d_baskets_of : FD := runD 6 2 f_baskets_of
noncomputable def f_baskets_within : FS := sEr
noncomputable def d_baskets_within : FD := runD 3 1 f_baskets_within
noncomputable def b_sums_within_1_1 : FS := (sAsg (eLc (fiR1 (aCons (eOp dAdd (eVar 4) (eC (.int 1))) aNil)) [7] (.one 7) tT (eCall d_good_amount (aCons (eVar 0) (aCons (eVar 3) (aCons (eVar 7) aNil))))) (gN 5))
noncomputable def b_sums_within_1_2 : FS := sEr
noncomputable def b_sums_within_1_3 : FS := (sAsg (eVar 6) (gN 2))
noncomputable def b_sums_within_1 : FS := sSeq b_sums_within_1_1 (sSeq b_sums_within_1_2 (b_sums_within_1_3))
noncomputable def f_sums_within_1 : FS := sEr
noncomputable def f_sums_within_2 : FS := (sFor (fiE true (aCons (eVar 1) aNil)) (gT 2 (gsCons (gN 3) (gsCons (gN 4) gsNil))) b_sums_within_1)
noncomputable def f_sums_within_3 : FS := (sRet (eVar 2))
noncomputable def f_sums_within : FS := sSeq f_sums_within_1 (sSeq f_sums_within_2 (f_sums_within_3))
noncomputable def d_sums_within : FD := runD 11 2 f_sums_within
noncomputable def f_charges_within_1 : FS := (sAsg (eCall d_sums_within (aCons (eVar 0) (aCons (eVar 1) aNil))) (gN 2))
noncomputable def f_charges_within_2 : FS := sEr
noncomputable def f_charges_within_3 : FS := sEr
noncomputable def f_charges_within : FS := sSeq f_charges_within_1 (sSeq f_charges_within_2 (f_charges_within_3))
noncomputable def d_charges_within : FD := runD 6 2 f_charges_within
noncomputable def f_rounded_up : FS := (sRet (eOp dFdiv (eOp dSub (eOp dAdd (eVar 0) (eVar 1)) (eC (.int 1))) (eVar 1)))
noncomputable def d_rounded_up : FD := runD 2 2 f_rounded_up
noncomputable def b_sum_growth_1_1 : FS := (sIf (tV (eOp dEqA (eOp dIx (eVar 1) (eC (.int 0))) (eC (.str "over")))) (sSeq (sAsg (eVar 1) (gT 3 (gsCons (gN 5) (gsCons (gN 6) (gsCons (gN 7) gsNil)))))
    (sAsg (eB dMax2 (aCons (eVar 6) (aCons (eOp dAdd (eVar 2) (eVar 7)) aNil))) (gN 2))) (sIf (tV (eOp dEqA (eOp dIx (eVar 1) (eC (.int 0))) (eC (.str "each")))) (sSeq (sAsg (eVar 1) (gT 4 (gsCons (gN 5) (gsCons (gN 6) (gsCons (gN 7) (gsCons (gN 8) gsNil))))))
    (sIf (tV (eOp dIs (eVar 8) (eC .non))) (sSeq (sPar 3 4 (aCons (eVar 6) (aCons (eOp dSub (eVar 6) (eVar 7)) aNil)))
    (sAsg (eOp dMulA (eVar 6) (eCall d_rounded_up (aCons (eVar 2) (aCons (eVar 4) aNil)))) (gN 2))) (sAsg (eB dMax2 (aCons (eOp dMulA (eVar 8) (eVar 6)) (aCons (eOp dAdd (eVar 2) (eOp dMulA (eVar 8) (eVar 7))) aNil))) (gN 2)))) sNx))
noncomputable def b_sum_growth_1 : FS := b_sum_growth_1_1
noncomputable def f_sum_growth_1 : FS := (sAsg (eTup (aCons (eC (.int 0)) (aCons (eC (.int 1)) (aCons (eC (.int 1)) aNil)))) (gT 3 (gsCons (gN 2) (gsCons (gN 3) (gsCons (gN 4) gsNil)))))
noncomputable def f_sum_growth_2 : FS := (sFor (fiV (eVar 0)) (gN 1) b_sum_growth_1)
noncomputable def f_sum_growth_3 : FS := (sRet (eTup (aCons (eVar 2) (aCons (eVar 3) (aCons (eVar 4) aNil)))))
noncomputable def f_sum_growth : FS := sSeq f_sum_growth_1 (sSeq f_sum_growth_2 (f_sum_growth_3))
noncomputable def d_sum_growth : FD := runD 9 1 f_sum_growth
noncomputable def f_good_growth_1 : FS := (sAsg (eVar 0) (gT 2 (gsCons (gN 4) (gsCons (gN 5) gsNil))))
noncomputable def f_good_growth_2 : FS := (sAsg (eOp dIx (eVar 4) (eVar 1)) (gT 2 (gsCons (gN 6) (gsCons (gN 7) gsNil))))
noncomputable def f_good_growth_3 : FS := (sAsg (eCall d_fitting_rule (aCons (eVar 5) (aCons (eVar 1) (aCons (eC (.int 1000000)) aNil)))) (gN 2))
noncomputable def f_good_growth_4 : FS := (sIf (tV (eOp dIs (eVar 2) (eC .non))) (sRet (eTup (aCons (eC (.int 0)) (aCons (eC (.int 1)) (aCons (eVar 6) aNil))))) sNx)
noncomputable def f_good_growth_5 : FS := (sAsg (eOp dIx (eVar 5) (eVar 2)) (gN 3))
noncomputable def f_good_growth_6 : FS := (sIf (tV (eOp dEqA (eOp dIx (eVar 3) (eC (.int 0))) (eC (.str "from")))) (sRet (eTup (aCons (eOp dIx (eVar 3) (eC (.int 2))) (aCons (eC (.int 1)) (aCons (eOp dIx (eVar 3) (eC (.int 3))) aNil))))) sNx)
noncomputable def f_good_growth_7 : FS := (sAsg (eVar 3) (gT 5 (gsCons (gN 7) (gsCons (gN 7) (gsCons (gN 8) (gsCons (gN 9) (gsCons (gN 10) gsNil)))))))
noncomputable def f_good_growth_8 : FS := (sIf (tV (eOp dIs (eVar 10) (eC .non))) (sRet (eTup (aCons (eVar 8) (aCons (eVar 8) (aCons (eVar 9) aNil))))) sNx)
noncomputable def f_good_growth_9 : FS := (sRet (eTup (aCons (eOp dMulA (eVar 10) (eVar 8)) (aCons (eC (.int 1)) (aCons (eVar 6) aNil)))))
noncomputable def f_good_growth : FS := sSeq f_good_growth_1 (sSeq f_good_growth_2 (sSeq f_good_growth_3 (sSeq f_good_growth_4 (sSeq f_good_growth_5 (sSeq f_good_growth_6 (sSeq f_good_growth_7 (sSeq f_good_growth_8 (f_good_growth_9))))))))
noncomputable def d_good_growth : FD := runD 11 2 f_good_growth
noncomputable def f_settled_pieces_1 : FS := (sAsg (eCall d_good_growth (aCons (eVar 0) (aCons (eVar 1) aNil))) (gT 3 (gsCons (gN 4) (gsCons (gN 5) (gsCons (gN 6) gsNil)))))
noncomputable def f_settled_pieces_2 : FS := (sAsg (eB dMin1 (aCons (eLc (fiR1 (aCons (eVar 5) aNil)) [7] (.one 7) tT (eCall d_good_amount (aCons (eVar 0) (aCons (eVar 1) (aCons (eOp dAdd (eVar 4) (eVar 7)) aNil))))) aNil)) (gN 3))
noncomputable def f_settled_pieces_3 : FS := (sRet (eOp dAdd (eVar 4) (eOp dMulA (eVar 5) (eCall d_rounded_up (aCons (eB dMax2 (aCons (eC (.int 0)) (aCons (eOp dSub (eVar 2) (eVar 3)) aNil))) (aCons (eVar 6) aNil))))))
noncomputable def f_settled_pieces : FS := sSeq f_settled_pieces_1 (sSeq f_settled_pieces_2 (f_settled_pieces_3))
noncomputable def d_settled_pieces : FD := runD 8 3 f_settled_pieces
noncomputable def f_cycle_1 : FS := (sAsg (eCall d_sum_growth (aCons (eOp dIx (eVar 0) (eC (.int 1))) aNil)) (gT 3 (gsCons (gN 2) (gsCons (gN 3) (gsCons (gN 4) gsNil)))))
noncomputable def f_cycle_2 : FS := (sAsg (eCall d_good_growth (aCons (eVar 0) (aCons (eVar 1) aNil))) (gT 3 (gsCons (gN 5) (gsCons (gN 6) (gsCons (gN 7) gsNil)))))
noncomputable def f_cycle_3 : FS := (sRet (eTup (aCons (eCall d_settled_pieces (aCons (eVar 0) (aCons (eVar 1) (aCons (eVar 2) aNil)))) (aCons (eOp dMulA (eVar 6) (eVar 3)) (aCons (eOp dMulA (eVar 7) (eVar 4)) aNil)))))
noncomputable def f_cycle : FS := sSeq f_cycle_1 (sSeq f_cycle_2 (f_cycle_3))
noncomputable def d_cycle : FD := runD 8 2 f_cycle
noncomputable def f_cycles : FS := (sRet (eLc (fiR1 (aCons (eB dLen (aCons (eOp dIx (eVar 0) (eC (.int 0))) aNil)) aNil)) [1] (.one 1) tT (eCall d_cycle (aCons (eVar 0) (aCons (eVar 1) aNil)))))
noncomputable def d_cycles : FD := runD 2 1 f_cycles
noncomputable def f_check_few_1 : FS := (sDrop (eCall d_check_basket (aCons (eVar 0) (aCons (eVar 1) aNil))))
noncomputable def f_check_few_2 : FS := (sIf (tV (eOp dGt (eB dSum (aCons (eVar 1) aNil)) (eC (.int 100)))) (sRz "InvalidBasket") sNx)
noncomputable def f_check_few : FS := sSeq f_check_few_1 (f_check_few_2)
noncomputable def d_check_few : FD := runD 2 2 f_check_few
noncomputable def f_contains : FS := (sRet (eB dAll (aCons (eLc (fiZ false (aCons (eVar 0) (aCons (eVar 1) aNil))) [2, 3] (.tup [2, 3]) tT (eOp dGe (eVar 2) (eVar 3))) aNil)))
noncomputable def d_contains : FD := runD 4 2 f_contains
noncomputable def f_limits_above : FS := sEr
noncomputable def d_limits_above : FD := runD 6 2 f_limits_above
noncomputable def f_charges_above_1 : FS := (sAsg (eCall d_limits_above (aCons (eVar 0) (aCons (eVar 1) aNil))) (gN 2))
noncomputable def f_charges_above_2 : FS := (sAsg (eCall d_charges_within (aCons (eVar 0) (aCons (eVar 2) aNil))) (gN 3))
noncomputable def f_charges_above_3 : FS := (sRet (eLc (fiL false (eCall d_baskets_within (aCons (eVar 2) aNil))) [4] (.one 4) (tV (eCall d_contains (aCons (eVar 4) (aCons (eVar 1) aNil)))) (eTup (aCons (eOp dIx (eVar 3) (eVar 4)) (aCons (eVar 4) aNil)))))
noncomputable def f_charges_above : FS := sSeq f_charges_above_1 (sSeq f_charges_above_2 (f_charges_above_3))
noncomputable def d_charges_above : FD := runD 5 2 f_charges_above
noncomputable def f_least_above_1 : FS := (sDrop (eCall d_check_few (aCons (eVar 0) (aCons (eVar 1) aNil))))
noncomputable def f_least_above_2 : FS := (sAsg (eCall d_charges_above (aCons (eVar 0) (aCons (eVar 1) aNil))) (gN 2))
noncomputable def f_least_above_3 : FS := (sAsg (eB dMin1 (aCons (eLc (fiL false (eVar 2)) [5, 7] (.tup [5, 7]) tT (eVar 5)) aNil)) (gN 3))
noncomputable def f_least_above_4 : FS := (sAsg (eLc (fiL false (eVar 2)) [5, 6] (.tup [5, 6]) (tV (eOp dEqA (eVar 5) (eVar 3))) (eVar 6)) (gN 4))
noncomputable def f_least_above_5 : FS := (sRet (eTup (aCons (eVar 3) (aCons (eOp dIx (eVar 4) (eC (.int 0))) aNil))))
noncomputable def f_least_above : FS := sSeq f_least_above_1 (sSeq f_least_above_2 (sSeq f_least_above_3 (sSeq f_least_above_4 (f_least_above_5))))
noncomputable def d_least_above : FD := runD 8 2 f_least_above
noncomputable def b_fewest_more_1_1 : FS := (sIf (tV (eOp dLt (eVar 3) (eVar 2))) (sRet (eVar 4)) sNx)
noncomputable def b_fewest_more_1 : FS := b_fewest_more_1_1
noncomputable def f_fewest_more_1 : FS := (sDrop (eCall d_check_few (aCons (eVar 0) (aCons (eVar 1) aNil))))
noncomputable def f_fewest_more_2 : FS := (sAsg (eCall d_charge_of (aCons (eVar 0) (aCons (eVar 1) aNil))) (gN 2))
noncomputable def f_fewest_more_3 : FS := (sFor (fiL true (eCall d_charges_above (aCons (eVar 0) (aCons (eVar 1) aNil)))) (gT 2 (gsCons (gN 3) (gsCons (gN 4) gsNil))) b_fewest_more_1)
noncomputable def f_fewest_more_4 : FS := (sRet (eC .non))
noncomputable def f_fewest_more : FS := sSeq f_fewest_more_1 (sSeq f_fewest_more_2 (sSeq f_fewest_more_3 (f_fewest_more_4)))
noncomputable def d_fewest_more : FD := runD 5 2 f_fewest_more
noncomputable def f__law_more : FS := (sRet (eOp dAdd (eOp dAdd (eSl (eVar 0) tNp (tPa (eVar 1))) (eTup (aCons (eOp dAdd (eOp dIx (eVar 0) (eVar 1)) (eVar 2)) aNil))) (eSl (eVar 0) (tPa (eOp dAdd (eVar 1) (eC (.int 1)))) tNp)))
noncomputable def d__law_more : FD := runD 3 3 f__law_more
noncomputable def f_with_more : FS := (sRet (eOp dAdd (eOp dAdd (eSl (eVar 0) tNp (tPa (eVar 1))) (eTup (aCons (eOp dAdd (eOp dIx (eVar 0) (eVar 1)) (eVar 2)) aNil))) (eSl (eVar 0) (tPa (eOp dAdd (eVar 1) (eC (.int 1)))) tNp)))
noncomputable def d_with_more : FD := runD 3 3 f_with_more
noncomputable def f_box_of : FS := (sRet (eB dTuple (aCons (eLc (fiL false (eCall d_cycles (aCons (eVar 0) aNil))) [1, 2, 3] (.tup [1, 2, 3]) tT (eOp dSub (eOp dAdd (eVar 1) (eVar 2)) (eC (.int 1)))) aNil)))
noncomputable def d_box_of : FD := runD 4 1 f_box_of
noncomputable def b_find_less_1_1 : FS := (sIf (tV (eOp dLt (eOp dIx (eVar 2) (eCall d_with_more (aCons (eVar 3) (aCons (eVar 4) (aCons (eC (.int 1)) aNil))))) (eOp dIx (eVar 2) (eVar 3)))) (sRet (eTup (aCons (eC (.str "less")) (aCons (eVar 3) (aCons (eVar 4) aNil))))) sNx)
noncomputable def b_find_less_1 : FS := b_find_less_1_1
noncomputable def b_find_less_2_1 : FS := (sFor (fiR1 (aCons (eB dLen (aCons (eVar 1) aNil)) aNil)) (gN 4) b_find_less_1)
noncomputable def b_find_less_2 : FS := b_find_less_2_1
noncomputable def f_find_less_1 : FS := (sAsg (eCall d_box_of (aCons (eVar 0) aNil)) (gN 1))
noncomputable def f_find_less_2 : FS := (sAsg (eCall d_charges_within (aCons (eVar 0) (aCons (eLc (fiT (eVar 1)) [5] (.one 5) tT (eOp dAdd (eVar 5) (eC (.int 1)))) aNil))) (gN 2))
noncomputable def f_find_less_3 : FS := (sFor (fiL true (eCall d_baskets_within (aCons (eVar 1) aNil))) (gN 3) b_find_less_2)
noncomputable def f_find_less_4 : FS := (sRet (eC .non))
noncomputable def f_find_less : FS := sSeq f_find_less_1 (sSeq f_find_less_2 (sSeq f_find_less_3 (f_find_less_4)))
noncomputable def d_find_less : FD := runD 6 1 f_find_less
noncomputable def f_has_less_1 : FS := (sDrop (eCall d_check_shop (aCons (eVar 0) aNil)))
noncomputable def f_has_less_2 : FS := (sRet (eOp dNis (eCall d_find_less (aCons (eVar 0) aNil)) (eC .non)))
noncomputable def f_has_less : FS := sSeq f_has_less_1 (f_has_less_2)
noncomputable def d_has_less : FD := runD 1 1 f_has_less
noncomputable def f_first_less_1 : FS := (sDrop (eCall d_check_shop (aCons (eVar 0) aNil)))
noncomputable def f_first_less_2 : FS := (sAsg (eCall d_find_less (aCons (eVar 0) aNil)) (gN 1))
noncomputable def f_first_less_3 : FS := (sIf (tV (eOp dIs (eVar 1) (eC .non))) (sRz "NoFault") sNx)
noncomputable def f_first_less_4 : FS := (sRet (eVar 1))
noncomputable def f_first_less : FS := sSeq f_first_less_1 (sSeq f_first_less_2 (sSeq f_first_less_3 (f_first_less_4)))
noncomputable def d_first_less : FD := runD 2 1 f_first_less
noncomputable def f__law_same_truth : FS := (sRet (eAn (eIsi "bool" (eVar 0)) (eOp dEqA (eVar 0) (eVar 1))))
noncomputable def d__law_same_truth : FD := runD 2 2 f__law_same_truth
noncomputable def b__law_high_1_1 : FS := (sIf (tV (eOp dEqA (eOp dIx (eVar 1) (eC (.int 0))) (eC (.str "over")))) (sPar 4 5 (aCons (eOp dAdd (eVar 4) (eOp dIx (eVar 1) (eC (.int 2)))) (aCons (eB dMax2 (aCons (eVar 5) (aCons (eOp dIx (eVar 1) (eC (.int 1))) aNil))) aNil))) sNx)
noncomputable def b__law_high_1_2 : FS := (sIf (tAn (tV (eOp dEqA (eOp dIx (eVar 1) (eC (.int 0))) (eC (.str "each")))) (tV (eOp dNis (eOp dIx (eVar 1) (eC (.int 3))) (eC .non)))) (sPar 4 5 (aCons (eOp dAdd (eVar 4) (eOp dMulA (eOp dIx (eVar 1) (eC (.int 2))) (eOp dIx (eVar 1) (eC (.int 3))))) (aCons (eB dMax2 (aCons (eVar 5) (aCons (eOp dMulA (eOp dIx (eVar 1) (eC (.int 1))) (eOp dIx (eVar 1) (eC (.int 3)))) aNil))) aNil))) sNx)
noncomputable def b__law_high_1 : FS := sSeq b__law_high_1_1 (b__law_high_1_2)
noncomputable def b__law_high_2_1 : FS := (sAug 6 dAddI (eC (.int 1)))
noncomputable def b__law_high_2 : FS := b__law_high_2_1
noncomputable def b__law_high_3_1 : FS := (sAsg (eC (.int 6)) (gN 6))
noncomputable def b__law_high_3_2 : FS := (sWhile 1000 (tV (eOp dLt (eOp dIx (eCall d__law_amount (aCons (eVar 0) (aCons (eVar 3) (aCons (eVar 6) aNil)))) (eC (.int 0))) (eOp dAdd (eOp dMulA (eC (.int 2)) (eOp dAdd (eVar 5) (eVar 4))) (eVar 4)))) b__law_high_2)
noncomputable def b__law_high_3_3 : FS := (sDrop (eMet kApp (eVar 2) (aCons (eOp dAdd (eVar 6) (eC (.int 18))) aNil)))
noncomputable def b__law_high_3 : FS := sSeq b__law_high_3_1 (sSeq b__law_high_3_2 (b__law_high_3_3))
noncomputable def f__law_high_1 : FS := (sPar 4 5 (aCons (eC (.int 0)) (aCons (eC (.int 0)) aNil)))
noncomputable def f__law_high_2 : FS := (sFor (fiT (eOp dIx (eVar 0) (eC (.int 1)))) (gN 1) b__law_high_1)
noncomputable def f__law_high_3 : FS := (sAsg (eLst aNil) (gN 2))
noncomputable def f__law_high_4 : FS := (sFor (fiR1 (aCons (eB dLen (aCons (eOp dIx (eVar 0) (eC (.int 0))) aNil)) aNil)) (gN 3) b__law_high_3)
noncomputable def f__law_high_5 : FS := (sRet (eVar 2))
noncomputable def f__law_high : FS := sSeq f__law_high_1 (sSeq f__law_high_2 (sSeq f__law_high_3 (sSeq f__law_high_4 (f__law_high_5))))
noncomputable def d__law_high : FD := runD 7 1 f__law_high
noncomputable def b__law_baskets_1_1 : FS := (sIf (tV (eOp dLe (eOp dSub (eVar 2) (eVar 3)) (eOp dIx (eVar 0) (eC (.int 1))))) (sDrop (eMet kApp (eVar 1) (aCons (eTup (aCons (eVar 3) (aCons (eOp dSub (eVar 2) (eVar 3)) aNil))) aNil))) sNx)
noncomputable def b__law_baskets_1 : FS := b__law_baskets_1_1
noncomputable def b__law_baskets_2_1 : FS := (sFor (fiR1 (aCons (eOp dAdd (eB dMin2 (aCons (eVar 2) (aCons (eOp dIx (eVar 0) (eC (.int 0))) aNil))) (eC (.int 1))) aNil)) (gN 3) b__law_baskets_1)
noncomputable def b__law_baskets_2 : FS := b__law_baskets_2_1
noncomputable def f__law_baskets_1 : FS := (sIf (tV (eOp dEqA (eB dLen (aCons (eVar 0) aNil)) (eC (.int 1)))) (sRet (eLc (fiR1 (aCons (eOp dAdd (eOp dIx (eVar 0) (eC (.int 0))) (eC (.int 1))) aNil)) [4] (.one 4) tT (eTup (aCons (eVar 4) aNil)))) sNx)
noncomputable def f__law_baskets_2 : FS := (sAsg (eLst aNil) (gN 1))
noncomputable def f__law_baskets_3 : FS := (sFor (fiR1 (aCons (eOp dAdd (eB dSum (aCons (eVar 0) aNil)) (eC (.int 1))) aNil)) (gN 2) b__law_baskets_2)
noncomputable def f__law_baskets_4 : FS := (sRet (eVar 1))
noncomputable def f__law_baskets : FS := sSeq f__law_baskets_1 (sSeq f__law_baskets_2 (sSeq f__law_baskets_3 (f__law_baskets_4)))
noncomputable def d__law_baskets : FD := runD 5 1 f__law_baskets
noncomputable def b__law_first_less_1_1 : FS := (sIf (tV (eOp dLt (eOp dIx (eCall d__law_bill (aCons (eVar 0) (aCons (eCall d__law_more (aCons (eVar 2) (aCons (eVar 4) (aCons (eC (.int 1)) aNil)))) aNil))) (eC (.int 0))) (eVar 3))) (sRet (eTup (aCons (eC (.str "less")) (aCons (eVar 2) (aCons (eVar 4) aNil))))) sNx)
noncomputable def b__law_first_less_1 : FS := b__law_first_less_1_1
noncomputable def b__law_first_less_2_1 : FS := (sAsg (eOp dIx (eCall d__law_bill (aCons (eVar 0) (aCons (eVar 2) aNil))) (eC (.int 0))) (gN 3))
noncomputable def b__law_first_less_2_2 : FS := (sFor (fiR1 (aCons (eB dLen (aCons (eVar 2) aNil)) aNil)) (gN 4) b__law_first_less_1)
noncomputable def b__law_first_less_2 : FS := sSeq b__law_first_less_2_1 (b__law_first_less_2_2)
noncomputable def f__law_first_less_1 : FS := (sFor (fiL true (eCall d__law_baskets (aCons (eVar 1) aNil))) (gN 2) b__law_first_less_2)
noncomputable def f__law_first_less_2 : FS := (sRet (eC .non))
noncomputable def f__law_first_less : FS := sSeq f__law_first_less_1 (f__law_first_less_2)
noncomputable def d__law_first_less : FD := runD 5 2 f__law_first_less
noncomputable def f__law_first : FS := (sTry 1 (sRet (eCall d_first_less (aCons (eVar 0) aNil))))
noncomputable def d__law_first : FD := runD 2 1 f__law_first
noncomputable def f_box_1 : FS := (sDrop (eCall d_check_shop (aCons (eVar 0) aNil)))
noncomputable def f_box_2 : FS := (sRet (eCall d_box_of (aCons (eVar 0) aNil)))
noncomputable def f_box : FS := sSeq f_box_1 (f_box_2)
noncomputable def d_box : FD := runD 1 1 f_box
noncomputable def f_is_less_1 : FS := (sIf (tOr' (tV (eOp dNeA (eB dLen (aCons (eVar 1) aNil)) (eC (.int 3)))) (tNo (tV (eCall d_is_between (aCons (eOp dIx (eVar 1) (eC (.int 2))) (aCons (eC (.int 0)) (aCons (eOp dSub (eB dLen (aCons (eOp dIx (eVar 0) (eC (.int 0))) aNil)) (eC (.int 1))) aNil))))))) (sRet (eC (.bl false))) sNx)
noncomputable def f_is_less_2 : FS := (sAsg (eVar 1) (gT 3 (gsCons (gN 2) (gsCons (gN 3) (gsCons (gN 4) gsNil)))))
noncomputable def f_is_less_3 : FS := (sRet (eOp dLt (eCall d_charge_of (aCons (eVar 0) (aCons (eCall d_with_more (aCons (eVar 3) (aCons (eVar 4) (aCons (eC (.int 1)) aNil)))) aNil))) (eCall d_charge_of (aCons (eVar 0) (aCons (eVar 3) aNil)))))
noncomputable def f_is_less : FS := sSeq f_is_less_1 (sSeq f_is_less_2 (f_is_less_3))
noncomputable def d_is_less : FD := runD 5 2 f_is_less
noncomputable def f_is_fault_1 : FS := (sDrop (eCall d_check_shop (aCons (eVar 0) aNil)))
noncomputable def f_is_fault_2 : FS := (sIf (tOr' (tNo (tV (eIsi "tuple" (eVar 1)))) (tV (eOp dLt (eB dLen (aCons (eVar 1) aNil)) (eC (.int 2))))) (sRet (eC (.bl false))) sNx)
noncomputable def f_is_fault_3 : FS := (sAsg (eSl (eVar 1) tNp (tPa (eC (.int 2)))) (gT 2 (gsCons (gN 2) (gsCons (gN 3) gsNil))))
noncomputable def f_is_fault_4 : FS := (sIf (tOr' (tNo (tV (eIsi "str" (eVar 2)))) (tNo (tV (eCall d_are_pieces (aCons (eVar 0) (aCons (eVar 3) aNil)))))) (sRet (eC (.bl false))) sNx)
noncomputable def f_is_fault_5 : FS := (sIf (tV (eOp dEqA (eVar 2) (eC (.str "less")))) (sRet (eCall d_is_less (aCons (eVar 0) (aCons (eVar 1) aNil)))) sNx)
noncomputable def f_is_fault_6 : FS := (sRet (eAn (eOp dEqA (eVar 2) (eC (.str "loss"))) (eAn (eOp dEqA (eB dLen (aCons (eVar 1) aNil)) (eC (.int 2))) (eOp dLt (eCall d_gain_of (aCons (eVar 0) (aCons (eVar 3) aNil))) (eC (.int 0))))))
noncomputable def f_is_fault : FS := sSeq f_is_fault_1 (sSeq f_is_fault_2 (sSeq f_is_fault_3 (sSeq f_is_fault_4 (sSeq f_is_fault_5 (f_is_fault_6)))))
noncomputable def d_is_fault : FD := runD 4 2 f_is_fault
noncomputable def b_find_sinking_1_1 : FS := (sAsg (eOp dSub (eOp dMulA (eOp dIx (eOp dIx (eOp dIx (eVar 0) (eC (.int 0))) (eVar 2)) (eC (.int 1))) (eVar 5)) (eVar 6)) (gN 3))
noncomputable def b_find_sinking_1_2 : FS := (sIf (tV (eOp dGt (eVar 3) (eC (.int 0)))) (sSeq (sAsg (eCall d_with_more (aCons (eVar 1) (aCons (eVar 2) (aCons (eVar 4) aNil)))) (gN 7))
    (sSeq (sAsg (eOp dAdd (eOp dFdiv (eCall d_gain_of (aCons (eVar 0) (aCons (eVar 7) aNil))) (eVar 3)) (eC (.int 1))) (gN 8))
    (sRet (eCall d_with_more (aCons (eVar 7) (aCons (eVar 2) (aCons (eOp dMulA (eVar 8) (eVar 5)) aNil))))))) sNx)
noncomputable def b_find_sinking_1 : FS := sSeq b_find_sinking_1_1 (b_find_sinking_1_2)
noncomputable def f_find_sinking_1 : FS := (sAsg (eOp dMulT (eTup (aCons (eC (.int 0)) aNil)) (eB dLen (aCons (eOp dIx (eVar 0) (eC (.int 0))) aNil))) (gN 1))
noncomputable def f_find_sinking_2 : FS := (sFor (fiE true (aCons (eCall d_cycles (aCons (eVar 0) aNil)) aNil)) (gT 2 (gsCons (gN 2) (gsCons (gT 3 (gsCons (gN 4) (gsCons (gN 5) (gsCons (gN 6) gsNil)))) gsNil))) b_find_sinking_1)
noncomputable def f_find_sinking_3 : FS := (sRet (eC .non))
noncomputable def f_find_sinking : FS := sSeq f_find_sinking_1 (sSeq f_find_sinking_2 (f_find_sinking_3))
noncomputable def d_find_sinking : FD := runD 9 1 f_find_sinking
noncomputable def f_find_loss_1 : FS := (sAsg (eCall d_charges_within (aCons (eVar 0) (aCons (eCall d_box_of (aCons (eVar 0) aNil)) aNil))) (gN 1))
noncomputable def f_find_loss_2 : FS := sEr
noncomputable def f_find_loss_3 : FS := (sRet (eCall d_find_sinking (aCons (eVar 0) aNil)))
noncomputable def f_find_loss : FS := sSeq f_find_loss_1 (sSeq f_find_loss_2 (f_find_loss_3))
noncomputable def d_find_loss : FD := runD 4 1 f_find_loss
noncomputable def f_has_loss_1 : FS := (sDrop (eCall d_check_shop (aCons (eVar 0) aNil)))
noncomputable def f_has_loss_2 : FS := (sRet (eOp dNis (eCall d_find_loss (aCons (eVar 0) aNil)) (eC .non)))
noncomputable def f_has_loss : FS := sSeq f_has_loss_1 (f_has_loss_2)
noncomputable def d_has_loss : FD := runD 1 1 f_has_loss
noncomputable def f_some_loss_1 : FS := (sDrop (eCall d_check_shop (aCons (eVar 0) aNil)))
noncomputable def f_some_loss_2 : FS := (sAsg (eCall d_find_loss (aCons (eVar 0) aNil)) (gN 1))
noncomputable def f_some_loss_3 : FS := (sIf (tV (eOp dIs (eVar 1) (eC .non))) (sRz "NoFault") sNx)
noncomputable def f_some_loss_4 : FS := (sRet (eTup (aCons (eC (.str "loss")) (aCons (eVar 1) aNil))))
noncomputable def f_some_loss : FS := sSeq f_some_loss_1 (sSeq f_some_loss_2 (sSeq f_some_loss_3 (f_some_loss_4)))
noncomputable def d_some_loss : FD := runD 2 1 f_some_loss
noncomputable def b__law_is_loss_1_1 : FS := (sIf (tV (eOp dLt (eOp dIx (eCall d__law_bill (aCons (eVar 0) (aCons (eVar 2) aNil))) (eC (.int 0))) (eCall d__law_costs (aCons (eVar 0) (aCons (eVar 2) aNil))))) (sRet (eC (.bl true))) sNx)
noncomputable def b__law_is_loss_1 : FS := b__law_is_loss_1_1
noncomputable def b__law_is_loss_2_1 : FS := (sAsg (eOp dAdd (eOp dAdd (eOp dMulT (eTup (aCons (eC (.int 0)) aNil)) (eVar 3)) (eTup (aCons (eOp dAdd (eOp dIx (eVar 1) (eVar 3)) (eC (.int 360))) aNil))) (eOp dMulT (eTup (aCons (eC (.int 0)) aNil)) (eOp dSub (eOp dSub (eB dLen (aCons (eVar 1) aNil)) (eVar 3)) (eC (.int 1))))) (gN 4))
noncomputable def b__law_is_loss_2_2 : FS := (sAsg (eCall d__law_more (aCons (eVar 4) (aCons (eVar 3) (aCons (eC (.int 360)) aNil)))) (gN 5))
noncomputable def b__law_is_loss_2_3 : FS := (sIf (tV (eOp dLt (eOp dSub (eOp dIx (eCall d__law_bill (aCons (eVar 0) (aCons (eVar 5) aNil))) (eC (.int 0))) (eOp dIx (eCall d__law_bill (aCons (eVar 0) (aCons (eVar 4) aNil))) (eC (.int 0)))) (eOp dSub (eCall d__law_costs (aCons (eVar 0) (aCons (eVar 5) aNil))) (eCall d__law_costs (aCons (eVar 0) (aCons (eVar 4) aNil)))))) (sRet (eC (.bl true))) sNx)
noncomputable def b__law_is_loss_2 : FS := sSeq b__law_is_loss_2_1 (sSeq b__law_is_loss_2_2 (b__law_is_loss_2_3))
noncomputable def f__law_is_loss_1 : FS := (sAsg (eCall d__law_high (aCons (eVar 0) aNil)) (gN 1))
noncomputable def f__law_is_loss_2 : FS := (sFor (fiL true (eCall d__law_baskets (aCons (eVar 1) aNil))) (gN 2) b__law_is_loss_1)
noncomputable def f__law_is_loss_3 : FS := (sFor (fiR1 (aCons (eB dLen (aCons (eVar 1) aNil)) aNil)) (gN 3) b__law_is_loss_2)
noncomputable def f__law_is_loss_4 : FS := (sRet (eC (.bl false)))
noncomputable def f__law_is_loss : FS := sSeq f__law_is_loss_1 (sSeq f__law_is_loss_2 (sSeq f__law_is_loss_3 (f__law_is_loss_4)))
noncomputable def d__law_is_loss : FD := runD 6 1 f__law_is_loss
noncomputable def f__law_some : FS := (sTry 1 (sRet (eCall d_some_loss (aCons (eVar 0) aNil))))
noncomputable def d__law_some : FD := runD 2 1 f__law_some
noncomputable def f_is_ascending : FS := (sRet (eB dAll (aCons (eLc (fiZ false (aCons (eVar 0) (aCons (eSl (eVar 0) (tPa (eC (.int 1))) tNp) aNil))) [1, 2] (.tup [1, 2]) tT (eOp dLtA (eVar 1) (eVar 2))) aNil)))
noncomputable def d_is_ascending : FD := runD 3 1 f_is_ascending
noncomputable def f_is_most_act_1 : FS := (sAsg (eOp dIx (eVar 0) (eC (.int 1))) (gN 2))
noncomputable def f_is_most_act_2 : FS := (sIf (tOr' (tNo (tV (eCall d_is_tuple_of (aCons (eVar 1) (aCons (eC (.int 3)) aNil))))) (tNo (tV (eCall d_is_between (aCons (eOp dIx (eVar 1) (eC (.int 1))) (aCons (eC (.int 0)) (aCons (eOp dSub (eB dLen (aCons (eVar 2) aNil)) (eC (.int 1))) aNil))))))) (sRet (eC (.bl false))) sNx)
noncomputable def f_is_most_act_3 : FS := (sAsg (eOp dIx (eVar 2) (eOp dIx (eVar 1) (eC (.int 1)))) (gN 3))
noncomputable def f_is_most_act_4 : FS := (sIf (tV (eOp (dIn true) (eOp dIx (eVar 3) (eC (.int 0))) (eTup (aCons (eC (.str "pack")) (aCons (eC (.str "each")) aNil))))) (sRet (eC (.bl false))) sNx)
noncomputable def f_is_most_act_5 : FS := (sRet (eAn (eCall d_is_between (aCons (eOp dIx (eVar 1) (eC (.int 2))) (aCons (eC (.int 1)) (aCons (eC (.int 2)) aNil)))) (eOr (eOp dIs (eOp dIx (eVar 3) (eUn dNeg (eC (.int 1)))) (eC .non)) (eOp dLt (eOp dIx (eVar 1) (eC (.int 2))) (eOp dIx (eVar 3) (eUn dNeg (eC (.int 1))))))))
noncomputable def f_is_most_act : FS := sSeq f_is_most_act_1 (sSeq f_is_most_act_2 (sSeq f_is_most_act_3 (sSeq f_is_most_act_4 (f_is_most_act_5))))
noncomputable def d_is_most_act : FD := runD 4 2 f_is_most_act
noncomputable def f_is_act_1 : FS := (sIf (tOr' (tNo (tV (eIsi "tuple" (eVar 1)))) (tV (eOp dEqA (eB dLen (aCons (eVar 1) aNil)) (eC (.int 0))))) (sRet (eC (.bl false))) sNx)
noncomputable def f_is_act_2 : FS := (sAsg (eOp dIx (eVar 1) (eC (.int 0))) (gN 2))
noncomputable def f_is_act_3 : FS := (sIf (tNo (tV (eIsi "str" (eVar 2)))) (sRet (eC (.bl false))) sNx)
noncomputable def f_is_act_4 : FS := (sIf (tV (eOp dEqA (eVar 2) (eC (.str "off")))) (sRet (eAn (eCall d_is_tuple_of (aCons (eVar 1) (aCons (eC (.int 2)) aNil))) (eCall d_is_between (aCons (eOp dIx (eVar 1) (eC (.int 1))) (aCons (eC (.int 0)) (aCons (eOp dSub (eB dLen (aCons (eOp dIx (eVar 0) (eC (.int 1))) aNil)) (eC (.int 1))) aNil)))))) sNx)
noncomputable def f_is_act_5 : FS := (sRet (eAn (eOp dEqA (eVar 2) (eC (.str "most"))) (eCall d_is_most_act (aCons (eVar 0) (aCons (eVar 1) aNil)))))
noncomputable def f_is_act : FS := sSeq f_is_act_1 (sSeq f_is_act_2 (sSeq f_is_act_3 (sSeq f_is_act_4 (f_is_act_5))))
noncomputable def d_is_act : FD := runD 3 2 f_is_act
noncomputable def f_are_acts_1 : FS := (sDrop (eCall d_check_shop (aCons (eVar 0) aNil)))
noncomputable def f_are_acts_2 : FS := (sIf (tOr' (tNo (tV (eIsi "tuple" (eVar 1)))) (tV (eOp dGt (eB dLen (aCons (eVar 1) aNil)) (eC (.int 8))))) (sRet (eC (.bl false))) sNx)
noncomputable def f_are_acts_3 : FS := (sRet (eAn (eB dAll (aCons (eLc (fiT (eVar 1)) [2] (.one 2) tT (eCall d_is_act (aCons (eVar 0) (aCons (eVar 2) aNil)))) aNil)) (eCall d_is_ascending (aCons (eVar 1) aNil))))
noncomputable def f_are_acts : FS := sSeq f_are_acts_1 (sSeq f_are_acts_2 (f_are_acts_3))
noncomputable def d_are_acts : FD := runD 3 2 f_are_acts
noncomputable def b__law_all_acts_1_1 : FS := (sDrop (eMet kApp (eVar 1) (aCons (eTup (aCons (eC (.str "off")) (aCons (eVar 2) aNil))) aNil)))
noncomputable def b__law_all_acts_1_2 : FS := (sIf (tV (eOp (dIn false) (eOp dIx (eVar 3) (eC (.int 0))) (eTup (aCons (eC (.str "pack")) (aCons (eC (.str "each")) aNil))))) (sDrop (eMet kExt (eVar 1) (aCons (eLc (fiT (eTup (aCons (eC (.int 1)) (aCons (eC (.int 2)) aNil)))) [4] (.one 4) (tOr' (tV (eOp dIs (eOp dIx (eVar 3) (eUn dNeg (eC (.int 1)))) (eC .non))) (tV (eOp dLt (eVar 4) (eOp dIx (eVar 3) (eUn dNeg (eC (.int 1))))))) (eTup (aCons (eC (.str "most")) (aCons (eVar 2) (aCons (eVar 4) aNil))))) aNil))) sNx)
noncomputable def b__law_all_acts_1 : FS := sSeq b__law_all_acts_1_1 (b__law_all_acts_1_2)
noncomputable def f__law_all_acts_1 : FS := (sAsg (eLst aNil) (gN 1))
noncomputable def f__law_all_acts_2 : FS := (sFor (fiE true (aCons (eOp dIx (eVar 0) (eC (.int 1))) aNil)) (gT 2 (gsCons (gN 2) (gsCons (gN 3) gsNil))) b__law_all_acts_1)
noncomputable def f__law_all_acts_3 : FS := (sRet (eB dSorted (aCons (eVar 1) aNil)))
noncomputable def f__law_all_acts : FS := sSeq f__law_all_acts_1 (sSeq f__law_all_acts_2 (f__law_all_acts_3))
noncomputable def d__law_all_acts : FD := runD 5 1 f__law_all_acts
noncomputable def b__law_some_of_1_1 : FS := (sDrop (eMet kApp (eVar 5) (aCons (eMet kPopAt (eVar 4) (aCons (eCallI 1 d__law_draw (aCons (eVar 0) (aCons (eVar 1) (aCons (eB dLen (aCons (eVar 4) aNil)) aNil)))) aNil)) aNil)))
noncomputable def b__law_some_of_1 : FS := b__law_some_of_1_1
noncomputable def f__law_some_of_1 : FS := (sPar 4 5 (aCons (eB dList (aCons (eVar 2) aNil)) (aCons (eLst aNil) aNil)))
noncomputable def f__law_some_of_2 : FS := (sWhile 1000 (tAn (tV (eOp dNeA (eVar 4) (eLst aNil))) (tV (eOp dLt (eB dLen (aCons (eVar 5) aNil)) (eVar 3)))) b__law_some_of_1)
noncomputable def f__law_some_of_3 : FS := (sRet (eB dTuple (aCons (eB dSorted (aCons (eVar 5) aNil)) aNil)))
noncomputable def f__law_some_of : FS := sSeq f__law_some_of_1 (sSeq f__law_some_of_2 (f__law_some_of_3))
noncomputable def d__law_some_of : FD := runD 6 4 f__law_some_of
noncomputable def f__law_some_acts_1 : FS := (sAsg (eCall d__law_all_acts (aCons (eVar 2) aNil)) (gN 4))
noncomputable def f__law_some_acts_2 : FS := (sRet (eIf (tV (eOp dNeA (eVar 4) (eLst aNil))) (eCallI 1 d__law_some_of (aCons (eVar 0) (aCons (eVar 1) (aCons (eVar 4) (aCons (eCallI 1 d__law_draw (aCons (eVar 0) (aCons (eVar 1) (aCons (eOp dAdd (eVar 3) (eC (.int 1))) aNil)))) aNil))))) (eTup aNil)))
noncomputable def f__law_some_acts : FS := sSeq f__law_some_acts_1 (f__law_some_acts_2)
noncomputable def d__law_some_acts : FD := runD 5 4 f__law_some_acts
noncomputable def f_check_acts : FS := (sIf (tNo (tV (eCall d_are_acts (aCons (eVar 0) (aCons (eVar 1) aNil))))) (sRz "InvalidActs") sNx)
noncomputable def d_check_acts : FD := runD 2 2 f_check_acts
noncomputable def f_numbers_under : FS := (sRet (eLc (fiR1 (aCons (eB dLen (aCons (eOp dIx (eVar 0) (eC (.int 1))) aNil)) aNil)) [2] (.one 2) (tV (eOp (dInA true) (eTup (aCons (eC (.str "off")) (aCons (eVar 2) aNil))) (eVar 1))) (eVar 2)))
noncomputable def d_numbers_under : FD := runD 3 2 f_numbers_under
noncomputable def f_rule_under_1 : FS := (sAsg (eOp dIx (eOp dIx (eVar 0) (eC (.int 1))) (eVar 2)) (gN 3))
noncomputable def f_rule_under_2 : FS := (sAsg (eLc (fiT (eVar 1)) [5] (.one 5) (tV (eOp dEqA (eSl (eVar 5) tNp (tPa (eC (.int 2)))) (eTup (aCons (eC (.str "most")) (aCons (eVar 2) aNil))))) (eOp dIx (eVar 5) (eC (.int 2)))) (gN 4))
noncomputable def f_rule_under_3 : FS := (sIf (tV (eOp dEqA (eB dLen (aCons (eVar 4) aNil)) (eC (.int 0)))) (sRet (eVar 3)) sNx)
noncomputable def f_rule_under_4 : FS := (sRet (eOp dAdd (eSl (eVar 3) tNp (tPa (eUn dNeg (eC (.int 1))))) (eTup (aCons (eB dMin1 (aCons (eVar 4) aNil)) aNil))))
noncomputable def f_rule_under : FS := sSeq f_rule_under_1 (sSeq f_rule_under_2 (sSeq f_rule_under_3 (f_rule_under_4)))
noncomputable def d_rule_under : FD := runD 6 3 f_rule_under
noncomputable def f_left_under_1 : FS := (sAsg (eCall d_numbers_under (aCons (eVar 0) (aCons (eVar 1) aNil))) (gN 2))
noncomputable def f_left_under_2 : FS := (sRet (eTup (aCons (eOp dIx (eVar 0) (eC (.int 0))) (aCons (eB dTuple (aCons (eLc (fiL false (eVar 2)) [3] (.one 3) tT (eCall d_rule_under (aCons (eVar 0) (aCons (eVar 1) (aCons (eVar 3) aNil))))) aNil)) aNil))))
noncomputable def f_left_under : FS := sSeq f_left_under_1 (f_left_under_2)
noncomputable def d_left_under : FD := runD 4 2 f_left_under
noncomputable def f_shop_under_1 : FS := (sDrop (eCall d_check_acts (aCons (eVar 0) (aCons (eVar 1) aNil))))
noncomputable def f_shop_under_2 : FS := (sRet (eCall d_left_under (aCons (eVar 0) (aCons (eVar 1) aNil))))
noncomputable def f_shop_under : FS := sSeq f_shop_under_1 (f_shop_under_2)
noncomputable def d_shop_under : FD := runD 2 2 f_shop_under
noncomputable def b__law_under_1_1 : FS := (sAsg (eLc (fiT (eVar 1)) [6] (.one 6) (tV (eOp dEqA (eSl (eVar 6) tNp (tPa (eC (.int 2)))) (eTup (aCons (eC (.str "most")) (aCons (eVar 3) aNil))))) (eOp dIx (eVar 6) (eC (.int 2)))) (gN 5))
noncomputable def b__law_under_1_2 : FS := (sIf (tV (eOp (dInA true) (eTup (aCons (eC (.str "off")) (aCons (eVar 3) aNil))) (eVar 1))) (sDrop (eMet kApp (eVar 2) (aCons (eIf (tV (eOp dNeA (eVar 5) (eLst aNil))) (eOp dAdd (eSl (eVar 4) tNp (tPa (eUn dNeg (eC (.int 1))))) (eTup (aCons (eB dMin1 (aCons (eVar 5) aNil)) aNil))) (eVar 4)) aNil))) sNx)
noncomputable def b__law_under_1 : FS := sSeq b__law_under_1_1 (b__law_under_1_2)
noncomputable def f__law_under_1 : FS := (sAsg (eLst aNil) (gN 2))
noncomputable def f__law_under_2 : FS := (sFor (fiE true (aCons (eOp dIx (eVar 0) (eC (.int 1))) aNil)) (gT 2 (gsCons (gN 3) (gsCons (gN 4) gsNil))) b__law_under_1)
noncomputable def f__law_under_3 : FS := (sRet (eTup (aCons (eOp dIx (eVar 0) (eC (.int 0))) (aCons (eB dTuple (aCons (eVar 2) aNil)) aNil))))
noncomputable def f__law_under : FS := sSeq f__law_under_1 (sSeq f__law_under_2 (f__law_under_3))
noncomputable def d__law_under : FD := runD 7 2 f__law_under
noncomputable def f_uses_under_1 : FS := (sAsg (eCall d_numbers_under (aCons (eVar 0) (aCons (eVar 1) aNil))) (gN 4))
noncomputable def f_uses_under_2 : FS := (sIf (tV (eOp (dInA true) (eVar 2) (eVar 4))) (sRet (eC (.int 0))) sNx)
noncomputable def f_uses_under_3 : FS := (sRet (eOp dIx (eCall d_uses_of (aCons (eCall d_left_under (aCons (eVar 0) (aCons (eVar 1) aNil))) (aCons (eVar 3) aNil))) (eMet kIdx (eVar 4) (aCons (eVar 2) aNil))))
noncomputable def f_uses_under : FS := sSeq f_uses_under_1 (sSeq f_uses_under_2 (f_uses_under_3))
noncomputable def d_uses_under : FD := runD 5 4 f_uses_under
noncomputable def f_touches_under_1 : FS := (sAsg (eCall d_uses_under (aCons (eVar 0) (aCons (eVar 1) (aCons (eOp dIx (eVar 2) (eC (.int 1))) (aCons (eVar 3) aNil))))) (gN 4))
noncomputable def f_touches_under_2 : FS := (sRet (eIf (tV (eOp dEqA (eOp dIx (eVar 2) (eC (.int 0))) (eC (.str "off")))) (eOp dGt (eVar 4) (eC (.int 0))) (eOp dGt (eVar 4) (eOp dIx (eVar 2) (eC (.int 2))))))
noncomputable def f_touches_under : FS := sSeq f_touches_under_1 (f_touches_under_2)
noncomputable def d_touches_under : FD := runD 5 4 f_touches_under
noncomputable def f_touches_1 : FS := (sDrop (eCall d_check_acts (aCons (eVar 0) (aCons (eVar 1) aNil))))
noncomputable def f_touches_2 : FS := (sIf (tNo (tV (eCall d_is_act (aCons (eVar 0) (aCons (eVar 2) aNil))))) (sRz "InvalidAct") sNx)
noncomputable def f_touches_3 : FS := (sDrop (eCall d_check_basket (aCons (eVar 0) (aCons (eVar 3) aNil))))
noncomputable def f_touches_4 : FS := (sRet (eCall d_touches_under (aCons (eVar 0) (aCons (eVar 1) (aCons (eVar 2) (aCons (eVar 3) aNil))))))
noncomputable def f_touches : FS := sSeq f_touches_1 (sSeq f_touches_2 (sSeq f_touches_3 (f_touches_4)))
noncomputable def d_touches : FD := runD 4 4 f_touches
noncomputable def f__law_touch_1 : FS := (sIf (tV (eOp (dInA false) (eTup (aCons (eC (.str "off")) (aCons (eOp dIx (eVar 2) (eC (.int 1))) aNil))) (eVar 1))) (sRet (eC (.bl false))) sNx)
noncomputable def f__law_touch_2 : FS := (sAsg (eB dLen (aCons (eLc (fiT (eVar 1)) [6] (.one 6) (tAn (tV (eOp dEqA (eOp dIx (eVar 6) (eC (.int 0))) (eC (.str "off")))) (tV (eOp dLt (eOp dIx (eVar 6) (eC (.int 1))) (eOp dIx (eVar 2) (eC (.int 1)))))) (eVar 6)) aNil)) (gN 4))
noncomputable def f__law_touch_3 : FS := (sAsg (eOp dIx (eOp dIx (eCall d__law_bill (aCons (eCall d__law_under (aCons (eVar 0) (aCons (eVar 1) aNil))) (aCons (eVar 3) aNil))) (eC (.int 1))) (eOp dSub (eOp dIx (eVar 2) (eC (.int 1))) (eVar 4))) (gN 5))
noncomputable def f__law_touch_4 : FS := (sRet (eOp dGt (eVar 5) (eIf (tV (eOp dEqA (eOp dIx (eVar 2) (eC (.int 0))) (eC (.str "off")))) (eC (.int 0)) (eOp dIx (eVar 2) (eC (.int 2))))))
noncomputable def f__law_touch : FS := sSeq f__law_touch_1 (sSeq f__law_touch_2 (sSeq f__law_touch_3 (f__law_touch_4)))
noncomputable def d__law_touch : FD := runD 7 4 f__law_touch
noncomputable def f_is_offer_1 : FS := (sIf (tNo (tV (eCall d_is_tuple_of (aCons (eVar 1) (aCons (eC (.int 2)) aNil))))) (sRet (eC (.bl false))) sNx)
noncomputable def f_is_offer_2 : FS := (sAsg (eVar 1) (gT 2 (gsCons (gN 2) (gsCons (gN 3) gsNil))))
noncomputable def f_is_offer_3 : FS := (sRet (eAn (eCall d_is_act (aCons (eVar 0) (aCons (eVar 2) aNil))) (eCall d_is_between (aCons (eVar 3) (aCons (eC (.int 1)) (aCons (eC (.int 9)) aNil))))))
noncomputable def f_is_offer : FS := sSeq f_is_offer_1 (sSeq f_is_offer_2 (f_is_offer_3))
noncomputable def d_is_offer : FD := runD 4 2 f_is_offer
noncomputable def f_are_offers_1 : FS := (sDrop (eCall d_check_shop (aCons (eVar 0) aNil)))
noncomputable def f_are_offers_2 : FS := (sIf (tOr' (tNo (tV (eIsi "tuple" (eVar 1)))) (tV (eOp dGt (eB dLen (aCons (eVar 1) aNil)) (eC (.int 6))))) (sRet (eC (.bl false))) sNx)
noncomputable def f_are_offers_3 : FS := (sIf (tNo (tV (eB dAll (aCons (eLc (fiT (eVar 1)) [2] (.one 2) tT (eCall d_is_offer (aCons (eVar 0) (aCons (eVar 2) aNil)))) aNil)))) (sRet (eC (.bl false))) sNx)
noncomputable def f_are_offers_4 : FS := (sRet (eCall d_is_ascending (aCons (eLc (fiT (eVar 1)) [3, 4] (.tup [3, 4]) tT (eVar 3)) aNil)))
noncomputable def f_are_offers : FS := sSeq f_are_offers_1 (sSeq f_are_offers_2 (sSeq f_are_offers_3 (f_are_offers_4)))
noncomputable def d_are_offers : FD := runD 5 2 f_are_offers
noncomputable def f_check_offers : FS := (sIf (tNo (tV (eCall d_are_offers (aCons (eVar 0) (aCons (eVar 1) aNil))))) (sRz "InvalidOffers") sNx)
noncomputable def d_check_offers : FD := runD 2 2 f_check_offers
noncomputable def f_are_bought_1 : FS := (sIf (tOr' (tNo (tV (eIsi "tuple" (eVar 2)))) (tNo (tV (eB dAll (aCons (eLc (fiT (eVar 2)) [4] (.one 4) tT (eCall d_is_act (aCons (eVar 0) (aCons (eVar 4) aNil)))) aNil))))) (sRet (eC (.bl false))) sNx)
noncomputable def f_are_bought_2 : FS := (sAsg (eLc (fiT (eVar 1)) [4, 5] (.tup [4, 5]) tT (eVar 4)) (gN 3))
noncomputable def f_are_bought_3 : FS := (sRet (eAn (eB dAll (aCons (eLc (fiT (eVar 2)) [4] (.one 4) tT (eOp (dInA false) (eVar 4) (eVar 3))) aNil)) (eCall d_is_ascending (aCons (eVar 2) aNil))))
noncomputable def f_are_bought : FS := sSeq f_are_bought_1 (sSeq f_are_bought_2 (f_are_bought_3))
noncomputable def d_are_bought : FD := runD 6 3 f_are_bought
noncomputable def f_check_bought : FS := (sIf (tNo (tV (eCall d_are_bought (aCons (eVar 0) (aCons (eVar 1) (aCons (eVar 2) aNil)))))) (sRz "InvalidActs") sNx)
noncomputable def d_check_bought : FD := runD 3 3 f_check_bought
noncomputable def f_total_of : FS := (sRet (eB dSum (aCons (eLc (fiT (eVar 0)) [2, 3] (.tup [2, 3]) (tV (eOp (dInA false) (eVar 2) (eVar 1))) (eVar 3)) aNil)))
noncomputable def d_total_of : FD := runD 4 2 f_total_of
noncomputable def f_price_of_1 : FS := (sDrop (eCall d_check_offers (aCons (eVar 0) (aCons (eVar 1) aNil))))
noncomputable def f_price_of_2 : FS := (sDrop (eCall d_check_bought (aCons (eVar 0) (aCons (eVar 1) (aCons (eVar 2) aNil)))))
noncomputable def f_price_of_3 : FS := (sRet (eCall d_total_of (aCons (eVar 1) (aCons (eVar 2) aNil))))
noncomputable def f_price_of : FS := sSeq f_price_of_1 (sSeq f_price_of_2 (f_price_of_3))
noncomputable def d_price_of : FD := runD 3 3 f_price_of
noncomputable def f__law_some_case_1 : FS := (sAsg (eCallI 1 d__law_some_shop (aCons (eVar 0) (aCons (eVar 1) aNil))) (gN 3))
noncomputable def f__law_some_case_2 : FS := (sIf (tV (eOp dGt (eCallI 1 d__law_draw (aCons (eVar 0) (aCons (eVar 1) (aCons (eC (.int 3)) aNil)))) (eC (.int 0)))) (sSeq (sAsg (eLc (fiT (eOp dIx (eVar 3) (eC (.int 1)))) [8] (.one 8) (tOr' (tV (eOp (dIn true) (eOp dIx (eVar 8) (eC (.int 0))) (eTup (aCons (eC (.str "pack")) (aCons (eC (.str "from")) aNil))))) (tV (eOp dEqA (eOp dIx (eVar 8) (eC (.int 1))) (eC (.int 0))))) (eVar 8)) (gN 5))
    (sAsg (eTup (aCons (eSl (eOp dIx (eVar 3) (eC (.int 0))) tNp (tPa (eC (.int 1)))) (aCons (eB dTuple (aCons (eVar 5) aNil)) aNil))) (gN 3))) sNx)
noncomputable def f__law_some_case_3 : FS := (sPar 6 7 (aCons (eCall d__law_all_acts (aCons (eVar 3) aNil)) (aCons (eTup aNil) aNil)))
noncomputable def f__law_some_case_4 : FS := (sIf (tV (eOp dNeA (eVar 6) (eLst aNil))) (sAsg (eCallI 1 d__law_some_of (aCons (eVar 0) (aCons (eVar 1) (aCons (eVar 6) (aCons (eOp dSub (eVar 2) (eCallI 1 d__law_draw (aCons (eVar 0) (aCons (eVar 1) (aCons (eC (.int 2)) aNil))))) aNil))))) (gN 7)) sNx)
noncomputable def f__law_some_case_5 : FS := (sAsg (eB dTuple (aCons (eLc (fiT (eVar 7)) [9] (.one 9) tT (eTup (aCons (eVar 9) (aCons (eOp dAdd (eC (.int 1)) (eCallI 1 d__law_draw (aCons (eVar 0) (aCons (eVar 1) (aCons (eC (.int 4)) aNil))))) aNil)))) aNil)) (gN 4))
noncomputable def f__law_some_case_6 : FS := (sRet (eTup (aCons (eVar 3) (aCons (eVar 4) (aCons (eCallI 1 d__law_pick (aCons (eVar 0) (aCons (eVar 1) (aCons (eTup (aCons (eTup (aCons (eC (.str "less")) aNil)) (aCons (eTup (aCons (eC (.str "loss")) aNil)) (aCons (eTup (aCons (eC (.str "less")) (aCons (eC (.str "loss")) aNil))) aNil)))) aNil)))) aNil)))))
noncomputable def f__law_some_case : FS := sSeq f__law_some_case_1 (sSeq f__law_some_case_2 (sSeq f__law_some_case_3 (sSeq f__law_some_case_4 (sSeq f__law_some_case_5 (f__law_some_case_6)))))
noncomputable def d__law_some_case : FD := runD 10 3 f__law_some_case
noncomputable def f__law_price : FS := (sTry 3 (sRet (eCall d_price_of (aCons (eVar 0) (aCons (eVar 1) (aCons (eVar 2) aNil))))))
noncomputable def d__law_price : FD := runD 4 3 f__law_price
noncomputable def f_find_fault_1 : FS := (sIf (tV (eOp (dInA false) (eC (.str "less")) (eVar 1))) (sSeq (sAsg (eCall d_find_less (aCons (eVar 0) aNil)) (gN 2))
    (sIf (tV (eOp dNis (eVar 2) (eC .non))) (sRet (eVar 2)) sNx)) sNx)
noncomputable def f_find_fault_2 : FS := (sIf (tV (eOp (dInA false) (eC (.str "loss")) (eVar 1))) (sSeq (sAsg (eCall d_find_loss (aCons (eVar 0) aNil)) (gN 3))
    (sIf (tV (eOp dNis (eVar 3) (eC .non))) (sRet (eTup (aCons (eC (.str "loss")) (aCons (eVar 3) aNil)))) sNx)) sNx)
noncomputable def f_find_fault_3 : FS := (sRet (eC .non))
noncomputable def f_find_fault : FS := sSeq f_find_fault_1 (sSeq f_find_fault_2 (f_find_fault_3))
noncomputable def d_find_fault : FD := runD 4 2 f_find_fault
noncomputable def f_are_kinds_1 : FS := (sIf (tOr' (tNo (tV (eIsi "tuple" (eVar 0)))) (tNo (tV (eB dAll (aCons (eLc (fiT (eVar 0)) [1] (.one 1) tT (eIsi "str" (eVar 1))) aNil))))) (sRet (eC (.bl false))) sNx)
noncomputable def f_are_kinds_2 : FS := (sRet (eOp (dInA false) (eVar 0) (eC g_ALL_KINDS)))
noncomputable def f_are_kinds : FS := sSeq f_are_kinds_1 (f_are_kinds_2)
noncomputable def d_are_kinds : FD := runD 2 1 f_are_kinds
noncomputable def f_check_kinds : FS := (sIf (tNo (tV (eCall d_are_kinds (aCons (eVar 0) aNil)))) (sRz "InvalidKinds") sNx)
noncomputable def d_check_kinds : FD := runD 1 1 f_check_kinds
noncomputable def f_is_cure_of : FS := (sRet (eOp dIs (eCall d_find_fault (aCons (eCall d_left_under (aCons (eVar 0) (aCons (eVar 2) aNil))) (aCons (eVar 1) aNil))) (eC .non)))
noncomputable def d_is_cure_of : FD := runD 3 3 f_is_cure_of
noncomputable def f_is_cure_1 : FS := (sDrop (eCall d_check_offers (aCons (eVar 0) (aCons (eVar 1) aNil))))
noncomputable def f_is_cure_2 : FS := (sDrop (eCall d_check_kinds (aCons (eVar 2) aNil)))
noncomputable def f_is_cure_3 : FS := (sDrop (eCall d_check_bought (aCons (eVar 0) (aCons (eVar 1) (aCons (eVar 3) aNil)))))
noncomputable def f_is_cure_4 : FS := (sRet (eCall d_is_cure_of (aCons (eVar 0) (aCons (eVar 2) (aCons (eVar 3) aNil)))))
noncomputable def f_is_cure : FS := sSeq f_is_cure_1 (sSeq f_is_cure_2 (sSeq f_is_cure_3 (f_is_cure_4)))
noncomputable def d_is_cure : FD := runD 4 4 f_is_cure
noncomputable def b__law_subsets_1_1 : FS := (sAsg (eOp dAdd (eVar 1) (eLc (fiL false (eVar 1)) [3] (.one 3) tT (eOp dAdd (eVar 3) (eTup (aCons (eVar 2) aNil))))) (gN 1))
noncomputable def b__law_subsets_1 : FS := b__law_subsets_1_1
noncomputable def f__law_subsets_1 : FS := (sAsg (eLst (aCons (eTup aNil) aNil)) (gN 1))
noncomputable def f__law_subsets_2 : FS := (sFor (fiL true (eVar 0)) (gN 2) b__law_subsets_1)
noncomputable def f__law_subsets_3 : FS := (sRet (eB dSorted (aCons (eVar 1) aNil)))
noncomputable def f__law_subsets : FS := sSeq f__law_subsets_1 (sSeq f__law_subsets_2 (f__law_subsets_3))
noncomputable def d__law_subsets : FD := runD 4 1 f__law_subsets
noncomputable def b_all_bought_of_1_1 : FS := (sAsg (eOp dAdd (eVar 1) (eLc (fiL false (eVar 1)) [4] (.one 4) tT (eOp dAdd (eVar 4) (eTup (aCons (eVar 2) aNil))))) (gN 1))
noncomputable def b_all_bought_of_1 : FS := b_all_bought_of_1_1
noncomputable def f_all_bought_of_1 : FS := (sAsg (eLst (aCons (eTup aNil) aNil)) (gN 1))
noncomputable def f_all_bought_of_2 : FS := (sFor (fiT (eVar 0)) (gT 2 (gsCons (gN 2) (gsCons (gN 3) gsNil))) b_all_bought_of_1)
noncomputable def f_all_bought_of_3 : FS := (sRet (eVar 1))
noncomputable def f_all_bought_of : FS := sSeq f_all_bought_of_1 (sSeq f_all_bought_of_2 (f_all_bought_of_3))
noncomputable def d_all_bought_of : FD := runD 5 1 f_all_bought_of
noncomputable def b_cheapest_of_1_1 : FS := (sIf (tAn (tV (eOp dNis (eVar 3) (eC .non))) (tV (eOp dGt (eVar 6) (eVar 3)))) sBk sNx)
noncomputable def b_cheapest_of_1_2 : FS := (sIf (tV (eCall d_is_cure_of (aCons (eVar 0) (aCons (eVar 2) (aCons (eVar 7) aNil))))) (sSeq (sAsg (eVar 6) (gN 3))
    (sDrop (eMet kApp (eVar 4) (aCons (eVar 7) aNil)))) sNx)
noncomputable def b_cheapest_of_1 : FS := sSeq b_cheapest_of_1_1 (b_cheapest_of_1_2)
noncomputable def f_cheapest_of_1 : FS := (sAsg (eC .non) (gN 3))
noncomputable def f_cheapest_of_2 : FS := (sAsg (eLst aNil) (gN 4))
noncomputable def f_cheapest_of_3 : FS := (sAsg (eB dSorted (aCons (eLc (fiL false (eCall d_all_bought_of (aCons (eVar 1) aNil))) [8] (.one 8) tT (eTup (aCons (eCall d_total_of (aCons (eVar 1) (aCons (eVar 8) aNil))) (aCons (eVar 8) aNil)))) aNil)) (gN 5))
noncomputable def f_cheapest_of_4 : FS := (sFor (fiL true (eVar 5)) (gT 2 (gsCons (gN 6) (gsCons (gN 7) gsNil))) b_cheapest_of_1)
noncomputable def f_cheapest_of_5 : FS := (sRet (eTup (aCons (eVar 3) (aCons (eVar 4) aNil))))
noncomputable def f_cheapest_of : FS := sSeq f_cheapest_of_1 (sSeq f_cheapest_of_2 (sSeq f_cheapest_of_3 (sSeq f_cheapest_of_4 (f_cheapest_of_5))))
noncomputable def d_cheapest_of : FD := runD 9 3 f_cheapest_of
noncomputable def f_checked_cheapest_1 : FS := (sDrop (eCall d_check_offers (aCons (eVar 0) (aCons (eVar 1) aNil))))
noncomputable def f_checked_cheapest_2 : FS := (sDrop (eCall d_check_kinds (aCons (eVar 2) aNil)))
noncomputable def f_checked_cheapest_3 : FS := (sRet (eCall d_cheapest_of (aCons (eVar 0) (aCons (eVar 1) (aCons (eVar 2) aNil)))))
noncomputable def f_checked_cheapest : FS := sSeq f_checked_cheapest_1 (sSeq f_checked_cheapest_2 (f_checked_cheapest_3))
noncomputable def d_checked_cheapest : FD := runD 3 3 f_checked_cheapest
noncomputable def f_least_price_1 : FS := (sAsg (eCall d_checked_cheapest (aCons (eVar 0) (aCons (eVar 1) (aCons (eVar 2) aNil)))) (gT 2 (gsCons (gN 3) (gsCons (gN 4) gsNil))))
noncomputable def f_least_price_2 : FS := (sRet (eVar 3))
noncomputable def f_least_price : FS := sSeq f_least_price_1 (f_least_price_2)
noncomputable def d_least_price : FD := runD 5 3 f_least_price
noncomputable def f_all_cheapest_1 : FS := (sAsg (eCall d_checked_cheapest (aCons (eVar 0) (aCons (eVar 1) (aCons (eVar 2) aNil)))) (gT 2 (gsCons (gN 3) (gsCons (gN 4) gsNil))))
noncomputable def f_all_cheapest_2 : FS := (sRet (eVar 4))
noncomputable def f_all_cheapest : FS := sSeq f_all_cheapest_1 (f_all_cheapest_2)
noncomputable def d_all_cheapest : FD := runD 5 3 f_all_cheapest
noncomputable def f_sure_acts_1 : FS := (sAsg (eCall d_checked_cheapest (aCons (eVar 0) (aCons (eVar 1) (aCons (eVar 2) aNil)))) (gT 2 (gsCons (gN 3) (gsCons (gN 4) gsNil))))
noncomputable def f_sure_acts_2 : FS := (sIf (tV (eOp dEqA (eB dLen (aCons (eVar 4) aNil)) (eC (.int 0)))) (sRet (eLst aNil)) sNx)
noncomputable def f_sure_acts_3 : FS := sEr
noncomputable def f_sure_acts : FS := sSeq f_sure_acts_1 (sSeq f_sure_acts_2 (f_sure_acts_3))
noncomputable def d_sure_acts : FD := runD 7 3 f_sure_acts
noncomputable def f__law_no_less : FS := (sRet (eOr (eOp dIs (eVar 0) (eC .non)) (eAn (eOp dNis (eVar 1) (eC .non)) (eOp dGe (eVar 0) (eVar 1)))))
noncomputable def d__law_no_less : FD := runD 2 2 f__law_no_less
noncomputable def f_check_asked_1 : FS := (sDrop (eCall d_check_offers (aCons (eVar 0) (aCons (eVar 1) aNil))))
noncomputable def f_check_asked_2 : FS := (sDrop (eCall d_check_kinds (aCons (eVar 2) aNil)))
noncomputable def f_check_asked_3 : FS := (sIf (tNo (tV (eCall d_is_between (aCons (eVar 3) (aCons (eC (.int 0)) (aCons (eC (.int 99)) aNil)))))) (sRz "InvalidNumber") sNx)
noncomputable def f_check_asked : FS := sSeq f_check_asked_1 (sSeq f_check_asked_2 (f_check_asked_3))
noncomputable def d_check_asked : FD := runD 4 4 f_check_asked
noncomputable def f_touches_fault_1 : FS := (sAsg (eLst (aCons (eOp dIx (eVar 3) (eC (.int 1))) aNil)) (gN 4))
noncomputable def f_touches_fault_2 : FS := (sIf (tV (eOp dEqA (eOp dIx (eVar 3) (eC (.int 0))) (eC (.str "less")))) (sDrop (eMet kApp (eVar 4) (aCons (eCall d_with_more (aCons (eOp dIx (eVar 3) (eC (.int 1))) (aCons (eOp dIx (eVar 3) (eC (.int 2))) (aCons (eC (.int 1)) aNil)))) aNil))) sNx)
noncomputable def f_touches_fault_3 : FS := (sRet (eB dAny (aCons (eLc (fiL false (eVar 4)) [5] (.one 5) tT (eCall d_touches_under (aCons (eVar 0) (aCons (eVar 1) (aCons (eVar 2) (aCons (eVar 5) aNil)))))) aNil)))
noncomputable def f_touches_fault : FS := sSeq f_touches_fault_1 (sSeq f_touches_fault_2 (f_touches_fault_3))
noncomputable def d_touches_fault : FD := runD 6 4 f_touches_fault
noncomputable def f_bought_next_1 : FS := (sAsg (eLc (fiT (eVar 1)) [5, 6] (.tup [5, 6]) (tV (eOp (dInA true) (eVar 5) (eVar 2))) (eVar 5)) (gN 4))
noncomputable def f_bought_next_2 : FS := (sRet (eLc (fiL false (eVar 4)) [5] (.one 5) (tV (eCall d_touches_fault (aCons (eVar 0) (aCons (eVar 2) (aCons (eVar 5) (aCons (eVar 3) aNil)))))) (eB dTuple (aCons (eB dSortedT (aCons (eOp dAdd (eVar 2) (eTup (aCons (eVar 5) aNil))) aNil)) aNil))))
noncomputable def f_bought_next : FS := sSeq f_bought_next_1 (f_bought_next_2)
noncomputable def d_bought_next : FD := runD 7 4 f_bought_next
noncomputable def f_find_reason_1 : FS := (sIf (tV (eOp dGe (eCall d_total_of (aCons (eVar 1) (aCons (eVar 4) aNil))) (eVar 3))) (sRet (eC g_DEAR)) sNx)
noncomputable def f_find_reason_2 : FS := (sRet (eCall d_find_fault (aCons (eCall d_left_under (aCons (eVar 0) (aCons (eVar 4) aNil))) (aCons (eVar 2) aNil))))
noncomputable def f_find_reason : FS := sSeq f_find_reason_1 (f_find_reason_2)
noncomputable def d_find_reason : FD := runD 5 5 f_find_reason
noncomputable def b_find_paper_1_1 : FS := (sAsg (eMet0 kPop (eVar 5)) (gN 6))
noncomputable def b_find_paper_1_2 : FS := (sIf (tV (eOp (dInA false) (eVar 6) (eVar 4))) sCt sNx)
noncomputable def b_find_paper_1_3 : FS := (sAsg (eCall d_find_reason (aCons (eVar 0) (aCons (eVar 1) (aCons (eVar 2) (aCons (eVar 3) (aCons (eVar 6) aNil)))))) (gN 7))
noncomputable def b_find_paper_1_4 : FS := (sIf (tV (eOp dIs (eVar 7) (eC .non))) (sRet (eC .non)) sNx)
noncomputable def b_find_paper_1_5 : FS := (sAsg (eVar 7) (gSb (eVar 4) (eVar 6)))
noncomputable def b_find_paper_1_6 : FS := (sIf (tV (eOp dNeA (eVar 7) (eC g_DEAR))) (sDrop (eMet kExt (eVar 5) (aCons (eCall d_bought_next (aCons (eVar 0) (aCons (eVar 1) (aCons (eVar 6) (aCons (eVar 7) aNil))))) aNil))) sNx)
noncomputable def b_find_paper_1 : FS := sSeq b_find_paper_1_1 (sSeq b_find_paper_1_2 (sSeq b_find_paper_1_3 (sSeq b_find_paper_1_4 (sSeq b_find_paper_1_5 (b_find_paper_1_6)))))
noncomputable def f_find_paper_1 : FS := sEr
noncomputable def f_find_paper_2 : FS := (sAsg (eLst (aCons (eTup aNil) aNil)) (gN 5))
noncomputable def f_find_paper_3 : FS := (sWhile 1000 (tV (eOp dGt (eB dLen (aCons (eVar 5) aNil)) (eC (.int 0)))) b_find_paper_1)
noncomputable def f_find_paper_4 : FS := sEr
noncomputable def f_find_paper : FS := sSeq f_find_paper_1 (sSeq f_find_paper_2 (sSeq f_find_paper_3 (f_find_paper_4)))
noncomputable def d_find_paper : FD := runD 8 4 f_find_paper
noncomputable def f_is_reason_1 : FS := (sIf (tOr' (tNo (tV (eIsi "tuple" (eVar 5)))) (tV (eOp dEqA (eB dLen (aCons (eVar 5) aNil)) (eC (.int 0))))) (sRet (eC (.bl false))) sNx)
noncomputable def f_is_reason_2 : FS := (sAsg (eOp dIx (eVar 5) (eC (.int 0))) (gN 6))
noncomputable def f_is_reason_3 : FS := (sIf (tNo (tV (eIsi "str" (eVar 6)))) (sRet (eC (.bl false))) sNx)
noncomputable def f_is_reason_4 : FS := (sIf (tV (eOp dEqA (eVar 6) (eC (.str "dear")))) (sRet (eAn (eOp dEqA (eB dLen (aCons (eVar 5) aNil)) (eC (.int 1))) (eOp dGe (eCall d_total_of (aCons (eVar 1) (aCons (eVar 4) aNil))) (eVar 3)))) sNx)
noncomputable def f_is_reason_5 : FS := (sRet (eAn (eOp (dInA false) (eVar 6) (eVar 2)) (eCall d_is_fault (aCons (eCall d_left_under (aCons (eVar 0) (aCons (eVar 4) aNil))) (aCons (eVar 5) aNil)))))
noncomputable def f_is_reason : FS := sSeq f_is_reason_1 (sSeq f_is_reason_2 (sSeq f_is_reason_3 (sSeq f_is_reason_4 (f_is_reason_5))))
noncomputable def d_is_reason : FD := runD 7 6 f_is_reason
noncomputable def f_leads_into_1 : FS := (sIf (tV (eOp dEqA (eVar 3) (eC g_DEAR))) (sRet (eC (.bl true))) sNx)
noncomputable def f_leads_into_2 : FS := (sRet (eB dAll (aCons (eLc (fiL false (eCall d_bought_next (aCons (eVar 0) (aCons (eVar 1) (aCons (eVar 2) (aCons (eVar 3) aNil)))))) [5] (.one 5) tT (eOp (dInA false) (eVar 5) (eVar 4))) aNil)))
noncomputable def f_leads_into : FS := sSeq f_leads_into_1 (f_leads_into_2)
noncomputable def d_leads_into : FD := runD 6 5 f_leads_into
noncomputable def f_paper_1 : FS := (sDrop (eCall d_check_asked (aCons (eVar 0) (aCons (eVar 1) (aCons (eVar 2) (aCons (eVar 3) aNil))))))
noncomputable def f_paper_2 : FS := (sRet (eCall d_find_paper (aCons (eVar 0) (aCons (eVar 1) (aCons (eVar 2) (aCons (eVar 3) aNil))))))
noncomputable def f_paper : FS := sSeq f_paper_1 (f_paper_2)
noncomputable def d_paper : FD := runD 4 4 f_paper
noncomputable def f__law_fault_baskets : FS := (sRet (eIf (tV (eOp dEqA (eOp dIx (eVar 0) (eC (.int 0))) (eC (.str "less")))) (eLst (aCons (eOp dIx (eVar 0) (eC (.int 1))) (aCons (eCall d__law_more (aCons (eOp dIx (eVar 0) (eC (.int 1))) (aCons (eOp dIx (eVar 0) (eC (.int 2))) (aCons (eC (.int 1)) aNil)))) aNil))) (eLst (aCons (eOp dIx (eVar 0) (eC (.int 1))) aNil))))
noncomputable def d__law_fault_baskets : FD := runD 1 1 f__law_fault_baskets
noncomputable def f__law_is_right_1 : FS := (sIf (tV (eOp dEqA (eVar 5) (eTup (aCons (eC (.str "dear")) aNil)))) (sRet (eOp dGe (eCall d_price_of (aCons (eVar 0) (aCons (eVar 1) (aCons (eVar 4) aNil)))) (eVar 3))) sNx)
noncomputable def f__law_is_right_2 : FS := (sAsg (eCall d__law_under (aCons (eVar 0) (aCons (eVar 4) aNil))) (gN 6))
noncomputable def f__law_is_right_3 : FS := (sIf (tV (eOp (dIn true) (eOp dIx (eVar 5) (eC (.int 0))) (eVar 2))) (sRet (eC (.bl false))) sNx)
noncomputable def f__law_is_right_4 : FS := (sAsg (eOp dIx (eCall d__law_bill (aCons (eVar 6) (aCons (eOp dIx (eVar 5) (eC (.int 1))) aNil))) (eC (.int 0))) (gN 7))
noncomputable def f__law_is_right_5 : FS := (sIf (tV (eOp dEqA (eOp dIx (eVar 5) (eC (.int 0))) (eC (.str "loss")))) (sRet (eOp dLt (eVar 7) (eCall d__law_costs (aCons (eVar 6) (aCons (eOp dIx (eVar 5) (eC (.int 1))) aNil))))) sNx)
noncomputable def f__law_is_right_6 : FS := (sRet (eOp dLt (eOp dIx (eCall d__law_bill (aCons (eVar 6) (aCons (eCall d__law_more (aCons (eOp dIx (eVar 5) (eC (.int 1))) (aCons (eOp dIx (eVar 5) (eC (.int 2))) (aCons (eC (.int 1)) aNil)))) aNil))) (eC (.int 0))) (eVar 7)))
noncomputable def f__law_is_right : FS := sSeq f__law_is_right_1 (sSeq f__law_is_right_2 (sSeq f__law_is_right_3 (sSeq f__law_is_right_4 (sSeq f__law_is_right_5 (f__law_is_right_6)))))
noncomputable def d__law_is_right : FD := runD 8 6 f__law_is_right
noncomputable def b__law_is_true_1_1 : FS := (sAsg (eB dAny (aCons (eLc (fiT (eCall d__law_fault_baskets (aCons (eVar 7) aNil))) [12] (.one 12) tT (eCall d__law_touch (aCons (eVar 0) (aCons (eVar 6) (aCons (eVar 9) (aCons (eVar 12) aNil)))))) aNil)) (gN 11))
noncomputable def b__law_is_true_1_2 : FS := (sIf (tAn (tV (eOp (dInA true) (eVar 9) (eVar 6))) (tV (eVar 11))) (sAsg (eAn (eVar 8) (eOp (dInA false) (eB dTuple (aCons (eB dSortedT (aCons (eOp dAdd (eVar 6) (eTup (aCons (eVar 9) aNil))) aNil)) aNil)) (eVar 5))) (gN 8)) sNx)
noncomputable def b__law_is_true_1 : FS := sSeq b__law_is_true_1_1 (b__law_is_true_1_2)
noncomputable def b__law_is_true_2_1 : FS := (sAsg (eCall d__law_is_right (aCons (eVar 0) (aCons (eVar 1) (aCons (eVar 2) (aCons (eVar 3) (aCons (eVar 6) (aCons (eVar 7) aNil))))))) (gN 8))
noncomputable def b__law_is_true_2_2 : FS := (sIf (tV (eOp dNeA (eVar 7) (eTup (aCons (eC (.str "dear")) aNil)))) (sFor (fiT (eVar 1)) (gT 2 (gsCons (gN 9) (gsCons (gN 10) gsNil))) b__law_is_true_1) sNx)
noncomputable def b__law_is_true_2_3 : FS := (sIf (tNo (tV (eVar 8))) (sRet (eC (.bl false))) sNx)
noncomputable def b__law_is_true_2 : FS := sSeq b__law_is_true_2_1 (sSeq b__law_is_true_2_2 (b__law_is_true_2_3))
noncomputable def f__law_is_true_1 : FS := (sAsg (eLc (fiL false (eVar 4)) [6, 7] (.tup [6, 7]) tT (eVar 6)) (gN 5))
noncomputable def f__law_is_true_2 : FS := (sFor (fiL true (eVar 4)) (gT 2 (gsCons (gN 6) (gsCons (gN 7) gsNil))) b__law_is_true_2)
noncomputable def f__law_is_true_3 : FS := (sRet (eOp (dInA false) (eTup aNil) (eVar 5)))
noncomputable def f__law_is_true : FS := sSeq f__law_is_true_1 (sSeq f__law_is_true_2 (f__law_is_true_3))
noncomputable def d__law_is_true : FD := runD 13 5 f__law_is_true
noncomputable def f_is_idle_1 : FS := (sAsg (eOp dIx (eVar 0) (eVar 1)) (gN 2))
noncomputable def f_is_idle_2 : FS := (sIf (tV (eOp (dIn false) (eOp dIx (eVar 2) (eC (.int 0))) (eC g_SUM_WORDS))) (sRet (eC (.bl false))) sNx)
noncomputable def f_is_idle_3 : FS := (sRet (eOp dNeA (eCall d_fitting_rule (aCons (eVar 0) (aCons (eOp dIx (eVar 2) (eC (.int 1))) (aCons (eOp dIx (eVar 2) (eC (.int 2))) aNil)))) (eVar 1)))
noncomputable def f_is_idle : FS := sSeq f_is_idle_1 (sSeq f_is_idle_2 (f_is_idle_3))
noncomputable def d_is_idle : FD := runD 3 2 f_is_idle
noncomputable def f_idle_rules_1 : FS := (sDrop (eCall d_check_shop (aCons (eVar 0) aNil)))
noncomputable def f_idle_rules_2 : FS := (sAsg (eOp dIx (eVar 0) (eC (.int 1))) (gN 1))
noncomputable def f_idle_rules_3 : FS := (sRet (eLc (fiR1 (aCons (eB dLen (aCons (eVar 1) aNil)) aNil)) [2] (.one 2) (tV (eCall d_is_idle (aCons (eVar 1) (aCons (eVar 2) aNil)))) (eVar 2)))
noncomputable def f_idle_rules : FS := sSeq f_idle_rules_1 (sSeq f_idle_rules_2 (f_idle_rules_3))
noncomputable def d_idle_rules : FD := runD 3 1 f_idle_rules
noncomputable def f_parting_limit_1 : FS := (sAsg (eCall d_cycle (aCons (eVar 0) (aCons (eVar 2) aNil))) (gT 3 (gsCons (gN 3) (gsCons (gN 4) (gsCons (gN 5) gsNil)))))
noncomputable def f_parting_limit_2 : FS := (sAsg (eCall d_cycle (aCons (eVar 1) (aCons (eVar 2) aNil))) (gT 3 (gsCons (gN 6) (gsCons (gN 7) (gsCons (gN 5) gsNil)))))
noncomputable def f_parting_limit_3 : FS := sEr
noncomputable def f_parting_limit : FS := sSeq f_parting_limit_1 (sSeq f_parting_limit_2 (f_parting_limit_3))
noncomputable def d_parting_limit : FD := runD 8 3 f_parting_limit
noncomputable def b_find_parting_1_1 : FS := (sIf (tV (eOp dNeA (eOp dIx (eVar 3) (eVar 5)) (eOp dIx (eVar 4) (eVar 5)))) (sRet (eVar 5)) sNx)
noncomputable def b_find_parting_1 : FS := b_find_parting_1_1
noncomputable def f_find_parting_1 : FS := (sAsg (eLc (fiR1 (aCons (eB dLen (aCons (eOp dIx (eVar 0) (eC (.int 0))) aNil)) aNil)) [6] (.one 6) tT (eCall d_parting_limit (aCons (eVar 0) (aCons (eVar 1) (aCons (eVar 6) aNil))))) (gN 2))
noncomputable def f_find_parting_2 : FS := (sAsg (eCall d_charges_within (aCons (eVar 0) (aCons (eVar 2) aNil))) (gN 3))
noncomputable def f_find_parting_3 : FS := (sAsg (eCall d_charges_within (aCons (eVar 1) (aCons (eVar 2) aNil))) (gN 4))
noncomputable def f_find_parting_4 : FS := (sFor (fiL true (eCall d_baskets_within (aCons (eVar 2) aNil))) (gN 5) b_find_parting_1)
noncomputable def f_find_parting_5 : FS := (sRet (eC .non))
noncomputable def f_find_parting : FS := sSeq f_find_parting_1 (sSeq f_find_parting_2 (sSeq f_find_parting_3 (sSeq f_find_parting_4 (f_find_parting_5))))
noncomputable def d_find_parting : FD := runD 7 2 f_find_parting
noncomputable def f_check_both_1 : FS := (sDrop (eCall d_check_shop (aCons (eVar 0) aNil)))
noncomputable def f_check_both_2 : FS := (sDrop (eCall d_check_shop (aCons (eVar 1) aNil)))
noncomputable def f_check_both_3 : FS := (sIf (tV (eOp dNeA (eB dLen (aCons (eOp dIx (eVar 0) (eC (.int 0))) aNil)) (eB dLen (aCons (eOp dIx (eVar 1) (eC (.int 0))) aNil)))) (sRz "Different") sNx)
noncomputable def f_check_both : FS := sSeq f_check_both_1 (sSeq f_check_both_2 (f_check_both_3))
noncomputable def d_check_both : FD := runD 2 2 f_check_both
noncomputable def f_same_charges_1 : FS := (sDrop (eCall d_check_both (aCons (eVar 0) (aCons (eVar 1) aNil))))
noncomputable def f_same_charges_2 : FS := (sRet (eOp dIs (eCall d_find_parting (aCons (eVar 0) (aCons (eVar 1) aNil))) (eC .non)))
noncomputable def f_same_charges : FS := sSeq f_same_charges_1 (f_same_charges_2)
noncomputable def d_same_charges : FD := runD 2 2 f_same_charges
noncomputable def f_parting_basket_1 : FS := (sDrop (eCall d_check_both (aCons (eVar 0) (aCons (eVar 1) aNil))))
noncomputable def f_parting_basket_2 : FS := (sRet (eCall d_find_parting (aCons (eVar 0) (aCons (eVar 1) aNil))))
noncomputable def f_parting_basket : FS := sSeq f_parting_basket_1 (f_parting_basket_2)
noncomputable def d_parting_basket : FD := runD 2 2 f_parting_basket
noncomputable def f__law_high_both : FS := (sRet (eLc (fiZ false (aCons (eCall d__law_high (aCons (eVar 0) aNil)) (aCons (eCall d__law_high (aCons (eVar 1) aNil)) aNil))) [2] (.one 2) tT (eOp dAdd (eB dMax1 (aCons (eVar 2) aNil)) (eC (.int 18)))))
noncomputable def d__law_high_both : FD := runD 3 2 f__law_high_both
noncomputable def f_with_exchanged_1 : FS := (sAsg (eVar 0) (gT 2 (gsCons (gN 2) (gsCons (gN 3) gsNil))))
noncomputable def f_with_exchanged_2 : FS := (sRet (eTup (aCons (eVar 2) (aCons (eOp dAdd (eOp dAdd (eSl (eVar 3) tNp (tPa (eVar 1))) (eTup (aCons (eOp dIx (eVar 3) (eOp dAdd (eVar 1) (eC (.int 1)))) (aCons (eOp dIx (eVar 3) (eVar 1)) aNil)))) (eSl (eVar 3) (tPa (eOp dAdd (eVar 1) (eC (.int 2)))) tNp)) aNil))))
noncomputable def f_with_exchanged : FS := sSeq f_with_exchanged_1 (f_with_exchanged_2)
noncomputable def d_with_exchanged : FD := runD 4 2 f_with_exchanged
noncomputable def f_exchangeable_1 : FS := (sDrop (eCall d_check_shop (aCons (eVar 0) aNil)))
noncomputable def f_exchangeable_2 : FS := (sRet (eLc (fiR1 (aCons (eOp dSub (eB dLen (aCons (eOp dIx (eVar 0) (eC (.int 1))) aNil)) (eC (.int 1))) aNil)) [1] (.one 1) (tV (eOp dIs (eCall d_find_parting (aCons (eVar 0) (aCons (eCall d_with_exchanged (aCons (eVar 0) (aCons (eVar 1) aNil))) aNil))) (eC .non))) (eVar 1)))
noncomputable def f_exchangeable : FS := sSeq f_exchangeable_1 (f_exchangeable_2)
noncomputable def d_exchangeable : FD := runD 2 1 f_exchangeable
noncomputable def f__law_one : FS := (sTry 2 (sSeq (sIf (tV (eOp dEqA (eVar 1) (eC (.int 0)))) (sRet (eCall d_has_less (aCons (eVar 0) aNil))) sNx)
    (sSeq (sIf (tV (eOp dEqA (eVar 1) (eC (.int 1)))) (sRet (eCall d_has_loss (aCons (eVar 0) aNil))) sNx)
    (sSeq (sIf (tV (eOp dEqA (eVar 1) (eC (.int 2)))) (sRet (eCall d_box (aCons (eVar 0) aNil))) sNx)
    (sSeq (sIf (tV (eOp dEqA (eVar 1) (eC (.int 3)))) (sRet (eCall d_idle_rules (aCons (eVar 0) aNil))) sNx)
    (sSeq (sIf (tV (eOp dEqA (eVar 1) (eC (.int 4)))) (sRet (eCall d_exchangeable (aCons (eVar 0) aNil))) sNx)
    (sSeq (sIf (tV (eOp dEqA (eVar 1) (eC (.int 5)))) (sRet (eCall d_is_fault (aCons (eVar 0) (aCons (eC .non) aNil)))) sNx)
    (sRet (eIf (tV (eOp dEqA (eVar 1) (eC (.int 6)))) (eCall d_first_less (aCons (eVar 0) aNil)) (eCall d_some_loss (aCons (eVar 0) aNil)))))))))))
noncomputable def d__law_one : FD := runD 3 2 f__law_one
noncomputable def b__wall_1_1 : FS := sNx
noncomputable def b__wall_1 : FS := b__wall_1_1
noncomputable def f__wall : FS := (sWhile 1000 (tV (eC (.bl true))) b__wall_1)
noncomputable def d__wall : FD := runD 1 1 f__wall
noncomputable def f__law_put : FS := (sTry 2 sEr)
noncomputable def d__law_put : FD := runD 3 2 f__law_put
noncomputable def f__law_take : FS := (sTry 2 sEr)
noncomputable def d__law_take : FD := runD 3 2 f__law_take
noncomputable def f__law_undo : FS := (sTry 1 sEr)
noncomputable def d__law_undo : FD := runD 2 1 f__law_undo
noncomputable def b_naive_less_1_1 : FS := (sAsg (eTup (aCons (eC (.str "less")) (aCons (eVar 4) (aCons (eVar 5) aNil)))) (gN 6))
noncomputable def b_naive_less_1_2 : FS := (sIf (tV (eCall d_is_less (aCons (eVar 0) (aCons (eVar 6) aNil)))) (sRet (eVar 6)) sNx)
noncomputable def b_naive_less_1 : FS := sSeq b_naive_less_1_1 (b_naive_less_1_2)
noncomputable def b_naive_less_2_1 : FS := (sFor (fiR1 (aCons (eVar 2) aNil)) (gN 5) b_naive_less_1)
noncomputable def b_naive_less_2 : FS := b_naive_less_2_1
noncomputable def b_naive_less_3_1 : FS := (sFor (fiL true (eCall d_baskets_of (aCons (eVar 3) (aCons (eOp dMulT (eTup (aCons (eVar 1) aNil)) (eVar 2)) aNil)))) (gN 4) b_naive_less_2)
noncomputable def b_naive_less_3 : FS := b_naive_less_3_1
noncomputable def f_naive_less_1 : FS := (sDrop (eCall d_check_shop (aCons (eVar 0) aNil)))
noncomputable def f_naive_less_2 : FS := (sIf (tNo (tV (eCall d_is_between (aCons (eVar 1) (aCons (eC (.int 0)) (aCons (eC (.int 40)) aNil)))))) (sRz "InvalidNumber") sNx)
noncomputable def f_naive_less_3 : FS := (sAsg (eB dLen (aCons (eOp dIx (eVar 0) (eC (.int 0))) aNil)) (gN 2))
noncomputable def f_naive_less_4 : FS := (sFor (fiR1 (aCons (eOp dAdd (eVar 1) (eC (.int 1))) aNil)) (gN 3) b_naive_less_3)
noncomputable def f_naive_less_5 : FS := (sRet (eC .non))
noncomputable def f_naive_less : FS := sSeq f_naive_less_1 (sSeq f_naive_less_2 (sSeq f_naive_less_3 (sSeq f_naive_less_4 (f_naive_less_5))))
noncomputable def d_naive_less : FD := runD 7 2 f_naive_less
noncomputable def f_naive_least_price_1 : FS := (sDrop (eCall d_check_offers (aCons (eVar 0) (aCons (eVar 1) aNil))))
noncomputable def f_naive_least_price_2 : FS := (sDrop (eCall d_check_kinds (aCons (eVar 2) aNil)))
noncomputable def f_naive_least_price_3 : FS := (sAsg (eLc (fiL false (eCall d_all_bought_of (aCons (eVar 1) aNil))) [4] (.one 4) (tV (eCall d_is_cure_of (aCons (eVar 0) (aCons (eVar 2) (aCons (eVar 4) aNil))))) (eCall d_total_of (aCons (eVar 1) (aCons (eVar 4) aNil)))) (gN 3))
noncomputable def f_naive_least_price_4 : FS := sEr
noncomputable def f_naive_least_price : FS := sSeq f_naive_least_price_1 (sSeq f_naive_least_price_2 (sSeq f_naive_least_price_3 (f_naive_least_price_4)))
noncomputable def d_naive_least_price : FD := runD 5 3 f_naive_least_price
noncomputable def f__law_alone : FS := (sTry 2 (sSeq (sIf (tV (eOp dLt (eVar 1) (eC (.int 4)))) sEr sNx)
    (sSeq (sIf (tV (eOp dLt (eVar 1) (eC (.int 7)))) sEr sNx)
    (sSeq (sIf (tV (eOp dEqA (eVar 1) (eC (.int 7)))) sEr sNx)
    sEr))))
noncomputable def d__law_alone : FD := runD 3 2 f__law_alone
noncomputable def f__law_two : FS := (sTry 3 (sSeq (sIf (tV (eOp dLt (eVar 2) (eC (.int 4)))) sEr sNx)
    (sSeq (sIf (tV (eOp dLt (eVar 2) (eC (.int 7)))) sEr sNx)
    (sRet (eIf (tV (eOp dEqA (eVar 2) (eC (.int 7)))) (eCall d_shop_under (aCons (eVar 0) (aCons (eVar 1) aNil))) (eCall d_sure_acts (aCons (eVar 0) (aCons (eVar 1) (aCons (eC .non) aNil)))))))))
noncomputable def d__law_two : FD := runD 4 3 f__law_two
noncomputable def f__law_shops : FS := (sTry 3 (sRet (eIf (tV (eOp dEqA (eVar 2) (eC (.int 0)))) (eCall d_same_charges (aCons (eVar 0) (aCons (eVar 1) aNil))) (eCall d_parting_basket (aCons (eVar 0) (aCons (eVar 1) aNil))))))
noncomputable def d__law_shops : FD := runD 4 3 f__law_shops
end DL
namespace DL
open PySem PySem.Spec L2
def isBetween (v : D) (lo hi : Int) : Bool := match v with
  | .int i => decide (lo ≤ i) && decide (i ≤ hi)
  | _ => false
def isInt : D → Bool
  | .int _ => true
  | _ => false
theorem r_is_integer (v : D) : d_is_integer [.im v] = .ok (.im (.bl (isInt v))) [.no] := by
  cases v <;> simp [d_is_integer, f_is_integer, isInt, sEr, op2, op1, T.val, R.opt, toB, opL, vals, consT, disp, mvs, mkTup, callT, callI, argE, others, isAl, isAli, finT, outE, padE, runD, cpsOf, cpT, toI, slT, T.weak, metT, kApp, kExt, elemD, iT, iL, iR1, iR2, iE, iZ, onI]
theorem r_is_between (v : D) (lo hi : Int) : d_is_between [.im v, .im (.int lo), .im (.int hi)] = .ok (.im (.bl (isBetween v lo hi))) [.no, .no, .no] := by
  cases v <;> simp [d_is_between, f_is_between, isBetween, r_is_integer, isInt, sEr, op2, op1, T.val, R.opt, toB, opL, vals, consT, disp, mvs, mkTup, callT, callI, argE, others, isAl, isAli, finT, outE, padE, runD, cpsOf, cpT, toI, slT, T.weak, metT, kApp, kExt, elemD, iT, iL, iR1, iR2, iE, iZ, onI]
def isTupleOf (v : D) (n : Int) : Bool := match v with
  | .tup ds => (ds.length : Int) == n
  | _ => false
theorem r_is_tuple_of (v : D) (n : Int) : d_is_tuple_of [.im v, .im (.int n)] = .ok (.im (.bl (isTupleOf v n))) [.no, .no] := by
  cases v <;> simp [d_is_tuple_of, f_is_tuple_of, isTupleOf, sEr, op2, op1, T.val, R.opt, toB, opL, vals, consT, disp, mvs, mkTup, callT, callI, argE, others, isAl, isAli, finT, outE, padE, runD, cpsOf, cpT, toI, slT, T.weak, metT, kApp, kExt, elemD, iT, iL, iR1, iR2, iE, iZ, onI]
def isMost (v : D) : Bool := match v with
  | .non => true
  | v => isBetween v 1 2
theorem r_is_most (v : D) : d_is_most [.im v] = .ok (.im (.bl (isMost v))) [.no] := by
  cases v <;> simp [d_is_most, f_is_most, isMost, r_is_between, sEr, op2, op1, T.val, R.opt, toB, opL, vals, consT, disp, mvs, mkTup, callT, callI, argE, others, isAl, isAli, finT, outE, padE, runD, cpsOf, cpT, toI, slT, T.weak, metT, kApp, kExt, elemD, iT, iL, iR1, iR2, iE, iZ, onI]
def isGood (v : D) : Bool := match v with
  | .tup [p, c] => isBetween p 1 9 && isBetween c 0 9
  | _ => false
theorem tup_len {n : Int} {ds : List D} (h : isTupleOf (.tup ds) n = true) : (ds.length : Int) = n := by simpa [isTupleOf] using h
theorem r_is_good (v : D) : d_is_good [.im v] = .ok (.im (.bl (isGood v))) [.no] := by
  by_cases h : isTupleOf v 2 = true
  · obtain ⟨a, b, rfl⟩ : ∃ a b, v = .tup [a, b] := by
      cases v <;> simp [isTupleOf] at h
      rename_i ds
      match ds, h with
      | [a, b], _ => exact ⟨a, b, rfl⟩
    simp [d_is_good, f_is_good, isGood, r_is_tuple_of, r_is_between, h, sEr, op2, op1, T.val, R.opt, toB, opL, vals, consT, disp, mvs, mkTup, callT, callI, argE, others, isAl, isAli, finT, outE, padE, runD, cpsOf, cpT, toI, slT, T.weak, metT, kApp, kExt, elemD, iT, iL, iR1, iR2, iE, iZ, onI]
  · have e : isGood v = false := by
      unfold isGood
      split
      · simp [isTupleOf] at h
      · rfl
    simp [d_is_good, f_is_good, e, r_is_tuple_of, h, sEr, op2, op1, T.val, R.opt, toB, opL, vals, consT, disp, mvs, mkTup, callT, callI, argE, others, isAl, isAli, finT, outE, padE, runD, cpsOf, cpT, toI, slT, T.weak, metT, kApp, kExt, elemD, iT, iL, iR1, iR2, iE, iZ, onI]
theorem isBt_int {v : D} {a b : Int} (h : isBetween v a b = true) : ∃ i, v = .int i := by
  cases v <;> first | exact ⟨_, rfl⟩ | exact (Bool.false_ne_true h).elim
theorem isTup_get {v : D} {n : Int} (h : isTupleOf v n = true) : ∃ ds, v = .tup ds ∧ (ds.length : Int) = n := by
  cases v <;> simp [isTupleOf] at h
  exact ⟨_, rfl, h⟩
def isPack (v : D) (n : Int) : Bool := match v with
  | .tup [_, .int g, .int s, p, m] => isBetween (.int g) 0 (n - 1) && (isBetween (.int s) 2 3 && (isBetween p s 30 && isMost m))
  | _ => false
theorem r_is_pack (v : D) (n : Int) : d_is_pack [.im v, .im (.int n)] = .ok (.im (.bl (isPack v n))) [.no, .no] := by
  by_cases h : isTupleOf v 5 = true
  · obtain ⟨ds, rfl, hl⟩ := isTup_get h
    match ds, hl with
    | [a, g, s, p, m], _ =>
      by_cases hg : isBetween g 0 (n - 1) = true
      · by_cases hs : isBetween s 2 3 = true
        · obtain ⟨g, rfl⟩ := isBt_int hg
          obtain ⟨s, rfl⟩ := isBt_int hs
          simp [d_is_pack, f_is_pack, isPack, r_is_tuple_of, r_is_between, r_is_most, h, sEr, op2, op1, T.val, R.opt, toB, opL, vals, consT, disp, mvs, mkTup, callT, callI, argE, others, isAl, isAli, finT, outE, padE, runD, cpsOf, cpT, toI, slT, T.weak, metT, kApp, kExt, elemD, iT, iL, iR1, iR2, iE, iZ, onI]
        · have e : isPack (.tup [a, g, s, p, m]) n = false := by
            unfold isPack
            split
            · rename_i z; cases z; simp [hs]
            · rfl
          simp [d_is_pack, f_is_pack, e, r_is_tuple_of, r_is_between, r_is_most, h, hs, sEr, op2, op1, T.val, R.opt, toB, opL, vals, consT, disp, mvs, mkTup, callT, callI, argE, others, isAl, isAli, finT, outE, padE, runD, cpsOf, cpT, toI, slT, T.weak, metT, kApp, kExt, elemD, iT, iL, iR1, iR2, iE, iZ, onI]
      · have e : isPack (.tup [a, g, s, p, m]) n = false := by
          unfold isPack
          split
          · rename_i z; cases z; simp [hg]
          · rfl
        simp [d_is_pack, f_is_pack, e, r_is_tuple_of, r_is_between, r_is_most, h, hg, sEr, op2, op1, T.val, R.opt, toB, opL, vals, consT, disp, mvs, mkTup, callT, callI, argE, others, isAl, isAli, finT, outE, padE, runD, cpsOf, cpT, toI, slT, T.weak, metT, kApp, kExt, elemD, iT, iL, iR1, iR2, iE, iZ, onI]
  · have e : isPack v n = false := by
      unfold isPack
      split
      · simp [isTupleOf] at h
      · rfl
    simp [d_is_pack, f_is_pack, e, r_is_tuple_of, h, sEr, op2, op1, T.val, R.opt, toB, opL, vals, consT, disp, mvs, mkTup, callT, callI, argE, others, isAl, isAli, finT, outE, padE, runD, cpsOf, cpT, toI, slT, T.weak, metT, kApp, kExt, elemD, iT, iL, iR1, iR2, iE, iZ, onI]
def isFrom (v : D) (n : Int) : Bool := match v with
  | .tup [_, g, l, p] => isBetween g 0 (n - 1) && (isBetween l 2 4 && isBetween p 1 9)
  | _ => false
theorem r_is_from (v : D) (n : Int) : d_is_from [.im v, .im (.int n)] = .ok (.im (.bl (isFrom v n))) [.no, .no] := by
  by_cases h : isTupleOf v 4 = true
  · obtain ⟨ds, rfl, hl⟩ := isTup_get h
    match ds, hl with
    | [a, g, s, p], _ => simp [d_is_from, f_is_from, isFrom, r_is_tuple_of, r_is_between, h, sEr, op2, op1, T.val, R.opt, toB, opL, vals, consT, disp, mvs, mkTup, callT, callI, argE, others, isAl, isAli, finT, outE, padE, runD, cpsOf, cpT, toI, slT, T.weak, metT, kApp, kExt, elemD, iT, iL, iR1, iR2, iE, iZ, onI]
  · have e : isFrom v n = false := by
      unfold isFrom
      split
      · simp [isTupleOf] at h
      · rfl
    simp [d_is_from, f_is_from, e, r_is_tuple_of, h, sEr, op2, op1, T.val, R.opt, toB, opL, vals, consT, disp, mvs, mkTup, callT, callI, argE, others, isAl, isAli, finT, outE, padE, runD, cpsOf, cpT, toI, slT, T.weak, metT, kApp, kExt, elemD, iT, iL, iR1, iR2, iE, iZ, onI]
def isOver (v : D) : Bool := match v with
  | .tup [_, .int f, o] => isBetween (.int f) 2 12 && isBetween o 1 (if f < 6 then f else 6)
  | _ => false
theorem r_is_over (v : D) : d_is_over [.im v] = .ok (.im (.bl (isOver v))) [.no] := by
  by_cases h : isTupleOf v 3 = true
  · obtain ⟨ds, rfl, hl⟩ := isTup_get h
    match ds, hl with
    | [a, f, o], _ =>
      by_cases hf : isBetween f 2 12 = true
      · obtain ⟨f, rfl⟩ := isBt_int hf
        simp [d_is_over, f_is_over, isOver, r_is_tuple_of, r_is_between, h, dMin2, sEr, op2, op1, T.val, R.opt, toB, opL, vals, consT, disp, mvs, mkTup, callT, callI, argE, others, isAl, isAli, finT, outE, padE, runD, cpsOf, cpT, toI, slT, T.weak, metT, kApp, kExt, elemD, iT, iL, iR1, iR2, iE, iZ, onI]
      · have e : isOver (.tup [a, f, o]) = false := by
          unfold isOver
          split
          · rename_i z; cases z; simp [hf]
          · rfl
        simp [d_is_over, f_is_over, e, r_is_tuple_of, r_is_between, h, hf, sEr, op2, op1, T.val, R.opt, toB, opL, vals, consT, disp, mvs, mkTup, callT, callI, argE, others, isAl, isAli, finT, outE, padE, runD, cpsOf, cpT, toI, slT, T.weak, metT, kApp, kExt, elemD, iT, iL, iR1, iR2, iE, iZ, onI]
  · have e : isOver v = false := by
      unfold isOver
      split
      · simp [isTupleOf] at h
      · rfl
    simp [d_is_over, f_is_over, e, r_is_tuple_of, h, sEr, op2, op1, T.val, R.opt, toB, opL, vals, consT, disp, mvs, mkTup, callT, callI, argE, others, isAl, isAli, finT, outE, padE, runD, cpsOf, cpT, toI, slT, T.weak, metT, kApp, kExt, elemD, iT, iL, iR1, iR2, iE, iZ, onI]
def isNon : D → Bool
  | .non => true
  | _ => false
def isEach (v : D) : Bool := match v with
  | .tup [_, .int f, .int o, m] => isBetween (.int f) 2 6 && (isBetween (.int o) 1 f && (isMost m && (!isNon m || decide (2 * o ≤ f))))
  | _ => false
theorem dNis_non (m : D) : dNis m .non = some (.im (.bl (!isNon m))) := by cases m <;> rfl
theorem dIs_non (m : D) : dIs m .non = some (.im (.bl (isNon m))) := by cases m <;> rfl
theorem r_is_each (v : D) : d_is_each [.im v] = .ok (.im (.bl (isEach v))) [.no] := by
  by_cases h : isTupleOf v 4 = true
  · obtain ⟨ds, rfl, hl⟩ := isTup_get h
    match ds, hl with
    | [a, f, o, m], _ =>
      by_cases hf : isBetween f 2 6 = true
      · obtain ⟨f, rfl⟩ := isBt_int hf
        by_cases ho : isBetween o 1 f = true
        · obtain ⟨o, rfl⟩ := isBt_int ho
          have q : (-(2 ^ 64) < (2 : Int) ∧ (2 : Int) < 2 ^ 64) ∨ (-(2 ^ 64) < o ∧ o < 2 ^ 64) := .inl (by decide)
          simp [d_is_each, f_is_each, isEach, r_is_tuple_of, r_is_between, r_is_most, h, hf, ho, dNis_non, dMulA, sEr, op2, op1, T.val, R.opt, toB, opL, vals, consT, disp, mvs, mkTup, callT, callI, argE, others, isAl, isAli, finT, outE, padE, runD, cpsOf, cpT, toI, slT, T.weak, metT, kApp, kExt, elemD, iT, iL, iR1, iR2, iE, iZ, onI, -dNis]
        · have e : isEach (.tup [a, .int f, o, m]) = false := by
            unfold isEach
            split
            · rename_i z; cases z; simp [ho]
            · rfl
          simp [d_is_each, f_is_each, e, r_is_tuple_of, r_is_between, h, ho, hf, sEr, op2, op1, T.val, R.opt, toB, opL, vals, consT, disp, mvs, mkTup, callT, callI, argE, others, isAl, isAli, finT, outE, padE, runD, cpsOf, cpT, toI, slT, T.weak, metT, kApp, kExt, elemD, iT, iL, iR1, iR2, iE, iZ, onI]
      · have e : isEach (.tup [a, f, o, m]) = false := by
          unfold isEach
          split
          · rename_i z; cases z; simp [hf]
          · rfl
        simp [d_is_each, f_is_each, e, r_is_tuple_of, r_is_between, h, hf, sEr, op2, op1, T.val, R.opt, toB, opL, vals, consT, disp, mvs, mkTup, callT, callI, argE, others, isAl, isAli, finT, outE, padE, runD, cpsOf, cpT, toI, slT, T.weak, metT, kApp, kExt, elemD, iT, iL, iR1, iR2, iE, iZ, onI]
  · have e : isEach v = false := by
      unfold isEach
      split
      · simp [isTupleOf] at h
      · rfl
    simp [d_is_each, f_is_each, e, r_is_tuple_of, h, sEr, op2, op1, T.val, R.opt, toB, opL, vals, consT, disp, mvs, mkTup, callT, callI, argE, others, isAl, isAli, finT, outE, padE, runD, cpsOf, cpT, toI, slT, T.weak, metT, kApp, kExt, elemD, iT, iL, iR1, iR2, iE, iZ, onI]
def isRule (v : D) (n : Int) : Bool := match v with
  | .tup (.str x :: ds) => bif x == "pack" then isPack v n else bif x == "from" then isFrom v n else bif x == "over" then isOver v else (x == "each" && isEach v)
  | _ => false
theorem r_is_rule (v : D) (n : Int) : d_is_rule [.im v, .im (.int n)] = .ok (.im (.bl (isRule v n))) [.no, .no] := by
  have q : ∀ k : Nat, ((k : Int) + 1 == 0) = false := fun k => by simp; omega
  rcases v with _ | _ | _ | _ | ds | _ | _ <;> try (simp [d_is_rule, f_is_rule, isRule, sEr, op2, op1, T.val, R.opt, toB, opL, vals, consT, disp, mvs, mkTup, callT, callI, argE, others, isAl, isAli, finT, outE, padE, runD, cpsOf, cpT, toI, slT, T.weak, metT, kApp, kExt, elemD, iT, iL, iR1, iR2, iE, iZ, onI]; done)
  cases ds with
  | nil => simp [d_is_rule, f_is_rule, isRule, sEr, op2, op1, T.val, R.opt, toB, opL, vals, consT, disp, mvs, mkTup, callT, callI, argE, others, isAl, isAli, finT, outE, padE, runD, cpsOf, cpT, toI, slT, T.weak, metT, kApp, kExt, elemD, iT, iL, iR1, iR2, iE, iZ, onI]
  | cons w ds =>
    cases w <;> simp [d_is_rule, f_is_rule, isRule, dIx, atI, ixN, q, r_is_pack, r_is_from, r_is_over, r_is_each, sEr, op2, op1, T.val, R.opt, toB, opL, vals, consT, disp, mvs, mkTup, callT, callI, argE, others, isAl, isAli, finT, outE, padE, runD, cpsOf, cpT, toI, slT, T.weak, metT, kApp, kExt, elemD, iT, iL, iR1, iR2, iE, iZ, onI]

end DL
namespace DL
open PySem PySem.Spec L2
def isEndless (v : D) : Bool := match v with
  | .tup [.str x, _, _, m] => x == "each" && isNon m
  | _ => false
theorem rule_word {v : D} {n : Int} (h : isRule v n = true) : ∃ x ds, v = .tup (.str x :: ds) := by
  unfold isRule at h
  split at h
  · exact ⟨_, _, rfl⟩
  · cases h
theorem each_form {ds : List D} (h : isEach (.tup ds) = true) : ∃ a b c m, ds = [a, b, c, m] := by
  unfold isEach at h
  split at h
  · rename_i z; cases z; exact ⟨_, _, _, _, rfl⟩
  · cases h
theorem rule_each {x : Str} {ds : List D} {n : Int} (h : isRule (.tup (.str x :: ds)) n = true) (e : x = "each") : ∃ b c m, ds = [b, c, m] := by
  subst e
  have h : isEach (.tup (.str "each" :: ds)) = true := h
  obtain ⟨a, b, c, m, e⟩ := each_form h
  cases e
  exact ⟨b, c, m, rfl⟩
theorem r_endless {v : D} {n : Int} (h : isRule v n = true) : d_is_endless_each [.im v] = .ok (.im (.bl (isEndless v))) [.no] := by
  obtain ⟨x, ds, rfl⟩ := rule_word h
  have q : ∀ k : Nat, (0 : Int) < (k : Int) + 1 := fun k => by omega
  by_cases e : x = "each"
  · obtain ⟨b, c, m, rfl⟩ := rule_each h e
    subst e
    simp [d_is_endless_each, f_is_endless_each, isEndless, dIx, atI, ixN, dIs_non, sEr, op2, op1, T.val, R.opt, toB, opL, vals, consT, disp, mvs, mkTup, callT, callI, argE, others, isAl, isAli, finT, outE, padE, runD, cpsOf, cpT, toI, slT, T.weak, metT, kApp, kExt, elemD, iT, iL, iR1, iR2, iE, iZ, onI, -dIs]
  · have e' : (x == "each") = false := by simpa using e
    have e2 : isEndless (.tup (.str x :: ds)) = false := by
      unfold isEndless
      split
      · rename_i z; cases z; simp [e']
      · rfl
    simp [d_is_endless_each, f_is_endless_each, e2, e', dIx, atI, ixN, q, sEr, op2, op1, T.val, R.opt, toB, opL, vals, consT, disp, mvs, mkTup, callT, callI, argE, others, isAl, isAli, finT, outE, padE, runD, cpsOf, cpT, toI, slT, T.weak, metT, kApp, kExt, elemD, iT, iL, iR1, iR2, iE, iZ, onI, -dIs]
def areGoods (v : D) : Bool := match v with
  | .tup ds => (decide (1 ≤ ds.length) && decide (ds.length ≤ 2)) && ds.all isGood
  | _ => false
theorem small_size {n : Nat} (h : n ≤ 1000) : n ≤ sizeLine := Nat.le_trans h (by decide)
theorem l_goods (ds : List D) (h : ds.length ≤ 1000) : eLc (fiT (eVar 0)) [1] (.one 1) tT (eCall d_is_good (aCons (eVar 1) aNil)) [.im (.tup ds), .no] = .ok (.fr (ds.map fun d => .bl (isGood d))) [.im (.tup ds), .no] := by
  have := lc_map (k := ⟨ds, none⟩) (vs := [1]) (t := .one 1) (fe := eCall d_is_good (aCons (eVar 1) aNil)) (h := fun d => .bl (isGood d)) (env := [.im (.tup ds), .no]) trivial ds [] (small_size (by simpa using h)) fun d _ =>
    ⟨_, _, _, rfl, by simp [r_is_good, sEr, op2, op1, T.val, R.opt, toB, opL, vals, consT, disp, mvs, mkTup, callT, callI, argE, others, isAl, isAli, finT, outE, padE, runD, cpsOf, cpT, toI, slT, T.weak, metT, kApp, kExt, elemD, iT, iL, iR1, iR2, iE, iZ, onI]; exact ⟨rfl, rfl⟩, rfl, rfl⟩
  rw [eLc_s]
  simp [wipeE, this, sEr, op2, op1, T.val, R.opt, toB, opL, vals, consT, disp, mvs, mkTup, callT, callI, argE, others, isAl, isAli, finT, outE, padE, runD, cpsOf, cpT, toI, slT, T.weak, metT, kApp, kExt, elemD, iT, iL, iR1, iR2, iE, iZ, onI]
theorem r_are_goods (v : D) : d_are_goods [.im v] = .ok (.im (.bl (areGoods v))) [.no] := by
  rcases v with _ | _ | _ | _ | ds | _ | _ <;> try (simp [d_are_goods, f_are_goods, areGoods, sEr, op2, op1, T.val, R.opt, toB, opL, vals, consT, disp, mvs, mkTup, callT, callI, argE, others, isAl, isAli, finT, outE, padE, runD, cpsOf, cpT, toI, slT, T.weak, metT, kApp, kExt, elemD, iT, iL, iR1, iR2, iE, iZ, onI]; done)
  by_cases h : 1 ≤ ds.length ∧ ds.length ≤ 2
  · have h1 : (1 : Int) ≤ ds.length := by omega
    have h2 : (ds.length : Int) ≤ 2 := by omega
    simp [d_are_goods, f_are_goods, areGoods, h, h1, h2, l_goods ds (by omega), sEr, op2, op1, T.val, R.opt, toB, opL, vals, consT, disp, mvs, mkTup, callT, callI, argE, others, isAl, isAli, finT, outE, padE, runD, cpsOf, cpT, toI, slT, T.weak, metT, kApp, kExt, elemD, iT, iL, iR1, iR2, iE, iZ, onI]
  · have e : (decide (1 ≤ ds.length) && decide (ds.length ≤ 2)) = false := by simpa using h
    have e2 : (!decide ((1 : Int) ≤ ds.length) || !decide ((ds.length : Int) ≤ 2)) = true := by simp; omega
    simp [d_are_goods, f_are_goods, areGoods, e, e2, sEr, op2, op1, T.val, R.opt, toB, opL, vals, consT, disp, mvs, mkTup, callT, callI, argE, others, isAl, isAli, finT, outE, padE, runD, cpsOf, cpT, toI, slT, T.weak, metT, kApp, kExt, elemD, iT, iL, iR1, iR2, iE, iZ, onI]
def rulesOk (ds : List D) (n : Int) : Bool := ds.all fun d => isRule d n
def areRules (v : D) (n : Int) : Bool := match v with
  | .tup ds => (decide (ds.length ≤ 4) && rulesOk ds n) && decide ((ds.filter isEndless).length ≤ 1)
  | _ => false
theorem l_rules1 (ds : List D) (n : Int) (h : ds.length ≤ 1000) : eLc (fiT (eVar 0)) [2] (.one 2) tT (eCall d_is_rule (aCons (eVar 2) (aCons (eVar 1) aNil))) [.im (.tup ds), .im (.int n), .no] = .ok (.fr (ds.map fun d => .bl (isRule d n))) [.im (.tup ds), .im (.int n), .no] := by
  have := lc_map (k := ⟨ds, none⟩) (vs := [2]) (t := .one 2) (fe := eCall d_is_rule (aCons (eVar 2) (aCons (eVar 1) aNil))) (h := fun d => .bl (isRule d n)) (env := [.im (.tup ds), .im (.int n), .no]) trivial ds [] (small_size (by simpa using h)) fun d _ =>
    ⟨_, _, _, rfl, by simp [r_is_rule, sEr, op2, op1, T.val, R.opt, toB, opL, vals, consT, disp, mvs, mkTup, callT, callI, argE, others, isAl, isAli, finT, outE, padE, runD, cpsOf, cpT, toI, slT, T.weak, metT, kApp, kExt, elemD, iT, iL, iR1, iR2, iE, iZ, onI]; exact ⟨rfl, rfl⟩, rfl, rfl⟩
  rw [eLc_s]
  simp [wipeE, this, sEr, op2, op1, T.val, R.opt, toB, opL, vals, consT, disp, mvs, mkTup, callT, callI, argE, others, isAl, isAli, finT, outE, padE, runD, cpsOf, cpT, toI, slT, T.weak, metT, kApp, kExt, elemD, iT, iL, iR1, iR2, iE, iZ, onI]
theorem l_rules2 (ds : List D) (n : Int) (h : ds.length ≤ 1000) (hr : rulesOk ds n = true) : eLc (fiT (eVar 0)) [2] (.one 2) (tV (eCall d_is_endless_each (aCons (eVar 2) aNil))) (eVar 2) [.im (.tup ds), .im (.int n), .no] = .ok (.fr (ds.filter isEndless)) [.im (.tup ds), .im (.int n), .no] := by
  have hr : ∀ d ∈ ds, isRule d n = true := by simpa [rulesOk] using hr
  have := lc_filter (k := ⟨ds, none⟩) (vs := [2]) (t := .one 2) (ft := tV (eCall d_is_endless_each (aCons (eVar 2) aNil))) (fe := eVar 2) (p := isEndless) (h := id) (env := [.im (.tup ds), .im (.int n), .no]) trivial ds [] (small_size (by simpa using h)) fun d z =>
    ⟨_, _, rfl, by simp [r_endless (hr d z), sEr, op2, op1, T.val, R.opt, toB, opL, vals, consT, disp, mvs, mkTup, callT, callI, argE, others, isAl, isAli, finT, outE, padE, runD, cpsOf, cpT, toI, slT, T.weak, metT, kApp, kExt, elemD, iT, iL, iR1, iR2, iE, iZ, onI]; exact rfl, rfl, fun _ => ⟨_, _, rfl, rfl, rfl⟩⟩
  rw [eLc_s]
  simp [wipeE, this, sEr, op2, op1, T.val, R.opt, toB, opL, vals, consT, disp, mvs, mkTup, callT, callI, argE, others, isAl, isAli, finT, outE, padE, runD, cpsOf, cpT, toI, slT, T.weak, metT, kApp, kExt, elemD, iT, iL, iR1, iR2, iE, iZ, onI]
theorem r_are_rules (v : D) (n : Int) : d_are_rules [.im v, .im (.int n)] = .ok (.im (.bl (areRules v n))) [.no, .no] := by
  rcases v with _ | _ | _ | _ | ds | _ | _ <;> try (simp [d_are_rules, f_are_rules, areRules, sEr, op2, op1, T.val, R.opt, toB, opL, vals, consT, disp, mvs, mkTup, callT, callI, argE, others, isAl, isAli, finT, outE, padE, runD, cpsOf, cpT, toI, slT, T.weak, metT, kApp, kExt, elemD, iT, iL, iR1, iR2, iE, iZ, onI]; done)
  by_cases h : ds.length ≤ 4
  · have h1 : ¬ (4 : Int) < ds.length := by omega
    by_cases hr : rulesOk ds n = true
    · have hr' : (ds.all fun d => isRule d n) = true := hr
      have e2 : decide (((ds.filter isEndless).length : Int) ≤ 1) = decide ((ds.filter isEndless).length ≤ 1) := by
        rw [Bool.eq_iff_iff]; simp; omega
      simp [d_are_rules, f_are_rules, areRules, h, h1, hr', hr, l_rules1 ds n (by omega), l_rules2 ds n (by omega) hr, e2, sEr, op2, op1, T.val, R.opt, toB, opL, vals, consT, disp, mvs, mkTup, callT, callI, argE, others, isAl, isAli, finT, outE, padE, runD, cpsOf, cpT, toI, slT, T.weak, metT, kApp, kExt, elemD, iT, iL, iR1, iR2, iE, iZ, onI]
    · have hr' : (ds.all fun d => isRule d n) = false := by simpa [rulesOk] using hr
      simp [d_are_rules, f_are_rules, areRules, h, h1, hr', hr, l_rules1 ds n (by omega), sEr, op2, op1, T.val, R.opt, toB, opL, vals, consT, disp, mvs, mkTup, callT, callI, argE, others, isAl, isAli, finT, outE, padE, runD, cpsOf, cpT, toI, slT, T.weak, metT, kApp, kExt, elemD, iT, iL, iR1, iR2, iE, iZ, onI]
  · have h1 : (4 : Int) < ds.length := by omega
    simp [d_are_rules, f_are_rules, areRules, h, h1, sEr, op2, op1, T.val, R.opt, toB, opL, vals, consT, disp, mvs, mkTup, callT, callI, argE, others, isAl, isAli, finT, outE, padE, runD, cpsOf, cpT, toI, slT, T.weak, metT, kApp, kExt, elemD, iT, iL, iR1, iR2, iE, iZ, onI]
def isShop (v : D) : Bool := match v with
  | .tup [.tup gs, rs] => areGoods (.tup gs) && areRules rs gs.length
  | _ => false
theorem goods_tup {v : D} (h : areGoods v = true) : ∃ gs, v = .tup gs := by
  cases v <;> first | exact ⟨_, rfl⟩ | exact (Bool.false_ne_true h).elim
theorem r_is_shop (v : D) : d_is_shop [.im v] = .ok (.im (.bl (isShop v))) [.no] := by
  by_cases h : isTupleOf v 2 = true
  · obtain ⟨ds, rfl, hl⟩ := isTup_get h
    match ds, hl with
    | [g, r], _ =>
      by_cases hg : areGoods g = true
      · obtain ⟨gs, rfl⟩ := goods_tup hg
        simp [d_is_shop, f_is_shop, isShop, r_is_tuple_of, r_are_goods, r_are_rules, h, hg, sEr, op2, op1, T.val, R.opt, toB, opL, vals, consT, disp, mvs, mkTup, callT, callI, argE, others, isAl, isAli, finT, outE, padE, runD, cpsOf, cpT, toI, slT, T.weak, metT, kApp, kExt, elemD, iT, iL, iR1, iR2, iE, iZ, onI]
      · have e : isShop (.tup [g, r]) = false := by
          unfold isShop
          split
          · rename_i z; cases z; simp [hg]
          · rfl
        simp [d_is_shop, f_is_shop, e, r_is_tuple_of, r_are_goods, h, hg, sEr, op2, op1, T.val, R.opt, toB, opL, vals, consT, disp, mvs, mkTup, callT, callI, argE, others, isAl, isAli, finT, outE, padE, runD, cpsOf, cpT, toI, slT, T.weak, metT, kApp, kExt, elemD, iT, iL, iR1, iR2, iE, iZ, onI]
  · have e : isShop v = false := by
      unfold isShop
      split
      · simp [isTupleOf] at h
      · rfl
    simp [d_is_shop, f_is_shop, e, r_is_tuple_of, h, sEr, op2, op1, T.val, R.opt, toB, opL, vals, consT, disp, mvs, mkTup, callT, callI, argE, others, isAl, isAli, finT, outE, padE, runD, cpsOf, cpT, toI, slT, T.weak, metT, kApp, kExt, elemD, iT, iL, iR1, iR2, iE, iZ, onI]
theorem fin4 {p0 : En} {r : D} {m : Nat} {rest : En} {n p : Nat} {f : FS} (hp : p0.length = p) (h : f (padE n p0) = .rt (.im r) rest) (o : En) (ho : outE p0 rest = some o) : runD n p f p0 = .ok (.im r) o := by
  show (if p0.length = p then finF p0 (f (padE n p0)) else .er) = _
  rw [if_pos hp, h]
  show (match outE p0 rest with
    | some o => R.ok (T.im r) o
    | none => .er) = _
  rw [ho]
theorem sFor_of {fi : FI} {g : FG} {f : FS} {env e : En} {its : List D} {x : Fl} (h1 : fi env = .ok ⟨its, none⟩ e) (h2 : loopF g f its e = x) : sFor fi g f env = x := by
  rw [sFor_s, h1]
  exact h2

end DL
namespace DL
open PySem PySem.Spec L2
abbrev scr (ns : List Int) : Sl := .im (.fz (ns.map D.int))
theorem atI_ok {ds : List D} {i : Int} (h0 : 0 ≤ i) (h : i < ds.length) : ∃ d, atI ds i = some d ∧ ds[i.toNat]? = some d := by
  have hi : i.toNat < ds.length := by omega
  refine ⟨ds[i.toNat], ?_, List.getElem?_eq_getElem hi⟩
  unfold atI ixN
  simp [h0, h, hi]
theorem at_ints {ns : List Int} {i : Int} (h0 : 0 ≤ i) (h : i < ns.length) : ∃ z, atI (ns.map D.int) i = some (.int z) := by
  obtain ⟨d, e, q⟩ := atI_ok (ds := ns.map D.int) h0 (by simpa using h)
  rw [List.getElem?_map] at q
  obtain ⟨z, q1, q2⟩ := Option.map_eq_some_iff.mp q
  exact ⟨z, by rw [e, q2]⟩
theorem lays_ints : ∀ ns : List Int, lays (ns.map D.int) = true
  | [] => rfl
  | n :: ns => by rw [List.map_cons]; unfold lays; rw [lays_ints ns]; rfl
theorem deps_ints : ∀ ns : List Int, deps (ns.map D.int) = 0
  | [] => rfl
  | n :: ns => by rw [List.map_cons]; unfold deps; rw [deps_ints ns]; rfl
theorem shp_ints (ns : List Int) : shp (.fz (ns.map D.int)) = true := by
  rw [shp_eq, lay, dep, lays_ints, deps_ints]
  rfl
theorem eq_nil (ns : List Int) : dEqA (.fz (ns.map D.int)) (.lst []) = some (.im (.bl ns.isEmpty)) := by
  have e : shp (.lst []) = true := by rfl
  unfold dEqA dEqS dEq
  simp [shp_ints, e]
  cases ns <;> rfl
theorem r_cell (ns : List Int) (k : Int) (hl : ns.length ≤ 63) (hk : 0 ≤ k) : ∃ z, d__law_cell_at [scr ns, .im (.int k)] = .ok (.im (.int z)) [.no, .no] := by
  by_cases h : k < ns.length
  · obtain ⟨z, e⟩ := at_ints hk h
    exact ⟨z, by simp [d__law_cell_at, f__law_cell_at, scr, h, e, dIx, sEr, op2, op1, T.val, R.opt, toB, opL, vals, consT, disp, mvs, mkTup, callT, callI, argE, others, isAl, isAli, finT, outE, padE, runD, cpsOf, cpT, toI, slT, T.weak, metT, kApp, kExt, elemD, iT, iL, iR1, iR2, iE, iZ, onI]⟩
  · by_cases he : ns = []
    · subst he
      have e := eq_nil []
      refine ⟨0, ?_⟩
      have hk' : ¬ k < 0 := by omega
      simp at e
      simp [d__law_cell_at, f__law_cell_at, scr, hk', e, sEr, op2, op1, T.val, R.opt, toB, opL, vals, consT, disp, mvs, mkTup, callT, callI, argE, others, isAl, isAli, finT, outE, padE, runD, cpsOf, cpT, toI, slT, T.weak, metT, kApp, kExt, elemD, iT, iL, iR1, iR2, iE, iZ, onI]
    · have hp : 0 < ns.length := List.length_pos_iff.mpr he
      have hp' : (0 : Int) < ns.length := by omega
      have hp2 : (ns.length : Int) < 1073741824 := by omega
      obtain ⟨s, es⟩ := at_ints (ns := ns) (i := k % ns.length) (Int.emod_nonneg _ (by omega)) (Int.emod_lt_of_pos _ hp')
      have e := eq_nil ns
      have hne : ns.isEmpty = false := by cases ns <;> first | rfl | exact (he rfl).elim
      rw [hne] at e
      have hq : 0 ≤ k / ns.length := Int.ediv_nonneg hk (by omega)
      -- the loop
      obtain ⟨n, en⟩ : ∃ n : Int, n = if 60 < k / (ns.length : Int) then 60 else k / (ns.length : Int) := ⟨_, rfl⟩
      have hb : (-4611686018427387904 ≤ n) ∧ n < 4611686018427387904 := by
        rw [en]
        split <;> omega
      obtain ⟨e2, q1, s2, a2, q2⟩ := loop_all (g := gN 3) (f := sAsg (eOp dFdiv (eVar 2) (eC (.int 1000003))) (gN 2)) (ds := rngD 0 n) (env := [scr ns, .im (.int k), .im (.int s), .no]) (I := fun _ e => ∃ (s : Int) (a : Sl), e = [scr ns, .im (.int k), .im (.int s), a]) ⟨s, .no, rfl⟩ (by
        rintro i d _ hd ⟨s, a, rfl⟩
        exact ⟨_, [scr ns, .im (.int k), .im (.int (s / 1000003)), .im d], rfl, .inl (by simp [scr, sEr, op2, op1, T.val, R.opt, toB, opL, vals, consT, disp, mvs, mkTup, callT, callI, argE, others, isAl, isAli, finT, outE, padE, runD, cpsOf, cpT, toI, slT, T.weak, metT, kApp, kExt, elemD, iT, iL, iR1, iR2, iE, iZ, onI]), _, _, rfl⟩)
      subst q2
      have fl : sFor (fiR1 (aCons (eB dMin2 (aCons (eOp dFdiv (eVar 1) (eB dLen (aCons (eVar 0) aNil))) (aCons (eC (.int 60)) aNil))) aNil)) (gN 3) (sAsg (eOp dFdiv (eVar 2) (eC (.int 1000003))) (gN 2)) [scr ns, .im (.int k), .im (.int s), .no] = .nx [scr ns, .im (.int k), .im (.int s2), a2] := by
        rw [sFor_s]
        simp [scr, hp, hp', hp2, dMin2, sEr, op2, op1, T.val, R.opt, toB, opL, vals, consT, disp, mvs, mkTup, callT, callI, argE, others, isAl, isAli, finT, outE, padE, runD, cpsOf, cpT, toI, slT, T.weak, metT, kApp, kExt, elemD, iT, iL, iR1, iR2, iE, iZ, onI]
        rw [← en, if_pos hb]
        exact q1
      refine ⟨s * 31 + k + s2 * 101, ?_⟩
      simp [d__law_cell_at, f__law_cell_at, scr, h, e, es, dIx, hp, hp', fl, dMulA, sEr, op2, op1, T.val, R.opt, toB, opL, vals, consT, disp, mvs, mkTup, callT, callI, argE, others, isAl, isAli, finT, outE, padE, runD, cpsOf, cpT, toI, slT, T.weak, metT, kApp, kExt, elemD, iT, iL, iR1, iR2, iE, iZ, onI]

end DL
namespace DL
open PySem PySem.Spec L2
theorem r_mixed (ns : List Int) (k m : Int) (hl : ns.length ≤ 63) (hk : 0 ≤ k) (hm : 0 < m) : ∃ v, d__law_mixed [scr ns, .im (.int k), .im (.int m)] = .ok (.im (.int v)) [.no, .no, .no] ∧ 0 ≤ v ∧ v < m := by
  obtain ⟨z, e⟩ := r_cell ns k hl hk
  have b1 : 0 ≤ (z * 1103515245 + 7919 * k + 12345) % 2147483647 := Int.emod_nonneg _ (by decide)
  have b2 : (z * 1103515245 + 7919 * k + 12345) % 2147483647 < 2147483647 := Int.emod_lt_of_pos _ (by decide)
  obtain ⟨s, es⟩ : ∃ s, s = (z * 1103515245 + 7919 * k + 12345) % 2147483647 := ⟨_, rfl⟩
  rw [← es] at b1 b2
  have b3 : s.natAbs < 18446744073709551616 := by omega
  refine ⟨s ^ 5 % 2147483647 % 999983 % m, ?_, Int.emod_nonneg _ (by omega), Int.emod_lt_of_pos _ hm⟩
  unfold scr at e
  simp [d__law_mixed, f__law_mixed, scr, e, dMulA, hm, ← es, b3, sEr, op2, op1, T.val, R.opt, toB, opL, vals, consT, disp, mvs, mkTup, callT, callI, argE, others, isAl, isAli, finT, outE, padE, runD, cpsOf, cpT, toI, slT, T.weak, metT, kApp, kExt, elemD, iT, iL, iR1, iR2, iE, iZ, onI]
abbrev rep0 (n : Nat) : List D := List.replicate n (.int 0)
theorem rep0_app (n : Nat) : rep0 n ++ [.int 0] = rep0 (n + 1) := by
  unfold rep0
  rw [List.replicate_succ', ]
theorem r_draw (ns : List Int) (n : Nat) (m : Int) (hl : ns.length ≤ 63) (hn : n < 999999) (hm : 0 < m) : ∃ v, d__law_draw [scr ns, .own true (rep0 n), .im (.int m)] = .ok (.im (.int v)) [.no, .own true (rep0 (n + 1)), .no] ∧ 0 ≤ v ∧ v < m := by
  obtain ⟨v, e, h⟩ := r_mixed ns (n + 1 : Nat) m hl (by omega) hm
  refine ⟨v, ?_, h⟩
  have hn' : n < 1000000 := by omega
  unfold scr at e
  have a := rep0_app n
  unfold rep0 at a
  simp at e
  simp [d__law_draw, f__law_draw, scr, rep0, a, hn', e, sEr, op2, op1, T.val, R.opt, toB, opL, vals, consT, disp, mvs, mkTup, callT, callI, argE, others, isAl, isAli, finT, outE, padE, runD, cpsOf, cpT, toI, slT, T.weak, metT, kApp, kExt, elemD, iT, iL, iR1, iR2, iE, iZ, onI]
theorem r_pick (ns : List Int) (n : Nat) (d : D) (ds : List D) (hd : d = .lst ds ∨ d = .tup ds) (hl : ns.length ≤ 63) (hn : n < 999999) (h0 : 0 < ds.length) : ∃ x ∈ ds, d__law_pick [scr ns, .own true (rep0 n), .im d] = .ok (.im x) [.no, .own true (rep0 (n + 1)), .no] := by
  obtain ⟨v, e, h1, h2⟩ := r_draw ns n ds.length hl hn (by omega)
  obtain ⟨x, e1, e2⟩ := atI_ok h1 h2
  refine ⟨x, List.mem_of_getElem? e2, ?_⟩
  unfold scr rep0 at e
  rcases hd with rfl | rfl <;> simp [d__law_pick, f__law_pick, scr, rep0, e, dIx, e1, sEr, op2, op1, T.val, R.opt, toB, opL, vals, consT, disp, mvs, mkTup, callT, callI, argE, others, isAl, isAli, finT, outE, padE, runD, cpsOf, cpT, toI, slT, T.weak, metT, kApp, kExt, elemD, iT, iL, iR1, iR2, iE, iZ, onI]

end DL
namespace DL
open PySem PySem.Spec L2
/-- goods as they are drawn -/
structure GoodGs (gs : List D) : Prop where
  len : 1 ≤ gs.length ∧ gs.length ≤ 2
  all : ∀ g ∈ gs, ∃ p c : Int, g = .tup [.int p, .int c] ∧ (3 ≤ p ∧ p ≤ 9) ∧ (0 ≤ c ∧ c ≤ 7)
abbrev Er (ns : List Int) (n : Nat) (gs : List D) (cap : Bool) (a b c d e f g : Sl) : En := [scr ns, .own true (rep0 n), .im (.tup gs), .im (.bl cap), a, b, c, d, e, f, g]
theorem isPack_of {g s p n : Int} {m : D} (h1 : 0 ≤ g ∧ g < n) (h2 : 2 ≤ s ∧ s ≤ 3) (h3 : s ≤ p ∧ p ≤ 30) (h4 : isMost m = true) : isRule (.tup [.str "pack", .int g, .int s, .int p, m]) n = true := by
  show isPack (.tup [.str "pack", .int g, .int s, .int p, m]) n = true
  simp [isPack, isBetween, h4, h1.1, h2, h3]
  omega
theorem isFrom_of {g s p n : Int} (h1 : 0 ≤ g ∧ g < n) (h2 : 2 ≤ s ∧ s ≤ 4) (h3 : 1 ≤ p ∧ p ≤ 9) : isRule (.tup [.str "from", .int g, .int s, .int p]) n = true := by
  show isFrom (.tup [.str "from", .int g, .int s, .int p]) n = true
  simp [isFrom, isBetween, h1.1, h2, h3]
  omega
theorem isOver_of {f o n : Int} (h1 : 2 ≤ f ∧ f ≤ 12) (h2 : 1 ≤ o ∧ o ≤ 6) (h3 : o ≤ f) : isRule (.tup [.str "over", .int f, .int o]) n = true := by
  show isOver (.tup [.str "over", .int f, .int o]) = true
  simp [isOver, isBetween, h1, h2.1]
  split <;> omega
theorem isEach_of {f o n : Int} {m : D} (h1 : 2 ≤ f ∧ f ≤ 6) (h2 : 1 ≤ o) (h3 : 2 * o ≤ f) (h4 : isMost m = true) : isRule (.tup [.str "each", .int f, .int o, m]) n = true := by
  show isEach (.tup [.str "each", .int f, .int o, m]) = true
  have h5 : o ≤ f := by omega
  simp [isEach, isBetween, h1, h2, h3, h4, h5]
theorem most_mem {x : D} (h : x ∈ [D.non, .non, .int 1, .int 2]) : isMost x = true := by
  simp at h
  rcases h with rfl | rfl | rfl <;> rfl
theorem r_some_rule (ns : List Int) (n : Nat) (gs : List D) (cap : Bool) (hl : ns.length ≤ 63) (hn : n < 900000) (hg : GoodGs gs) : ∃ (r : D) (m : Nat), d__law_some_rule [scr ns, .own true (rep0 n), .im (.tup gs), .im (.bl cap)] = .ok (.im r) [.no, .own true (rep0 m), .no, .no] ∧ n ≤ m ∧ m ≤ n + 6 ∧ isRule r gs.length = true ∧ (cap = true → isEndless r = false) ∧ D.flat r = true := by
  obtain ⟨l1, l2⟩ := hg.len
  obtain ⟨kind, e1, k1, k2⟩ := r_draw ns n 5 hl (by omega) (by decide)
  obtain ⟨good, e2, g1, g2⟩ := r_draw ns (n + 1) gs.length hl (by omega) (by omega)
  obtain ⟨gd, e3, e4⟩ := atI_ok g1 g2
  obtain ⟨p, c, rfl, hp, hc⟩ := hg.all gd (List.mem_of_getElem? e4)
  have s1 : f__law_some_rule_1 (Er ns n gs cap .no .no .no .no .no .no .no) = .nx (Er ns (n + 1) gs cap (.im (.int kind)) .no .no .no .no .no .no) := by
    simp [scr] at e1
    simp [f__law_some_rule_1, scr, e1, sEr, op2, op1, T.val, R.opt, toB, opL, vals, consT, disp, mvs, mkTup, callT, callI, argE, others, isAl, isAli, finT, outE, padE, runD, cpsOf, cpT, toI, slT, T.weak, metT, kApp, kExt, elemD, iT, iL, iR1, iR2, iE, iZ, onI]
  have s2 : f__law_some_rule_2 (Er ns (n + 1) gs cap (.im (.int kind)) .no .no .no .no .no .no) = .nx (Er ns (n + 2) gs cap (.im (.int kind)) (.im (.int good)) .no .no .no .no .no) := by
    simp [scr] at e2
    simp [f__law_some_rule_2, scr, e2, sEr, op2, op1, T.val, R.opt, toB, opL, vals, consT, disp, mvs, mkTup, callT, callI, argE, others, isAl, isAli, finT, outE, padE, runD, cpsOf, cpT, toI, slT, T.weak, metT, kApp, kExt, elemD, iT, iL, iR1, iR2, iE, iZ, onI]
  have s3 : f__law_some_rule_3 (Er ns (n + 2) gs cap (.im (.int kind)) (.im (.int good)) .no .no .no .no .no) = .nx (Er ns (n + 2) gs cap (.im (.int kind)) (.im (.int good)) (.im (.int p)) .no .no .no .no) := by
    simp [f__law_some_rule_3, scr, dIx, e3, sEr, op2, op1, T.val, R.opt, toB, opL, vals, consT, disp, mvs, mkTup, callT, callI, argE, others, isAl, isAli, finT, outE, padE, runD, cpsOf, cpT, toI, slT, T.weak, metT, kApp, kExt, elemD, iT, iL, iR1, iR2, iE, iZ, onI]
    simp [atI, ixN]
  -- from the body's end to the whole
  have fin : ∀ {r : D} {m : Nat} {a b c d e f g : Sl}, f__law_some_rule (Er ns n gs cap .no .no .no .no .no .no .no) = .rt (.im r) (Er ns m gs cap a b c d e f g) → d__law_some_rule [scr ns, .own true (rep0 n), .im (.tup gs), .im (.bl cap)] = .ok (.im r) [.no, .own true (rep0 m), .no, .no] := fun {r m a b c d e f g} h => by
    show (if [scr ns, .own true (rep0 n), .im (.tup gs), .im (.bl cap)].length = 4 then finF [scr ns, .own true (rep0 n), .im (.tup gs), .im (.bl cap)] (f__law_some_rule (Er ns n gs cap .no .no .no .no .no .no .no)) else .er) = _
    rw [if_pos (show [scr ns, Sl.own true (rep0 n), .im (.tup gs), .im (.bl cap)].length = 4 from rfl), h]
    rfl
  have whole : ∀ {x : Fl}, sSeq f__law_some_rule_4 (sSeq f__law_some_rule_5 (sSeq f__law_some_rule_6 (sSeq f__law_some_rule_7 (sSeq f__law_some_rule_8 f__law_some_rule_9)))) (Er ns (n + 2) gs cap (.im (.int kind)) (.im (.int good)) (.im (.int p)) .no .no .no .no) = x → f__law_some_rule (Er ns n gs cap .no .no .no .no .no .no .no) = x := fun {x} h => by
    unfold f__law_some_rule
    rw [sSeq_s, s1, seq_nx, sSeq_s, s2, seq_nx, sSeq_s, s3, seq_nx]
    exact h
  by_cases c1 : kind < 2
  · -- pack
    obtain ⟨sz, e5, z1, z2⟩ := r_draw ns (n + 2) 2 hl (by omega) (by decide)
    obtain ⟨off, e6, o1, o2⟩ := r_draw ns (n + 3) (2 * (2 + sz) + 2) hl (by omega) (by omega)
    obtain ⟨mo, hm, e7⟩ := r_pick ns (n + 4) (.tup [.non, .non, .int 1, .int 2]) _ (.inr rfl) hl (by omega) (by decide)
    have pr : (2 + sz) * p ≤ 27 := by
      have : (2 + sz) * p ≤ 3 * 9 := Int.mul_le_mul (by omega) (by omega) (by omega) (by decide)
      omega
    obtain ⟨pri, ep⟩ : ∃ pri : Int, pri = if (2 + sz) * p - off > 2 + sz then (2 + sz) * p - off else 2 + sz := ⟨_, rfl⟩
    have hpri : 2 + sz ≤ pri ∧ pri ≤ 30 := by rw [ep]; split <;> omega
    have bb : -18446744073709551616 < 2 + sz ∧ 2 + sz < 18446744073709551616 := by omega
    have bb2 : -18446744073709551616 < p ∧ p < 18446744073709551616 := by omega
    have q : sSeq f__law_some_rule_4 (sSeq f__law_some_rule_5 (sSeq f__law_some_rule_6 (sSeq f__law_some_rule_7 (sSeq f__law_some_rule_8 f__law_some_rule_9)))) (Er ns (n + 2) gs cap (.im (.int kind)) (.im (.int good)) (.im (.int p)) .no .no .no .no) = .rt (.im (.tup [.str "pack", .int good, .int (2 + sz), .int pri, mo])) (Er ns (n + 5) gs cap (.im (.int kind)) (.im (.int good)) (.im (.int p)) .no .no (.im (.int (2 + sz))) (.im (.int pri))) := by
      rw [sSeq_s]
      simp [scr] at e5 e6 e7
      simp [f__law_some_rule_4, scr, c1, e5, e6, e7, dMulA, bb, bb2, dMax2, ← ep, sEr, op2, op1, T.val, R.opt, toB, opL, vals, consT, disp, mvs, mkTup, callT, callI, argE, others, isAl, isAli, finT, outE, padE, runD, cpsOf, cpT, toI, slT, T.weak, metT, kApp, kExt, elemD, iT, iL, iR1, iR2, iE, iZ, onI]
    have hf : D.flat mo = true := by
      simp at hm
      rcases hm with rfl | rfl | rfl <;> rfl
    exact ⟨_, n + 5, fin (whole q), by omega, by omega, isPack_of ⟨g1, g2⟩ (by omega) hpri (most_mem hm), fun _ => rfl, by simp [D.flat, D.flats, hf]⟩
  · have s4 : f__law_some_rule_4 (Er ns (n + 2) gs cap (.im (.int kind)) (.im (.int good)) (.im (.int p)) .no .no .no .no) = .nx (Er ns (n + 2) gs cap (.im (.int kind)) (.im (.int good)) (.im (.int p)) .no .no .no .no) := by
      simp [f__law_some_rule_4, scr, c1, sEr, op2, op1, T.val, R.opt, toB, opL, vals, consT, disp, mvs, mkTup, callT, callI, argE, others, isAl, isAli, finT, outE, padE, runD, cpsOf, cpT, toI, slT, T.weak, metT, kApp, kExt, elemD, iT, iL, iR1, iR2, iE, iZ, onI]
    by_cases c2 : kind = 2
    · -- from
      subst c2
      obtain ⟨le, e5, z1, z2⟩ := r_draw ns (n + 2) 3 hl (by omega) (by decide)
      obtain ⟨off, e6, o1, o2⟩ := r_draw ns (n + 3) 4 hl (by omega) (by decide)
      obtain ⟨pri, ep⟩ : ∃ pri : Int, pri = if p - off > 1 then p - off else 1 := ⟨_, rfl⟩
      have hpri : 1 ≤ pri ∧ pri ≤ 9 := by rw [ep]; split <;> omega
      have q : sSeq f__law_some_rule_5 (sSeq f__law_some_rule_6 (sSeq f__law_some_rule_7 (sSeq f__law_some_rule_8 f__law_some_rule_9))) (Er ns (n + 2) gs cap (.im (.int 2)) (.im (.int good)) (.im (.int p)) .no .no .no .no) = .rt (.im (.tup [.str "from", .int good, .int (2 + le), .int pri])) (Er ns (n + 4) gs cap (.im (.int 2)) (.im (.int good)) (.im (.int p)) .no .no .no .no) := by
        rw [sSeq_s]
        simp [scr] at e5 e6
        simp [f__law_some_rule_5, scr, e5, e6, dMax2, ← ep, sEr, op2, op1, T.val, R.opt, toB, opL, vals, consT, disp, mvs, mkTup, callT, callI, argE, others, isAl, isAli, finT, outE, padE, runD, cpsOf, cpT, toI, slT, T.weak, metT, kApp, kExt, elemD, iT, iL, iR1, iR2, iE, iZ, onI]
      exact ⟨_, n + 4, fin (whole (by rw [sSeq_s, s4, seq_nx]; exact q)), by omega, by omega, isFrom_of ⟨g1, g2⟩ (by omega) hpri, fun _ => rfl, by simp [D.flat, D.flats]⟩
    · have s5 : f__law_some_rule_5 (Er ns (n + 2) gs cap (.im (.int kind)) (.im (.int good)) (.im (.int p)) .no .no .no .no) = .nx (Er ns (n + 2) gs cap (.im (.int kind)) (.im (.int good)) (.im (.int p)) .no .no .no .no) := by
        have c2' : (kind == 2) = false := by simpa using c2
        simp [f__law_some_rule_5, scr, c2', sEr, op2, op1, T.val, R.opt, toB, opL, vals, consT, disp, mvs, mkTup, callT, callI, argE, others, isAl, isAli, finT, outE, padE, runD, cpsOf, cpT, toI, slT, T.weak, metT, kApp, kExt, elemD, iT, iL, iR1, iR2, iE, iZ, onI]
      by_cases c3 : kind = 3
      · -- over
        subst c3
        obtain ⟨wh, e5, z1, z2⟩ := r_draw ns (n + 2) 9 hl (by omega) (by decide)
        obtain ⟨off, e6, o1, o2⟩ := r_draw ns (n + 3) 4 hl (by omega) (by decide)
        have q : sSeq f__law_some_rule_6 (sSeq f__law_some_rule_7 (sSeq f__law_some_rule_8 f__law_some_rule_9)) (Er ns (n + 2) gs cap (.im (.int 3)) (.im (.int good)) (.im (.int p)) .no .no .no .no) = .rt (.im (.tup [.str "over", .int (4 + wh), .int (1 + off)])) (Er ns (n + 4) gs cap (.im (.int 3)) (.im (.int good)) (.im (.int p)) (.im (.int (4 + wh))) .no .no .no) := by
          rw [sSeq_s]
          simp [scr] at e5 e6
          simp [f__law_some_rule_6, scr, e5, e6, sEr, op2, op1, T.val, R.opt, toB, opL, vals, consT, disp, mvs, mkTup, callT, callI, argE, others, isAl, isAli, finT, outE, padE, runD, cpsOf, cpT, toI, slT, T.weak, metT, kApp, kExt, elemD, iT, iL, iR1, iR2, iE, iZ, onI]
        exact ⟨_, n + 4, fin (whole (by rw [sSeq_s, s4, seq_nx, sSeq_s, s5, seq_nx]; exact q)), by omega, by omega, isOver_of (by omega) (by omega) (by omega), fun _ => rfl, by simp [D.flat, D.flats]⟩
      · -- each
        have s6 : f__law_some_rule_6 (Er ns (n + 2) gs cap (.im (.int kind)) (.im (.int good)) (.im (.int p)) .no .no .no .no) = .nx (Er ns (n + 2) gs cap (.im (.int kind)) (.im (.int good)) (.im (.int p)) .no .no .no .no) := by
          have c3' : (kind == 3) = false := by simpa using c3
          simp [f__law_some_rule_6, scr, c3', sEr, op2, op1, T.val, R.opt, toB, opL, vals, consT, disp, mvs, mkTup, callT, callI, argE, others, isAl, isAli, finT, outE, padE, runD, cpsOf, cpT, toI, slT, T.weak, metT, kApp, kExt, elemD, iT, iL, iR1, iR2, iE, iZ, onI]
        obtain ⟨wh, e5, z1, z2⟩ := r_draw ns (n + 2) 5 hl (by omega) (by decide)
        obtain ⟨ms, ems⟩ : ∃ ms : List D, ms = if cap = true then [.int 1, .int 2] else [.non, .non, .int 1, .int 2] := ⟨_, rfl⟩
        have hms : 0 < ms.length ∧ (∀ x ∈ ms, x ∈ [D.non, .non, .int 1, .int 2] ∧ (cap = true → isNon x = false)) := by
          rw [ems]
          cases cap with
          | true => exact ⟨by decide, fun x hx => by simp at hx; rcases hx with rfl | rfl <;> exact ⟨by simp, fun _ => rfl⟩⟩
          | false => exact ⟨by decide, fun x hx => ⟨hx, fun z => nomatch z⟩⟩
        obtain ⟨mo, hm, e6⟩ := r_pick ns (n + 3) (.tup ms) _ (.inr rfl) hl (by omega) hms.1
        have hw : 0 < (2 + wh) / 2 := by omega
        obtain ⟨off, e7, o1, o2⟩ := r_draw ns (n + 4) ((2 + wh) / 2) hl (by omega) hw
        have s7 : f__law_some_rule_7 (Er ns (n + 2) gs cap (.im (.int kind)) (.im (.int good)) (.im (.int p)) .no .no .no .no) = .nx (Er ns (n + 3) gs cap (.im (.int kind)) (.im (.int good)) (.im (.int p)) (.im (.int (2 + wh))) .no .no .no) := by
          simp [scr] at e5
          simp [f__law_some_rule_7, scr, e5, sEr, op2, op1, T.val, R.opt, toB, opL, vals, consT, disp, mvs, mkTup, callT, callI, argE, others, isAl, isAli, finT, outE, padE, runD, cpsOf, cpT, toI, slT, T.weak, metT, kApp, kExt, elemD, iT, iL, iR1, iR2, iE, iZ, onI]
        have s8 : f__law_some_rule_8 (Er ns (n + 3) gs cap (.im (.int kind)) (.im (.int good)) (.im (.int p)) (.im (.int (2 + wh))) .no .no .no) = .nx (Er ns (n + 4) gs cap (.im (.int kind)) (.im (.int good)) (.im (.int p)) (.im (.int (2 + wh))) (.im mo) .no .no) := by
          simp [scr] at e6
          cases cap with
          | true => rw [if_pos rfl] at ems; subst ems; simp [f__law_some_rule_8, scr, e6, sEr, op2, op1, T.val, R.opt, toB, opL, vals, consT, disp, mvs, mkTup, callT, callI, argE, others, isAl, isAli, finT, outE, padE, runD, cpsOf, cpT, toI, slT, T.weak, metT, kApp, kExt, elemD, iT, iL, iR1, iR2, iE, iZ, onI]
          | false => rw [if_neg (by decide)] at ems; subst ems; simp [f__law_some_rule_8, scr, e6, sEr, op2, op1, T.val, R.opt, toB, opL, vals, consT, disp, mvs, mkTup, callT, callI, argE, others, isAl, isAli, finT, outE, padE, runD, cpsOf, cpT, toI, slT, T.weak, metT, kApp, kExt, elemD, iT, iL, iR1, iR2, iE, iZ, onI]
        have q : f__law_some_rule_9 (Er ns (n + 4) gs cap (.im (.int kind)) (.im (.int good)) (.im (.int p)) (.im (.int (2 + wh))) (.im mo) .no .no) = .rt (.im (.tup [.str "each", .int (2 + wh), .int (1 + off), mo])) (Er ns (n + 5) gs cap (.im (.int kind)) (.im (.int good)) (.im (.int p)) (.im (.int (2 + wh))) (.im mo) .no .no) := by
          simp [scr] at e7
          simp [f__law_some_rule_9, scr, e7, sEr, op2, op1, T.val, R.opt, toB, opL, vals, consT, disp, mvs, mkTup, callT, callI, argE, others, isAl, isAli, finT, outE, padE, runD, cpsOf, cpT, toI, slT, T.weak, metT, kApp, kExt, elemD, iT, iL, iR1, iR2, iE, iZ, onI]
        have hf : D.flat mo = true := by
          have := (hms.2 mo hm).1
          simp at this
          rcases this with rfl | rfl | rfl <;> rfl
        refine ⟨_, n + 5, fin (whole (by rw [sSeq_s, s4, seq_nx, sSeq_s, s5, seq_nx, sSeq_s, s6, seq_nx, sSeq_s, s7, seq_nx, sSeq_s, s8, seq_nx]; exact q)), by omega, by omega, isEach_of (by omega) (by omega) (by omega) (most_mem (hms.2 mo hm).1), fun z => ?_, by simp [D.flat, D.flats, hf]⟩
        show (("each" : Str) == "each" && isNon mo) = false
        rw [(hms.2 mo hm).2 z]
        decide

end DL
namespace DL
open PySem PySem.Spec L2
def GoodD (y : D) : Prop := ∃ p c : Int, y = .tup [.int p, .int c] ∧ (3 ≤ p ∧ p ≤ 9) ∧ (0 ≤ c ∧ c ≤ 7)
theorem flats_mem : ∀ {ds : List D}, (∀ d ∈ ds, D.flat d = true) → D.flats ds = true
  | [], _ => rfl
  | d :: ds, h => by
    unfold D.flats
    rw [h d List.mem_cons_self, flats_mem fun x z => h x (List.mem_cons_of_mem _ z)]
    rfl
theorem flats_app : ∀ {ds es : List D}, D.flats ds = true → D.flats es = true → D.flats (ds ++ es) = true
  | [], es, _, h => h
  | d :: ds, es, h1, h2 => by
    simp [D.flats] at h1
    show (D.flat d && D.flats (ds ++ es)) = true
    rw [h1.1, flats_app h1.2 h2]
    rfl
theorem GoodGs.flat {gs : List D} (h : GoodGs gs) : D.flats gs = true := flats_mem fun d z => by
  obtain ⟨p, c, rfl, _⟩ := h.all d z
  rfl
theorem GoodGs.are {gs : List D} (h : GoodGs gs) : areGoods (.tup gs) = true := by
  have : gs.all isGood = true := by
    rw [List.all_eq_true]
    intro d z
    obtain ⟨p, c, rfl, h1, h2⟩ := h.all d z
    simp [isGood, isBetween]
    omega
  simp [areGoods, this, h.len]
theorem r_some_goods (ns : List Int) (n : Nat) (hl : ns.length ≤ 63) (hn : n < 900000) : ∃ (gs : List D) (m : Nat), d__law_some_goods [scr ns, .own true (rep0 n)] = .ok (.im (.tup gs)) [.no, .own true (rep0 m)] ∧ n ≤ m ∧ m ≤ n + 5 ∧ GoodGs gs := by
  obtain ⟨d0, e1, k1, k2⟩ := r_draw ns n 3 hl (by omega) (by decide)
  obtain ⟨k, ek⟩ : ∃ k : Int, k = bif d0 == 0 then 2 else 1 := ⟨_, rfl⟩
  have hk : 1 ≤ k ∧ k ≤ 2 := by
    rw [ek]
    cases d0 == 0 <;> decide
  have hlen : (rngD 0 k).length = k.toNat := by simp [rngD]
  obtain ⟨ys, q, h1, h2⟩ := lc_some (k := ⟨rngD 0 k, none⟩) (vs := [3]) (t := .one 3) (fe := eTup (aCons (eOp dAdd (eC (.int 3)) (eCallI 1 d__law_draw (aCons (eVar 0) (aCons (eVar 1) (aCons (eC (.int 7)) aNil))))) (aCons (eCallI 1 d__law_draw (aCons (eVar 0) (aCons (eVar 1) (aCons (eC (.int 8)) aNil)))) aNil))) (Pd := fun _ y => GoodD y) (E := fun i => [scr ns, .own true (rep0 (n + 1 + 2 * i)), .im (.int k), .no]) (fun j => trivial) (rngD 0 k) [] 0 (small_size (by rw [hlen]; show 0 + k.toNat ≤ 1000; omega)) (fun d _ i hi => by
    have hi : i < 2 := by rw [hlen] at hi; omega
    obtain ⟨a, ea, a1, a2⟩ := r_draw ns (n + 1 + 2 * i) 7 hl (by omega) (by decide)
    obtain ⟨b, eb, b1, b2⟩ := r_draw ns (n + 1 + 2 * i + 1) 8 hl (by omega) (by decide)
    refine ⟨_, .im (.tup [.int (3 + a), .int b]), [scr ns, .own true (rep0 (n + 1 + 2 * i + 1 + 1)), .im (.int k), .im d], _, rfl, ?_, rfl, ⟨3 + a, b, rfl, by omega, by omega⟩, rfl⟩
    simp [scr] at ea eb
    simp [scr, ea, eb, sEr, op2, op1, T.val, R.opt, toB, opL, vals, consT, disp, mvs, mkTup, callT, callI, argE, others, isAl, isAli, finT, outE, padE, runD, cpsOf, cpT, toI, slT, T.weak, metT, kApp, kExt, elemD, iT, iL, iR1, iR2, iE, iZ, onI])
  have hm : n + 1 + 2 * (0 + (rngD 0 k).length) ≤ n + 5 := by rw [hlen]; omega
  refine ⟨ys, n + 1 + 2 * (0 + (rngD 0 k).length), ?_, by omega, hm, by rw [h1, hlen]; omega, fun g hg => ?_⟩
  · have q2 := eLc_of (fi := fiR1 (aCons (eVar 2) aNil)) (env := [scr ns, .own true (rep0 (n + 1)), .im (.int k), .no]) (k := ⟨rngD 0 k, none⟩) (e := [scr ns, .own true (rep0 (n + 1)), .im (.int k), .no]) (by
      have b : (-4611686018427387904 ≤ k) ∧ k < 4611686018427387904 := by omega
      simp [b, sEr, op2, op1, T.val, R.opt, toB, opL, vals, consT, disp, mvs, mkTup, callT, callI, argE, others, isAl, isAli, finT, outE, padE, runD, cpsOf, cpT, toI, slT, T.weak, metT, kApp, kExt, elemD, iT, iL, iR1, iR2, iE, iZ, onI]) q
    refine fin4 (rest := [scr ns, .own true (rep0 (n + 1 + 2 * (0 + (rngD 0 k).length))), .im (.int k), .no]) (m := 0) rfl ?_ _ rfl
    unfold f__law_some_goods
    have q2' : eLc (fiR1 (aCons (eVar 2) aNil)) [3] (.one 3) tT _ [scr ns, .own true (rep0 (n + 1)), .im (.int k), .no] = .ok (.fr ys) [scr ns, .own true (rep0 (n + 1 + 2 * (0 + (rngD 0 k).length))), .im (.int k), .no] := q2
    simp [scr] at e1
    simp only [scr, rep0] at q2'
    simp [scr, e1, ← ek, q2', sEr, op2, op1, T.val, R.opt, toB, opL, vals, consT, disp, mvs, mkTup, callT, callI, argE, others, isAl, isAli, finT, outE, padE, runD, cpsOf, cpT, toI, slT, T.weak, metT, kApp, kExt, elemD, iT, iL, iR1, iR2, iE, iZ, onI]
  · obtain ⟨i, hi⟩ := List.getElem?_of_mem hg
    have hil : i < (rngD 0 k).length := by
      rw [← h1]
      exact (List.getElem?_eq_some_iff.mp hi).1
    obtain ⟨y', e1, e2⟩ := h2 i _ (List.getElem?_eq_getElem hil)
    rw [hi] at e1
    cases e1
    exact e2

end DL
namespace DL
open PySem PySem.Spec L2
theorem eLst_rule {v : D} {n : Int} (h : isRule v n = true) : ∃ x a ds, v = .tup (.str x :: ds) ∧ (x = "each" → ∃ b m, ds = [a, b, m]) := by
  obtain ⟨x, ds, rfl⟩ := rule_word h
  by_cases e : x = "each"
  · obtain ⟨a, b, m, rfl⟩ := rule_each h e
    exact ⟨x, a, _, rfl, fun _ => ⟨b, m, rfl⟩⟩
  · exact ⟨x, .non, ds, rfl, fun z => (e z).elim⟩
/-- rules as they are drawn -/
structure GoodRs (rs : List D) (n : Nat) : Prop where
  len : rs.length ≤ 4
  all : ∀ r ∈ rs, isRule r n = true
  one : (rs.filter isEndless).length ≤ 1
  flat : D.flats rs = true
theorem shop_of {gs rs : List D} (g : GoodGs gs) (r : GoodRs rs gs.length) : isShop (.tup [.tup gs, .tup rs]) = true := by
  show (areGoods (.tup gs) && areRules (.tup rs) gs.length) = true
  have h : rulesOk rs gs.length = true := by
    unfold rulesOk
    rw [List.all_eq_true]
    exact r.all
  simp [g.are, areRules, r.len, h, r.one]
/-- the test of an endless rule, as a law reads it -/
theorem l_capped (i j : Nat) (rs : List D) (n : Nat) (env : En) (hr : ∀ r ∈ rs, isRule r n = true) (hl : rs.length ≤ 1000) (hi : env[i]? = some (.own false rs)) (hw : wipeE env [j] = env) (hj : j < env.length) (hij : ∀ d, wipeE (env.set j (.im d)) [j] = env) :
    eLc (fiL false (eVar i)) [j] (.one j) tT (eAn (eOp dEqA (eOp dIx (eVar j) (eC (.int 0))) (eC (.str "each"))) (eOp dIs (eOp dIx (eVar j) (eC (.int 3))) (eC .non))) env = .ok (.fr (rs.map fun d => .bl (isEndless d))) env := by
  refine eLc_of (k := ⟨rs, some (i, rs)⟩) (e := env) (by simp [hi, sEr, op2, op1, T.val, R.opt, toB, opL, vals, consT, disp, mvs, mkTup, callT, callI, argE, others, isAl, isAli, finT, outE, padE, runD, cpsOf, cpT, toI, slT, T.weak, metT, kApp, kExt, elemD, iT, iL, iR1, iR2, iE, iZ, onI]) ?_
  rw [hw]
  refine lc_map (k := ⟨rs, some (i, rs)⟩) (h := fun d => .bl (isEndless d)) ⟨false, hi⟩ rs [] (small_size (by simpa using hl)) fun d z => ?_
  refine ⟨_, .im (.bl (isEndless d)), env.set j (.im d), rfl, ?_, rfl, hij d⟩
  have hg : (env.set j (.im d))[j]? = some (.im d) := List.getElem?_set_self hj
  obtain ⟨x, a, ds, rfl, he⟩ := eLst_rule (hr d z)
  have q : ∀ k : Nat, (0 : Int) < (k : Int) + 1 := fun k => by omega
  by_cases e : x = "each"
  · obtain ⟨b, m, rfl⟩ := he e
    subst e
    simp [hg, dIx, atI, ixN, isEndless, dIs_non, sEr, op2, op1, T.val, R.opt, toB, opL, vals, consT, disp, mvs, mkTup, callT, callI, argE, others, isAl, isAli, finT, outE, padE, runD, cpsOf, cpT, toI, slT, T.weak, metT, kApp, kExt, elemD, iT, iL, iR1, iR2, iE, iZ, onI, -dIs]
  · have e' : (x == "each") = false := by simpa using e
    have e2 : isEndless (.tup (.str x :: ds)) = false := by
      unfold isEndless
      split
      · rename_i z; cases z; simp [e']
      · rfl
    simp [hg, dIx, atI, ixN, e2, e', q, sEr, op2, op1, T.val, R.opt, toB, opL, vals, consT, disp, mvs, mkTup, callT, callI, argE, others, isAl, isAli, finT, outE, padE, runD, cpsOf, cpT, toI, slT, T.weak, metT, kApp, kExt, elemD, iT, iL, iR1, iR2, iE, iZ, onI, -dIs]
theorem any_endless {rs : List D} (h : rs.any isEndless = false) : rs.filter isEndless = [] := by
  rw [List.filter_eq_nil_iff]
  intro a z
  rw [List.any_eq_false] at h
  exact h a z
theorem r_some_shop (ns : List Int) (n : Nat) (hl : ns.length ≤ 63) (hn : n < 800000) : ∃ (gs rs : List D) (m : Nat), d__law_some_shop [scr ns, .own true (rep0 n)] = .ok (.im (.tup [.tup gs, .tup rs])) [.no, .own true (rep0 m)] ∧ n ≤ m ∧ m ≤ n + 40 ∧ GoodGs gs ∧ GoodRs rs gs.length := by
  obtain ⟨gs, m1, e1, n1, n2, hg⟩ := r_some_goods ns n hl (by omega)
  obtain ⟨k, e2, k1, k2⟩ := r_draw ns m1 5 hl (by omega) (by decide)
  have hlen : (rngD 0 k).length = k.toNat := by simp [rngD]
  obtain ⟨e3, q1, m2, a2, rs, c2, i1, i2, i3, i4, i5, i6⟩ := loop_all (g := gN 2) (f := sSeq (sAsg (eB dAny (aCons (eLc (fiL false (eVar 4)) [6] (.one 6) tT (eAn (eOp dEqA (eOp dIx (eVar 6) (eC (.int 0))) (eC (.str "each"))) (eOp dIs (eOp dIx (eVar 6) (eC (.int 3))) (eC .non)))) aNil)) (gN 5))
    (sDrop (eMet kApp (eVar 4) (aCons (eCallI 1 d__law_some_rule (aCons (eVar 0) (aCons (eVar 1) (aCons (eVar 3) (aCons (eVar 5) aNil))))) aNil)))) (ds := rngD 0 k) (env := [scr ns, .own true (rep0 (m1 + 1)), .no, .im (.tup gs), .own false [], .no, .no])
    (I := fun i e => ∃ (m : Nat) (a : Sl) (rs : List D) (c : Sl), e = [scr ns, .own true (rep0 m), a, .im (.tup gs), .own false rs, c, .no] ∧ m1 + 1 ≤ m ∧ m ≤ m1 + 1 + 6 * i ∧ rs.length = i ∧ ((∀ r ∈ rs, isRule r gs.length = true) ∧ (rs.filter isEndless).length ≤ 1) ∧ D.flats rs = true)
    ⟨m1 + 1, .no, [], .no, rfl, by omega, by omega, rfl, ⟨fun r z => (by cases z), Nat.zero_le _⟩, rfl⟩ (by
    rintro i d _ hd ⟨m, a, rs, c, rfl, j1, j2, j3, ⟨j4, j5⟩, j6⟩
    have hi : i < k.toNat := by
      rw [← hlen]
      exact (List.getElem?_eq_some_iff.mp hd).1
    have lc := l_capped 4 6 rs gs.length [scr ns, .own true (rep0 m), .im d, .im (.tup gs), .own false rs, c, .no] j4 (by omega) rfl rfl (by simp) (fun _ => rfl)
    obtain ⟨r, m', e4, p1, p2, p3, p4, p5⟩ := r_some_rule ns m gs (rs.any isEndless) hl (by omega) hg
    refine ⟨_, [scr ns, .own true (rep0 m'), .im d, .im (.tup gs), .own false (rs ++ [r]), .im (.bl (rs.any isEndless)), .no], rfl, .inl ?_, m', _, rs ++ [r], _, rfl, by omega, by omega, by simp [j3], ⟨fun x z => ?_, ?_⟩, flats_app j6 (by simp [D.flats, p5])⟩
    · have hlen2 : rs.length < 1000000 := by omega
      simp only [scr, rep0] at lc e4
      try simp at e4
      simp [lc, e4, hlen2, scr, p5, flatT, hg.flat, sEr, op2, op1, T.val, R.opt, toB, opL, vals, consT, disp, mvs, mkTup, callT, callI, argE, others, isAl, isAli, finT, outE, padE, runD, cpsOf, cpT, toI, slT, T.weak, metT, kApp, kExt, elemD, iT, iL, iR1, iR2, iE, iZ, onI]
    · rcases List.mem_append.mp z with z | z
      · exact j4 x z
      · simp at z
        subst z
        exact p3
    · rw [List.filter_append]
      cases hc : rs.any isEndless with
      | true => simp [p4 hc, j5]
      | false =>
        rw [any_endless hc]
        simp
        exact Nat.le_trans (List.length_filter_le _ _) (by simp))
  subst i1
  refine ⟨gs, rs, m2, ?_, by omega, by rw [hlen] at i3; omega, hg, by rw [i4, hlen]; omega, i5.1, i5.2, i6⟩
  refine fin4 (rest := [scr ns, .own true (rep0 m2), a2, .im (.tup gs), .own false rs, c2, .no]) (m := 0) rfl ?_ _ rfl
  have s2 := sFor_of (fi := fiR1 (aCons (eCallI 1 d__law_draw (aCons (eVar 0) (aCons (eVar 1) (aCons (eC (.int 5)) aNil)))) aNil)) (env := [scr ns, .own true (rep0 m1), .no, .im (.tup gs), .own false [], .no, .no]) (by
    have b : (-4611686018427387904 ≤ k) ∧ k < 4611686018427387904 := by omega
    try simp [scr] at e2
    simp [scr, e2, b, sEr, op2, op1, T.val, R.opt, toB, opL, vals, consT, disp, mvs, mkTup, callT, callI, argE, others, isAl, isAli, finT, outE, padE, runD, cpsOf, cpT, toI, slT, T.weak, metT, kApp, kExt, elemD, iT, iL, iR1, iR2, iE, iZ, onI]) q1
  unfold f__law_some_shop
  simp only [scr, rep0] at s2 e1
  try simp at e1
  simp [scr, e1, s2, hg.flat, flatT, sEr, op2, op1, T.val, R.opt, toB, opL, vals, consT, disp, mvs, mkTup, callT, callI, argE, others, isAl, isAli, finT, outE, padE, runD, cpsOf, cpT, toI, slT, T.weak, metT, kApp, kExt, elemD, iT, iL, iR1, iR2, iE, iZ, onI]

end DL
namespace DL
open PySem PySem.Spec L2
@[simp] theorem at_0 (a : D) (ds : List D) : atI (a :: ds) 0 = some a := by
  have q : (0 : Int) < (ds.length : Int) + 1 := by omega
  simp [atI, ixN, q]
@[simp] theorem at_1 (a b : D) (ds : List D) : atI (a :: b :: ds) 1 = some b := by
  have q : (1 : Int) < (ds.length : Int) + 1 + 1 := by omega
  simp [atI, ixN, q]
@[simp] theorem at_2 (a b c : D) (ds : List D) : atI (a :: b :: c :: ds) 2 = some c := by
  have q : (2 : Int) < (ds.length : Int) + 1 + 1 + 1 := by omega
  simp [atI, ixN, q]
@[simp] theorem at_3 (a b c d : D) (ds : List D) : atI (a :: b :: c :: d :: ds) 3 = some d := by
  have q : (3 : Int) < (ds.length : Int) + 1 + 1 + 1 + 1 := by omega
  simp [atI, ixN, q]
@[simp] theorem at_4 (a b c d e : D) (ds : List D) : atI (a :: b :: c :: d :: e :: ds) 4 = some e := by
  have q : (4 : Int) < (ds.length : Int) + 1 + 1 + 1 + 1 + 1 := by omega
  simp [atI, ixN, q]
/-- a rule as it stands in a shop -/
inductive Ru where
  | pack (g s p : Int) (m : Option Int) | frm (g l p : Int) | over (f o : Int) | each (f o : Int) (m : Option Int)
def oD : Option Int → D
  | none => .non
  | some i => .int i
def Ru.d : Ru → D
  | .pack g s p m => .tup [.str "pack", .int g, .int s, .int p, oD m]
  | .frm g l p => .tup [.str "from", .int g, .int l, .int p]
  | .over f o => .tup [.str "over", .int f, .int o]
  | .each f o m => .tup [.str "each", .int f, .int o, oD m]
def okM : Option Int → Prop
  | none => True
  | some k => 1 ≤ k ∧ k ≤ 2
/-- within its bounds -/
def Ru.ok : Ru → Int → Prop
  | .pack g s p m, n => (0 ≤ g ∧ g < n) ∧ (2 ≤ s ∧ s ≤ 3) ∧ (s ≤ p ∧ p ≤ 30) ∧ okM m
  | .frm g l p, n => (0 ≤ g ∧ g < n) ∧ (2 ≤ l ∧ l ≤ 4) ∧ (1 ≤ p ∧ p ≤ 9)
  | .over f o, _ => (2 ≤ f ∧ f ≤ 12) ∧ 1 ≤ o ∧ o ≤ 6 ∧ o ≤ f
  | .each f o m, _ => (2 ≤ f ∧ f ≤ 6) ∧ (1 ≤ o ∧ o ≤ f) ∧ okM m ∧ (m = none → 2 * o ≤ f)
theorem isBt_of {i a b : Int} (h : isBetween (.int i) a b = true) : a ≤ i ∧ i ≤ b := by simpa [isBetween] using h
theorem most_of {m : D} (h : isMost m = true) : ∃ o, m = oD o ∧ okM o := by
  cases m with
  | non => exact ⟨none, rfl, trivial⟩
  | int i => exact ⟨some i, rfl, isBt_of h⟩
  | _ => exact (Bool.false_ne_true h).elim
theorem rule_ru {v : D} {n : Int} (h : isRule v n = true) : ∃ r : Ru, v = r.d ∧ r.ok n := by
  obtain ⟨x, ds, rfl⟩ := rule_word h
  by_cases e1 : x = "pack"
  · subst e1
    replace h : isPack (.tup (.str "pack" :: ds)) n = true := h
    unfold isPack at h
    split at h
    · rename_i z
      cases z
      simp only [Bool.and_eq_true] at h
      obtain ⟨h1, h2, h3, h4⟩ := h
      obtain ⟨p, rfl⟩ := isBt_int h3
      obtain ⟨o, rfl, h5⟩ := most_of h4
      have := isBt_of h1
      exact ⟨.pack _ _ p o, rfl, by omega, isBt_of h2, isBt_of h3, h5⟩
    · cases h
  · by_cases e2 : x = "from"
    · subst e2
      replace h : isFrom (.tup (.str "from" :: ds)) n = true := h
      unfold isFrom at h
      split at h
      · rename_i z
        cases z
        simp only [Bool.and_eq_true] at h
        obtain ⟨h1, h2, h3⟩ := h
        obtain ⟨g, rfl⟩ := isBt_int h1
        obtain ⟨l, rfl⟩ := isBt_int h2
        obtain ⟨p, rfl⟩ := isBt_int h3
        have := isBt_of h1
        exact ⟨.frm g l p, rfl, by omega, isBt_of h2, isBt_of h3⟩
      · cases h
    · by_cases e3 : x = "over"
      · subst e3
        replace h : isOver (.tup (.str "over" :: ds)) = true := h
        unfold isOver at h
        split at h
        · rename_i z
          cases z
          simp only [Bool.and_eq_true] at h
          obtain ⟨h1, h2⟩ := h
          obtain ⟨o, rfl⟩ := isBt_int h2
          have a1 := isBt_of h1
          have a2 := isBt_of h2
          refine ⟨.over _ o, rfl, a1, a2.1, ?_, ?_⟩ <;> (have := a2.2; split at this <;> omega)
        · cases h
      · by_cases e4 : x = "each"
        · subst e4
          replace h : isEach (.tup (.str "each" :: ds)) = true := h
          unfold isEach at h
          split at h
          · rename_i z
            cases z
            simp only [Bool.and_eq_true] at h
            obtain ⟨h1, h2, h3, h4⟩ := h
            obtain ⟨o, rfl, h5⟩ := most_of h3
            refine ⟨.each _ _ o, rfl, isBt_of h1, isBt_of h2, h5, fun z => ?_⟩
            subst z
            simpa [isNon, oD] using h4
          · cases h
        · have q1 : (x == "pack") = false := by simpa using e1
          have q2 : (x == "from") = false := by simpa using e2
          have q3 : (x == "over") = false := by simpa using e3
          have q4 : (x == "each") = false := by simpa using e4
          simp [isRule, q1, q2, q3, q4] at h
theorem rules_ru {n : Int} : ∀ {rs : List D}, (∀ r ∈ rs, isRule r n = true) → ∃ us : List Ru, rs = us.map Ru.d ∧ ∀ u ∈ us, u.ok n
  | [], _ => ⟨[], rfl, fun u z => by cases z⟩
  | r :: rs, h => by
    obtain ⟨u, rfl, q⟩ := rule_ru (h r List.mem_cons_self)
    obtain ⟨us, rfl, qs⟩ := rules_ru fun x z => h x (List.mem_cons_of_mem _ z)
    exact ⟨u :: us, rfl, fun x z => (List.mem_cons.mp z).elim (fun z => z ▸ q) (qs x)⟩
/-- a pack or a from rule that fits so many pieces of a good -/
def Ru.fits : Ru → Int → Int → Bool
  | .pack g s _ _, k, x => g == k && decide (s ≤ x)
  | .frm g l _, k, x => g == k && decide (l ≤ x)
  | _, _, _ => false
def Ru.onGood : Ru → Bool
  | .pack .. => true
  | .frm .. => true
  | _ => false
@[simp] theorem w1 : (("over" : Str) == "pack") = false := by decide +kernel
@[simp] theorem w2 : (("over" : Str) == "from") = false := by decide +kernel
@[simp] theorem w3 : (("over" : Str) == "each") = false := by decide +kernel
@[simp] theorem w4 : (("each" : Str) == "pack") = false := by decide +kernel
@[simp] theorem w5 : (("each" : Str) == "from") = false := by decide +kernel
@[simp] theorem w6 : (("each" : Str) == "over") = false := by decide +kernel
@[simp] theorem w7 : (("pack" : Str) == "over") = false := by decide +kernel
@[simp] theorem w8 : (("pack" : Str) == "each") = false := by decide +kernel
@[simp] theorem w9' : (("pack" : Str) == "from") = false := by decide +kernel
@[simp] theorem w10' : (("from" : Str) == "over") = false := by decide +kernel
@[simp] theorem w11' : (("from" : Str) == "each") = false := by decide +kernel
@[simp] theorem w12' : (("from" : Str) == "pack") = false := by decide +kernel
theorem loop_find {g : FG} {f : FS} {I : Nat → En → Prop} {p : Nat → Bool} {t : Nat → T} {ds : List D} {env : En} (h0 : I 0 env)
    (step : ∀ (i : Nat) (d : D) e, ds[i]? = some d → I i e → ∃ e1, g (.im d) e = .nx e1 ∧ ((p i = true ∧ ∃ e2, f e1 = .rt (t i) e2 ∧ I (i + 1) e2) ∨ (p i = false ∧ ∃ e2, f e1 = .nx e2 ∧ I (i + 1) e2))) :
    (∃ i e j, i < ds.length ∧ p i = true ∧ (∀ m, m < i → p m = false) ∧ loopF g f ds env = .rt (t i) e ∧ I j e) ∨ ((∀ m, m < ds.length → p m = false) ∧ ∃ e, loopF g f ds env = .nx e ∧ I ds.length e) := by
  have key : ∀ (rs : List D) (i : Nat) (e : En), ds.drop i = rs → I i e → (∃ k e' j, k < rs.length ∧ p (i + k) = true ∧ (∀ m, m < k → p (i + m) = false) ∧ loopF g f rs e = .rt (t (i + k)) e' ∧ I j e') ∨ ((∀ m, m < rs.length → p (i + m) = false) ∧ ∃ e', loopF g f rs e = .nx e' ∧ I (i + rs.length) e') := by
    intro rs
    induction rs with
    | nil => exact fun i e _ h => .inr ⟨fun m z => absurd z (Nat.not_lt_zero _), e, rfl, h⟩
    | cons d rs ih =>
      intro i e hd h
      have hi : ds[i]? = some d := by
        have := List.getElem?_drop (xs := ds) (i := i) (j := 0)
        rw [hd] at this
        simpa using this.symm
      obtain ⟨e1, q1, q2⟩ := step i d e hi h
      rcases q2 with ⟨hp, e2, q2, q3⟩ | ⟨hp, e2, q2, q3⟩
      · refine .inl ⟨0, e2, i + 1, by simp, hp, fun m z => absurd z (Nat.not_lt_zero _), ?_, q3⟩
        unfold loopF
        simp only [q1, q2]
        rfl
      · have hd' : ds.drop (i + 1) = rs := by
          rw [← List.drop_drop, hd]
          rfl
        have ex : ∀ m, i + 1 + m = i + (m + 1) := fun m => by omega
        rcases ih (i + 1) e2 hd' q3 with ⟨k, e', j, r1, r2, r3, r4, r5⟩ | ⟨r1, e', r2, r3⟩
        · refine .inl ⟨k + 1, e', j, by simp; exact r1, by rw [← ex]; exact r2, fun m z => ?_, ?_, r5⟩
          · cases m with
            | zero => exact hp
            | succ m => rw [← ex]; exact r3 m (by omega)
          · unfold loopF
            simp only [q1, q2]
            rw [r4, ex]
        · refine .inr ⟨fun m z => ?_, e', ?_, by rw [List.length_cons, show i + (rs.length + 1) = i + 1 + rs.length by omega]; exact r3⟩
          · cases m with
            | zero => exact hp
            | succ m => rw [← ex]; exact r1 m (by simpa using z)
          · unfold loopF
            simp only [q1, q2]
            exact r2
  rcases key ds 0 env (by simp) h0 with ⟨k, e, j, r1, r2, r3, r4, r5⟩ | ⟨r1, e, r2, r3⟩
  · exact .inl ⟨k, e, j, r1, by simpa using r2, fun m z => by simpa using r3 m z, by simpa using r4, r5⟩
  · exact .inr ⟨fun m z => by simpa using r1 m z, e, r2, by simpa using r3⟩
/-- the place of the first that is so -/
theorem first_ix {α : Type} {q : α → Bool} {us : List α} {p : Nat → Bool} (hp : ∀ i u, us[i]? = some u → p i = q u) :
    (∀ i, i < us.length → p i = true → (∀ m, m < i → p m = false) → us.findIdx? q = some i) ∧ ((∀ m, m < us.length → p m = false) → us.findIdx? q = none) := by
  constructor
  · intro i hi h1 h2
    rw [List.findIdx?_eq_some_iff_getElem]
    refine ⟨hi, ?_, fun j hj => ?_⟩
    · rw [← hp i us[i] (List.getElem?_eq_getElem hi)]
      exact h1
    · have hjl : j < us.length := by omega
      rw [← hp j us[j] (List.getElem?_eq_getElem hjl), h2 j hj]
      decide
  · intro h
    rw [List.findIdx?_eq_none_iff]
    intro x hx
    obtain ⟨i, hi⟩ := List.getElem?_of_mem hx
    rw [← hp i x hi]
    exact h i (List.getElem?_eq_some_iff.mp hi).1
theorem find_ix {α : Type} {q : α → Bool} : ∀ {us : List α}, us.find? q = (us.findIdx? q).bind fun i => us[i]?
  | [] => rfl
  | u :: us => by
    rw [List.find?_cons, List.findIdx?_cons]
    cases q u with
    | true => rfl
    | false =>
      simp only [find_ix (us := us)]
      cases us.findIdx? q <;> simp

end DL
namespace DL
open PySem PySem.Spec L2
def full (w p : Int) : Option Int → Int
  | none => w / p
  | some k => if k < w / p then k else w / p
def oN : Option Nat → D
  | none => .non
  | some i => .int (i : Int)
theorem r_full {w p : Int} {m : Option Int} (hp : 0 < p ∧ p < 1073741824) : d_full_times [.im (.int w), .im (.int p), .im (oD m)] = .ok (.im (.int (full w p m))) [.no, .no, .no] := by
  cases m with
  | none => simp [d_full_times, f_full_times, hp, full, oD, sEr, op2, op1, T.val, R.opt, toB, opL, vals, consT, disp, mvs, mkTup, callT, callI, argE, others, isAl, isAli, finT, outE, padE, runD, cpsOf, cpT, toI, slT, T.weak, metT, kApp, kExt, elemD, iT, iL, iR1, iR2, iE, iZ, onI]
  | some k => simp [d_full_times, f_full_times, hp, full, oD, dMin2, sEr, op2, op1, T.val, R.opt, toB, opL, vals, consT, disp, mvs, mkTup, callT, callI, argE, others, isAl, isAli, finT, outE, padE, runD, cpsOf, cpT, toI, slT, T.weak, metT, kApp, kExt, elemD, iT, iL, iR1, iR2, iE, iZ, onI]
theorem enum_get {us : List Ru} {i : Nat} {d : D} (h : (enumD (us.map Ru.d))[i]? = some d) : ∃ u, us[i]? = some u ∧ d = .tup [.int (i : Int), u.d] := by
  obtain ⟨d', e1, e2⟩ := enumD_get h
  rw [List.getElem?_map] at e1
  obtain ⟨u, e3, rfl⟩ := Option.map_eq_some_iff.mp e1
  exact ⟨u, e3, e2⟩
/-- whether the rule at place i fits -/
def fitsAt (us : List Ru) (k x : Int) (i : Nat) : Bool := match us[i]? with
  | some u => u.fits k x
  | none => false
theorem fitsAt_is {us : List Ru} {k x : Int} : ∀ i u, us[i]? = some u → fitsAt us k x i = u.fits k x := fun i u h => by
  unfold fitsAt
  rw [h]
def fitIx (us : List Ru) (k x : Int) : Option Nat := us.findIdx? fun u => u.fits k x
def fit (us : List Ru) (k x : Int) : Option Ru := us.find? fun u => u.fits k x
theorem r_fitting (us : List Ru) (k x : Int) : d_fitting_rule [.im (.tup (us.map Ru.d)), .im (.int k), .im (.int x)] = .ok (.im (oN (fitIx us k x))) [.no, .no, .no] := by
  have hl : (enumD (us.map Ru.d)).length = us.length := by rw [enumD_len, List.length_map]
  obtain ⟨f1, f2⟩ := first_ix (q := fun u : Ru => u.fits k x) (us := us) (p := fitsAt us k x) fitsAt_is
  have sf : ∀ {x' : Fl}, loopF (gT 2 (gsCons (gN 3) (gsCons (gN 4) gsNil))) (sIf (tAn (tV (eOp (dIn true) (eOp dIx (eVar 4) (eC (.int 0))) (eC g_SUM_WORDS))) (tAn (tV (eOp dEqA (eOp dIx (eVar 4) (eC (.int 1))) (eVar 1))) (tV (eOp dGe (eVar 2) (eOp dIx (eVar 4) (eC (.int 2))))))) (sRet (eVar 3)) sNx) (enumD (us.map Ru.d)) [.im (.tup (us.map Ru.d)), .im (.int k), .im (.int x), .no, .no] = x' →
      f_fitting_rule [.im (.tup (us.map Ru.d)), .im (.int k), .im (.int x), .no, .no] = x'.seq (sRet (eC .non)) := fun {x'} h => by
    unfold f_fitting_rule
    rw [sSeq_s, sFor_of (its := enumD (us.map Ru.d)) (e := [.im (.tup (us.map Ru.d)), .im (.int k), .im (.int x), .no, .no]) (by simp [sEr, op2, op1, T.val, R.opt, toB, opL, vals, consT, disp, mvs, mkTup, callT, callI, argE, others, isAl, isAli, finT, outE, padE, runD, cpsOf, cpT, toI, slT, T.weak, metT, kApp, kExt, elemD, iT, iL, iR1, iR2, iE, iZ, onI]) h]
  rcases loop_find (g := gT 2 (gsCons (gN 3) (gsCons (gN 4) gsNil))) (f := sIf (tAn (tV (eOp (dIn true) (eOp dIx (eVar 4) (eC (.int 0))) (eC g_SUM_WORDS))) (tAn (tV (eOp dEqA (eOp dIx (eVar 4) (eC (.int 1))) (eVar 1))) (tV (eOp dGe (eVar 2) (eOp dIx (eVar 4) (eC (.int 2))))))) (sRet (eVar 3)) sNx) (I := fun _ e => ∃ a b, e = [.im (.tup (us.map Ru.d)), .im (.int k), .im (.int x), a, b]) (p := fitsAt us k x) (t := fun i => .im (.int (i : Int))) (ds := enumD (us.map Ru.d)) (env := [.im (.tup (us.map Ru.d)), .im (.int k), .im (.int x), .no, .no]) ⟨.no, .no, rfl⟩ (by
    rintro i d _ hd ⟨a, b, rfl⟩
    obtain ⟨u, hu, rfl⟩ := enum_get hd
    refine ⟨[.im (.tup (us.map Ru.d)), .im (.int k), .im (.int x), .im (.int i), .im u.d], rfl, ?_⟩
    rw [fitsAt_is i u hu]
    cases u with
    | pack g s p m =>
      cases hf : (Ru.pack g s p m).fits k x with
      | true =>
        simp [Ru.fits] at hf
        exact .inl ⟨rfl, [.im (.tup (us.map Ru.d)), .im (.int k), .im (.int x), .im (.int i), .im (Ru.pack g s p m).d], by simp [Ru.d, dIx, dIn, g_SUM_WORDS, sc, hf, sEr, op2, op1, T.val, R.opt, toB, opL, vals, consT, disp, mvs, mkTup, callT, callI, argE, others, isAl, isAli, finT, outE, padE, runD, cpsOf, cpT, toI, slT, T.weak, metT, kApp, kExt, elemD, iT, iL, iR1, iR2, iE, iZ, onI], _, _, rfl⟩
      | false =>
        refine .inr ⟨rfl, [.im (.tup (us.map Ru.d)), .im (.int k), .im (.int x), .im (.int i), .im (Ru.pack g s p m).d], ?_, _, _, rfl⟩
        by_cases hg : g = k
        · simp [Ru.fits, hg] at hf
          simp [Ru.d, dIx, dIn, g_SUM_WORDS, sc, hg, Int.not_le.mpr hf, sEr, op2, op1, T.val, R.opt, toB, opL, vals, consT, disp, mvs, mkTup, callT, callI, argE, others, isAl, isAli, finT, outE, padE, runD, cpsOf, cpT, toI, slT, T.weak, metT, kApp, kExt, elemD, iT, iL, iR1, iR2, iE, iZ, onI]
        · have hg' : (g == k) = false := by simpa using hg
          simp [Ru.d, dIx, dIn, g_SUM_WORDS, sc, hg', sEr, op2, op1, T.val, R.opt, toB, opL, vals, consT, disp, mvs, mkTup, callT, callI, argE, others, isAl, isAli, finT, outE, padE, runD, cpsOf, cpT, toI, slT, T.weak, metT, kApp, kExt, elemD, iT, iL, iR1, iR2, iE, iZ, onI]
    | frm g s p =>
      cases hf : (Ru.frm g s p).fits k x with
      | true =>
        simp [Ru.fits] at hf
        exact .inl ⟨rfl, [.im (.tup (us.map Ru.d)), .im (.int k), .im (.int x), .im (.int i), .im (Ru.frm g s p).d], by simp [Ru.d, dIx, dIn, g_SUM_WORDS, sc, hf, sEr, op2, op1, T.val, R.opt, toB, opL, vals, consT, disp, mvs, mkTup, callT, callI, argE, others, isAl, isAli, finT, outE, padE, runD, cpsOf, cpT, toI, slT, T.weak, metT, kApp, kExt, elemD, iT, iL, iR1, iR2, iE, iZ, onI], _, _, rfl⟩
      | false =>
        refine .inr ⟨rfl, [.im (.tup (us.map Ru.d)), .im (.int k), .im (.int x), .im (.int i), .im (Ru.frm g s p).d], ?_, _, _, rfl⟩
        by_cases hg : g = k
        · simp [Ru.fits, hg] at hf
          simp [Ru.d, dIx, dIn, g_SUM_WORDS, sc, hg, Int.not_le.mpr hf, sEr, op2, op1, T.val, R.opt, toB, opL, vals, consT, disp, mvs, mkTup, callT, callI, argE, others, isAl, isAli, finT, outE, padE, runD, cpsOf, cpT, toI, slT, T.weak, metT, kApp, kExt, elemD, iT, iL, iR1, iR2, iE, iZ, onI]
        · have hg' : (g == k) = false := by simpa using hg
          simp [Ru.d, dIx, dIn, g_SUM_WORDS, sc, hg', sEr, op2, op1, T.val, R.opt, toB, opL, vals, consT, disp, mvs, mkTup, callT, callI, argE, others, isAl, isAli, finT, outE, padE, runD, cpsOf, cpT, toI, slT, T.weak, metT, kApp, kExt, elemD, iT, iL, iR1, iR2, iE, iZ, onI]
    | over f o => exact .inr ⟨rfl, [.im (.tup (us.map Ru.d)), .im (.int k), .im (.int x), .im (.int i), .im (Ru.over f o).d], by simp [Ru.d, dIx, dIn, g_SUM_WORDS, sc, sEr, op2, op1, T.val, R.opt, toB, opL, vals, consT, disp, mvs, mkTup, callT, callI, argE, others, isAl, isAli, finT, outE, padE, runD, cpsOf, cpT, toI, slT, T.weak, metT, kApp, kExt, elemD, iT, iL, iR1, iR2, iE, iZ, onI], _, _, rfl⟩
    | each f o m => exact .inr ⟨rfl, [.im (.tup (us.map Ru.d)), .im (.int k), .im (.int x), .im (.int i), .im (Ru.each f o m).d], by simp [Ru.d, dIx, dIn, g_SUM_WORDS, sc, sEr, op2, op1, T.val, R.opt, toB, opL, vals, consT, disp, mvs, mkTup, callT, callI, argE, others, isAl, isAli, finT, outE, padE, runD, cpsOf, cpT, toI, slT, T.weak, metT, kApp, kExt, elemD, iT, iL, iR1, iR2, iE, iZ, onI], _, _, rfl⟩) with ⟨i, e, j, h1, h2, h3, h4, a, b, rfl⟩ | ⟨h1, e, h4, a, b, rfl⟩
  · have := f1 i (by rw [← hl]; exact h1) h2 h3
    exact fin4 (rest := [.im (.tup (us.map Ru.d)), .im (.int k), .im (.int x), a, b]) (m := 0) rfl (by rw [show padE 5 [Sl.im (.tup (us.map Ru.d)), .im (.int k), .im (.int x)] = [.im (.tup (us.map Ru.d)), .im (.int k), .im (.int x), .no, .no] from rfl, sf h4]; unfold fitIx; rw [this]; rfl) _ rfl
  · have := f2 (fun m hm => h1 m (by rw [hl]; exact hm))
    exact fin4 (rest := [.im (.tup (us.map Ru.d)), .im (.int k), .im (.int x), a, b]) (m := 0) rfl (by rw [show padE 5 [Sl.im (.tup (us.map Ru.d)), .im (.int k), .im (.int x)] = [.im (.tup (us.map Ru.d)), .im (.int k), .im (.int x), .no, .no] from rfl, sf h4]; unfold fitIx; rw [this]; rfl) _ rfl

theorem r_pack_times {g s p x : Int} {m : Option Int} (hs : 2 ≤ s ∧ s ≤ 3) : d_pack_times [.im (Ru.pack g s p m).d, .im (.int x)] = .ok (.im (.int (full x s m))) [.no, .no] := by
  have h := r_full (w := x) (p := s) (m := m) (by omega)
  simp [d_pack_times, f_pack_times, Ru.d, h, sEr, op2, op1, T.val, R.opt, toB, opL, vals, consT, disp, mvs, mkTup, callT, callI, argE, others, isAl, isAli, finT, outE, padE, runD, cpsOf, cpT, toI, slT, T.weak, metT, kApp, kExt, elemD, iT, iL, iR1, iR2, iE, iZ, onI]
/-- what so many pieces of a good with this price cost -/
def packAmt (s p price x : Int) (m : Option Int) : Int := full x s m * p + (x - full x s m * s) * price
theorem r_pack_amount {g s p x price : Int} {m : Option Int} (hs : 2 ≤ s ∧ s ≤ 3) (hp : 0 ≤ p ∧ p ≤ 30) (hr : 0 ≤ price ∧ price ≤ 9) : d_pack_amount [.im (Ru.pack g s p m).d, .im (.int price), .im (.int x)] = .ok (.im (.int (packAmt s p price x m))) [.no, .no, .no] := by
  have h := r_pack_times (g := g) (s := s) (p := p) (x := x) (m := m) hs
  have b1 : -18446744073709551616 < s ∧ s < 18446744073709551616 := by omega
  have b2 : -18446744073709551616 < p ∧ p < 18446744073709551616 := by omega
  have b3 : -18446744073709551616 < price ∧ price < 18446744073709551616 := by omega
  simp [Ru.d] at h
  simp [d_pack_amount, f_pack_amount, Ru.d, h, packAmt, dMulA, b1, b2, b3, sEr, op2, op1, T.val, R.opt, toB, opL, vals, consT, disp, mvs, mkTup, callT, callI, argE, others, isAl, isAli, finT, outE, padE, runD, cpsOf, cpT, toI, slT, T.weak, metT, kApp, kExt, elemD, iT, iL, iR1, iR2, iE, iZ, onI]
/-- the amount by the rule that fits -/
def amtBy (price x : Int) : Option Ru → Int
  | none => x * price
  | some (.pack _ s p m) => packAmt s p price x m
  | some (.frm _ _ p) => x * p
  | some _ => 0
theorem fit_some {us : List Ru} {k x : Int} {i : Nat} (h : fitIx us k x = some i) : ∃ u, us[i]? = some u ∧ u.fits k x = true ∧ fit us k x = some u := by
  have h' := h
  unfold fitIx at h'
  rw [List.findIdx?_eq_some_iff_getElem] at h'
  obtain ⟨hi, h1, _⟩ := h'
  refine ⟨us[i], List.getElem?_eq_getElem hi, h1, ?_⟩
  unfold fit
  rw [find_ix]
  unfold fitIx at h
  rw [h]
  exact List.getElem?_eq_getElem hi
theorem fit_none {us : List Ru} {k x : Int} (h : fitIx us k x = none) : fit us k x = none := by
  unfold fit
  rw [find_ix]
  unfold fitIx at h
  rw [h]
  rfl
theorem at_map {α : Type} {us : List α} {f : α → D} {i : Nat} {u : α} (h : us[i]? = some u) : atI (us.map f) (i : Int) = some (f u) := by
  have hi : i < us.length := (List.getElem?_eq_some_iff.mp h).1
  obtain ⟨d, e1, e2⟩ := atI_ok (ds := us.map f) (i := (i : Int)) (by omega) (by simpa using hi)
  rw [e1]
  rw [Int.toNat_natCast, List.getElem?_map, h] at e2
  exact e2.symm
/-- a good's price, as it stands in a shop -/
def gd (g : Int × Int) : D := .tup [.int g.1, .int g.2]
theorem r_good_amount {gs : List (Int × Int)} {us : List Ru} {k : Nat} {g : Int × Int} {x n : Int} (hu : ∀ u ∈ us, u.ok n) (hk : gs[k]? = some g) (hg : 0 ≤ g.1 ∧ g.1 ≤ 9) :
    d_good_amount [.im (.tup [.tup (gs.map gd), .tup (us.map Ru.d)]), .im (.int k), .im (.int x)] = .ok (.im (.int (amtBy g.1 x (fit us k x)))) [.no, .no, .no] := by
  have a1 := at_map (f := gd) hk
  have f := r_fitting us k x
  have b3 : -18446744073709551616 < g.1 ∧ g.1 < 18446744073709551616 := by omega
  cases hx : fitIx us k x with
  | none =>
    rw [hx] at f
    simp [oN] at f
    simp [d_good_amount, f_good_amount, dIx, a1, gd, f, fit_none hx, amtBy, dMulA, b3, sEr, op2, op1, T.val, R.opt, toB, opL, vals, consT, disp, mvs, mkTup, callT, callI, argE, others, isAl, isAli, finT, outE, padE, runD, cpsOf, cpT, toI, slT, T.weak, metT, kApp, kExt, elemD, iT, iL, iR1, iR2, iE, iZ, onI]
  | some i =>
    rw [hx] at f
    obtain ⟨u, e1, e2, e3⟩ := fit_some hx
    have a2 := at_map (f := Ru.d) e1
    have ok := hu u (List.mem_of_getElem? e1)
    simp [oN] at f
    cases u with
    | pack g' s p m =>
      obtain ⟨_, h2, h3, _⟩ := ok
      have q := r_pack_amount (g := g') (x := x) (m := m) h2 (p := p) (by omega) hg
      simp [Ru.d] at q a2
      simp [d_good_amount, f_good_amount, dIx, a1, gd, f, a2, e3, amtBy, q, Ru.d, sEr, op2, op1, T.val, R.opt, toB, opL, vals, consT, disp, mvs, mkTup, callT, callI, argE, others, isAl, isAli, finT, outE, padE, runD, cpsOf, cpT, toI, slT, T.weak, metT, kApp, kExt, elemD, iT, iL, iR1, iR2, iE, iZ, onI]
    | frm g' l p =>
      obtain ⟨_, h2, h3⟩ := ok
      have b4 : -18446744073709551616 < p ∧ p < 18446744073709551616 := by omega
      simp [Ru.d] at a2
      simp [d_good_amount, f_good_amount, dIx, a1, gd, f, a2, e3, amtBy, dMulA, b4, Ru.d, sEr, op2, op1, T.val, R.opt, toB, opL, vals, consT, disp, mvs, mkTup, callT, callI, argE, others, isAl, isAli, finT, outE, padE, runD, cpsOf, cpT, toI, slT, T.weak, metT, kApp, kExt, elemD, iT, iL, iR1, iR2, iE, iZ, onI]
    | over f' o => simp [Ru.fits] at e2
    | each f' o m => simp [Ru.fits] at e2

end DL
namespace DL
open PySem PySem.Spec L2
theorem r_lfits (g0 : D) (us : List Ru) (k x : Int) : d__law_fits [.im (.tup [g0, .tup (us.map Ru.d)]), .im (.int k), .im (.int x)] = .ok (.im (oN (fitIx us k x))) [.no, .no, .no] := by
  have hl : (enumD (us.map Ru.d)).length = us.length := by rw [enumD_len, List.length_map]
  obtain ⟨f1, f2⟩ := first_ix (q := fun u : Ru => u.fits k x) (us := us) (p := fitsAt us k x) fitsAt_is
  have sf : ∀ {x' : Fl}, loopF (gT 2 (gsCons (gN 3) (gsCons (gN 4) gsNil))) (sIf (tAn (tV (eOp (dIn false) (eOp dIx (eVar 4) (eC (.int 0))) (eTup (aCons (eC (.str "pack")) (aCons (eC (.str "from")) aNil))))) (tAn (tV (eOp dEqA (eOp dIx (eVar 4) (eC (.int 1))) (eVar 1))) (tV (eOp dLe (eOp dIx (eVar 4) (eC (.int 2))) (eVar 2))))) (sRet (eVar 3)) sNx) (enumD (us.map Ru.d)) [.im (.tup [g0, .tup (us.map Ru.d)]), .im (.int k), .im (.int x), .no, .no] = x' →
      f__law_fits [.im (.tup [g0, .tup (us.map Ru.d)]), .im (.int k), .im (.int x), .no, .no] = x'.seq (sRet (eC .non)) := fun {x'} h => by
    unfold f__law_fits
    rw [sSeq_s, sFor_of (its := enumD (us.map Ru.d)) (e := [.im (.tup [g0, .tup (us.map Ru.d)]), .im (.int k), .im (.int x), .no, .no]) (by simp [dIx, sEr, op2, op1, T.val, R.opt, toB, opL, vals, consT, disp, mvs, mkTup, callT, callI, argE, others, isAl, isAli, finT, outE, padE, runD, cpsOf, cpT, toI, slT, T.weak, metT, kApp, kExt, elemD, iT, iL, iR1, iR2, iE, iZ, onI]) h]
  rcases loop_find (g := gT 2 (gsCons (gN 3) (gsCons (gN 4) gsNil))) (f := sIf (tAn (tV (eOp (dIn false) (eOp dIx (eVar 4) (eC (.int 0))) (eTup (aCons (eC (.str "pack")) (aCons (eC (.str "from")) aNil))))) (tAn (tV (eOp dEqA (eOp dIx (eVar 4) (eC (.int 1))) (eVar 1))) (tV (eOp dLe (eOp dIx (eVar 4) (eC (.int 2))) (eVar 2))))) (sRet (eVar 3)) sNx) (I := fun _ e => ∃ a b, e = [.im (.tup [g0, .tup (us.map Ru.d)]), .im (.int k), .im (.int x), a, b]) (p := fitsAt us k x) (t := fun i => .im (.int (i : Int))) (ds := enumD (us.map Ru.d)) (env := [.im (.tup [g0, .tup (us.map Ru.d)]), .im (.int k), .im (.int x), .no, .no]) ⟨.no, .no, rfl⟩ (by
    rintro i d _ hd ⟨a, b, rfl⟩
    obtain ⟨u, hu, rfl⟩ := enum_get hd
    refine ⟨[.im (.tup [g0, .tup (us.map Ru.d)]), .im (.int k), .im (.int x), .im (.int i), .im u.d], rfl, ?_⟩
    rw [fitsAt_is i u hu]
    cases u with
    | pack g s p m =>
      cases hf : (Ru.pack g s p m).fits k x with
      | true =>
        simp [Ru.fits] at hf
        exact .inl ⟨rfl, [.im (.tup [g0, .tup (us.map Ru.d)]), .im (.int k), .im (.int x), .im (.int i), .im (Ru.pack g s p m).d], by simp [Ru.d, dIx, dIn, sc, hf, sEr, op2, op1, T.val, R.opt, toB, opL, vals, consT, disp, mvs, mkTup, callT, callI, argE, others, isAl, isAli, finT, outE, padE, runD, cpsOf, cpT, toI, slT, T.weak, metT, kApp, kExt, elemD, iT, iL, iR1, iR2, iE, iZ, onI], _, _, rfl⟩
      | false =>
        refine .inr ⟨rfl, [.im (.tup [g0, .tup (us.map Ru.d)]), .im (.int k), .im (.int x), .im (.int i), .im (Ru.pack g s p m).d], ?_, _, _, rfl⟩
        by_cases hg : g = k
        · simp [Ru.fits, hg] at hf
          simp [Ru.d, dIx, dIn, sc, hg, Int.not_le.mpr hf, sEr, op2, op1, T.val, R.opt, toB, opL, vals, consT, disp, mvs, mkTup, callT, callI, argE, others, isAl, isAli, finT, outE, padE, runD, cpsOf, cpT, toI, slT, T.weak, metT, kApp, kExt, elemD, iT, iL, iR1, iR2, iE, iZ, onI]
        · have hg' : (g == k) = false := by simpa using hg
          simp [Ru.d, dIx, dIn, sc, hg', sEr, op2, op1, T.val, R.opt, toB, opL, vals, consT, disp, mvs, mkTup, callT, callI, argE, others, isAl, isAli, finT, outE, padE, runD, cpsOf, cpT, toI, slT, T.weak, metT, kApp, kExt, elemD, iT, iL, iR1, iR2, iE, iZ, onI]
    | frm g s p =>
      cases hf : (Ru.frm g s p).fits k x with
      | true =>
        simp [Ru.fits] at hf
        exact .inl ⟨rfl, [.im (.tup [g0, .tup (us.map Ru.d)]), .im (.int k), .im (.int x), .im (.int i), .im (Ru.frm g s p).d], by simp [Ru.d, dIx, dIn, sc, hf, sEr, op2, op1, T.val, R.opt, toB, opL, vals, consT, disp, mvs, mkTup, callT, callI, argE, others, isAl, isAli, finT, outE, padE, runD, cpsOf, cpT, toI, slT, T.weak, metT, kApp, kExt, elemD, iT, iL, iR1, iR2, iE, iZ, onI], _, _, rfl⟩
      | false =>
        refine .inr ⟨rfl, [.im (.tup [g0, .tup (us.map Ru.d)]), .im (.int k), .im (.int x), .im (.int i), .im (Ru.frm g s p).d], ?_, _, _, rfl⟩
        by_cases hg : g = k
        · simp [Ru.fits, hg] at hf
          simp [Ru.d, dIx, dIn, sc, hg, Int.not_le.mpr hf, sEr, op2, op1, T.val, R.opt, toB, opL, vals, consT, disp, mvs, mkTup, callT, callI, argE, others, isAl, isAli, finT, outE, padE, runD, cpsOf, cpT, toI, slT, T.weak, metT, kApp, kExt, elemD, iT, iL, iR1, iR2, iE, iZ, onI]
        · have hg' : (g == k) = false := by simpa using hg
          simp [Ru.d, dIx, dIn, sc, hg', sEr, op2, op1, T.val, R.opt, toB, opL, vals, consT, disp, mvs, mkTup, callT, callI, argE, others, isAl, isAli, finT, outE, padE, runD, cpsOf, cpT, toI, slT, T.weak, metT, kApp, kExt, elemD, iT, iL, iR1, iR2, iE, iZ, onI]
    | over f o => exact .inr ⟨rfl, [.im (.tup [g0, .tup (us.map Ru.d)]), .im (.int k), .im (.int x), .im (.int i), .im (Ru.over f o).d], by simp [Ru.d, dIx, dIn, sc, sEr, op2, op1, T.val, R.opt, toB, opL, vals, consT, disp, mvs, mkTup, callT, callI, argE, others, isAl, isAli, finT, outE, padE, runD, cpsOf, cpT, toI, slT, T.weak, metT, kApp, kExt, elemD, iT, iL, iR1, iR2, iE, iZ, onI], _, _, rfl⟩
    | each f o m => exact .inr ⟨rfl, [.im (.tup [g0, .tup (us.map Ru.d)]), .im (.int k), .im (.int x), .im (.int i), .im (Ru.each f o m).d], by simp [Ru.d, dIx, dIn, sc, sEr, op2, op1, T.val, R.opt, toB, opL, vals, consT, disp, mvs, mkTup, callT, callI, argE, others, isAl, isAli, finT, outE, padE, runD, cpsOf, cpT, toI, slT, T.weak, metT, kApp, kExt, elemD, iT, iL, iR1, iR2, iE, iZ, onI], _, _, rfl⟩) with ⟨i, e, j, h1, h2, h3, h4, a, b, rfl⟩ | ⟨h1, e, h4, a, b, rfl⟩
  · have := f1 i (by rw [← hl]; exact h1) h2 h3
    exact fin4 (rest := [.im (.tup [g0, .tup (us.map Ru.d)]), .im (.int k), .im (.int x), a, b]) (m := 0) rfl (by rw [show padE 5 [Sl.im (.tup [g0, .tup (us.map Ru.d)]), .im (.int k), .im (.int x)] = [.im (.tup [g0, .tup (us.map Ru.d)]), .im (.int k), .im (.int x), .no, .no] from rfl, sf h4]; unfold fitIx; rw [this]; rfl) _ rfl
  · have := f2 (fun m hm => h1 m (by rw [hl]; exact hm))
    exact fin4 (rest := [.im (.tup [g0, .tup (us.map Ru.d)]), .im (.int k), .im (.int x), a, b]) (m := 0) rfl (by rw [show padE 5 [Sl.im (.tup [g0, .tup (us.map Ru.d)]), .im (.int k), .im (.int x)] = [.im (.tup [g0, .tup (us.map Ru.d)]), .im (.int k), .im (.int x), .no, .no] from rfl, sf h4]; unfold fitIx; rw [this]; rfl) _ rfl


/-- how often a fitting rule is used -/
def wr (u : Ru) (x : Int) : Int := match u with
  | .pack _ s _ m => full x s m
  | _ => 1
def wrO (x : Int) : Option Ru → Int
  | some u => wr u x
  | none => 0
theorem r_lamount {gs : List (Int × Int)} {us : List Ru} {k : Nat} {g : Int × Int} {x n : Int} (hu : ∀ u ∈ us, u.ok n) (hk : gs[k]? = some g) (hg : 0 ≤ g.1 ∧ g.1 ≤ 9) :
    d__law_amount [.im (.tup [.tup (gs.map gd), .tup (us.map Ru.d)]), .im (.int k), .im (.int x)] = .ok (.im (.tup [.int (amtBy g.1 x (fit us k x)), .int (wrO x (fit us k x))])) [.no, .no, .no] := by
  have a1 := at_map (f := gd) hk
  have f := r_lfits (.tup (gs.map gd)) us k x
  have b3 : -18446744073709551616 < g.1 ∧ g.1 < 18446744073709551616 := by omega
  cases hx : fitIx us k x with
  | none =>
    rw [hx] at f
    simp [oN] at f
    simp [d__law_amount, f__law_amount, dIx, a1, gd, f, fit_none hx, amtBy, wrO, dMulA, b3, sEr, op2, op1, T.val, R.opt, toB, opL, vals, consT, disp, mvs, mkTup, callT, callI, argE, others, isAl, isAli, finT, outE, padE, runD, cpsOf, cpT, toI, slT, T.weak, metT, kApp, kExt, elemD, iT, iL, iR1, iR2, iE, iZ, onI]
  | some i =>
    rw [hx] at f
    obtain ⟨u, e1, e2, e3⟩ := fit_some hx
    have a2 := at_map (f := Ru.d) e1
    have ok := hu u (List.mem_of_getElem? e1)
    simp [oN] at f
    cases u with
    | pack g' s p m =>
      obtain ⟨_, h2, h3, _⟩ := ok
      have b1 : -18446744073709551616 < s ∧ s < 18446744073709551616 := by omega
      have b2 : -18446744073709551616 < p ∧ p < 18446744073709551616 := by omega
      have b5 : 0 < s ∧ s < 1073741824 := by omega
      cases m with
      | none =>
        simp [Ru.d, oD] at a2
        simp [d__law_amount, f__law_amount, dIx, a1, gd, f, a2, e3, amtBy, wrO, wr, packAmt, full, dMulA, b1, b2, b3, b5, oD, Ru.d, sEr, op2, op1, T.val, R.opt, toB, opL, vals, consT, disp, mvs, mkTup, callT, callI, argE, others, isAl, isAli, finT, outE, padE, runD, cpsOf, cpT, toI, slT, T.weak, metT, kApp, kExt, elemD, iT, iL, iR1, iR2, iE, iZ, onI]
      | some q =>
        simp [Ru.d, oD] at a2
        by_cases hq : q < x / s
        · simp [d__law_amount, f__law_amount, dIx, a1, gd, f, a2, e3, amtBy, wrO, wr, packAmt, full, dMulA, b1, b2, b3, b5, hq, oD, Ru.d, sEr, op2, op1, T.val, R.opt, toB, opL, vals, consT, disp, mvs, mkTup, callT, callI, argE, others, isAl, isAli, finT, outE, padE, runD, cpsOf, cpT, toI, slT, T.weak, metT, kApp, kExt, elemD, iT, iL, iR1, iR2, iE, iZ, onI]
        · simp [d__law_amount, f__law_amount, dIx, a1, gd, f, a2, e3, amtBy, wrO, wr, packAmt, full, dMulA, b1, b2, b3, b5, hq, oD, Ru.d, sEr, op2, op1, T.val, R.opt, toB, opL, vals, consT, disp, mvs, mkTup, callT, callI, argE, others, isAl, isAli, finT, outE, padE, runD, cpsOf, cpT, toI, slT, T.weak, metT, kApp, kExt, elemD, iT, iL, iR1, iR2, iE, iZ, onI]
    | frm g' l p =>
      obtain ⟨_, h2, h3⟩ := ok
      have b4 : -18446744073709551616 < p ∧ p < 18446744073709551616 := by omega
      simp [Ru.d] at a2
      simp [d__law_amount, f__law_amount, dIx, a1, gd, f, a2, e3, amtBy, wrO, wr, dMulA, b4, Ru.d, sEr, op2, op1, T.val, R.opt, toB, opL, vals, consT, disp, mvs, mkTup, callT, callI, argE, others, isAl, isAli, finT, outE, padE, runD, cpsOf, cpT, toI, slT, T.weak, metT, kApp, kExt, elemD, iT, iL, iR1, iR2, iE, iZ, onI]
    | over f' o => simp [Ru.fits] at e2
    | each f' o m => simp [Ru.fits] at e2

end DL
namespace DL
open PySem PySem.Spec L2
theorem r_check_shop {v : D} (h : isShop v = true) : d_check_shop [.im v] = .ok (.im .non) [.no] := by
  simp [d_check_shop, f_check_shop, r_is_shop, h, sEr, op2, op1, T.val, R.opt, toB, opL, vals, consT, disp, mvs, mkTup, callT, callI, argE, others, isAl, isAli, finT, outE, padE, runD, cpsOf, cpT, toI, slT, T.weak, metT, kApp, kExt, elemD, iT, iL, iR1, iR2, iE, iZ, onI]
/-- a basket of any size, as data -/
def isPiece (v : D) : Bool := match v with
  | .int i => decide (0 ≤ i)
  | _ => false
def arePieces (n : Nat) (v : D) : Bool := match v with
  | .tup ps => ((ps.length : Int) == n) && ps.all isPiece
  | _ => false
theorem l_pieces (s : D) (ds : List D) (h : ds.length ≤ 1000) : eLc (fiT (eVar 1)) [2] (.one 2) tT (eAn (eCall d_is_integer (aCons (eVar 2) aNil)) (eOp dGe (eVar 2) (eC (.int 0)))) [.im s, .im (.tup ds), .no] = .ok (.fr (ds.map fun d => .bl (isPiece d))) [.im s, .im (.tup ds), .no] := by
  have := lc_map (k := ⟨ds, none⟩) (vs := [2]) (t := .one 2) (fe := eAn (eCall d_is_integer (aCons (eVar 2) aNil)) (eOp dGe (eVar 2) (eC (.int 0)))) (h := fun d => .bl (isPiece d)) (env := [.im s, .im (.tup ds), .no]) trivial ds [] (small_size (by simpa using h)) fun d _ =>
    ⟨_, .im (.bl (isPiece d)), [.im s, .im (.tup ds), .im d], rfl, by cases d <;> simp [r_is_integer, isInt, isPiece, sEr, op2, op1, T.val, R.opt, toB, opL, vals, consT, disp, mvs, mkTup, callT, callI, argE, others, isAl, isAli, finT, outE, padE, runD, cpsOf, cpT, toI, slT, T.weak, metT, kApp, kExt, elemD, iT, iL, iR1, iR2, iE, iZ, onI], rfl, rfl⟩
  rw [eLc_s]
  simp [wipeE, this, sEr, op2, op1, T.val, R.opt, toB, opL, vals, consT, disp, mvs, mkTup, callT, callI, argE, others, isAl, isAli, finT, outE, padE, runD, cpsOf, cpT, toI, slT, T.weak, metT, kApp, kExt, elemD, iT, iL, iR1, iR2, iE, iZ, onI]
theorem shop_len {gs : List D} {rs : D} (h : isShop (.tup [.tup gs, rs]) = true) : 1 ≤ gs.length ∧ gs.length ≤ 2 := by
  have h : (areGoods (.tup gs) && areRules rs gs.length) = true := h
  simp [areGoods] at h
  exact h.1.1
theorem r_are_pieces {gs : List D} {rs v : D} (hl : gs.length ≤ 1000) : d_are_pieces [.im (.tup [.tup gs, rs]), .im v] = .ok (.im (.bl (arePieces gs.length v))) [.no, .no] := by
  by_cases ht : isTupleOf v gs.length = true
  · obtain ⟨ds, rfl, hd⟩ := isTup_get ht
    have hd' : ds.length ≤ 1000 := by omega
    have hd2 : (ds.length : Int) = gs.length := hd
    simp [d_are_pieces, f_are_pieces, f_are_pieces_1, f_are_pieces_2, r_is_tuple_of, arePieces, dIx, atI, ixN, ht, hd2, l_pieces _ ds hd', sEr, op2, op1, T.val, R.opt, toB, opL, vals, consT, disp, mvs, mkTup, callT, callI, argE, others, isAl, isAli, finT, outE, padE, runD, cpsOf, cpT, toI, slT, T.weak, metT, kApp, kExt, elemD, iT, iL, iR1, iR2, iE, iZ, onI]
  · have e : arePieces gs.length v = false := by
      cases v <;> first | rfl | skip
      simp [isTupleOf] at ht
      simp [arePieces, ht]
    simp [d_are_pieces, f_are_pieces, f_are_pieces_1, f_are_pieces_2, r_is_tuple_of, e, dIx, atI, ixN, ht, sEr, op2, op1, T.val, R.opt, toB, opL, vals, consT, disp, mvs, mkTup, callT, callI, argE, others, isAl, isAli, finT, outE, padE, runD, cpsOf, cpT, toI, slT, T.weak, metT, kApp, kExt, elemD, iT, iL, iR1, iR2, iE, iZ, onI]
theorem pieces_ints {n : Nat} {v : D} (h : arePieces n v = true) : ∃ bs : List Int, v = .tup (bs.map D.int) ∧ bs.length = n ∧ ∀ b ∈ bs, 0 ≤ b := by
  cases v <;> try (simp [arePieces] at h; done)
  rename_i ps
  simp [arePieces] at h
  obtain ⟨h1, h2⟩ := h
  have key : ∀ ps : List D, (∀ x ∈ ps, isPiece x = true) → ∃ bs : List Int, ps = bs.map D.int ∧ ∀ b ∈ bs, 0 ≤ b := by
    intro ps
    induction ps with
    | nil => exact fun _ => ⟨[], rfl, fun b z => by cases z⟩
    | cons p ps ih =>
      intro h
      obtain ⟨bs, e, q⟩ := ih fun x z => h x (List.mem_cons_of_mem _ z)
      have hp := h p List.mem_cons_self
      cases p <;> try (simp [isPiece] at hp; done)
      rename_i i
      refine ⟨i :: bs, by rw [e]; rfl, fun b z => ?_⟩
      rcases List.mem_cons.mp z with rfl | z
      · simpa [isPiece] using hp
      · exact q b z
  obtain ⟨bs, rfl, q⟩ := key ps h2
  exact ⟨bs, rfl, by simp at h1; omega, q⟩
theorem pieces_of {n : Nat} {bs : List Int} (hl : bs.length = n) (h : ∀ b ∈ bs, 0 ≤ b) : arePieces n (.tup (bs.map D.int)) = true := by
  simp [arePieces, hl, isPiece]
  exact h
def isBasket (n : Nat) (v : D) : Bool := match v with
  | .tup ps => (ps.length : Int) == n && ps.all fun p => isBetween p 0 1000000
  | _ => false
theorem r_is_basket {gs : List D} {rs v : D} (h : isShop (.tup [.tup gs, rs]) = true) : d_is_basket [.im (.tup [.tup gs, rs]), .im v] = .ok (.im (.bl (isBasket gs.length v))) [.no, .no] := by
  have c := r_check_shop h
  have hl := shop_len h
  have q := r_are_pieces (gs := gs) (rs := rs) (v := v) (by omega)
  cases ha : arePieces gs.length v with
  | false =>
    rw [ha] at q
    have e : isBasket gs.length v = false := by
      cases v <;> first | rfl | skip
      rename_i ps
      cases hb : isBasket gs.length (.tup ps) with
      | false => rfl
      | true =>
        simp [isBasket] at hb
        rw [← ha]
        simp [arePieces, hb.1]
        intro x hx
        have := hb.2 x hx
        cases x <;> simp [isBetween, isPiece] at this ⊢
        exact this.1
    simp [d_is_basket, f_is_basket, c, q, e, sEr, op2, op1, T.val, R.opt, toB, opL, vals, consT, disp, mvs, mkTup, callT, callI, argE, others, isAl, isAli, finT, outE, padE, runD, cpsOf, cpT, toI, slT, T.weak, metT, kApp, kExt, elemD, iT, iL, iR1, iR2, iE, iZ, onI]
  | true =>
    rw [ha] at q
    obtain ⟨bs, rfl, hb, h0⟩ := pieces_ints ha
    cases bs with
    | nil => simp at hb; omega
    | cons b bs =>
      have m := dMax1_tup b bs
      have e : isBasket gs.length (.tup ((b :: bs).map D.int)) = decide (bs.foldl max b ≤ 1000000) := by
        have e1 : (((b :: bs).map D.int).length : Int) = gs.length := by rw [List.length_map, hb]
        have e2 : ((b :: bs).map D.int).all (fun p => isBetween p 0 1000000) = decide (bs.foldl max b ≤ 1000000) := by
          rw [Bool.eq_iff_iff, List.all_eq_true, decide_eq_true_eq]
          constructor
          · intro z
            have := z _ (List.mem_map_of_mem (fold_max_mem bs b))
            simp [isBetween] at this
            exact this.2
          · intro z d hd
            obtain ⟨y, hy, rfl⟩ := List.mem_map.mp hd
            have := fold_max_le bs b y hy
            have := h0 y hy
            simp [isBetween]
            omega
        show ((((b :: bs).map D.int).length : Int) == gs.length && ((b :: bs).map D.int).all (fun p => isBetween p 0 1000000)) = _
        rw [e1, e2]
        simp
      rw [e]
      generalize bs.foldl max b = mx at m
      generalize (b :: bs).map D.int = dsx at m q
      simp [d_is_basket, f_is_basket, c, q, m, sEr, op2, op1, T.val, R.opt, toB, opL, vals, consT, disp, mvs, mkTup, callT, callI, argE, others, isAl, isAli, finT, outE, padE, runD, cpsOf, cpT, toI, slT, T.weak, metT, kApp, kExt, elemD, iT, iL, iR1, iR2, iE, iZ, onI]

end DL
namespace DL
open PySem PySem.Spec L2
def Ru.endless : Ru → Bool
  | .each _ _ none => true
  | _ => false
theorem endless_is (u : Ru) : isEndless u.d = u.endless := by
  cases u with
  | pack g s p m => rfl
  | frm g l p => simp [Ru.d, isEndless, Ru.endless]
  | over f o => rfl
  | each f o m => cases m <;> rfl
/-- a shop by its numbers -/
structure Shp (gi : List (Int × Int)) (us : List Ru) : Prop where
  len : 1 ≤ gi.length ∧ gi.length ≤ 2
  pr : ∀ g ∈ gi, (1 ≤ g.1 ∧ g.1 ≤ 9) ∧ (0 ≤ g.2 ∧ g.2 ≤ 9)
  few : us.length ≤ 4
  ru : ∀ u ∈ us, u.ok gi.length ∧ isRule u.d gi.length = true
  one : (us.filter Ru.endless).length ≤ 1
abbrev shopD (gi : List (Int × Int)) (us : List Ru) : D := .tup [.tup (gi.map gd), .tup (us.map Ru.d)]
theorem Shp.is {gi : List (Int × Int)} {us : List Ru} (h : Shp gi us) : isShop (shopD gi us) = true := by
  have e1 : (gi.map gd).all isGood = true := by
    rw [List.all_eq_true]
    intro d hd
    obtain ⟨g, hg, rfl⟩ := List.mem_map.mp hd
    obtain ⟨h1, h2⟩ := h.pr g hg
    simp [gd, isGood, isBetween, h1, h2]
  have e2 : rulesOk (us.map Ru.d) gi.length = true := by
    unfold rulesOk
    rw [List.all_eq_true]
    intro d hd
    obtain ⟨u, hu, rfl⟩ := List.mem_map.mp hd
    exact (h.ru u hu).2
  have e3 : ((us.map Ru.d).filter isEndless).length = (us.filter Ru.endless).length := by
    rw [List.filter_map, List.length_map]
    congr 2
    funext u
    exact endless_is u
  show (areGoods (.tup (gi.map gd)) && areRules (.tup (us.map Ru.d)) (gi.map gd).length) = true
  rw [List.length_map]
  have h1 := h.one
  simp [areGoods, areRules, h.len, h.few, e1, e2, e3, h1]
/-- fewer rules -/
theorem Shp.less {gi : List (Int × Int)} {us : List Ru} (h : Shp gi us) (p : Ru → Bool) : Shp gi (us.filter p) := by
  refine ⟨h.len, h.pr, Nat.le_trans (List.length_filter_le _ _) h.few, fun u z => h.ru u (List.mem_filter.mp z).1, ?_⟩
  rw [List.filter_filter]
  refine Nat.le_trans ?_ h.one
  rw [show (fun a => Ru.endless a && p a) = fun a => p a && Ru.endless a from funext fun a => Bool.and_comm _ _, ← List.filter_filter]
  exact List.length_filter_le _ _
theorem goods_gi {gs : List D} (h : ∀ g ∈ gs, ∃ p c : Int, g = .tup [.int p, .int c] ∧ (3 ≤ p ∧ p ≤ 9) ∧ (0 ≤ c ∧ c ≤ 7)) : ∃ gi : List (Int × Int), gs = gi.map gd ∧ ∀ g ∈ gi, (3 ≤ g.1 ∧ g.1 ≤ 9) ∧ (0 ≤ g.2 ∧ g.2 ≤ 7) := by
  induction gs with
  | nil => exact ⟨[], rfl, fun g z => by cases z⟩
  | cons g gs ih =>
    obtain ⟨p, c, rfl, h1, h2⟩ := h g List.mem_cons_self
    obtain ⟨gi, rfl, q⟩ := ih fun x z => h x (List.mem_cons_of_mem _ z)
    exact ⟨(p, c) :: gi, rfl, fun x z => (List.mem_cons.mp z).elim (fun z => by subst z; exact ⟨h1, h2⟩) (q x)⟩
/-- a shop as a law draws it -/
theorem draw_shop (ns : List Int) (n : Nat) (hl : ns.length ≤ 63) (hn : n < 800000) : ∃ gi us m, d__law_some_shop [scr ns, .own true (rep0 n)] = .ok (.im (shopD gi us)) [.no, .own true (rep0 m)] ∧ n ≤ m ∧ m ≤ n + 40 ∧ Shp gi us ∧ (∀ g ∈ gi, (3 ≤ g.1 ∧ g.1 ≤ 9) ∧ (0 ≤ g.2 ∧ g.2 ≤ 7)) ∧ D.flats (us.map Ru.d) = true := by
  obtain ⟨gs, rs, m, e, h1, h2, hg, hr⟩ := r_some_shop ns n hl hn
  obtain ⟨gi, rfl, q⟩ := goods_gi hg.all
  have hlen := hg.len
  rw [List.length_map] at hlen
  have ha := hr.all
  rw [List.length_map] at ha
  obtain ⟨us, rfl, qu⟩ := rules_ru ha
  refine ⟨gi, us, m, e, h1, h2, ⟨hlen, fun g z => ?_, ?_, fun u z => ⟨qu u z, ha _ (List.mem_map_of_mem z)⟩, ?_⟩, q, hr.flat⟩
  · have := q g z
    omega
  · have := hr.len
    rwa [List.length_map] at this
  · have := hr.one
    rw [List.filter_map, List.length_map] at this
    rw [show (isEndless ∘ Ru.d) = Ru.endless from funext endless_is] at this
    exact this
/-- baskets -/
abbrev basD (bs : List Int) : D := .tup (bs.map D.int)
theorem bas_is {gi : List (Int × Int)} {us : List Ru} {bs : List Int} (h : Shp gi us) (hl : bs.length = gi.length) (hb : ∀ b ∈ bs, 0 ≤ b ∧ b ≤ 1000000) : d_check_basket [.im (shopD gi us), .im (basD bs)] = .ok (.im .non) [.no, .no] := by
  have e := r_is_basket (v := basD bs) h.is
  have q : isBasket (gi.map gd).length (basD bs) = true := by
    have e1 : (bs.map D.int).all (fun p => isBetween p 0 1000000) = true := by
      rw [List.all_eq_true]
      intro d hd
      obtain ⟨b, hb', rfl⟩ := List.mem_map.mp hd
      simp [isBetween, hb b hb']
    simp only [isBasket, e1]
    simp [hl]
  rw [q] at e
  simp [d_check_basket, f_check_basket, e, sEr, op2, op1, T.val, R.opt, toB, opL, vals, consT, disp, mvs, mkTup, callT, callI, argE, others, isAl, isAli, finT, outE, padE, runD, cpsOf, cpT, toI, slT, T.weak, metT, kApp, kExt, elemD, iT, iL, iR1, iR2, iE, iZ, onI]
def amtAt (gi : List (Int × Int)) (us : List Ru) (k x : Int) : Int := amtBy ((gi[k.toNat]?).getD (0, 0)).1 x (fit us k x)
def amtD (gi : List (Int × Int)) (us : List Ru) : D → D
  | .tup [.int k, .int x] => .int (amtAt gi us k x)
  | d => d
def amtsD (gi : List (Int × Int)) (us : List Ru) (bs : List Int) : List D := (enumD (bs.map D.int)).map (amtD gi us)
theorem enum_int {bs : List Int} {d : D} (h : d ∈ enumD (bs.map D.int)) : ∃ (k : Nat) (x : Int), d = .tup [.int k, .int x] ∧ bs[k]? = some x := by
  obtain ⟨i, hi⟩ := List.getElem?_of_mem h
  obtain ⟨d', e1, rfl⟩ := enumD_get hi
  rw [List.getElem?_map] at e1
  obtain ⟨x, e2, rfl⟩ := Option.map_eq_some_iff.mp e1
  exact ⟨i, x, rfl, e2⟩
theorem amt_good {gi : List (Int × Int)} {us : List Ru} (h : Shp gi us) {k : Nat} {x : Int} (hk : k < gi.length) : d_good_amount [.im (shopD gi us), .im (.int k), .im (.int x)] = .ok (.im (.int (amtAt gi us k x))) [.no, .no, .no] := by
  have e := List.getElem?_eq_getElem hk
  have := r_good_amount (x := x) (us := us) (n := gi.length) (fun u z => (h.ru u z).1) e (by have := (h.pr _ (List.getElem_mem hk)).1; omega)
  rw [this]
  simp [amtAt, e]
theorem r_amounts_of {gi : List (Int × Int)} {us : List Ru} {bs : List Int} (h : Shp gi us) (hl : bs.length = gi.length) : d_amounts_of [.im (shopD gi us), .im (basD bs)] = .ok (.im (.tup (amtsD gi us bs))) [.no, .no] := by
  have h2 := h.len.2
  have q := eLc_of (fi := fiE false (aCons (eVar 1) aNil)) (vs := [2, 3]) (t := .tup [2, 3]) (ft := tT) (fe := eCall d_good_amount (aCons (eVar 0) (aCons (eVar 2) (aCons (eVar 3) aNil)))) (env := [.im (shopD gi us), .im (basD bs), .no, .no]) (k := ⟨enumD (bs.map D.int), none⟩) (e := [.im (shopD gi us), .im (basD bs), .no, .no]) (by simp [sEr, op2, op1, T.val, R.opt, toB, opL, vals, consT, disp, mvs, mkTup, callT, callI, argE, others, isAl, isAli, finT, outE, padE, runD, cpsOf, cpT, toI, slT, T.weak, metT, kApp, kExt, elemD, iT, iL, iR1, iR2, iE, iZ, onI])
    (lc_map (k := ⟨enumD (bs.map D.int), none⟩) (vs := [2, 3]) (t := .tup [2, 3]) (h := amtD gi us) (env := [.im (shopD gi us), .im (basD bs), .no, .no]) trivial (enumD (bs.map D.int)) [] (small_size (by rw [enumD_len, List.length_map]; show 0 + bs.length ≤ 1000; omega)) fun d z => by
      obtain ⟨k, x, rfl, e⟩ := enum_int z
      have hk : k < gi.length := by rw [← hl]; exact (List.getElem?_eq_some_iff.mp e).1
      refine ⟨[.im (shopD gi us), .im (basD bs), .im (.int k), .im (.int x)], .im (.int (amtAt gi us k x)), [.im (shopD gi us), .im (basD bs), .im (.int k), .im (.int x)], rfl, ?_, rfl, rfl⟩
      have := amt_good (x := x) h hk
      simp [this, sEr, op2, op1, T.val, R.opt, toB, opL, vals, consT, disp, mvs, mkTup, callT, callI, argE, others, isAl, isAli, finT, outE, padE, runD, cpsOf, cpT, toI, slT, T.weak, metT, kApp, kExt, elemD, iT, iL, iR1, iR2, iE, iZ, onI])
  refine fin4 (rest := [.im (shopD gi us), .im (basD bs), .no, .no]) (m := 0) rfl ?_ _ rfl
  show f_amounts_of [.im (shopD gi us), .im (basD bs), .no, .no] = _
  unfold f_amounts_of
  simp [q, amtsD, sEr, op2, op1, T.val, R.opt, toB, opL, vals, consT, disp, mvs, mkTup, callT, callI, argE, others, isAl, isAli, finT, outE, padE, runD, cpsOf, cpT, toI, slT, T.weak, metT, kApp, kExt, elemD, iT, iL, iR1, iR2, iE, iZ, onI]

end DL
namespace DL
open PySem PySem.Spec L2
theorem eqvs_ints : ∀ (a b : List Int), eqvs (a.map D.int) (b.map D.int) = decide (a = b)
  | [], [] => rfl
  | [], _ :: _ => rfl
  | _ :: _, [] => rfl
  | x :: a, y :: b => by
    rw [List.map_cons, List.map_cons, eqvs_cc, eqv_ii, eqvs_ints a b]
    rw [Bool.eq_iff_iff]
    simp
theorem shp_tup (a : List Int) : shp (.tup (a.map D.int)) = true := by
  rw [shp_eq, lay, dep, lays_ints, deps_ints]
  rfl
theorem eq_tups (a b : List Int) : dEqA (.tup (a.map D.int)) (.tup (b.map D.int)) = some (.im (.bl (decide (a = b)))) := by
  unfold dEqA dEqS dEq
  simp [shp_tup, eqvs_ints]
theorem ne_tups (a b : List Int) : dNeA (.tup (a.map D.int)) (.tup (b.map D.int)) = some (.im (.bl (!decide (a = b)))) := by
  unfold dNeA dNeS dNe
  simp [shp_tup, eqvs_ints]
/-- the amounts -/
def amts (gi : List (Int × Int)) (us : List Ru) (bs : List Int) : List Int := bs.mapIdx fun (i : Nat) x => amtAt gi us i x
theorem amtsD_is (gi : List (Int × Int)) (us : List Ru) (bs : List Int) : amtsD gi us bs = (amts gi us bs).map D.int := by
  apply List.ext_getElem?
  intro i
  unfold amtsD amts enumD
  simp only [List.getElem?_map, List.getElem?_mapIdx]
  cases bs[i]? <;> rfl
theorem fit_filter (us : List Ru) (k x : Int) : fit (us.filter Ru.onGood) k x = fit us k x := by
  unfold fit
  rw [List.find?_filter]
  congr 1
  funext u
  rw [Bool.eq_iff_iff]
  cases u <;> simp [Ru.onGood, Ru.fits]
theorem amts_filter (gi : List (Int × Int)) (us : List Ru) (bs : List Int) : amts gi (us.filter Ru.onGood) bs = amts gi us bs := by
  unfold amts amtAt
  congr 1
  funext i x
  rw [fit_filter]
theorem amtAt_0 {gi : List (Int × Int)} {us : List Ru} {n k : Int} (hu : ∀ u ∈ us, u.ok n) : amtAt gi us k 0 = 0 := by
  have e : fit us k 0 = none := by
    unfold fit
    rw [List.find?_eq_none]
    intro u hu'
    have ok := hu u hu'
    cases u with
    | pack g s p m => simp [Ru.fits]; intro _; have := ok.2.1; omega
    | frm g l p => simp [Ru.fits]; intro _; have := ok.2.1; omega
    | over f o => simp [Ru.fits]
    | each f o m => simp [Ru.fits]
  unfold amtAt
  rw [e]
  simp [amtBy]
theorem amts_0 {gi : List (Int × Int)} {us : List Ru} {n : Int} (hu : ∀ u ∈ us, u.ok n) (m : Nat) : amts gi us (List.replicate m 0) = List.replicate m 0 := by
  apply List.ext_getElem?
  intro i
  unfold amts
  rw [List.getElem?_mapIdx, List.getElem?_replicate]
  split
  · simp [amtAt_0 hu]
  · rfl
theorem zeros {n : Nat} (h : 1 ≤ n ∧ n ≤ 2) : dMulT (.tup [.int 0]) (.int n) = some (.im (basD (List.replicate n 0))) := by
  rcases (by omega : n = 1 ∨ n = 2) with rfl | rfl <;> rfl
def onGoodD : D → Bool
  | .tup (.str w :: _) => w == "pack" || w == "from"
  | _ => false
theorem onGood_is (u : Ru) : onGoodD u.d = u.onGood := by
  cases u <;> simp [Ru.d, onGoodD, Ru.onGood]
theorem filter_good (us : List Ru) : (us.map Ru.d).filter onGoodD = (us.filter Ru.onGood).map Ru.d := by
  rw [List.filter_map]
  congr 2
  funext u
  exact onGood_is u

end DL
namespace DL
open PySem PySem.Spec L2
theorem fin5 {p0 : En} {t : T} {rest : En} {n p : Nat} {f : FS} (hp : p0.length = p) (h : f (padE n p0) = .rt t rest) (ht : isAl t = false) (o : En) (ho : outE p0 rest = some o) : runD n p f p0 = .ok t o := by
  show (if p0.length = p then finF p0 (f (padE n p0)) else .er) = _
  rw [if_pos hp, h]
  cases t with
  | al i => cases ht
  | im d =>
    show (match outE p0 rest with
      | some o => R.ok (T.im d) o
      | none => .er) = _
    rw [ho]
  | fr d =>
    show (match outE p0 rest with
      | some o => R.ok (T.fr d) o
      | none => .er) = _
    rw [ho]
  | ft d =>
    show (match outE p0 rest with
      | some o => R.ok (T.ft d) o
      | none => .er) = _
    rw [ho]
/-- how often a rule takes its off from so much -/
def Ru.off : Ru → Int → Int
  | .over f _, t => if f ≤ t then 1 else 0
  | .each f _ m, t => full t f m
  | _, _ => 0
/-- the number at place 2 -/
def Ru.cut : Ru → Int
  | .pack _ s _ _ => s
  | .frm _ l _ => l
  | .over _ o => o
  | .each _ o _ => o
theorem Ru.at2 (u : Ru) : ∃ a b c, u.d = .tup (a :: b :: .int u.cut :: c) := by
  cases u <;> exact ⟨_, _, _, rfl⟩
theorem Ru.cut_ok {u : Ru} {n : Int} (h : u.ok n) : 1 ≤ u.cut ∧ u.cut ≤ 6 := by
  cases u with
  | pack g s p m => have := h.2.1; simp [Ru.cut]; omega
  | frm g l p => have := h.2.1; simp [Ru.cut]; omega
  | over f o => have := h.2; simp [Ru.cut]; omega
  | each f o m => have := h.1; have := h.2.1; simp [Ru.cut]; omega
theorem r_off {u : Ru} {n t : Int} (h : u.ok n) : d_off_times [.im u.d, .im (.int t)] = .ok (.im (.int (u.off t))) [.no, .no] := by
  cases u with
  | pack g s p m => simp [d_off_times, f_off_times, Ru.d, dIx, Ru.off, sEr, op2, op1, T.val, R.opt, toB, opL, vals, consT, disp, mvs, mkTup, callT, callI, argE, others, isAl, isAli, finT, outE, padE, runD, cpsOf, cpT, toI, slT, T.weak, metT, kApp, kExt, elemD, iT, iL, iR1, iR2, iE, iZ, onI]
  | frm g l p => simp [d_off_times, f_off_times, Ru.d, dIx, Ru.off, sEr, op2, op1, T.val, R.opt, toB, opL, vals, consT, disp, mvs, mkTup, callT, callI, argE, others, isAl, isAli, finT, outE, padE, runD, cpsOf, cpT, toI, slT, T.weak, metT, kApp, kExt, elemD, iT, iL, iR1, iR2, iE, iZ, onI]
  | over f o =>
    by_cases hf : f ≤ t
    · simp [d_off_times, f_off_times, Ru.d, dIx, Ru.off, hf, sEr, op2, op1, T.val, R.opt, toB, opL, vals, consT, disp, mvs, mkTup, callT, callI, argE, others, isAl, isAli, finT, outE, padE, runD, cpsOf, cpT, toI, slT, T.weak, metT, kApp, kExt, elemD, iT, iL, iR1, iR2, iE, iZ, onI]
    · simp [d_off_times, f_off_times, Ru.d, dIx, Ru.off, hf, sEr, op2, op1, T.val, R.opt, toB, opL, vals, consT, disp, mvs, mkTup, callT, callI, argE, others, isAl, isAli, finT, outE, padE, runD, cpsOf, cpT, toI, slT, T.weak, metT, kApp, kExt, elemD, iT, iL, iR1, iR2, iE, iZ, onI]
  | each f o m =>
    have q := r_full (w := t) (p := f) (m := m) (by have := h.1; omega)
    simp [d_off_times, f_off_times, Ru.d, dIx, Ru.off, q, sEr, op2, op1, T.val, R.opt, toB, opL, vals, consT, disp, mvs, mkTup, callT, callI, argE, others, isAl, isAli, finT, outE, padE, runD, cpsOf, cpT, toI, slT, T.weak, metT, kApp, kExt, elemD, iT, iL, iR1, iR2, iE, iZ, onI]
def stp (s : Int × List Int) (u : Ru) : Int × List Int := (s.1 - u.off s.1 * u.cut, s.2 ++ [u.off s.1])
/-- what the rules on sums leave, and how often each takes -/
def sums (us : List Ru) (t : Int) : Int × List Int := us.foldl stp (t, [])
theorem sums_len (us : List Ru) : ∀ s : Int × List Int, (us.foldl stp s).2.length = s.2.length + us.length := by
  induction us with
  | nil => exact fun s => rfl
  | cons u us ih => exact fun s => by rw [List.foldl_cons, ih]; simp [stp]; omega
theorem take_more {α : Type} {us : List α} {i : Nat} {u : α} (h : us[i]? = some u) : us.take (i + 1) = us.take i ++ [u] := by
  rw [List.take_add_one, h]
  rfl
theorem map_get {us : List Ru} {i : Nat} {d : D} (h : (us.map Ru.d)[i]? = some d) : ∃ u, us[i]? = some u ∧ d = u.d := by
  rw [List.getElem?_map] at h
  obtain ⟨u, e, rfl⟩ := Option.map_eq_some_iff.mp h
  exact ⟨u, e, rfl⟩
theorem r_apply {us : List Ru} {n t : Int} (h : ∀ u ∈ us, u.ok n) (hl : us.length ≤ 1000) : d_apply_sums [.im (.tup (us.map Ru.d)), .im (.int t)] = .ok (.ft [⟨false, .int (sums us t).1⟩, ⟨true, .lst ((sums us t).2.map D.int)⟩]) [.no, .no] := by
  obtain ⟨e, q, a, b, rfl⟩ := loop_all (g := gN 4) (f := b_apply_sums_1) (ds := us.map Ru.d) (env := [.im (.tup (us.map Ru.d)), .im (.int t), .im (.int t), .own false [], .no, .no])
    (I := fun i e => ∃ a b, e = [.im (.tup (us.map Ru.d)), .im (.int t), .im (.int (sums (us.take i) t).1), .own false ((sums (us.take i) t).2.map D.int), a, b]) ⟨.no, .no, rfl⟩ (by
    rintro i d _ hd ⟨a, b, rfl⟩
    obtain ⟨u, hu, rfl⟩ := map_get hd
    have ok := h u (List.mem_of_getElem? hu)
    have q := r_off (t := (sums (us.take i) t).1) ok
    obtain ⟨x, y, z, hx⟩ := u.at2
    have bc := Ru.cut_ok ok
    have b1 : -18446744073709551616 < u.cut ∧ u.cut < 18446744073709551616 := by omega
    have hi : i < us.length := (List.getElem?_eq_some_iff.mp hu).1
    have l1 : ((sums (us.take i) t).2).length < 1000000 := by
      unfold sums
      rw [sums_len]
      simp
      omega
    have e1 : sums (us.take (i + 1)) t = ((sums (us.take i) t).1 - u.off (sums (us.take i) t).1 * u.cut, (sums (us.take i) t).2 ++ [u.off (sums (us.take i) t).1]) := by
      rw [take_more hu]
      unfold sums
      rw [List.foldl_append]
      rfl
    refine ⟨[.im (.tup (us.map Ru.d)), .im (.int t), .im (.int (sums (us.take i) t).1), .own false ((sums (us.take i) t).2.map D.int), .im u.d, b], [.im (.tup (us.map Ru.d)), .im (.int t), .im (.int (sums (us.take (i + 1)) t).1), .own false ((sums (us.take (i + 1)) t).2.map D.int), .im u.d, .im (.int (u.off (sums (us.take i) t).1))], rfl, .inl ?_, _, _, rfl⟩
    rw [hx] at q
    rw [e1, hx]
    simp [b_apply_sums_1, b_apply_sums_1_1, b_apply_sums_1_2, b_apply_sums_1_3, q, dIx, dMulA, b1, l1, sEr, op2, op1, T.val, R.opt, toB, opL, vals, consT, disp, mvs, mkTup, callT, callI, argE, others, isAl, isAli, finT, outE, padE, runD, cpsOf, cpT, toI, slT, T.weak, metT, kApp, kExt, elemD, iT, iL, iR1, iR2, iE, iZ, onI])
  have s3 := sFor_of (fi := fiT (eVar 0)) (env := [.im (.tup (us.map Ru.d)), .im (.int t), .im (.int t), .own false [], .no, .no]) (e := [.im (.tup (us.map Ru.d)), .im (.int t), .im (.int t), .own false [], .no, .no]) (by simp [sEr, op2, op1, T.val, R.opt, toB, opL, vals, consT, disp, mvs, mkTup, callT, callI, argE, others, isAl, isAli, finT, outE, padE, runD, cpsOf, cpT, toI, slT, T.weak, metT, kApp, kExt, elemD, iT, iL, iR1, iR2, iE, iZ, onI]) q
  have ht : us.take (us.map Ru.d).length = us := by rw [List.length_map, List.take_length]
  rw [ht] at s3
  refine fin5 (rest := [.im (.tup (us.map Ru.d)), .im (.int t), .im (.int (sums us t).1), .no, a, b]) rfl ?_ rfl _ rfl
  show f_apply_sums [.im (.tup (us.map Ru.d)), .im (.int t), .no, .no, .no, .no] = _
  simp [f_apply_sums, f_apply_sums_1, f_apply_sums_2, f_apply_sums_3, f_apply_sums_4, s3, sEr, op2, op1, T.val, R.opt, toB, opL, vals, consT, disp, mvs, mkTup, callT, callI, argE, others, isAl, isAli, finT, outE, padE, runD, cpsOf, cpT, toI, slT, T.weak, metT, kApp, kExt, elemD, iT, iL, iR1, iR2, iE, iZ, onI]
theorem intsOf_amts (gi : List (Int × Int)) (us : List Ru) (bs : List Int) : dSum [.tup (amtsD gi us bs)] = some (.im (.int (amts gi us bs).sum)) := by
  rw [amtsD_is, dSum_tup, intsOf_map]
  rfl
/-- the charge -/
def chg (gi : List (Int × Int)) (us : List Ru) (bs : List Int) : Int := (sums us (amts gi us bs).sum).1
theorem r_left_of {us : List Ru} {n t : Int} (h : ∀ u ∈ us, u.ok n) (hl : us.length ≤ 1000) : d_left_of [.im (.tup (us.map Ru.d)), .im (.int t)] = .ok (.im (.int (sums us t).1)) [.no, .no] := by
  have e3 := r_apply (t := t) h hl
  refine fin5 (rest := [.im (.tup (us.map Ru.d)), .im (.int t), .im (.int (sums us t).1), .own false ((sums us t).2.map D.int)]) rfl ?_ rfl _ rfl
  show f_left_of [.im (.tup (us.map Ru.d)), .im (.int t), .no, .no] = _
  simp [f_left_of, f_left_of_1, f_left_of_2, e3, sEr, op2, op1, T.val, R.opt, toB, opL, vals, consT, disp, mvs, mkTup, callT, callI, argE, others, isAl, isAli, finT, outE, padE, runD, cpsOf, cpT, toI, slT, T.weak, metT, kApp, kExt, elemD, iT, iL, iR1, iR2, iE, iZ, onI]
theorem r_charge_of {gi : List (Int × Int)} {us : List Ru} {bs : List Int} (h : Shp gi us) (hl : bs.length = gi.length) : d_charge_of [.im (shopD gi us), .im (basD bs)] = .ok (.im (.int (chg gi us bs))) [.no, .no] := by
  have e1 := r_amounts_of (us := us) h hl
  have e2 := intsOf_amts gi us bs
  have e3 := r_left_of (t := (amts gi us bs).sum) (fun u z => (h.ru u z).1) (by have := h.few; omega)
  simp [d_charge_of, f_charge_of, e1, e2, e3, dIx, chg, sEr, op2, op1, T.val, R.opt, toB, opL, vals, consT, disp, mvs, mkTup, callT, callI, argE, others, isAl, isAli, finT, outE, padE, runD, cpsOf, cpT, toI, slT, T.weak, metT, kApp, kExt, elemD, iT, iL, iR1, iR2, iE, iZ, onI]
theorem r_charge {gi : List (Int × Int)} {us : List Ru} {bs : List Int} (h : Shp gi us) (hl : bs.length = gi.length) (hb : ∀ b ∈ bs, 0 ≤ b ∧ b ≤ 1000000) : d_charge [.im (shopD gi us), .im (basD bs)] = .ok (.im (.int (chg gi us bs))) [.no, .no] := by
  have e1 := bas_is h hl hb
  have e2 := r_charge_of (us := us) h hl
  simp [d_charge, f_charge, e1, e2, sEr, op2, op1, T.val, R.opt, toB, opL, vals, consT, disp, mvs, mkTup, callT, callI, argE, others, isAl, isAli, finT, outE, padE, runD, cpsOf, cpT, toI, slT, T.weak, metT, kApp, kExt, elemD, iT, iL, iR1, iR2, iE, iZ, onI]

end DL
namespace DL
open PySem PySem.Spec L2
/-! ### acts -/
inductive Ac where
  | off (n : Nat) | most (n : Nat) (m : Int)
deriving DecidableEq
def Ac.d : Ac → D
  | .off n => .tup [.str "off", .int n]
  | .most n m => .tup [.str "most", .int n, .int m]
/-- whether m is less than the most of a rule -/
def Ru.lessM : Ru → Int → Bool
  | .pack _ _ _ none, _ => true
  | .pack _ _ _ (some k), m => decide (m < k)
  | .each _ _ none, _ => true
  | .each _ _ (some k), m => decide (m < k)
  | _, _ => false
def Ru.capD (u : Ru) (m : D) : Bool := match m with
  | .int m => isBetween (.int m) 1 2 && u.lessM m
  | _ => false
def isMostAct (us : List Ru) (rest : List D) : Bool := match rest with
  | [.int n, m] => isBetween (.int n) 0 (us.length - 1) && (match us[n.toNat]? with
    | some u => u.capD m
    | none => false)
  | _ => false
def isOffAct (us : List Ru) (rest : List D) : Bool := match rest with
  | [n] => isBetween n 0 (us.length - 1)
  | _ => false
def isAct (us : List Ru) (v : D) : Bool := match v with
  | .tup (.str w :: rest) => bif w == "off" then isOffAct us rest else (w == "most" && isMostAct us rest)
  | _ => false
@[simp] theorem at_m3 (a b c : D) : atI [a, b, c] (-1) = some c := rfl
@[simp] theorem at_m4 (a b c d : D) : atI [a, b, c, d] (-1) = some d := rfl
@[simp] theorem at_m5 (a b c d e : D) : atI [a, b, c, d, e] (-1) = some e := rfl
theorem pe_words (x : Str) : dIn true (.str x) (.tup [.str "pack", .str "each"]) = some (.im (.bl (!(("pack" : Str) == x || (("each" : Str) == x || false))))) := by
  simp [dIn, sc]
theorem r_is_most_act (g0 : D) {us : List Ru} (hu : us.length ≤ 4) (w : Str) (rest : List D) : d_is_most_act [.im (.tup [g0, .tup (us.map Ru.d)]), .im (.tup (.str w :: rest))] = .ok (.im (.bl (isMostAct us rest))) [.no, .no] := by
  by_cases ht : isTupleOf (.tup (.str w :: rest)) 3 = true
  · rcases rest with _ | ⟨n, _ | ⟨m, _ | ⟨x, rest⟩⟩⟩ <;> try (simp [isTupleOf] at ht; done)
    · by_cases hn : isBetween n 0 (us.length - 1) = true
      · obtain ⟨n, rfl⟩ := isBt_int hn
        have hn' := hn
        simp [isBetween] at hn'
        obtain ⟨k, rfl⟩ : ∃ k : Nat, n = (k : Int) := ⟨n.toNat, by omega⟩
        have hk : k < us.length := by omega
        obtain ⟨u, eu⟩ : ∃ u, us[k]? = some u := ⟨us[k], List.getElem?_eq_getElem hk⟩
        have a1 := at_map (f := Ru.d) eu
        have e : isMostAct us [.int (k : Int), m] = u.capD m := by
          unfold isMostAct
          dsimp only
          rw [hn, Int.toNat_natCast, eu]
          rfl
        rw [e]
        generalize ((k : Nat) : Int) = kk at hn a1 ht
        generalize hL : (us.length : Int) = L at hn
        generalize hU : us.map Ru.d = ud at a1
        have hL' : (ud.length : Int) = L := by rw [← hU, List.length_map, hL]
        cases u with
        | pack g s p mm =>
          cases mm with
          | none =>
            by_cases hm : isBetween m 1 2 = true
            · obtain ⟨m, rfl⟩ := isBt_int hm
              simp [Ru.d, oD] at a1
              simp [d_is_most_act, f_is_most_act, f_is_most_act_1, f_is_most_act_2, f_is_most_act_3, f_is_most_act_4, f_is_most_act_5, r_is_tuple_of, r_is_between, ht, hn, hL', dIx, a1, pe_words, Ru.d, oD, Ru.capD, Ru.lessM, hm, sEr, op2, op1, T.val, R.opt, toB, opL, vals, consT, disp, mvs, mkTup, callT, callI, argE, others, isAl, isAli, finT, outE, padE, runD, cpsOf, cpT, toI, slT, T.weak, metT, kApp, kExt, elemD, iT, iL, iR1, iR2, iE, iZ, onI]
            · have hc : (Ru.pack g s p none).capD m = false := by cases m <;> first | rfl | (simp [Ru.capD, hm])
              simp [Ru.d, oD] at a1
              simp [d_is_most_act, f_is_most_act, f_is_most_act_1, f_is_most_act_2, f_is_most_act_3, f_is_most_act_4, f_is_most_act_5, r_is_tuple_of, r_is_between, ht, hn, hL', dIx, a1, pe_words, Ru.d, oD, hc, hm, sEr, op2, op1, T.val, R.opt, toB, opL, vals, consT, disp, mvs, mkTup, callT, callI, argE, others, isAl, isAli, finT, outE, padE, runD, cpsOf, cpT, toI, slT, T.weak, metT, kApp, kExt, elemD, iT, iL, iR1, iR2, iE, iZ, onI]
          | some k =>
            by_cases hm : isBetween m 1 2 = true
            · obtain ⟨m, rfl⟩ := isBt_int hm
              simp [Ru.d, oD] at a1
              simp [d_is_most_act, f_is_most_act, f_is_most_act_1, f_is_most_act_2, f_is_most_act_3, f_is_most_act_4, f_is_most_act_5, r_is_tuple_of, r_is_between, ht, hn, hL', dIx, a1, pe_words, Ru.d, oD, Ru.capD, Ru.lessM, hm, sEr, op2, op1, T.val, R.opt, toB, opL, vals, consT, disp, mvs, mkTup, callT, callI, argE, others, isAl, isAli, finT, outE, padE, runD, cpsOf, cpT, toI, slT, T.weak, metT, kApp, kExt, elemD, iT, iL, iR1, iR2, iE, iZ, onI]
            · have hc : (Ru.pack g s p (some k)).capD m = false := by cases m <;> first | rfl | (simp [Ru.capD, hm])
              simp [Ru.d, oD] at a1
              simp [d_is_most_act, f_is_most_act, f_is_most_act_1, f_is_most_act_2, f_is_most_act_3, f_is_most_act_4, f_is_most_act_5, r_is_tuple_of, r_is_between, ht, hn, hL', dIx, a1, pe_words, Ru.d, oD, hc, hm, sEr, op2, op1, T.val, R.opt, toB, opL, vals, consT, disp, mvs, mkTup, callT, callI, argE, others, isAl, isAli, finT, outE, padE, runD, cpsOf, cpT, toI, slT, T.weak, metT, kApp, kExt, elemD, iT, iL, iR1, iR2, iE, iZ, onI]
        | each f o mm =>
          cases mm with
          | none =>
            by_cases hm : isBetween m 1 2 = true
            · obtain ⟨m, rfl⟩ := isBt_int hm
              simp [Ru.d, oD] at a1
              simp [d_is_most_act, f_is_most_act, f_is_most_act_1, f_is_most_act_2, f_is_most_act_3, f_is_most_act_4, f_is_most_act_5, r_is_tuple_of, r_is_between, ht, hn, hL', dIx, a1, pe_words, Ru.d, oD, Ru.capD, Ru.lessM, hm, sEr, op2, op1, T.val, R.opt, toB, opL, vals, consT, disp, mvs, mkTup, callT, callI, argE, others, isAl, isAli, finT, outE, padE, runD, cpsOf, cpT, toI, slT, T.weak, metT, kApp, kExt, elemD, iT, iL, iR1, iR2, iE, iZ, onI]
            · have hc : (Ru.each f o none).capD m = false := by cases m <;> first | rfl | (simp [Ru.capD, hm])
              simp [Ru.d, oD] at a1
              simp [d_is_most_act, f_is_most_act, f_is_most_act_1, f_is_most_act_2, f_is_most_act_3, f_is_most_act_4, f_is_most_act_5, r_is_tuple_of, r_is_between, ht, hn, hL', dIx, a1, pe_words, Ru.d, oD, hc, hm, sEr, op2, op1, T.val, R.opt, toB, opL, vals, consT, disp, mvs, mkTup, callT, callI, argE, others, isAl, isAli, finT, outE, padE, runD, cpsOf, cpT, toI, slT, T.weak, metT, kApp, kExt, elemD, iT, iL, iR1, iR2, iE, iZ, onI]
          | some k =>
            by_cases hm : isBetween m 1 2 = true
            · obtain ⟨m, rfl⟩ := isBt_int hm
              simp [Ru.d, oD] at a1
              simp [d_is_most_act, f_is_most_act, f_is_most_act_1, f_is_most_act_2, f_is_most_act_3, f_is_most_act_4, f_is_most_act_5, r_is_tuple_of, r_is_between, ht, hn, hL', dIx, a1, pe_words, Ru.d, oD, Ru.capD, Ru.lessM, hm, sEr, op2, op1, T.val, R.opt, toB, opL, vals, consT, disp, mvs, mkTup, callT, callI, argE, others, isAl, isAli, finT, outE, padE, runD, cpsOf, cpT, toI, slT, T.weak, metT, kApp, kExt, elemD, iT, iL, iR1, iR2, iE, iZ, onI]
            · have hc : (Ru.each f o (some k)).capD m = false := by cases m <;> first | rfl | (simp [Ru.capD, hm])
              simp [Ru.d, oD] at a1
              simp [d_is_most_act, f_is_most_act, f_is_most_act_1, f_is_most_act_2, f_is_most_act_3, f_is_most_act_4, f_is_most_act_5, r_is_tuple_of, r_is_between, ht, hn, hL', dIx, a1, pe_words, Ru.d, oD, hc, hm, sEr, op2, op1, T.val, R.opt, toB, opL, vals, consT, disp, mvs, mkTup, callT, callI, argE, others, isAl, isAli, finT, outE, padE, runD, cpsOf, cpT, toI, slT, T.weak, metT, kApp, kExt, elemD, iT, iL, iR1, iR2, iE, iZ, onI]
        | frm g l p =>
          have hc : (Ru.frm g l p).capD m = false := by cases m <;> simp [Ru.capD, Ru.lessM]
          simp [Ru.d] at a1
          simp [d_is_most_act, f_is_most_act, f_is_most_act_1, f_is_most_act_2, f_is_most_act_3, f_is_most_act_4, f_is_most_act_5, r_is_tuple_of, r_is_between, ht, hn, hL', dIx, a1, pe_words, Ru.d, hc, sEr, op2, op1, T.val, R.opt, toB, opL, vals, consT, disp, mvs, mkTup, callT, callI, argE, others, isAl, isAli, finT, outE, padE, runD, cpsOf, cpT, toI, slT, T.weak, metT, kApp, kExt, elemD, iT, iL, iR1, iR2, iE, iZ, onI]
        | over f o =>
          have hc : (Ru.over f o).capD m = false := by cases m <;> simp [Ru.capD, Ru.lessM]
          simp [Ru.d] at a1
          simp [d_is_most_act, f_is_most_act, f_is_most_act_1, f_is_most_act_2, f_is_most_act_3, f_is_most_act_4, f_is_most_act_5, r_is_tuple_of, r_is_between, ht, hn, hL', dIx, a1, pe_words, Ru.d, hc, sEr, op2, op1, T.val, R.opt, toB, opL, vals, consT, disp, mvs, mkTup, callT, callI, argE, others, isAl, isAli, finT, outE, padE, runD, cpsOf, cpT, toI, slT, T.weak, metT, kApp, kExt, elemD, iT, iL, iR1, iR2, iE, iZ, onI]
      · have e : isMostAct us [n, m] = false := by
          unfold isMostAct
          split
          · rename_i z; cases z; simp [hn]
          · rfl
        simp [d_is_most_act, f_is_most_act, f_is_most_act_1, f_is_most_act_2, r_is_tuple_of, r_is_between, ht, hn, e, dIx, atI, ixN, sEr, op2, op1, T.val, R.opt, toB, opL, vals, consT, disp, mvs, mkTup, callT, callI, argE, others, isAl, isAli, finT, outE, padE, runD, cpsOf, cpT, toI, slT, T.weak, metT, kApp, kExt, elemD, iT, iL, iR1, iR2, iE, iZ, onI]
    · simp [isTupleOf] at ht
      omega
  · have e : isMostAct us rest = false := by
      unfold isMostAct
      split
      · simp [isTupleOf] at ht
      · rfl
    simp [d_is_most_act, f_is_most_act, f_is_most_act_1, f_is_most_act_2, r_is_tuple_of, ht, e, dIx, atI, ixN, sEr, op2, op1, T.val, R.opt, toB, opL, vals, consT, disp, mvs, mkTup, callT, callI, argE, others, isAl, isAli, finT, outE, padE, runD, cpsOf, cpT, toI, slT, T.weak, metT, kApp, kExt, elemD, iT, iL, iR1, iR2, iE, iZ, onI]
theorem r_is_act (g0 : D) {us : List Ru} (hu : us.length ≤ 4) (v : D) : d_is_act [.im (.tup [g0, .tup (us.map Ru.d)]), .im v] = .ok (.im (.bl (isAct us v))) [.no, .no] := by
  have q : ∀ k : Nat, ((k : Int) + 1 == 0) = false := fun k => by simp; omega
  rcases v with _ | _ | _ | _ | ds | _ | _ <;> try (simp [d_is_act, f_is_act, f_is_act_1, isAct, sEr, op2, op1, T.val, R.opt, toB, opL, vals, consT, disp, mvs, mkTup, callT, callI, argE, others, isAl, isAli, finT, outE, padE, runD, cpsOf, cpT, toI, slT, T.weak, metT, kApp, kExt, elemD, iT, iL, iR1, iR2, iE, iZ, onI]; done)
  cases ds with
  | nil => simp [d_is_act, f_is_act, f_is_act_1, isAct, sEr, op2, op1, T.val, R.opt, toB, opL, vals, consT, disp, mvs, mkTup, callT, callI, argE, others, isAl, isAli, finT, outE, padE, runD, cpsOf, cpT, toI, slT, T.weak, metT, kApp, kExt, elemD, iT, iL, iR1, iR2, iE, iZ, onI]
  | cons w rest =>
    cases w with
    | str w =>
      have m := r_is_most_act g0 hu w rest
      by_cases h1 : w = "off"
      · subst h1
        have e : isAct us (.tup (.str "off" :: rest)) = isOffAct us rest := by simp [isAct]
        rw [e]
        by_cases ht : isTupleOf (.tup (.str "off" :: rest)) 2 = true
        · rcases rest with _ | ⟨n, _ | ⟨m, rest⟩⟩ <;> try (simp [isTupleOf] at ht; done)
          · simp [d_is_act, f_is_act, f_is_act_1, f_is_act_2, f_is_act_3, f_is_act_4, isOffAct, r_is_tuple_of, r_is_between, ht, dIx, atI, ixN, sEr, op2, op1, T.val, R.opt, toB, opL, vals, consT, disp, mvs, mkTup, callT, callI, argE, others, isAl, isAli, finT, outE, padE, runD, cpsOf, cpT, toI, slT, T.weak, metT, kApp, kExt, elemD, iT, iL, iR1, iR2, iE, iZ, onI]
          · simp [isTupleOf] at ht
            omega
        · have e2 : isOffAct us rest = false := by
            unfold isOffAct
            split
            · simp [isTupleOf] at ht
            · rfl
          simp [d_is_act, f_is_act, f_is_act_1, f_is_act_2, f_is_act_3, f_is_act_4, q, e2, r_is_tuple_of, ht, dIx, atI, ixN, sEr, op2, op1, T.val, R.opt, toB, opL, vals, consT, disp, mvs, mkTup, callT, callI, argE, others, isAl, isAli, finT, outE, padE, runD, cpsOf, cpT, toI, slT, T.weak, metT, kApp, kExt, elemD, iT, iL, iR1, iR2, iE, iZ, onI]
      · have h1' : (w == "off") = false := by simpa using h1
        have e : isAct us (.tup (.str w :: rest)) = (w == "most" && isMostAct us rest) := by simp [isAct, h1']
        rw [e]
        simp [d_is_act, f_is_act, f_is_act_1, f_is_act_2, f_is_act_3, f_is_act_4, f_is_act_5, q, h1', m, dIx, atI, ixN, sEr, op2, op1, T.val, R.opt, toB, opL, vals, consT, disp, mvs, mkTup, callT, callI, argE, others, isAl, isAli, finT, outE, padE, runD, cpsOf, cpT, toI, slT, T.weak, metT, kApp, kExt, elemD, iT, iL, iR1, iR2, iE, iZ, onI]
    | _ => simp [d_is_act, f_is_act, f_is_act_1, f_is_act_2, f_is_act_3, q, isAct, dIx, atI, ixN, sEr, op2, op1, T.val, R.opt, toB, opL, vals, consT, disp, mvs, mkTup, callT, callI, argE, others, isAl, isAli, finT, outE, padE, runD, cpsOf, cpT, toI, slT, T.weak, metT, kApp, kExt, elemD, iT, iL, iR1, iR2, iE, iZ, onI]

end DL
namespace DL
open PySem PySem.Spec L2
/-! ### the shop under acts -/
def mosts (as : List Ac) (n : Nat) : List Int := as.filterMap fun a => match a with
  | .most k m => if k = n then some m else none
  | _ => none
def Ru.setM : Ru → Int → Ru
  | .pack g s p _, m => .pack g s p (some m)
  | .each f o _, m => .each f o (some m)
  | u, _ => u
def Ru.capped : Ru → Bool
  | .pack .. => true
  | .each .. => true
  | _ => false
def ruU (u : Ru) (as : List Ac) (n : Nat) : Ru := match mosts as n with
  | [] => u
  | m :: ms => u.setM (ms.foldl min m)
def keep (as : List Ac) (n : Nat) : Bool := !as.any fun a => decide (a = Ac.off n)
/-- an act of these rules -/
def Ac.ok (us : List Ru) : Ac → Prop
  | .off n => n < us.length
  | .most n m => (1 ≤ m ∧ m ≤ 2) ∧ ∃ u, us[n]? = some u ∧ u.lessM m = true
theorem lessM_cap {u : Ru} {m : Int} (h : u.lessM m = true) : u.capped = true := by
  cases u <;> first | rfl | exact (Bool.noConfusion h)
theorem ok_off : PyData.strOk ("off" : Str) = true := by decide +kernel
theorem ok_most : PyData.strOk ("most" : Str) = true := by decide +kernel
@[simp] theorem v1 : (("off" : Str) == "most") = false := by decide +kernel
@[simp] theorem v2 : (("most" : Str) == "off") = false := by decide +kernel
theorem shp_off (k : Int) : shp (.tup [.str "off", .int k]) = true := by
  rw [shp_eq]
  simp [lay, lays, dep, deps, ok_off]
theorem shp_most2 (k : Int) : shp (.tup [.str "most", .int k]) = true := by
  rw [shp_eq]
  simp [lay, lays, dep, deps, ok_most]
theorem shp_most (k m : Int) : shp (.tup [.str "most", .int k, .int m]) = true := by
  rw [shp_eq]
  simp [lay, lays, dep, deps, ok_most]
theorem Ac.shp (a : Ac) : DL.shp a.d = true := by
  cases a with
  | off n => exact shp_off n
  | most n m => exact shp_most n m
theorem Ac.lay1 (a : Ac) : lay a.d = true ∧ dep a.d = 1 := by
  cases a with
  | off n => simp [Ac.d, lay, lays, dep, deps, ok_off]
  | most n m => simp [Ac.d, lay, lays, dep, deps, ok_most]
theorem lays_acts : ∀ as : List Ac, lays (as.map Ac.d) = true
  | [] => rfl
  | a :: as => by rw [List.map_cons]; unfold lays; rw [a.lay1.1, lays_acts as]; rfl
theorem deps_acts : ∀ as : List Ac, deps (as.map Ac.d) ≤ 1
  | [] => by simp [deps]
  | a :: as => by
    rw [List.map_cons]
    unfold deps
    have := deps_acts as
    have := a.lay1.2
    omega
theorem shp_acts (as : List Ac) : shp (.tup (as.map Ac.d)) = true := by
  rw [shp_eq, lay, dep, lays_acts]
  have := deps_acts as
  simp
  omega
theorem shp_actsL (as : List Ac) : shp (.lst (as.map Ac.d)) = true := by
  rw [shp_eq, lay, dep, lays_acts]
  have := deps_acts as
  simp
  omega
theorem eqv_ac (a b : Ac) : eqv a.d b.d = decide (a = b) := by
  cases a <;> cases b <;> rw [Bool.eq_iff_iff] <;> simp [Ac.d] <;> try omega
theorem has_acts (x : Ac) : ∀ as : List Ac, hasD x.d (as.map Ac.d) = as.any fun a => decide (a = x)
  | [] => rfl
  | a :: as => by
    rw [List.map_cons, hasD_cons, has_acts x as, eqv_ac, List.any_cons]
theorem in_acts (neg : Bool) (x : Ac) (as : List Ac) : dInA neg x.d (.tup (as.map Ac.d)) = some (.im (.bl (if neg then !(as.any fun a => decide (a = x)) else as.any fun a => decide (a = x)))) := by
  have e : dIn neg x.d (.tup (as.map Ac.d)) = none := by
    have : sc x.d = false := by cases x <;> rfl
    simp [dIn, this]
  unfold dInA
  rw [e]
  unfold dInD
  rw [if_pos ⟨x.shp, shp_acts as⟩]
  dsimp only
  rw [has_acts]
theorem in_actsL (neg : Bool) (x : Ac) (as : List Ac) : dInA neg x.d (.lst (as.map Ac.d)) = some (.im (.bl (if neg then !(as.any fun a => decide (a = x)) else as.any fun a => decide (a = x)))) := by
  have e : dIn neg x.d (.lst (as.map Ac.d)) = none := by
    have : sc x.d = false := by cases x <;> rfl
    simp [dIn, this]
  unfold dInA
  rw [e]
  unfold dInD
  rw [if_pos ⟨x.shp, shp_actsL as⟩]
  dsimp only
  rw [has_acts]
theorem off_in (as : List Ac) (i : Nat) : dInA true (.tup [.str "off", .int i]) (.tup (as.map Ac.d)) = some (.im (.bl (keep as i))) := in_acts true (.off i) as
def keepD (as : List Ac) : D → Bool
  | .int i => keep as i.toNat
  | _ => false
def numsU (n : Nat) (as : List Ac) : List Nat := (List.range n).filter (keep as)
theorem rng_is (n : Nat) : rngD 0 n = (List.range n).map fun (i : Nat) => D.int (i : Int) := by
  unfold rngD
  rw [Int.sub_zero, Int.toNat_natCast]
  apply List.map_congr_left
  intro a _
  rw [Int.zero_add]
theorem l_numbers (s : D) (n : Nat) (hn : n ≤ 1000) (as : List Ac) (e1 : fiR1 (aCons (eB dLen (aCons (eOp dIx (eVar 0) (eC (.int 1))) aNil)) aNil) [.im s, .im (.tup (as.map Ac.d)), .no] = .ok ⟨rngD 0 n, none⟩ [.im s, .im (.tup (as.map Ac.d)), .no]) :
    eLc (fiR1 (aCons (eB dLen (aCons (eOp dIx (eVar 0) (eC (.int 1))) aNil)) aNil)) [2] (.one 2) (tV (eOp (dInA true) (eTup (aCons (eC (.str "off")) (aCons (eVar 2) aNil))) (eVar 1))) (eVar 2) [.im s, .im (.tup (as.map Ac.d)), .no] = .ok (.fr ((numsU n as).map fun (i : Nat) => D.int (i : Int))) [.im s, .im (.tup (as.map Ac.d)), .no] := by
  have q := eLc_of (vs := [2]) (t := .one 2) (ft := tV (eOp (dInA true) (eTup (aCons (eC (.str "off")) (aCons (eVar 2) aNil))) (eVar 1))) (fe := eVar 2) (k := ⟨rngD 0 n, none⟩) e1
    (lc_filter (k := ⟨rngD 0 n, none⟩) (vs := [2]) (t := .one 2) (p := keepD as) (h := id) (env := [.im s, .im (.tup (as.map Ac.d)), .no]) trivial (rngD 0 n) [] (small_size (by simp [rngD]; omega)) fun d z => by
      rw [rng_is] at z
      obtain ⟨i, _, rfl⟩ := List.mem_map.mp z
      have o := off_in as i
      refine ⟨[.im s, .im (.tup (as.map Ac.d)), .im (.int i)], [.im s, .im (.tup (as.map Ac.d)), .im (.int i)], rfl, ?_, rfl, fun _ => ⟨.im (.int i), _, rfl, rfl, rfl⟩⟩
      have ek : keepD as (.int (i : Int)) = keep as i := by simp [keepD]
      rw [ek]
      generalize ((i : Nat) : Int) = ii at o
      simp [o, sEr, op2, op1, T.val, R.opt, toB, opL, vals, consT, disp, mvs, mkTup, callT, callI, argE, others, isAl, isAli, finT, outE, padE, runD, cpsOf, cpT, toI, slT, T.weak, metT, kApp, kExt, elemD, iT, iL, iR1, iR2, iE, iZ, onI])
  rw [q, List.nil_append, List.map_id, rng_is, List.filter_map]
  congr 3
theorem rng_len (g0 : D) (ud ad : List D) (L : Int) (hl : (ud.length : Int) = L) (b : (-4611686018427387904 ≤ L) ∧ L < 4611686018427387904) : fiR1 (aCons (eB dLen (aCons (eOp dIx (eVar 0) (eC (.int 1))) aNil)) aNil) [.im (.tup [g0, .tup ud]), .im (.tup ad), .no] = .ok ⟨rngD 0 L, none⟩ [.im (.tup [g0, .tup ud]), .im (.tup ad), .no] := by
  simp [dIx, hl, b, sEr, op2, op1, T.val, R.opt, toB, opL, vals, consT, disp, mvs, mkTup, callT, callI, argE, others, isAl, isAli, finT, outE, padE, runD, cpsOf, cpT, toI, slT, T.weak, metT, kApp, kExt, elemD, iT, iL, iR1, iR2, iE, iZ, onI]
theorem r_numbers (g0 : D) {us : List Ru} (hu : us.length ≤ 4) (as : List Ac) : d_numbers_under [.im (.tup [g0, .tup (us.map Ru.d)]), .im (.tup (as.map Ac.d))] = .ok (.fr ((numsU us.length as).map fun (i : Nat) => D.int (i : Int))) [.no, .no] := by
  have b : (-4611686018427387904 ≤ (us.length : Int)) ∧ (us.length : Int) < 4611686018427387904 := by omega
  have e1 := rng_len g0 (us.map Ru.d) (as.map Ac.d) us.length (by rw [List.length_map]) b
  have q := l_numbers (.tup [g0, .tup (us.map Ru.d)]) us.length (by omega) as e1
  refine fin5 (rest := [.im (.tup [g0, .tup (us.map Ru.d)]), .im (.tup (as.map Ac.d)), .no]) rfl ?_ rfl _ rfl
  show f_numbers_under [.im (.tup [g0, .tup (us.map Ru.d)]), .im (.tup (as.map Ac.d)), .no] = _
  unfold f_numbers_under
  rw [sRet_s, q]
  rfl
def mostD (n : Nat) : D → Bool
  | .tup [_, .int k, _] => k == (n : Int)
  | _ => false
def thirdD : D → D
  | .tup [_, _, x] => x
  | d => d
theorem mosts_is (n : Nat) : ∀ as : List Ac, ((as.map Ac.d).filter (mostD n)).map thirdD = (mosts as n).map D.int
  | [] => rfl
  | .off k :: as => by
    have ih := mosts_is n as
    rw [List.map_cons, List.filter_cons_of_neg (by simp [Ac.d, mostD]), ih]
    rfl
  | .most k m :: as => by
    have ih := mosts_is n as
    unfold mosts at ih ⊢
    rw [List.map_cons, List.filterMap_cons]
    by_cases h : k = n
    · subst h
      rw [List.filter_cons_of_pos (by simp [Ac.d, mostD]), List.map_cons, ih]
      simp [Ac.d, thirdD]
    · rw [List.filter_cons_of_neg (by simp [Ac.d, mostD]; omega), ih]
      simp [h]
theorem st_most (s r : D) (ad : List D) (kk nn m : Int) (bb : Bool) (eq : dEqA (.tup [.str "most", .int kk]) (.tup [.str "most", .int nn]) = some (.im (.bl bb))) :
    (tV (eOp dEqA (eSl (eVar 5) tNp (tPa (eC (.int 2)))) (eTup (aCons (eC (.str "most")) (aCons (eVar 2) aNil))))) [.im s, .im (.tup ad), .im (.int nn), .im r, .no, .im (.tup [.str "most", .int kk, .int m])] = .ok bb [.im s, .im (.tup ad), .im (.int nn), .im r, .no, .im (.tup [.str "most", .int kk, .int m])] := by
  simp [cutD, HT.sIx, eq, sEr, op2, op1, T.val, R.opt, toB, opL, vals, consT, disp, mvs, mkTup, callT, callI, argE, others, isAl, isAli, finT, outE, padE, runD, cpsOf, cpT, toI, slT, T.weak, metT, kApp, kExt, elemD, iT, iL, iR1, iR2, iE, iZ, onI]
theorem st_off (s r : D) (ad : List D) (kk nn : Int) (eq : dEqA (.tup [.str "off", .int kk]) (.tup [.str "most", .int nn]) = some (.im (.bl false))) :
    (tV (eOp dEqA (eSl (eVar 5) tNp (tPa (eC (.int 2)))) (eTup (aCons (eC (.str "most")) (aCons (eVar 2) aNil))))) [.im s, .im (.tup ad), .im (.int nn), .im r, .no, .im (.tup [.str "off", .int kk])] = .ok false [.im s, .im (.tup ad), .im (.int nn), .im r, .no, .im (.tup [.str "off", .int kk])] := by
  simp [cutD, HT.sIx, eq, sEr, op2, op1, T.val, R.opt, toB, opL, vals, consT, disp, mvs, mkTup, callT, callI, argE, others, isAl, isAli, finT, outE, padE, runD, cpsOf, cpT, toI, slT, T.weak, metT, kApp, kExt, elemD, iT, iL, iR1, iR2, iE, iZ, onI]
theorem l_mosts (s r : D) (n : Nat) (as : List Ac) (ha : as.length ≤ 1000) :
    eLc (fiT (eVar 1)) [5] (.one 5) (tV (eOp dEqA (eSl (eVar 5) tNp (tPa (eC (.int 2)))) (eTup (aCons (eC (.str "most")) (aCons (eVar 2) aNil))))) (eOp dIx (eVar 5) (eC (.int 2))) [.im s, .im (.tup (as.map Ac.d)), .im (.int n), .im r, .no, .no] = .ok (.fr ((mosts as n).map D.int)) [.im s, .im (.tup (as.map Ac.d)), .im (.int n), .im r, .no, .no] := by
  have q := eLc_of (fi := fiT (eVar 1)) (vs := [5]) (t := .one 5) (ft := tV (eOp dEqA (eSl (eVar 5) tNp (tPa (eC (.int 2)))) (eTup (aCons (eC (.str "most")) (aCons (eVar 2) aNil))))) (fe := eOp dIx (eVar 5) (eC (.int 2))) (env := [.im s, .im (.tup (as.map Ac.d)), .im (.int n), .im r, .no, .no]) (k := ⟨as.map Ac.d, none⟩) (e := [.im s, .im (.tup (as.map Ac.d)), .im (.int n), .im r, .no, .no]) (by simp [sEr, op2, op1, T.val, R.opt, toB, opL, vals, consT, disp, mvs, mkTup, callT, callI, argE, others, isAl, isAli, finT, outE, padE, runD, cpsOf, cpT, toI, slT, T.weak, metT, kApp, kExt, elemD, iT, iL, iR1, iR2, iE, iZ, onI])
    (lc_filter (k := ⟨as.map Ac.d, none⟩) (vs := [5]) (t := .one 5) (p := mostD n) (h := thirdD) (env := [.im s, .im (.tup (as.map Ac.d)), .im (.int n), .im r, .no, .no]) trivial (as.map Ac.d) [] (small_size (by simpa using ha)) fun d z => by
      obtain ⟨a, _, rfl⟩ := List.mem_map.mp z
      generalize as.map Ac.d = ad
      refine ⟨[.im s, .im (.tup ad), .im (.int n), .im r, .no, .im a.d], [.im s, .im (.tup ad), .im (.int n), .im r, .no, .im a.d], rfl, ?_, rfl, fun h => ?_⟩
      · cases a with
        | off k =>
          have e : mostD n (Ac.off k).d = false := rfl
          have eq : dEqA (.tup [.str "off", .int k]) (.tup [.str "most", .int n]) = some (.im (.bl false)) := by
            unfold dEqA dEqS dEq
            simp [shp_off, shp_most2]
          rw [e]
          exact st_off s r ad k n eq
        | most k m =>
          have e : mostD n (Ac.most k m).d = ((k : Int) == n) := rfl
          have eq : dEqA (.tup [.str "most", .int k]) (.tup [.str "most", .int n]) = some (.im (.bl ((k : Int) == n))) := by
            unfold dEqA dEqS dEq
            simp [shp_most2]
          rw [e]
          exact st_most s r ad k n m _ eq
      · cases a with
        | off k => exact (Bool.false_ne_true h).elim
        | most k m => exact ⟨.im (.int m), _, by simp [Ac.d, dIx, atI, ixN, sEr, op2, op1, T.val, R.opt, toB, opL, vals, consT, disp, mvs, mkTup, callT, callI, argE, others, isAl, isAli, finT, outE, padE, runD, cpsOf, cpT, toI, slT, T.weak, metT, kApp, kExt, elemD, iT, iL, iR1, iR2, iE, iZ, onI]; exact rfl, rfl, rfl⟩)
  rw [List.nil_append, mosts_is] at q
  exact q
theorem ru0 (g0 dd : D) (ud ad : List D) (nn : Int) (q : eLc (fiT (eVar 1)) [5] (.one 5) (tV (eOp dEqA (eSl (eVar 5) tNp (tPa (eC (.int 2)))) (eTup (aCons (eC (.str "most")) (aCons (eVar 2) aNil))))) (eOp dIx (eVar 5) (eC (.int 2))) [.im (.tup [g0, .tup ud]), .im (.tup ad), .im (.int nn), .im dd, .no, .no] = .ok (.fr []) [.im (.tup [g0, .tup ud]), .im (.tup ad), .im (.int nn), .im dd, .no, .no]) (a1 : atI ud nn = some dd) :
    d_rule_under [.im (.tup [g0, .tup ud]), .im (.tup ad), .im (.int nn)] = .ok (.im dd) [.no, .no, .no] := by
  simp [d_rule_under, f_rule_under, f_rule_under_1, f_rule_under_2, f_rule_under_3, q, dIx, a1, sEr, op2, op1, T.val, R.opt, toB, opL, vals, consT, disp, mvs, mkTup, callT, callI, argE, others, isAl, isAli, finT, outE, padE, runD, cpsOf, cpT, toI, slT, T.weak, metT, kApp, kExt, elemD, iT, iL, iR1, iR2, iE, iZ, onI]
theorem ru5 (g0 : D) (ud ad md : List D) (nn mm : Int) (a b c d e : D) (q : eLc (fiT (eVar 1)) [5] (.one 5) (tV (eOp dEqA (eSl (eVar 5) tNp (tPa (eC (.int 2)))) (eTup (aCons (eC (.str "most")) (aCons (eVar 2) aNil))))) (eOp dIx (eVar 5) (eC (.int 2))) [.im (.tup [g0, .tup ud]), .im (.tup ad), .im (.int nn), .im (.tup [a, b, c, d, e]), .no, .no] = .ok (.fr md) [.im (.tup [g0, .tup ud]), .im (.tup ad), .im (.int nn), .im (.tup [a, b, c, d, e]), .no, .no]) (a1 : atI ud nn = some (.tup [a, b, c, d, e])) (mn : dMin1 [.lst md] = some (.im (.int mm))) (ll : ((md.length : Int) == 0) = false) :
    d_rule_under [.im (.tup [g0, .tup ud]), .im (.tup ad), .im (.int nn)] = .ok (.im (.tup [a, b, c, d, .int mm])) [.no, .no, .no] := by
  simp [d_rule_under, f_rule_under, f_rule_under_1, f_rule_under_2, f_rule_under_3, f_rule_under_4, q, dIx, a1, mn, ll, cutD, HT.sIx, sEr, op2, op1, T.val, R.opt, toB, opL, vals, consT, disp, mvs, mkTup, callT, callI, argE, others, isAl, isAli, finT, outE, padE, runD, cpsOf, cpT, toI, slT, T.weak, metT, kApp, kExt, elemD, iT, iL, iR1, iR2, iE, iZ, onI]
theorem ru4 (g0 : D) (ud ad md : List D) (nn mm : Int) (a b c e : D) (q : eLc (fiT (eVar 1)) [5] (.one 5) (tV (eOp dEqA (eSl (eVar 5) tNp (tPa (eC (.int 2)))) (eTup (aCons (eC (.str "most")) (aCons (eVar 2) aNil))))) (eOp dIx (eVar 5) (eC (.int 2))) [.im (.tup [g0, .tup ud]), .im (.tup ad), .im (.int nn), .im (.tup [a, b, c, e]), .no, .no] = .ok (.fr md) [.im (.tup [g0, .tup ud]), .im (.tup ad), .im (.int nn), .im (.tup [a, b, c, e]), .no, .no]) (a1 : atI ud nn = some (.tup [a, b, c, e])) (mn : dMin1 [.lst md] = some (.im (.int mm))) (ll : ((md.length : Int) == 0) = false) :
    d_rule_under [.im (.tup [g0, .tup ud]), .im (.tup ad), .im (.int nn)] = .ok (.im (.tup [a, b, c, .int mm])) [.no, .no, .no] := by
  simp [d_rule_under, f_rule_under, f_rule_under_1, f_rule_under_2, f_rule_under_3, f_rule_under_4, q, dIx, a1, mn, ll, cutD, HT.sIx, sEr, op2, op1, T.val, R.opt, toB, opL, vals, consT, disp, mvs, mkTup, callT, callI, argE, others, isAl, isAli, finT, outE, padE, runD, cpsOf, cpT, toI, slT, T.weak, metT, kApp, kExt, elemD, iT, iL, iR1, iR2, iE, iZ, onI]
theorem r_rule_under (g0 : D) {us : List Ru} {as : List Ac} (ha : as.length ≤ 1000) {n : Nat} {u : Ru} (hu : us[n]? = some u) (hc : mosts as n ≠ [] → u.capped = true) :
    d_rule_under [.im (.tup [g0, .tup (us.map Ru.d)]), .im (.tup (as.map Ac.d)), .im (.int n)] = .ok (.im (ruU u as n).d) [.no, .no, .no] := by
  have a1 := at_map (f := Ru.d) hu
  have q := l_mosts (.tup [g0, .tup (us.map Ru.d)]) u.d n as ha
  unfold ruU
  cases hm : mosts as n with
  | nil =>
    rw [hm] at q
    exact ru0 g0 u.d _ _ n q a1
  | cons m ms =>
    rw [hm] at q
    have cap := hc (by rw [hm]; exact fun z => nomatch z)
    have mn := dMin1_lst m ms
    have ll : ((((m :: ms).map D.int).length : Int) == 0) = false := by simp; omega
    cases u with
    | pack g s p k => exact ru5 g0 _ _ _ n _ _ _ _ _ _ q a1 mn ll
    | each f o k => exact ru4 g0 _ _ _ n _ _ _ _ _ q a1 mn ll
    | frm g l p => exact (Bool.false_ne_true cap).elim
    | over f o => exact (Bool.false_ne_true cap).elim
def underL (us : List Ru) (as : List Ac) : List Ru := (numsU us.length as).map fun i => ruU (us.getD i (.over 2 1)) as i
theorem mosts_ok {us : List Ru} {as : List Ac} (h : ∀ a ∈ as, a.ok us) {n : Nat} {u : Ru} (hu : us[n]? = some u) : ∀ m ∈ mosts as n, (1 ≤ m ∧ m ≤ 2) ∧ u.lessM m = true := by
  intro m hm
  unfold mosts at hm
  rw [List.mem_filterMap] at hm
  obtain ⟨a, ha, e⟩ := hm
  cases a with
  | off k => cases e
  | most k m' =>
    simp at e
    obtain ⟨rfl, rfl⟩ := e
    obtain ⟨h1, u', e1, e2⟩ := h _ ha
    rw [hu] at e1
    cases e1
    exact ⟨h1, e2⟩
theorem mosts_cap {us : List Ru} {as : List Ac} (h : ∀ a ∈ as, a.ok us) {n : Nat} {u : Ru} (hu : us[n]? = some u) : mosts as n ≠ [] → u.capped = true := by
  intro hne
  obtain ⟨m, hm⟩ := List.exists_mem_of_ne_nil _ hne
  exact lessM_cap (mosts_ok h hu m hm).2
theorem lu1 (sh rd : D) (ad nd : List D) (ii : Int) (r : d_rule_under [.im sh, .im (.tup ad), .im (.int ii)] = .ok (.im rd) [.no, .no, .no]) :
    eCall d_rule_under (aCons (eVar 0) (aCons (eVar 1) (aCons (eVar 3) aNil))) [.im sh, .im (.tup ad), .own false nd, .im (.int ii)] = .ok (.im rd) [.im sh, .im (.tup ad), .own false nd, .im (.int ii)] := by
  simp [r, sEr, op2, op1, T.val, R.opt, toB, opL, vals, consT, disp, mvs, mkTup, callT, callI, argE, others, isAl, isAli, finT, outE, padE, runD, cpsOf, cpT, toI, slT, T.weak, metT, kApp, kExt, elemD, iT, iL, iR1, iR2, iE, iZ, onI]
theorem lu2 (sh gdd : D) (ad nd ld : List D) (q1 : d_numbers_under [.im sh, .im (.tup ad)] = .ok (.fr nd) [.no, .no]) (q2 : eLc (fiL false (eVar 2)) [3] (.one 3) tT (eCall d_rule_under (aCons (eVar 0) (aCons (eVar 1) (aCons (eVar 3) aNil)))) [.im sh, .im (.tup ad), .own false nd, .no] = .ok (.fr ld) [.im sh, .im (.tup ad), .own false nd, .no]) (d0 : dIx sh (.int 0) = some (.im gdd)) :
    f_left_under [.im sh, .im (.tup ad), .no, .no] = .rt (.im (.tup [gdd, .tup ld])) [.im sh, .im (.tup ad), .own false nd, .no] := by
  simp [f_left_under, f_left_under_1, f_left_under_2, q1, q2, d0, sEr, op2, op1, T.val, R.opt, toB, opL, vals, consT, disp, mvs, mkTup, callT, callI, argE, others, isAl, isAli, finT, outE, padE, runD, cpsOf, cpT, toI, slT, T.weak, metT, kApp, kExt, elemD, iT, iL, iR1, iR2, iE, iZ, onI]
theorem l_left (sh : D) (us : List Ru) (as : List Ac) (ns : List Nat) (nl : ns.length ≤ 4) (r : ∀ i ∈ ns, d_rule_under [.im sh, .im (.tup (as.map Ac.d)), .im (.int i)] = .ok (.im (ruU (us.getD i (.over 2 1)) as i).d) [.no, .no, .no]) :
    eLc (fiL false (eVar 2)) [3] (.one 3) tT (eCall d_rule_under (aCons (eVar 0) (aCons (eVar 1) (aCons (eVar 3) aNil)))) [.im sh, .im (.tup (as.map Ac.d)), .own false (ns.map fun (i : Nat) => D.int (i : Int)), .no] = .ok (.fr ((ns.map fun i => ruU (us.getD i (.over 2 1)) as i).map Ru.d)) [.im sh, .im (.tup (as.map Ac.d)), .own false (ns.map fun (i : Nat) => D.int (i : Int)), .no] := by
  let hD : D → D := fun d => match d with
    | .int i => (ruU (us.getD i.toNat (.over 2 1)) as i.toNat).d
    | d => d
  have q := eLc_of (fi := fiL false (eVar 2)) (vs := [3]) (t := .one 3) (ft := tT) (fe := eCall d_rule_under (aCons (eVar 0) (aCons (eVar 1) (aCons (eVar 3) aNil)))) (env := [.im sh, .im (.tup (as.map Ac.d)), .own false (ns.map fun (i : Nat) => D.int (i : Int)), .no]) (k := ⟨ns.map fun (i : Nat) => D.int (i : Int), some (2, ns.map fun (i : Nat) => D.int (i : Int))⟩) (e := [.im sh, .im (.tup (as.map Ac.d)), .own false (ns.map fun (i : Nat) => D.int (i : Int)), .no]) (by simp [sEr, op2, op1, T.val, R.opt, toB, opL, vals, consT, disp, mvs, mkTup, callT, callI, argE, others, isAl, isAli, finT, outE, padE, runD, cpsOf, cpT, toI, slT, T.weak, metT, kApp, kExt, elemD, iT, iL, iR1, iR2, iE, iZ, onI])
    (lc_map (k := ⟨ns.map fun (i : Nat) => D.int (i : Int), some (2, ns.map fun (i : Nat) => D.int (i : Int))⟩) (vs := [3]) (t := .one 3) (h := hD) (env := [.im sh, .im (.tup (as.map Ac.d)), .own false (ns.map fun (i : Nat) => D.int (i : Int)), .no]) ⟨false, rfl⟩ (ns.map fun (i : Nat) => D.int (i : Int)) [] (small_size (by simp; omega)) fun d z => by
      obtain ⟨i, hi, rfl⟩ := List.mem_map.mp z
      have eh : hD (.int (i : Int)) = (ruU (us.getD i (.over 2 1)) as i).d := by
        show (ruU (us.getD ((i : Int)).toNat (.over 2 1)) as ((i : Int)).toNat).d = _
        rw [Int.toNat_natCast]
      refine ⟨[.im sh, .im (.tup (as.map Ac.d)), .own false (ns.map fun (i : Nat) => D.int (i : Int)), .im (.int i)], .im (hD (.int (i : Int))), [.im sh, .im (.tup (as.map Ac.d)), .own false (ns.map fun (i : Nat) => D.int (i : Int)), .im (.int i)], rfl, ?_, rfl, rfl⟩
      rw [eh]
      exact lu1 sh _ _ _ i (r i hi))
  rw [q, List.nil_append]
  congr 2
  rw [List.map_map, List.map_map]
  apply List.map_congr_left
  intro i _
  show (ruU (us.getD ((i : Int)).toNat (.over 2 1)) as ((i : Int)).toNat).d = _
  rw [Int.toNat_natCast]
  rfl
theorem r_left_under {gi : List (Int × Int)} {us : List Ru} (h : Shp gi us) {as : List Ac} (ha : as.length ≤ 1000) (hok : ∀ a ∈ as, a.ok us) : d_left_under [.im (shopD gi us), .im (.tup (as.map Ac.d))] = .ok (.im (shopD gi (underL us as))) [.no, .no] := by
  have few := h.few
  have q1 := r_numbers (.tup (gi.map gd)) (us := us) few as
  have nl : (numsU us.length as).length ≤ 4 := Nat.le_trans (List.length_filter_le _ _) (by simpa using few)
  have q2 := l_left (shopD gi us) us as (numsU us.length as) nl fun i hi => by
    have hi' : i < us.length := by
      unfold numsU at hi
      simpa using (List.mem_filter.mp hi).1
    have eu : us[i]? = some us[i] := List.getElem?_eq_getElem hi'
    have e2 : us.getD i (.over 2 1) = us[i] := by rw [List.getD_eq_getElem?_getD, eu]; rfl
    rw [e2]
    exact r_rule_under (.tup (gi.map gd)) ha eu (mosts_cap hok eu)
  have q3 := lu2 (shopD gi us) (.tup (gi.map gd)) _ _ _ q1 q2 rfl
  refine fin5 (rest := [.im (shopD gi us), .im (.tup (as.map Ac.d)), .own false ((numsU us.length as).map fun (i : Nat) => D.int (i : Int)), .no]) rfl ?_ rfl _ rfl
  exact q3

end DL
namespace DL
open PySem PySem.Spec L2
/-! ### == of the same data -/
mutual
theorem alike_self : ∀ d : D, PySem.W.alike (toP d) (toP d) = true
  | .non => rfl
  | .bl _ => rfl
  | .int _ => rfl
  | .str _ => rfl
  | .tup ds => alikes_self ds
  | .lst ds => alikes_self ds
  | .fz ds => alikes_self ds
theorem alikes_self : ∀ ds : List D, PySem.W.alikeAll (toPs ds) (toPs ds) = true
  | [] => rfl
  | d :: ds => by
    show (PySem.W.alike (toP d) (toP d) && PySem.W.alikeAll (toPs ds) (toPs ds)) = true
    rw [alike_self d, alikes_self ds]
    rfl
end
theorem eqv_self (d : D) : eqv d d = true := PySem.W.eqv_refl_alike _ (alike_self d)
theorem eq_self {xs : List D} (h : shp (.tup xs) = true) : dEqA (.tup xs) (.tup xs) = some (.im (.bl true)) := by
  have e : eqvs xs xs = true := eqv_self (.tup xs)
  unfold dEqA dEqS dEq
  dsimp only
  rw [if_pos ⟨h, h⟩, eqv_self]
theorem ne_self {xs : List D} (h : shp (.tup xs) = true) : dNeA (.tup xs) (.tup xs) = some (.im (.bl false)) := by
  unfold dNeA dNeS dNe
  dsimp only
  rw [if_pos ⟨h, h⟩, eqv_self]
  rfl
theorem so1 : PyData.strOk ("pack" : Str) = true := by decide +kernel
theorem so2 : PyData.strOk ("from" : Str) = true := by decide +kernel
theorem so3 : PyData.strOk ("over" : Str) = true := by decide +kernel
theorem so4 : PyData.strOk ("each" : Str) = true := by decide +kernel
theorem ru_lay (u : Ru) : lay u.d = true ∧ dep u.d = 1 := by
  cases u with
  | pack g s p m => cases m <;> simp [Ru.d, oD, lay, lays, dep, deps, so1]
  | frm g l p => simp [Ru.d, oD, lay, lays, dep, deps, so2]
  | over f o => simp [Ru.d, oD, lay, lays, dep, deps, so3]
  | each f o m => cases m <;> simp [Ru.d, oD, lay, lays, dep, deps, so4]
theorem lays_rus : ∀ us : List Ru, lays (us.map Ru.d) = true
  | [] => rfl
  | u :: us => by rw [List.map_cons]; unfold lays; rw [(ru_lay u).1, lays_rus us]; rfl
theorem deps_rus : ∀ us : List Ru, deps (us.map Ru.d) ≤ 1
  | [] => by simp [deps]
  | u :: us => by
    rw [List.map_cons]
    unfold deps
    have := deps_rus us
    have := (ru_lay u).2
    omega
theorem shp_rus (us : List Ru) : shp (.tup (us.map Ru.d)) = true := by
  rw [shp_eq, lay, dep, lays_rus]
  have := deps_rus us
  simp
  omega
theorem shp_ru (u : Ru) : shp u.d = true := by
  rw [shp_eq, (ru_lay u).1, (ru_lay u).2]
  rfl
theorem gd_lays : ∀ gi : List (Int × Int), lays (gi.map gd) = true ∧ deps (gi.map gd) ≤ 1
  | [] => ⟨rfl, by simp [deps]⟩
  | g :: gi => by
    obtain ⟨h1, h2⟩ := gd_lays gi
    rw [List.map_cons]
    unfold lays deps
    have e1 : lay (gd g) = true := by simp [gd, lay, lays]
    have e2 : dep (gd g) = 1 := by simp [gd, dep, deps]
    rw [e1, e2, h1]
    exact ⟨rfl, by omega⟩
theorem shp_shop (gi : List (Int × Int)) (us : List Ru) : shp (shopD gi us) = true := by
  obtain ⟨h1, h2⟩ := gd_lays gi
  have h3 := deps_rus us
  rw [shp_eq]
  simp only [lay, lays, dep, deps, h1, lays_rus]
  simp
  omega
theorem eq_shop (gi : List (Int × Int)) (us : List Ru) : dEqA (shopD gi us) (shopD gi us) = some (.im (.bl true)) := eq_self (shp_shop gi us)
theorem ne_rus (us : List Ru) : dNeA (.tup (us.map Ru.d)) (.tup (us.map Ru.d)) = some (.im (.bl false)) := ne_self (shp_rus us)
theorem ne_ru (u : Ru) : dNeA u.d u.d = some (.im (.bl false)) := by
  have h := shp_ru u
  cases u <;> exact ne_self h

end DL
namespace DL
open PySem PySem.Spec L2
theorem seq_of {f g : FS} {e e1 : En} {x : Fl} (h : f e = .nx e1) (k : g e1 = x) : sSeq f g e = x := by
  rw [sSeq_s, h, seq_nx]
  exact k

end DL
namespace DL
open PySem PySem.Spec L2
def topS (i : Nat) : Stmt := PySem.Challenge.pw_sureprices_k37_whole_shop_texts.main.body.getD i (.Pass ⟨0, 0, 0, 0⟩)
def g_NO_MOST : D := .str "-"
def g_NO_RULES : D := .str "none"
/-- what the module's names are -/
structure Bl (K : PySem.W.Frag) (mg : Str → Option Value) : Prop where
  b_all : mg "all" = none
  b_any : mg "any" = none
  b_bool : mg "bool" = none
  b_int : mg "int" = none
  b_isinstance : mg "isinstance" = none
  b_len : mg "len" = none
  b_max : mg "max" = none
  b_min : mg "min" = none
  b_range : mg "range" = none
  b_str : mg "str" = none
  b_tuple : mg "tuple" = none
  g_MOST_DIGITS : ∃ u, mg "MOST_DIGITS" = some u ∧ RelV (.int 2) u
  g_MOST_GOODS : ∃ u, mg "MOST_GOODS" = some u ∧ RelV (.int 2) u
  g_MOST_RULES : ∃ u, mg "MOST_RULES" = some u ∧ RelV (.int 4) u
  g_NO_MOST : GlT K mg "NO_MOST" g_NO_MOST
  g_NO_RULES : GlT K mg "NO_RULES" g_NO_RULES
  k_InvalidShop : ExcK K mg "InvalidShop"
  k_ParseError : ExcK K mg "ParseError"
abbrev s_is_integer : Stmt := topS 7
theorem sc_is_integer : FnScope ["value"] ["value"] (defScope s_is_integer) := ⟨rfl, rfl, rfl, by decide +kernel, rfl, by decide +kernel, by decide +kernel⟩
abbrev s_is_between : Stmt := topS 8
theorem sc_is_between : FnScope ["value", "low", "high"] ["value", "low", "high"] (defScope s_is_between) := ⟨rfl, rfl, rfl, by decide +kernel, rfl, by decide +kernel, by decide +kernel⟩
abbrev s_is_tuple_of : Stmt := topS 9
theorem sc_is_tuple_of : FnScope ["value", "length"] ["value", "length"] (defScope s_is_tuple_of) := ⟨rfl, rfl, rfl, by decide +kernel, rfl, by decide +kernel, by decide +kernel⟩
abbrev s_is_most : Stmt := topS 10
theorem sc_is_most : FnScope ["value"] ["value"] (defScope s_is_most) := ⟨rfl, rfl, rfl, by decide +kernel, rfl, by decide +kernel, by decide +kernel⟩
abbrev s_is_good : Stmt := topS 11
theorem sc_is_good : FnScope ["value", "price", "cost"] ["value"] (defScope s_is_good) := ⟨rfl, rfl, rfl, by decide +kernel, rfl, by decide +kernel, by decide +kernel⟩
abbrev s_is_pack : Stmt := topS 12
theorem sc_is_pack : FnScope ["value", "many_goods", "_", "good", "size", "price", "most"] ["value", "many_goods"] (defScope s_is_pack) := ⟨rfl, rfl, rfl, by decide +kernel, rfl, by decide +kernel, by decide +kernel⟩
abbrev s_is_from : Stmt := topS 13
theorem sc_is_from : FnScope ["value", "many_goods", "_", "good", "least", "price"] ["value", "many_goods"] (defScope s_is_from) := ⟨rfl, rfl, rfl, by decide +kernel, rfl, by decide +kernel, by decide +kernel⟩
abbrev s_is_over : Stmt := topS 14
theorem sc_is_over : FnScope ["value", "_", "full", "off"] ["value"] (defScope s_is_over) := ⟨rfl, rfl, rfl, by decide +kernel, rfl, by decide +kernel, by decide +kernel⟩
abbrev s_is_each : Stmt := topS 15
theorem sc_is_each : FnScope ["value", "_", "full", "off", "most"] ["value"] (defScope s_is_each) := ⟨rfl, rfl, rfl, by decide +kernel, rfl, by decide +kernel, by decide +kernel⟩
abbrev s_is_rule : Stmt := topS 16
theorem sc_is_rule : FnScope ["value", "many_goods", "word"] ["value", "many_goods"] (defScope s_is_rule) := ⟨rfl, rfl, rfl, by decide +kernel, rfl, by decide +kernel, by decide +kernel⟩
abbrev s_is_endless_each : Stmt := topS 17
theorem sc_is_endless_each : FnScope ["rule"] ["rule"] (defScope s_is_endless_each) := ⟨rfl, rfl, rfl, by decide +kernel, rfl, by decide +kernel, by decide +kernel⟩
abbrev s_are_goods : Stmt := topS 18
theorem sc_are_goods : FnScope ["value", "good"] ["value"] (defScope s_are_goods) := ⟨rfl, rfl, rfl, by decide +kernel, rfl, by decide +kernel, by decide +kernel⟩
abbrev s_are_rules : Stmt := topS 19
theorem sc_are_rules : FnScope ["value", "many_goods", "rule"] ["value", "many_goods"] (defScope s_are_rules) := ⟨rfl, rfl, rfl, by decide +kernel, rfl, by decide +kernel, by decide +kernel⟩
abbrev s_is_shop : Stmt := topS 20
theorem sc_is_shop : FnScope ["value", "goods", "rules"] ["value"] (defScope s_is_shop) := ⟨rfl, rfl, rfl, by decide +kernel, rfl, by decide +kernel, by decide +kernel⟩
abbrev s_check_shop : Stmt := topS 21
theorem sc_check_shop : FnScope ["shop"] ["shop"] (defScope s_check_shop) := ⟨rfl, rfl, rfl, by decide +kernel, rfl, by decide +kernel, by decide +kernel⟩
abbrev s_format_item : Stmt := topS 26
theorem sc_format_item : FnScope ["item"] ["item"] (defScope s_format_item) := ⟨rfl, rfl, rfl, by decide +kernel, rfl, by decide +kernel, by decide +kernel⟩
noncomputable def f_format_item : FS := (sRet (eIf (tV (eOp dIs (eVar 0) (eC .non))) (eC g_NO_MOST) (eB dStr (aCons (eVar 0) aNil))))
noncomputable def d_format_item : FD := runD 1 1 f_format_item
abbrev s_format_good : Stmt := topS 27
theorem sc_format_good : FnScope ["good", "price", "cost"] ["good"] (defScope s_format_good) := ⟨rfl, rfl, rfl, by decide +kernel, rfl, by decide +kernel, by decide +kernel⟩
noncomputable def f_format_good_1 : FS := (sAsg (eVar 0) (gT 2 (gsCons (gN 1) (gsCons (gN 2) gsNil))))
noncomputable def f_format_good_2 : FS := (sRet (eJs ((eUn dFmt (eVar 1)) :: ((eC (.str "/")) :: ((eUn dFmt (eVar 2)) :: [])))))
noncomputable def f_format_good : FS := sSeq f_format_good_1 (f_format_good_2)
noncomputable def d_format_good : FD := runD 3 1 f_format_good
abbrev s_format_rule : Stmt := topS 28
theorem sc_format_rule : FnScope ["rule", "item"] ["rule"] (defScope s_format_rule) := ⟨rfl, rfl, rfl, by decide +kernel, rfl, by decide +kernel, by decide +kernel⟩
noncomputable def f_format_rule : FS := (sRet (eM1 dJoin (eC (.str " ")) (eLc (fiT (eVar 0)) [1] (.one 1) tT (eCall d_format_item (aCons (eVar 1) aNil)))))
noncomputable def d_format_rule : FD := runD 2 1 f_format_rule
abbrev s_format_shop : Stmt := topS 29
theorem sc_format_shop : FnScope ["shop", "first", "second", "goods", "rules", "good", "rule"] ["shop"] (defScope s_format_shop) := ⟨rfl, rfl, rfl, by decide +kernel, rfl, by decide +kernel, by decide +kernel⟩
noncomputable def f_format_shop_1 : FS := (sDrop (eCall d_check_shop (aCons (eVar 0) aNil)))
noncomputable def f_format_shop_2 : FS := (sAsg (eVar 0) (gT 2 (gsCons (gN 3) (gsCons (gN 4) gsNil))))
noncomputable def f_format_shop_3 : FS := (sAsg (eM1 dJoin (eC (.str ", ")) (eLc (fiT (eVar 3)) [5] (.one 5) tT (eCall d_format_good (aCons (eVar 5) aNil)))) (gN 1))
noncomputable def f_format_shop_4 : FS := (sAsg (eIf (tV (eOp dGt (eB dLen (aCons (eVar 4) aNil)) (eC (.int 0)))) (eM1 dJoin (eC (.str ", ")) (eLc (fiT (eVar 4)) [6] (.one 6) tT (eCall d_format_rule (aCons (eVar 6) aNil)))) (eC g_NO_RULES)) (gN 2))
noncomputable def f_format_shop_5 : FS := (sRet (eJs ((eUn dFmt (eVar 1)) :: ((eC (.str "; ")) :: ((eUn dFmt (eVar 2)) :: [])))))
noncomputable def f_format_shop : FS := sSeq f_format_shop_1 (sSeq f_format_shop_2 (sSeq f_format_shop_3 (sSeq f_format_shop_4 (f_format_shop_5))))
noncomputable def d_format_shop : FD := runD 7 1 f_format_shop
abbrev s_read_item : Stmt := topS 30
theorem sc_read_item : FnScope ["text", "number"] ["text"] (defScope s_read_item) := ⟨rfl, rfl, rfl, by decide +kernel, rfl, by decide +kernel, by decide +kernel⟩
noncomputable def f_read_item_1 : FS := (sIf (tV (eOp dEqA (eVar 0) (eC g_NO_MOST))) (sRet (eC .non)) sNx)
noncomputable def f_read_item_2 : FS := (sIf (tOr' (tV (eOp dGt (eB dLen (aCons (eVar 0) aNil)) (eC (.int 2)))) (tOr' (tNo (tV (eM0 dAscii (eVar 0)))) (tNo (tV (eM0 dDigit (eVar 0)))))) (sRet (eVar 0)) sNx)
noncomputable def f_read_item_3 : FS := (sAsg (eB dInt (aCons (eVar 0) aNil)) (gN 1))
noncomputable def f_read_item_4 : FS := (sRet (eIf (tV (eOp dEqA (eB dStr (aCons (eVar 1) aNil)) (eVar 0))) (eVar 1) (eVar 0)))
noncomputable def f_read_item : FS := sSeq f_read_item_1 (sSeq f_read_item_2 (sSeq f_read_item_3 (f_read_item_4)))
noncomputable def d_read_item : FD := runD 2 1 f_read_item
abbrev s_read_items : Stmt := topS 31
theorem sc_read_items : FnScope ["text", "between", "part"] ["text", "between"] (defScope s_read_items) := ⟨rfl, rfl, rfl, by decide +kernel, rfl, by decide +kernel, by decide +kernel⟩
noncomputable def f_read_items : FS := (sRet (eB dTuple (aCons (eLc (fiL false (eM1 dSplit (eVar 0) (eVar 1))) [2] (.one 2) tT (eCall d_read_item (aCons (eVar 2) aNil))) aNil)))
noncomputable def d_read_items : FD := runD 3 2 f_read_items
abbrev s_read_rules : Stmt := topS 32
theorem sc_read_rules : FnScope ["text", "part"] ["text"] (defScope s_read_rules) := ⟨rfl, rfl, rfl, by decide +kernel, rfl, by decide +kernel, by decide +kernel⟩
noncomputable def f_read_rules_1 : FS := (sIf (tV (eOp dEqA (eVar 0) (eC g_NO_RULES))) (sRet (eTup aNil)) sNx)
noncomputable def f_read_rules_2 : FS := (sRet (eB dTuple (aCons (eLc (fiL false (eM1 dSplit (eVar 0) (eC (.str ", ")))) [1] (.one 1) tT (eCall d_read_items (aCons (eVar 1) (aCons (eC (.str " ")) aNil)))) aNil)))
noncomputable def f_read_rules : FS := sSeq f_read_rules_1 (f_read_rules_2)
noncomputable def d_read_rules : FD := runD 2 1 f_read_rules
abbrev s_read_shop : Stmt := topS 33
theorem sc_read_shop : FnScope ["text", "parts", "first", "second", "part"] ["text"] (defScope s_read_shop) := ⟨rfl, rfl, rfl, by decide +kernel, rfl, by decide +kernel, by decide +kernel⟩
noncomputable def f_read_shop_1 : FS := (sAsg (eM1 dSplit (eVar 0) (eC (.str "; "))) (gN 1))
noncomputable def f_read_shop_2 : FS := (sIf (tV (eOp dNeA (eB dLen (aCons (eVar 1) aNil)) (eC (.int 2)))) (sRet (eC .non)) sNx)
noncomputable def f_read_shop_3 : FS := (sAsg (eVar 1) (gTl 2 (gsCons (gN 2) (gsCons (gN 3) gsNil))))
noncomputable def f_read_shop_4 : FS := (sRet (eTup (aCons (eB dTuple (aCons (eLc (fiL false (eM1 dSplit (eVar 2) (eC (.str ", ")))) [4] (.one 4) tT (eCall d_read_items (aCons (eVar 4) (aCons (eC (.str "/")) aNil)))) aNil)) (aCons (eCall d_read_rules (aCons (eVar 3) aNil)) aNil))))
noncomputable def f_read_shop : FS := sSeq f_read_shop_1 (sSeq f_read_shop_2 (sSeq f_read_shop_3 (f_read_shop_4)))
noncomputable def d_read_shop : FD := runD 5 1 f_read_shop
abbrev s_parse_shop : Stmt := topS 34
theorem sc_parse_shop : FnScope ["text", "shop"] ["text"] (defScope s_parse_shop) := ⟨rfl, rfl, rfl, by decide +kernel, rfl, by decide +kernel, by decide +kernel⟩
noncomputable def f_parse_shop_1 : FS := (sIf (tNo (tV (eIsi "str" (eVar 0)))) (sRz "ParseError") sNx)
noncomputable def f_parse_shop_2 : FS := (sAsg (eCall d_read_shop (aCons (eVar 0) aNil)) (gN 1))
noncomputable def f_parse_shop_3 : FS := (sIf (tNo (tV (eCall d_is_shop (aCons (eVar 1) aNil)))) (sRz "ParseError") sNx)
noncomputable def f_parse_shop_4 : FS := (sRet (eVar 1))
noncomputable def f_parse_shop : FS := sSeq f_parse_shop_1 (sSeq f_parse_shop_2 (sSeq f_parse_shop_3 (f_parse_shop_4)))
noncomputable def d_parse_shop : FD := runD 2 1 f_parse_shop
abbrev s__law_cell_at : Stmt := topS 36
theorem sc__law_cell_at : FnScope ["_law_script", "_law_k", "_law_spare", "_law_again"] ["_law_script", "_law_k"] (defScope s__law_cell_at) := ⟨rfl, rfl, rfl, by decide +kernel, rfl, by decide +kernel, by decide +kernel⟩
abbrev s__law_mixed : Stmt := topS 37
theorem sc__law_mixed : FnScope ["_law_script", "_law_k", "_law_many", "_law_spun"] ["_law_script", "_law_k", "_law_many"] (defScope s__law_mixed) := ⟨rfl, rfl, rfl, by decide +kernel, rfl, by decide +kernel, by decide +kernel⟩
abbrev s__law_draw : Stmt := topS 38
theorem sc__law_draw : FnScope ["_law_script", "_law_state", "_law_many"] ["_law_script", "_law_state", "_law_many"] (defScope s__law_draw) := ⟨rfl, rfl, rfl, by decide +kernel, rfl, by decide +kernel, by decide +kernel⟩
abbrev s__law_pick : Stmt := topS 39
theorem sc__law_pick : FnScope ["_law_script", "_law_state", "_law_some"] ["_law_script", "_law_state", "_law_some"] (defScope s__law_pick) := ⟨rfl, rfl, rfl, by decide +kernel, rfl, by decide +kernel, by decide +kernel⟩
abbrev s__law_some_rule : Stmt := topS 40
theorem sc__law_some_rule : FnScope ["_law_script", "_law_state", "_law_goods", "_law_capped", "_law_kind", "_law_good", "_law_single", "_law_whole", "_law_most", "_law_size", "_law_price"] ["_law_script", "_law_state", "_law_goods", "_law_capped"] (defScope s__law_some_rule) := ⟨rfl, rfl, rfl, by decide +kernel, rfl, by decide +kernel, by decide +kernel⟩
abbrev s__law_some_goods : Stmt := topS 41
theorem sc__law_some_goods : FnScope ["_law_script", "_law_state", "_law_count", "_law_again"] ["_law_script", "_law_state"] (defScope s__law_some_goods) := ⟨rfl, rfl, rfl, by decide +kernel, rfl, by decide +kernel, by decide +kernel⟩
abbrev s__law_some_shop : Stmt := topS 42
theorem sc__law_some_shop : FnScope ["_law_script", "_law_state", "_law_again", "_law_goods", "_law_rules", "_law_capped", "_law_rule"] ["_law_script", "_law_state"] (defScope s__law_some_shop) := ⟨rfl, rfl, rfl, by decide +kernel, rfl, by decide +kernel, by decide +kernel⟩
abbrev s_law : Stmt := topS 43
theorem sc_law : FnScope ["_law_script", "_law_state", "_law_shop", "_law_text", "_law_rows", "_law_rule", "_law_row", "_law_item", "_law_price", "_law_cost"] ["_law_script"] (defScope s_law) := ⟨rfl, rfl, rfl, by decide +kernel, rfl, by decide +kernel, by decide +kernel⟩
noncomputable def b_law_1_1 : FS := (sAsg (eOp dAdd (eOp dAdd (eVar 6) (eC (.str " "))) (eIf (tV (eOp dIs (eVar 7) (eC .non))) (eC (.str "-")) (eB dStr (aCons (eVar 7) aNil)))) (gN 6))
noncomputable def b_law_1 : FS := b_law_1_1
noncomputable def b_law_2_1 : FS := (sAsg (eOp dIx (eVar 5) (eC (.int 0))) (gN 6))
noncomputable def b_law_2_2 : FS := (sFor (fiT (eSl (eVar 5) (tPa (eC (.int 1))) tNp)) (gN 7) b_law_1)
noncomputable def b_law_2_3 : FS := (sDrop (eMet kApp (eVar 4) (aCons (eVar 6) aNil)))
noncomputable def b_law_2 : FS := sSeq b_law_2_1 (sSeq b_law_2_2 (b_law_2_3))
noncomputable def f_law_1 : FS := (sAsg (eLst aNil) (gN 1))
noncomputable def f_law_2 : FS := (sAsg (eCallI 1 d__law_some_shop (aCons (eVar 0) (aCons (eVar 1) aNil))) (gN 2))
noncomputable def f_law_3 : FS := (sAsg (eOp dAdd (eM1 dJoin (eC (.str ", ")) (eLc (fiT (eOp dIx (eVar 2) (eC (.int 0)))) [8, 9] (.tup [8, 9]) tT (eOp dAdd (eOp dAdd (eB dStr (aCons (eVar 8) aNil)) (eC (.str "/"))) (eB dStr (aCons (eVar 9) aNil))))) (eC (.str "; "))) (gN 3))
noncomputable def f_law_4 : FS := (sAsg (eLst aNil) (gN 4))
noncomputable def f_law_5 : FS := (sFor (fiT (eOp dIx (eVar 2) (eC (.int 1)))) (gN 5) b_law_2)
noncomputable def f_law_6 : FS := (sAsg (eOp dAdd (eVar 3) (eIf (tV (eOp dNeA (eVar 4) (eLst aNil))) (eM1 dJoin (eC (.str ", ")) (eVar 4)) (eC (.str "none")))) (gN 3))
noncomputable def f_law_7 : FS := (sRet (eAn (eOp dEqA (eCall d_format_shop (aCons (eVar 2) aNil)) (eVar 3)) (eOp dEqA (eCall d_parse_shop (aCons (eVar 3) aNil)) (eVar 2))))
noncomputable def f_law : FS := sSeq f_law_1 (sSeq f_law_2 (sSeq f_law_3 (sSeq f_law_4 (sSeq f_law_5 (sSeq f_law_6 (f_law_7))))))
noncomputable def d_law : FD := runD 10 1 f_law
section
variable {P : Program} {w : World} {K : PySem.W.Frag} {mg : Str → Option Value} {base : Heap}
theorem ok_is_integer {f : Addr} {fd : FuncData} (B : Bl K mg) (F : Fun K "is_integer" "is_integer" s_is_integer f fd) :
    FnOk P w K mg base (L2.CX P w) 1 f fd ["value"] (spD K mg d_is_integer) :=
  fn_ok F sc_is_integer rfl rfl fun cdv A outer s H vs E env0 hr => by
    exact (dss_one (ds_ret (de_and (de_isi (by rfl) B.b_isinstance (de_var 0 (pv 0)) (pe_bltn (by rfl) B.b_int bo_int rfl)) (de_one (de_not (de_isi (by rfl) B.b_isinstance (de_var 0 (pv 0)) (pe_bltn (by rfl) B.b_bool bo_bool rfl)))))))
theorem ok_is_between {f : Addr} {fd : FuncData} (B : Bl K mg) (F : Fun K "is_between" "is_between" s_is_between f fd)
    {a_is_integer : Addr} {e_is_integer : FuncData} (C_is_integer : Cd K mg "is_integer" s_is_integer ["value"] a_is_integer e_is_integer) (G_is_integer : FnOk P w K mg base (L2.CX P w) 1 a_is_integer e_is_integer ["value"] (spD K mg d_is_integer)) :
    FnOk P w K mg base (L2.CX P w) 2 f fd ["value", "low", "high"] (spD K mg d_is_between) :=
  fn_ok F sc_is_between rfl rfl fun cdv A outer s H vs E env0 hr => by
    exact (dss_one (ds_ret (de_and (de_call G_is_integer (hr.mono (by decide)) (by rfl) C_is_integer.g C_is_integer.F.kp C_is_integer.b (takes_of rfl rfl rfl rfl) (da_cons (de_var 0 (pv 0)) da_nil)) (de_one (de_chain op_le d_le op_le d_le (de_var 1 (pv 1)) (de_var 0 (pv 0)) (de_var 2 (pv 2)) (by rfl))))))
theorem ok_is_tuple_of {f : Addr} {fd : FuncData} (B : Bl K mg) (F : Fun K "is_tuple_of" "is_tuple_of" s_is_tuple_of f fd) :
    FnOk P w K mg base (L2.CX P w) 1 f fd ["value", "length"] (spD K mg d_is_tuple_of) :=
  fn_ok F sc_is_tuple_of rfl rfl fun cdv A outer s H vs E env0 hr => by
    exact (dss_one (ds_ret (de_and (de_isi (by rfl) B.b_isinstance (de_var 0 (pv 0)) (pe_bltn (by rfl) B.b_tuple bo_tuple rfl)) (de_one (de_cmp (op_eqA hr.units) d_eqA (de_b d_len call_lenA (by rfl) B.b_len bo_len (da_cons (de_var 0 (pv 0)) da_nil)) (de_var 1 (pv 1)) (nomark _))))))
theorem ok_is_most {f : Addr} {fd : FuncData} (B : Bl K mg) (F : Fun K "is_most" "is_most" s_is_most f fd)
    {a_is_between : Addr} {e_is_between : FuncData} (C_is_between : Cd K mg "is_between" s_is_between ["value", "low", "high"] a_is_between e_is_between) (G_is_between : FnOk P w K mg base (L2.CX P w) 2 a_is_between e_is_between ["value", "low", "high"] (spD K mg d_is_between)) :
    FnOk P w K mg base (L2.CX P w) 3 f fd ["value"] (spD K mg d_is_most) :=
  fn_ok F sc_is_most rfl rfl fun cdv A outer s H vs E env0 hr => by
    exact (dss_one (ds_ret (de_or (de_cmp op_is d_is (de_var 0 (pv 0)) de_non (nomark _)) (de_one (de_call G_is_between (hr.mono (by decide)) (by rfl) C_is_between.g C_is_between.F.kp C_is_between.b (takes_of rfl rfl rfl rfl) (da_cons (de_var 0 (pv 0)) (da_cons de_int (da_cons de_int da_nil))))))))
theorem ok_is_good {f : Addr} {fd : FuncData} (B : Bl K mg) (F : Fun K "is_good" "is_good" s_is_good f fd)
    {a_is_tuple_of : Addr} {e_is_tuple_of : FuncData} (C_is_tuple_of : Cd K mg "is_tuple_of" s_is_tuple_of ["value", "length"] a_is_tuple_of e_is_tuple_of) (G_is_tuple_of : FnOk P w K mg base (L2.CX P w) 1 a_is_tuple_of e_is_tuple_of ["value", "length"] (spD K mg d_is_tuple_of))
    {a_is_between : Addr} {e_is_between : FuncData} (C_is_between : Cd K mg "is_between" s_is_between ["value", "low", "high"] a_is_between e_is_between) (G_is_between : FnOk P w K mg base (L2.CX P w) 2 a_is_between e_is_between ["value", "low", "high"] (spD K mg d_is_between)) :
    FnOk P w K mg base (L2.CX P w) 3 f fd ["value"] (spD K mg d_is_good) :=
  fn_ok F sc_is_good rfl rfl fun cdv A outer s H vs E env0 hr => by
    exact (dss_cons (ds_if (dt_not (dt_val (de_call G_is_tuple_of (hr.mono (by decide)) (by rfl) C_is_tuple_of.g C_is_tuple_of.F.kp C_is_tuple_of.b (takes_of rfl rfl rfl rfl) (da_cons (de_var 0 (pv 0)) (da_cons de_int da_nil))))) (dss_one (ds_ret de_bl)) dss_nil)
    (dss_cons (ds_asg (de_var 0 (pv 0)) (dg_tup rfl (dgs_cons (dg_name (pg_name (i := 1) sc_is_good.nd rfl (by first | exact .inl rfl | exact .inr rfl))) (dgs_cons (dg_name (pg_name (i := 2) sc_is_good.nd rfl (by first | exact .inl rfl | exact .inr rfl))) dgs_nil))))
    (dss_one (ds_ret (de_and (de_call G_is_between (hr.mono (by decide)) (by rfl) C_is_between.g C_is_between.F.kp C_is_between.b (takes_of rfl rfl rfl rfl) (da_cons (de_var 1 (pv 1)) (da_cons de_int (da_cons de_int da_nil)))) (de_one (de_call G_is_between (hr.mono (by decide)) (by rfl) C_is_between.g C_is_between.F.kp C_is_between.b (takes_of rfl rfl rfl rfl) (da_cons (de_var 2 (pv 2)) (da_cons de_int (da_cons de_int da_nil))))))))))
theorem ok_is_pack {f : Addr} {fd : FuncData} (B : Bl K mg) (F : Fun K "is_pack" "is_pack" s_is_pack f fd)
    {a_is_tuple_of : Addr} {e_is_tuple_of : FuncData} (C_is_tuple_of : Cd K mg "is_tuple_of" s_is_tuple_of ["value", "length"] a_is_tuple_of e_is_tuple_of) (G_is_tuple_of : FnOk P w K mg base (L2.CX P w) 1 a_is_tuple_of e_is_tuple_of ["value", "length"] (spD K mg d_is_tuple_of))
    {a_is_between : Addr} {e_is_between : FuncData} (C_is_between : Cd K mg "is_between" s_is_between ["value", "low", "high"] a_is_between e_is_between) (G_is_between : FnOk P w K mg base (L2.CX P w) 2 a_is_between e_is_between ["value", "low", "high"] (spD K mg d_is_between))
    {a_is_most : Addr} {e_is_most : FuncData} (C_is_most : Cd K mg "is_most" s_is_most ["value"] a_is_most e_is_most) (G_is_most : FnOk P w K mg base (L2.CX P w) 3 a_is_most e_is_most ["value"] (spD K mg d_is_most)) :
    FnOk P w K mg base (L2.CX P w) 4 f fd ["value", "many_goods"] (spD K mg d_is_pack) :=
  fn_ok F sc_is_pack rfl rfl fun cdv A outer s H vs E env0 hr => by
    exact (dss_cons (ds_if (dt_not (dt_val (de_call G_is_tuple_of (hr.mono (by decide)) (by rfl) C_is_tuple_of.g C_is_tuple_of.F.kp C_is_tuple_of.b (takes_of rfl rfl rfl rfl) (da_cons (de_var 0 (pv 0)) (da_cons de_int da_nil))))) (dss_one (ds_ret de_bl)) dss_nil)
    (dss_cons (ds_asg (de_var 0 (pv 0)) (dg_tup rfl (dgs_cons (dg_name (pg_name (i := 2) sc_is_pack.nd rfl (by first | exact .inl rfl | exact .inr rfl))) (dgs_cons (dg_name (pg_name (i := 3) sc_is_pack.nd rfl (by first | exact .inl rfl | exact .inr rfl))) (dgs_cons (dg_name (pg_name (i := 4) sc_is_pack.nd rfl (by first | exact .inl rfl | exact .inr rfl))) (dgs_cons (dg_name (pg_name (i := 5) sc_is_pack.nd rfl (by first | exact .inl rfl | exact .inr rfl))) (dgs_cons (dg_name (pg_name (i := 6) sc_is_pack.nd rfl (by first | exact .inl rfl | exact .inr rfl))) dgs_nil)))))))
    (dss_one (ds_ret (de_and (de_call G_is_between (hr.mono (by decide)) (by rfl) C_is_between.g C_is_between.F.kp C_is_between.b (takes_of rfl rfl rfl rfl) (da_cons (de_var 3 (pv 3)) (da_cons de_int (da_cons (de_op op_sub d_sub (de_var 1 (pv 1)) de_int) da_nil)))) (de_and (de_call G_is_between (hr.mono (by decide)) (by rfl) C_is_between.g C_is_between.F.kp C_is_between.b (takes_of rfl rfl rfl rfl) (da_cons (de_var 4 (pv 4)) (da_cons de_int (da_cons de_int da_nil)))) (de_and (de_call G_is_between (hr.mono (by decide)) (by rfl) C_is_between.g C_is_between.F.kp C_is_between.b (takes_of rfl rfl rfl rfl) (da_cons (de_var 5 (pv 5)) (da_cons (de_var 4 (pv 4)) (da_cons de_int da_nil)))) (de_one (de_call G_is_most (hr.mono (by decide)) (by rfl) C_is_most.g C_is_most.F.kp C_is_most.b (takes_of rfl rfl rfl rfl) (da_cons (de_var 6 (pv 6)) da_nil))))))))))
theorem ok_is_from {f : Addr} {fd : FuncData} (B : Bl K mg) (F : Fun K "is_from" "is_from" s_is_from f fd)
    {a_is_tuple_of : Addr} {e_is_tuple_of : FuncData} (C_is_tuple_of : Cd K mg "is_tuple_of" s_is_tuple_of ["value", "length"] a_is_tuple_of e_is_tuple_of) (G_is_tuple_of : FnOk P w K mg base (L2.CX P w) 1 a_is_tuple_of e_is_tuple_of ["value", "length"] (spD K mg d_is_tuple_of))
    {a_is_between : Addr} {e_is_between : FuncData} (C_is_between : Cd K mg "is_between" s_is_between ["value", "low", "high"] a_is_between e_is_between) (G_is_between : FnOk P w K mg base (L2.CX P w) 2 a_is_between e_is_between ["value", "low", "high"] (spD K mg d_is_between)) :
    FnOk P w K mg base (L2.CX P w) 3 f fd ["value", "many_goods"] (spD K mg d_is_from) :=
  fn_ok F sc_is_from rfl rfl fun cdv A outer s H vs E env0 hr => by
    exact (dss_cons (ds_if (dt_not (dt_val (de_call G_is_tuple_of (hr.mono (by decide)) (by rfl) C_is_tuple_of.g C_is_tuple_of.F.kp C_is_tuple_of.b (takes_of rfl rfl rfl rfl) (da_cons (de_var 0 (pv 0)) (da_cons de_int da_nil))))) (dss_one (ds_ret de_bl)) dss_nil)
    (dss_cons (ds_asg (de_var 0 (pv 0)) (dg_tup rfl (dgs_cons (dg_name (pg_name (i := 2) sc_is_from.nd rfl (by first | exact .inl rfl | exact .inr rfl))) (dgs_cons (dg_name (pg_name (i := 3) sc_is_from.nd rfl (by first | exact .inl rfl | exact .inr rfl))) (dgs_cons (dg_name (pg_name (i := 4) sc_is_from.nd rfl (by first | exact .inl rfl | exact .inr rfl))) (dgs_cons (dg_name (pg_name (i := 5) sc_is_from.nd rfl (by first | exact .inl rfl | exact .inr rfl))) dgs_nil))))))
    (dss_one (ds_ret (de_and (de_call G_is_between (hr.mono (by decide)) (by rfl) C_is_between.g C_is_between.F.kp C_is_between.b (takes_of rfl rfl rfl rfl) (da_cons (de_var 3 (pv 3)) (da_cons de_int (da_cons (de_op op_sub d_sub (de_var 1 (pv 1)) de_int) da_nil)))) (de_and (de_call G_is_between (hr.mono (by decide)) (by rfl) C_is_between.g C_is_between.F.kp C_is_between.b (takes_of rfl rfl rfl rfl) (da_cons (de_var 4 (pv 4)) (da_cons de_int (da_cons de_int da_nil)))) (de_one (de_call G_is_between (hr.mono (by decide)) (by rfl) C_is_between.g C_is_between.F.kp C_is_between.b (takes_of rfl rfl rfl rfl) (da_cons (de_var 5 (pv 5)) (da_cons de_int (da_cons de_int da_nil)))))))))))
theorem ok_is_over {f : Addr} {fd : FuncData} (B : Bl K mg) (F : Fun K "is_over" "is_over" s_is_over f fd)
    {a_is_tuple_of : Addr} {e_is_tuple_of : FuncData} (C_is_tuple_of : Cd K mg "is_tuple_of" s_is_tuple_of ["value", "length"] a_is_tuple_of e_is_tuple_of) (G_is_tuple_of : FnOk P w K mg base (L2.CX P w) 1 a_is_tuple_of e_is_tuple_of ["value", "length"] (spD K mg d_is_tuple_of))
    {a_is_between : Addr} {e_is_between : FuncData} (C_is_between : Cd K mg "is_between" s_is_between ["value", "low", "high"] a_is_between e_is_between) (G_is_between : FnOk P w K mg base (L2.CX P w) 2 a_is_between e_is_between ["value", "low", "high"] (spD K mg d_is_between)) :
    FnOk P w K mg base (L2.CX P w) 3 f fd ["value"] (spD K mg d_is_over) :=
  fn_ok F sc_is_over rfl rfl fun cdv A outer s H vs E env0 hr => by
    exact (dss_cons (ds_if (dt_not (dt_val (de_call G_is_tuple_of (hr.mono (by decide)) (by rfl) C_is_tuple_of.g C_is_tuple_of.F.kp C_is_tuple_of.b (takes_of rfl rfl rfl rfl) (da_cons (de_var 0 (pv 0)) (da_cons de_int da_nil))))) (dss_one (ds_ret de_bl)) dss_nil)
    (dss_cons (ds_asg (de_var 0 (pv 0)) (dg_tup rfl (dgs_cons (dg_name (pg_name (i := 1) sc_is_over.nd rfl (by first | exact .inl rfl | exact .inr rfl))) (dgs_cons (dg_name (pg_name (i := 2) sc_is_over.nd rfl (by first | exact .inl rfl | exact .inr rfl))) (dgs_cons (dg_name (pg_name (i := 3) sc_is_over.nd rfl (by first | exact .inl rfl | exact .inr rfl))) dgs_nil)))))
    (dss_one (ds_ret (de_and (de_call G_is_between (hr.mono (by decide)) (by rfl) C_is_between.g C_is_between.F.kp C_is_between.b (takes_of rfl rfl rfl rfl) (da_cons (de_var 2 (pv 2)) (da_cons de_int (da_cons de_int da_nil)))) (de_one (de_call G_is_between (hr.mono (by decide)) (by rfl) C_is_between.g C_is_between.F.kp C_is_between.b (takes_of rfl rfl rfl rfl) (da_cons (de_var 3 (pv 3)) (da_cons de_int (da_cons (de_b d_min2 (call_min2 rfl) (by rfl) B.b_min bo_min (da_cons de_int (da_cons (de_var 2 (pv 2)) da_nil))) da_nil))))))))))
theorem ok_is_each {f : Addr} {fd : FuncData} (B : Bl K mg) (F : Fun K "is_each" "is_each" s_is_each f fd)
    {a_is_tuple_of : Addr} {e_is_tuple_of : FuncData} (C_is_tuple_of : Cd K mg "is_tuple_of" s_is_tuple_of ["value", "length"] a_is_tuple_of e_is_tuple_of) (G_is_tuple_of : FnOk P w K mg base (L2.CX P w) 1 a_is_tuple_of e_is_tuple_of ["value", "length"] (spD K mg d_is_tuple_of))
    {a_is_most : Addr} {e_is_most : FuncData} (C_is_most : Cd K mg "is_most" s_is_most ["value"] a_is_most e_is_most) (G_is_most : FnOk P w K mg base (L2.CX P w) 3 a_is_most e_is_most ["value"] (spD K mg d_is_most))
    {a_is_between : Addr} {e_is_between : FuncData} (C_is_between : Cd K mg "is_between" s_is_between ["value", "low", "high"] a_is_between e_is_between) (G_is_between : FnOk P w K mg base (L2.CX P w) 2 a_is_between e_is_between ["value", "low", "high"] (spD K mg d_is_between)) :
    FnOk P w K mg base (L2.CX P w) 4 f fd ["value"] (spD K mg d_is_each) :=
  fn_ok F sc_is_each rfl rfl fun cdv A outer s H vs E env0 hr => by
    exact (dss_cons (ds_if (dt_not (dt_val (de_call G_is_tuple_of (hr.mono (by decide)) (by rfl) C_is_tuple_of.g C_is_tuple_of.F.kp C_is_tuple_of.b (takes_of rfl rfl rfl rfl) (da_cons (de_var 0 (pv 0)) (da_cons de_int da_nil))))) (dss_one (ds_ret de_bl)) dss_nil)
    (dss_cons (ds_asg (de_var 0 (pv 0)) (dg_tup rfl (dgs_cons (dg_name (pg_name (i := 1) sc_is_each.nd rfl (by first | exact .inl rfl | exact .inr rfl))) (dgs_cons (dg_name (pg_name (i := 2) sc_is_each.nd rfl (by first | exact .inl rfl | exact .inr rfl))) (dgs_cons (dg_name (pg_name (i := 3) sc_is_each.nd rfl (by first | exact .inl rfl | exact .inr rfl))) (dgs_cons (dg_name (pg_name (i := 4) sc_is_each.nd rfl (by first | exact .inl rfl | exact .inr rfl))) dgs_nil))))))
    (dss_cons (ds_if (PW.pt (dt_or (dt_not (dt_val (de_call G_is_between (hr.mono (by decide)) (by rfl) C_is_between.g C_is_between.F.kp C_is_between.b (takes_of rfl rfl rfl rfl) (da_cons (de_var 2 (pv 2)) (da_cons de_int (da_cons de_int da_nil)))))) (dt_or1 (dt_not (dt_val (de_call G_is_between (hr.mono (by decide)) (by rfl) C_is_between.g C_is_between.F.kp C_is_between.b (takes_of rfl rfl rfl rfl) (da_cons (de_var 3 (pv 3)) (da_cons de_int (da_cons (de_var 2 (pv 2)) da_nil))))))))) (dss_one (ds_ret de_bl)) dss_nil)
    (dss_one (ds_ret (de_and (de_call G_is_most (hr.mono (by decide)) (by rfl) C_is_most.g C_is_most.F.kp C_is_most.b (takes_of rfl rfl rfl rfl) (da_cons (de_var 4 (pv 4)) da_nil)) (de_one (de_or (de_cmp op_nis d_nis (de_var 4 (pv 4)) de_non (nomark _)) (de_one (de_cmp op_le d_le (de_op op_mulA d_mulA de_int (de_var 3 (pv 3))) (de_var 2 (pv 2)) (nomark _)))))))))))
theorem ok_is_rule {f : Addr} {fd : FuncData} (B : Bl K mg) (F : Fun K "is_rule" "is_rule" s_is_rule f fd)
    {a_is_pack : Addr} {e_is_pack : FuncData} (C_is_pack : Cd K mg "is_pack" s_is_pack ["value", "many_goods"] a_is_pack e_is_pack) (G_is_pack : FnOk P w K mg base (L2.CX P w) 4 a_is_pack e_is_pack ["value", "many_goods"] (spD K mg d_is_pack))
    {a_is_from : Addr} {e_is_from : FuncData} (C_is_from : Cd K mg "is_from" s_is_from ["value", "many_goods"] a_is_from e_is_from) (G_is_from : FnOk P w K mg base (L2.CX P w) 3 a_is_from e_is_from ["value", "many_goods"] (spD K mg d_is_from))
    {a_is_over : Addr} {e_is_over : FuncData} (C_is_over : Cd K mg "is_over" s_is_over ["value"] a_is_over e_is_over) (G_is_over : FnOk P w K mg base (L2.CX P w) 3 a_is_over e_is_over ["value"] (spD K mg d_is_over))
    {a_is_each : Addr} {e_is_each : FuncData} (C_is_each : Cd K mg "is_each" s_is_each ["value"] a_is_each e_is_each) (G_is_each : FnOk P w K mg base (L2.CX P w) 4 a_is_each e_is_each ["value"] (spD K mg d_is_each)) :
    FnOk P w K mg base (L2.CX P w) 5 f fd ["value", "many_goods"] (spD K mg d_is_rule) :=
  fn_ok F sc_is_rule rfl rfl fun cdv A outer s H vs E env0 hr => by
    exact (dss_cons (ds_if (PW.pt (dt_or (dt_not (dt_val (de_isi (by rfl) B.b_isinstance (de_var 0 (pv 0)) (pe_bltn (by rfl) B.b_tuple bo_tuple rfl)))) (dt_or1 (dt_cmp (op_eqA hr.units) d_eqA (de_b d_len call_lenA (by rfl) B.b_len bo_len (da_cons (de_var 0 (pv 0)) da_nil)) de_int (nomark _))))) (dss_one (ds_ret de_bl)) dss_nil)
    (dss_cons (ds_set (i := 2) sc_is_rule.nd rfl (by first | exact .inl rfl | exact .inr rfl) (de_ix (de_var 0 (pv 0)) de_int (fun _ _ => rfl)))
    (dss_cons (ds_if (dt_not (dt_val (de_isi (by rfl) B.b_isinstance (de_var 2 (pv 2)) (pe_bltn (by rfl) B.b_str bo_str rfl)))) (dss_one (ds_ret de_bl)) dss_nil)
    (dss_cons (ds_if (dt_cmp (op_eqA hr.units) d_eqA (de_var 2 (pv 2)) de_str (nomark _)) (dss_one (ds_ret (de_call G_is_pack (hr.mono (by decide)) (by rfl) C_is_pack.g C_is_pack.F.kp C_is_pack.b (takes_of rfl rfl rfl rfl) (da_cons (de_var 0 (pv 0)) (da_cons (de_var 1 (pv 1)) da_nil))))) dss_nil)
    (dss_cons (ds_if (dt_cmp (op_eqA hr.units) d_eqA (de_var 2 (pv 2)) de_str (nomark _)) (dss_one (ds_ret (de_call G_is_from (hr.mono (by decide)) (by rfl) C_is_from.g C_is_from.F.kp C_is_from.b (takes_of rfl rfl rfl rfl) (da_cons (de_var 0 (pv 0)) (da_cons (de_var 1 (pv 1)) da_nil))))) dss_nil)
    (dss_cons (ds_if (dt_cmp (op_eqA hr.units) d_eqA (de_var 2 (pv 2)) de_str (nomark _)) (dss_one (ds_ret (de_call G_is_over (hr.mono (by decide)) (by rfl) C_is_over.g C_is_over.F.kp C_is_over.b (takes_of rfl rfl rfl rfl) (da_cons (de_var 0 (pv 0)) da_nil)))) dss_nil)
    (dss_one (ds_ret (de_and (de_cmp (op_eqA hr.units) d_eqA (de_var 2 (pv 2)) de_str (nomark _)) (de_one (de_call G_is_each (hr.mono (by decide)) (by rfl) C_is_each.g C_is_each.F.kp C_is_each.b (takes_of rfl rfl rfl rfl) (da_cons (de_var 0 (pv 0)) da_nil))))))))))))
theorem ok_is_endless_each {f : Addr} {fd : FuncData} (B : Bl K mg) (F : Fun K "is_endless_each" "is_endless_each" s_is_endless_each f fd) :
    FnOk P w K mg base (L2.CX P w) 1 f fd ["rule"] (spD K mg d_is_endless_each) :=
  fn_ok F sc_is_endless_each rfl rfl fun cdv A outer s H vs E env0 hr => by
    exact (dss_one (ds_ret (de_and (de_cmp (op_eqA hr.units) d_eqA (de_ix (de_var 0 (pv 0)) de_int (fun _ _ => rfl)) de_str (nomark _)) (de_one (de_cmp op_is d_is (de_ix (de_var 0 (pv 0)) de_int (fun _ _ => rfl)) de_non (nomark _))))))
theorem ok_are_goods {f : Addr} {fd : FuncData} (B : Bl K mg) (F : Fun K "are_goods" "are_goods" s_are_goods f fd)
    {a_is_good : Addr} {e_is_good : FuncData} (C_is_good : Cd K mg "is_good" s_is_good ["value"] a_is_good e_is_good) (G_is_good : FnOk P w K mg base (L2.CX P w) 3 a_is_good e_is_good ["value"] (spD K mg d_is_good)) :
    FnOk P w K mg base (L2.CX P w) 4 f fd ["value"] (spD K mg d_are_goods) :=
  fn_ok F sc_are_goods rfl rfl fun cdv A outer s H vs E env0 hr => by
    exact (dss_cons (ds_if (PW.pt (dt_or (dt_not (dt_val (de_isi (by rfl) B.b_isinstance (de_var 0 (pv 0)) (pe_bltn (by rfl) B.b_tuple bo_tuple rfl)))) (dt_or1 (dt_not (dt_chain op_le d_le op_le d_le de_int (de_b d_len call_lenA (by rfl) B.b_len bo_len (da_cons (de_var 0 (pv 0)) da_nil)) (de_gc (by rfl) B.g_MOST_GOODS fun _ _ => .int _) (by rfl)))))) (dss_one (ds_ret de_bl)) dss_nil)
    (dss_one (ds_ret (de_b d_all (cr_all rfl) (by rfl) B.b_all bo_all (da_cons (de_lc (own := [("good", 1)]) (t := (.one 1)) rfl sc_are_goods.nd (di_tup (de_var 0 (pv 0))) (blkOk_by (own := [("good", 1)]) (N := ["value", "good"]) (sc := defScope s_are_goods) (by decide +kernel)) (fun _ _ _ _ _ => (pg_name (i := 1) sc_are_goods.nd rfl (by first | exact .inl rfl | exact .inr rfl))) (fun _ _ _ _ _ => dts_nil) (fun _ _ _ _ _ => (de_call G_is_good (hr.mono (by decide)) (by rfl) C_is_good.g C_is_good.F.kp C_is_good.b takes0 (da_cons (de_var 1 (pv 1)) da_nil))) (by simp [CT.ins])) da_nil)))))
theorem ok_are_rules {f : Addr} {fd : FuncData} (B : Bl K mg) (F : Fun K "are_rules" "are_rules" s_are_rules f fd)
    {a_is_rule : Addr} {e_is_rule : FuncData} (C_is_rule : Cd K mg "is_rule" s_is_rule ["value", "many_goods"] a_is_rule e_is_rule) (G_is_rule : FnOk P w K mg base (L2.CX P w) 5 a_is_rule e_is_rule ["value", "many_goods"] (spD K mg d_is_rule))
    {a_is_endless_each : Addr} {e_is_endless_each : FuncData} (C_is_endless_each : Cd K mg "is_endless_each" s_is_endless_each ["rule"] a_is_endless_each e_is_endless_each) (G_is_endless_each : FnOk P w K mg base (L2.CX P w) 1 a_is_endless_each e_is_endless_each ["rule"] (spD K mg d_is_endless_each)) :
    FnOk P w K mg base (L2.CX P w) 6 f fd ["value", "many_goods"] (spD K mg d_are_rules) :=
  fn_ok F sc_are_rules rfl rfl fun cdv A outer s H vs E env0 hr => by
    exact (dss_cons (ds_if (PW.pt (dt_or (dt_not (dt_val (de_isi (by rfl) B.b_isinstance (de_var 0 (pv 0)) (pe_bltn (by rfl) B.b_tuple bo_tuple rfl)))) (dt_or1 (dt_cmp op_gt d_gt (de_b d_len call_lenA (by rfl) B.b_len bo_len (da_cons (de_var 0 (pv 0)) da_nil)) (de_gc (by rfl) B.g_MOST_RULES fun _ _ => .int _) (nomark _))))) (dss_one (ds_ret de_bl)) dss_nil)
    (dss_cons (ds_if (dt_not (dt_val (de_b d_all (cr_all rfl) (by rfl) B.b_all bo_all (da_cons (de_lc (own := [("rule", 2)]) (t := (.one 2)) rfl sc_are_rules.nd (di_tup (de_var 0 (pv 0))) (blkOk_by (own := [("rule", 2)]) (N := ["value", "many_goods", "rule"]) (sc := defScope s_are_rules) (by decide +kernel)) (fun _ _ _ _ _ => (pg_name (i := 2) sc_are_rules.nd rfl (by first | exact .inl rfl | exact .inr rfl))) (fun _ _ _ _ _ => dts_nil) (fun _ _ _ _ _ => (de_call G_is_rule (hr.mono (by decide)) (by rfl) C_is_rule.g C_is_rule.F.kp C_is_rule.b takes0 (da_cons (de_var 2 (pv 2)) (da_cons (de_var 1 (pv 1)) da_nil)))) (by simp [CT.ins])) da_nil)))) (dss_one (ds_ret de_bl)) dss_nil)
    (dss_one (ds_ret (de_cmp op_le d_le (de_b d_len call_lenA (by rfl) B.b_len bo_len (da_cons (de_lc (own := [("rule", 2)]) (t := (.one 2)) rfl sc_are_rules.nd (di_tup (de_var 0 (pv 0))) (blkOk_by (own := [("rule", 2)]) (N := ["value", "many_goods", "rule"]) (sc := defScope s_are_rules) (by decide +kernel)) (fun _ _ _ _ _ => (pg_name (i := 2) sc_are_rules.nd rfl (by first | exact .inl rfl | exact .inr rfl))) (fun _ _ _ _ _ => (dts_one (dt_val (de_call G_is_endless_each (hr.mono (by decide)) (by rfl) C_is_endless_each.g C_is_endless_each.F.kp C_is_endless_each.b takes0 (da_cons (de_var 2 (pv 2)) da_nil))))) (fun _ _ _ _ _ => (de_var 2 (pv 2))) (by simp [CT.ins])) da_nil)) de_int (nomark _))))))
theorem ok_is_shop {f : Addr} {fd : FuncData} (B : Bl K mg) (F : Fun K "is_shop" "is_shop" s_is_shop f fd)
    {a_is_tuple_of : Addr} {e_is_tuple_of : FuncData} (C_is_tuple_of : Cd K mg "is_tuple_of" s_is_tuple_of ["value", "length"] a_is_tuple_of e_is_tuple_of) (G_is_tuple_of : FnOk P w K mg base (L2.CX P w) 1 a_is_tuple_of e_is_tuple_of ["value", "length"] (spD K mg d_is_tuple_of))
    {a_are_goods : Addr} {e_are_goods : FuncData} (C_are_goods : Cd K mg "are_goods" s_are_goods ["value"] a_are_goods e_are_goods) (G_are_goods : FnOk P w K mg base (L2.CX P w) 4 a_are_goods e_are_goods ["value"] (spD K mg d_are_goods))
    {a_are_rules : Addr} {e_are_rules : FuncData} (C_are_rules : Cd K mg "are_rules" s_are_rules ["value", "many_goods"] a_are_rules e_are_rules) (G_are_rules : FnOk P w K mg base (L2.CX P w) 6 a_are_rules e_are_rules ["value", "many_goods"] (spD K mg d_are_rules)) :
    FnOk P w K mg base (L2.CX P w) 7 f fd ["value"] (spD K mg d_is_shop) :=
  fn_ok F sc_is_shop rfl rfl fun cdv A outer s H vs E env0 hr => by
    exact (dss_cons (ds_if (dt_not (dt_val (de_call G_is_tuple_of (hr.mono (by decide)) (by rfl) C_is_tuple_of.g C_is_tuple_of.F.kp C_is_tuple_of.b (takes_of rfl rfl rfl rfl) (da_cons (de_var 0 (pv 0)) (da_cons de_int da_nil))))) (dss_one (ds_ret de_bl)) dss_nil)
    (dss_cons (ds_asg (de_var 0 (pv 0)) (dg_tup rfl (dgs_cons (dg_name (pg_name (i := 1) sc_is_shop.nd rfl (by first | exact .inl rfl | exact .inr rfl))) (dgs_cons (dg_name (pg_name (i := 2) sc_is_shop.nd rfl (by first | exact .inl rfl | exact .inr rfl))) dgs_nil))))
    (dss_one (ds_ret (de_and (de_call G_are_goods (hr.mono (by decide)) (by rfl) C_are_goods.g C_are_goods.F.kp C_are_goods.b (takes_of rfl rfl rfl rfl) (da_cons (de_var 1 (pv 1)) da_nil)) (de_one (de_call G_are_rules (hr.mono (by decide)) (by rfl) C_are_rules.g C_are_rules.F.kp C_are_rules.b (takes_of rfl rfl rfl rfl) (da_cons (de_var 2 (pv 2)) (da_cons (de_b d_len call_lenA (by rfl) B.b_len bo_len (da_cons (de_var 1 (pv 1)) da_nil)) da_nil)))))))))
theorem ok_check_shop {f : Addr} {fd : FuncData} (B : Bl K mg) (F : Fun K "check_shop" "check_shop" s_check_shop f fd)
    {a_is_shop : Addr} {e_is_shop : FuncData} (C_is_shop : Cd K mg "is_shop" s_is_shop ["value"] a_is_shop e_is_shop) (G_is_shop : FnOk P w K mg base (L2.CX P w) 7 a_is_shop e_is_shop ["value"] (spD K mg d_is_shop)) :
    FnOk P w K mg base (L2.CX P w) 8 f fd ["shop"] (spD K mg d_check_shop) :=
  fn_ok F sc_check_shop rfl rfl fun cdv A outer s H vs E env0 hr => by
    exact (dss_one (ds_if (dt_not (dt_val (de_call G_is_shop (hr.mono (by decide)) (by rfl) C_is_shop.g C_is_shop.F.kp C_is_shop.b (takes_of rfl rfl rfl rfl) (da_cons (de_var 0 (pv 0)) da_nil)))) (dss_one (ds_raise rfl (takes_of rfl rfl rfl rfl) B.k_InvalidShop (by rfl))) dss_nil))
theorem ok_format_item {f : Addr} {fd : FuncData} (B : Bl K mg) (F : Fun K "format_item" "format_item" s_format_item f fd) :
    FnOk P w K mg base (L2.CX P w) 1 f fd ["item"] (spD K mg d_format_item) :=
  fn_ok F sc_format_item rfl rfl fun cdv A outer s H vs E env0 hr => by
    exact (dss_one (ds_ret (de_if (dt_cmp op_is d_is (de_var 0 (pv 0)) de_non (nomark _)) (de_gt (by rfl) B.g_NO_MOST) (de_ty d_str call_strA (by rfl) B.b_str bo_str (da_cons (de_var 0 (pv 0)) da_nil)))))
theorem ok_format_good {f : Addr} {fd : FuncData} (B : Bl K mg) (F : Fun K "format_good" "format_good" s_format_good f fd) :
    FnOk P w K mg base (L2.CX P w) 1 f fd ["good"] (spD K mg d_format_good) :=
  fn_ok F sc_format_good rfl rfl fun cdv A outer s H vs E env0 hr => by
    exact (dss_cons (ds_asg (de_var 0 (pv 0)) (dg_tup rfl (dgs_cons (dg_name (pg_name (i := 1) sc_format_good.nd rfl (by first | exact .inl rfl | exact .inr rfl))) (dgs_cons (dg_name (pg_name (i := 2) sc_format_good.nd rfl (by first | exact .inl rfl | exact .inr rfl))) dgs_nil))))
    (dss_one (ds_ret (de_js (.cons (de_fmt (de_var 1 (pv 1))) (.cons de_str (.cons (de_fmt (de_var 2 (pv 2))) .nil)))))))
theorem ok_format_rule {f : Addr} {fd : FuncData} (B : Bl K mg) (F : Fun K "format_rule" "format_rule" s_format_rule f fd)
    {a_format_item : Addr} {e_format_item : FuncData} (C_format_item : Cd K mg "format_item" s_format_item ["item"] a_format_item e_format_item) (G_format_item : FnOk P w K mg base (L2.CX P w) 1 a_format_item e_format_item ["item"] (spD K mg d_format_item)) :
    FnOk P w K mg base (L2.CX P w) 2 f fd ["rule"] (spD K mg d_format_rule) :=
  fn_ok F sc_format_rule rfl rfl fun cdv A outer s H vs E env0 hr => by
    exact (dss_one (ds_ret (de_join de_str (de_lc (own := [("item", 1)]) (t := (.one 1)) rfl sc_format_rule.nd (di_tup (de_var 0 (pv 0))) (blkOk_by (own := [("item", 1)]) (N := ["rule", "item"]) (sc := defScope s_format_rule) (by decide +kernel)) (fun _ _ _ _ _ => (pg_name (i := 1) sc_format_rule.nd rfl (by first | exact .inl rfl | exact .inr rfl))) (fun _ _ _ _ _ => dts_nil) (fun _ _ _ _ _ => (de_call G_format_item (hr.mono (by decide)) (by rfl) C_format_item.g C_format_item.F.kp C_format_item.b takes0 (da_cons (de_var 1 (pv 1)) da_nil))) (by simp [CT.ins])))))
theorem ok_format_shop {f : Addr} {fd : FuncData} (B : Bl K mg) (F : Fun K "format_shop" "format_shop" s_format_shop f fd)
    {a_check_shop : Addr} {e_check_shop : FuncData} (C_check_shop : Cd K mg "check_shop" s_check_shop ["shop"] a_check_shop e_check_shop) (G_check_shop : FnOk P w K mg base (L2.CX P w) 8 a_check_shop e_check_shop ["shop"] (spD K mg d_check_shop))
    {a_format_good : Addr} {e_format_good : FuncData} (C_format_good : Cd K mg "format_good" s_format_good ["good"] a_format_good e_format_good) (G_format_good : FnOk P w K mg base (L2.CX P w) 1 a_format_good e_format_good ["good"] (spD K mg d_format_good))
    {a_format_rule : Addr} {e_format_rule : FuncData} (C_format_rule : Cd K mg "format_rule" s_format_rule ["rule"] a_format_rule e_format_rule) (G_format_rule : FnOk P w K mg base (L2.CX P w) 2 a_format_rule e_format_rule ["rule"] (spD K mg d_format_rule)) :
    FnOk P w K mg base (L2.CX P w) 9 f fd ["shop"] (spD K mg d_format_shop) :=
  fn_ok F sc_format_shop rfl rfl fun cdv A outer s H vs E env0 hr => by
    exact (dss_cons (ds_expr (de_call G_check_shop (hr.mono (by decide)) (by rfl) C_check_shop.g C_check_shop.F.kp C_check_shop.b (takes_of rfl rfl rfl rfl) (da_cons (de_var 0 (pv 0)) da_nil)))
    (dss_cons (ds_asg (de_var 0 (pv 0)) (dg_tup rfl (dgs_cons (dg_name (pg_name (i := 3) sc_format_shop.nd rfl (by first | exact .inl rfl | exact .inr rfl))) (dgs_cons (dg_name (pg_name (i := 4) sc_format_shop.nd rfl (by first | exact .inl rfl | exact .inr rfl))) dgs_nil))))
    (dss_cons (ds_set (i := 1) sc_format_shop.nd rfl (by first | exact .inl rfl | exact .inr rfl) (de_join de_str (de_lc (own := [("good", 5)]) (t := (.one 5)) rfl sc_format_shop.nd (di_tup (de_var 3 (pv 3))) (blkOk_by (own := [("good", 5)]) (N := ["shop", "first", "second", "goods", "rules", "good", "rule"]) (sc := defScope s_format_shop) (by decide +kernel)) (fun _ _ _ _ _ => (pg_name (i := 5) sc_format_shop.nd rfl (by first | exact .inl rfl | exact .inr rfl))) (fun _ _ _ _ _ => dts_nil) (fun _ _ _ _ _ => (de_call G_format_good (hr.mono (by decide)) (by rfl) C_format_good.g C_format_good.F.kp C_format_good.b takes0 (da_cons (de_var 5 (pv 5)) da_nil))) (by simp [CT.ins]))))
    (dss_cons (ds_set (i := 2) sc_format_shop.nd rfl (by first | exact .inl rfl | exact .inr rfl) (de_if (dt_cmp op_gt d_gt (de_b d_len call_lenA (by rfl) B.b_len bo_len (da_cons (de_var 4 (pv 4)) da_nil)) de_int (nomark _)) (de_join de_str (de_lc (own := [("rule", 6)]) (t := (.one 6)) rfl sc_format_shop.nd (di_tup (de_var 4 (pv 4))) (blkOk_by (own := [("rule", 6)]) (N := ["shop", "first", "second", "goods", "rules", "good", "rule"]) (sc := defScope s_format_shop) (by decide +kernel)) (fun _ _ _ _ _ => (pg_name (i := 6) sc_format_shop.nd rfl (by first | exact .inl rfl | exact .inr rfl))) (fun _ _ _ _ _ => dts_nil) (fun _ _ _ _ _ => (de_call G_format_rule (hr.mono (by decide)) (by rfl) C_format_rule.g C_format_rule.F.kp C_format_rule.b takes0 (da_cons (de_var 6 (pv 6)) da_nil))) (by simp [CT.ins]))) (de_gt (by rfl) B.g_NO_RULES)))
    (dss_one (ds_ret (de_js (.cons (de_fmt (de_var 1 (pv 1))) (.cons de_str (.cons (de_fmt (de_var 2 (pv 2))) .nil))))))))))
theorem ok_read_item {f : Addr} {fd : FuncData} (B : Bl K mg) (F : Fun K "read_item" "read_item" s_read_item f fd) :
    FnOk P w K mg base (L2.CX P w) 1 f fd ["text"] (spD K mg d_read_item) :=
  fn_ok F sc_read_item rfl rfl fun cdv A outer s H vs E env0 hr => by
    exact (dss_cons (ds_if (dt_cmp (op_eqA hr.units) d_eqA (de_var 0 (pv 0)) (de_gt (by rfl) B.g_NO_MOST) (nomark _)) (dss_one (ds_ret de_non)) dss_nil)
    (dss_cons (ds_if (PW.pt (dt_or (dt_cmp op_gt d_gt (de_b d_len call_lenA (by rfl) B.b_len bo_len (da_cons (de_var 0 (pv 0)) da_nil)) (de_gc (by rfl) B.g_MOST_DIGITS fun _ _ => .int _) (nomark _)) (dt_or (dt_not (dt_val (de_isascii (de_var 0 (pv 0))))) (dt_or1 (dt_not (dt_val (de_isdigit (de_var 0 (pv 0))))))))) (dss_one (ds_ret (de_var 0 (pv 0)))) dss_nil)
    (dss_cons (ds_set (i := 1) sc_read_item.nd rfl (by first | exact .inl rfl | exact .inr rfl) (de_ty d_intS call_int_str (by rfl) B.b_int bo_int (da_cons (de_var 0 (pv 0)) da_nil)))
    (dss_one (ds_ret (de_if (dt_cmp (op_eqA hr.units) d_eqA (de_ty d_str call_strA (by rfl) B.b_str bo_str (da_cons (de_var 1 (pv 1)) da_nil)) (de_var 0 (pv 0)) (nomark _)) (de_var 1 (pv 1)) (de_var 0 (pv 0))))))))
theorem ok_read_items {f : Addr} {fd : FuncData} (B : Bl K mg) (F : Fun K "read_items" "read_items" s_read_items f fd)
    {a_read_item : Addr} {e_read_item : FuncData} (C_read_item : Cd K mg "read_item" s_read_item ["text"] a_read_item e_read_item) (G_read_item : FnOk P w K mg base (L2.CX P w) 1 a_read_item e_read_item ["text"] (spD K mg d_read_item)) :
    FnOk P w K mg base (L2.CX P w) 2 f fd ["text", "between"] (spD K mg d_read_items) :=
  fn_ok F sc_read_items rfl rfl fun cdv A outer s H vs E env0 hr => by
    exact (dss_one (ds_ret (de_ty d_tuple call_tuple_of (by rfl) B.b_tuple bo_tuple (da_cons (de_lc (own := [("part", 2)]) (t := (.one 2)) rfl sc_read_items.nd (di_list false (de_split (de_var 0 (pv 0)) (de_var 1 (pv 1)))) (blkOk_by (own := [("part", 2)]) (N := ["text", "between", "part"]) (sc := defScope s_read_items) (by decide +kernel)) (fun _ _ _ _ _ => (pg_name (i := 2) sc_read_items.nd rfl (by first | exact .inl rfl | exact .inr rfl))) (fun _ _ _ _ _ => dts_nil) (fun _ _ _ _ _ => (de_call G_read_item (hr.mono (by decide)) (by rfl) C_read_item.g C_read_item.F.kp C_read_item.b takes0 (da_cons (de_var 2 (pv 2)) da_nil))) (by simp [CT.ins])) da_nil))))
theorem ok_read_rules {f : Addr} {fd : FuncData} (B : Bl K mg) (F : Fun K "read_rules" "read_rules" s_read_rules f fd)
    {a_read_items : Addr} {e_read_items : FuncData} (C_read_items : Cd K mg "read_items" s_read_items ["text", "between"] a_read_items e_read_items) (G_read_items : FnOk P w K mg base (L2.CX P w) 2 a_read_items e_read_items ["text", "between"] (spD K mg d_read_items)) :
    FnOk P w K mg base (L2.CX P w) 3 f fd ["text"] (spD K mg d_read_rules) :=
  fn_ok F sc_read_rules rfl rfl fun cdv A outer s H vs E env0 hr => by
    exact (dss_cons (ds_if (dt_cmp (op_eqA hr.units) d_eqA (de_var 0 (pv 0)) (de_gt (by rfl) B.g_NO_RULES) (nomark _)) (dss_one (ds_ret (de_tup da_nil))) dss_nil)
    (dss_one (ds_ret (de_ty d_tuple call_tuple_of (by rfl) B.b_tuple bo_tuple (da_cons (de_lc (own := [("part", 1)]) (t := (.one 1)) rfl sc_read_rules.nd (di_list false (de_split (de_var 0 (pv 0)) de_str)) (blkOk_by (own := [("part", 1)]) (N := ["text", "part"]) (sc := defScope s_read_rules) (by decide +kernel)) (fun _ _ _ _ _ => (pg_name (i := 1) sc_read_rules.nd rfl (by first | exact .inl rfl | exact .inr rfl))) (fun _ _ _ _ _ => dts_nil) (fun _ _ _ _ _ => (de_call G_read_items (hr.mono (by decide)) (by rfl) C_read_items.g C_read_items.F.kp C_read_items.b takes0 (da_cons (de_var 1 (pv 1)) (da_cons de_str da_nil)))) (by simp [CT.ins])) da_nil)))))
theorem ok_read_shop {f : Addr} {fd : FuncData} (B : Bl K mg) (F : Fun K "read_shop" "read_shop" s_read_shop f fd)
    {a_read_rules : Addr} {e_read_rules : FuncData} (C_read_rules : Cd K mg "read_rules" s_read_rules ["text"] a_read_rules e_read_rules) (G_read_rules : FnOk P w K mg base (L2.CX P w) 3 a_read_rules e_read_rules ["text"] (spD K mg d_read_rules))
    {a_read_items : Addr} {e_read_items : FuncData} (C_read_items : Cd K mg "read_items" s_read_items ["text", "between"] a_read_items e_read_items) (G_read_items : FnOk P w K mg base (L2.CX P w) 2 a_read_items e_read_items ["text", "between"] (spD K mg d_read_items)) :
    FnOk P w K mg base (L2.CX P w) 4 f fd ["text"] (spD K mg d_read_shop) :=
  fn_ok F sc_read_shop rfl rfl fun cdv A outer s H vs E env0 hr => by
    exact (dss_cons (ds_set (i := 1) sc_read_shop.nd rfl (by first | exact .inl rfl | exact .inr rfl) (de_split (de_var 0 (pv 0)) de_str))
    (dss_cons (ds_if (dt_cmp (op_neA hr.units) d_neA (de_b d_len call_lenA (by rfl) B.b_len bo_len (da_cons (de_var 1 (pv 1)) da_nil)) de_int (nomark _)) (dss_one (ds_ret de_non)) dss_nil)
    (dss_cons (ds_asg (de_var 1 (pv 1)) (dg_lst rfl (dgs_cons (dg_name (pg_name (i := 2) sc_read_shop.nd rfl (by first | exact .inl rfl | exact .inr rfl))) (dgs_cons (dg_name (pg_name (i := 3) sc_read_shop.nd rfl (by first | exact .inl rfl | exact .inr rfl))) dgs_nil))))
    (dss_one (ds_ret (de_tup (da_cons (de_ty d_tuple call_tuple_of (by rfl) B.b_tuple bo_tuple (da_cons (de_lc (own := [("part", 4)]) (t := (.one 4)) rfl sc_read_shop.nd (di_list false (de_split (de_var 2 (pv 2)) de_str)) (blkOk_by (own := [("part", 4)]) (N := ["text", "parts", "first", "second", "part"]) (sc := defScope s_read_shop) (by decide +kernel)) (fun _ _ _ _ _ => (pg_name (i := 4) sc_read_shop.nd rfl (by first | exact .inl rfl | exact .inr rfl))) (fun _ _ _ _ _ => dts_nil) (fun _ _ _ _ _ => (de_call G_read_items (hr.mono (by decide)) (by rfl) C_read_items.g C_read_items.F.kp C_read_items.b takes0 (da_cons (de_var 4 (pv 4)) (da_cons de_str da_nil)))) (by simp [CT.ins])) da_nil)) (da_cons (de_call G_read_rules (hr.mono (by decide)) (by rfl) C_read_rules.g C_read_rules.F.kp C_read_rules.b (takes_of rfl rfl rfl rfl) (da_cons (de_var 3 (pv 3)) da_nil)) da_nil))))))))
theorem ok_parse_shop {f : Addr} {fd : FuncData} (B : Bl K mg) (F : Fun K "parse_shop" "parse_shop" s_parse_shop f fd)
    {a_read_shop : Addr} {e_read_shop : FuncData} (C_read_shop : Cd K mg "read_shop" s_read_shop ["text"] a_read_shop e_read_shop) (G_read_shop : FnOk P w K mg base (L2.CX P w) 4 a_read_shop e_read_shop ["text"] (spD K mg d_read_shop))
    {a_is_shop : Addr} {e_is_shop : FuncData} (C_is_shop : Cd K mg "is_shop" s_is_shop ["value"] a_is_shop e_is_shop) (G_is_shop : FnOk P w K mg base (L2.CX P w) 7 a_is_shop e_is_shop ["value"] (spD K mg d_is_shop)) :
    FnOk P w K mg base (L2.CX P w) 8 f fd ["text"] (spD K mg d_parse_shop) :=
  fn_ok F sc_parse_shop rfl rfl fun cdv A outer s H vs E env0 hr => by
    exact (dss_cons (ds_if (dt_not (dt_val (de_isi (by rfl) B.b_isinstance (de_var 0 (pv 0)) (pe_bltn (by rfl) B.b_str bo_str rfl)))) (dss_one (ds_raise rfl (takes_of rfl rfl rfl rfl) B.k_ParseError (by rfl))) dss_nil)
    (dss_cons (ds_set (i := 1) sc_parse_shop.nd rfl (by first | exact .inl rfl | exact .inr rfl) (de_call G_read_shop (hr.mono (by decide)) (by rfl) C_read_shop.g C_read_shop.F.kp C_read_shop.b (takes_of rfl rfl rfl rfl) (da_cons (de_var 0 (pv 0)) da_nil)))
    (dss_cons (ds_if (dt_not (dt_val (de_call G_is_shop (hr.mono (by decide)) (by rfl) C_is_shop.g C_is_shop.F.kp C_is_shop.b (takes_of rfl rfl rfl rfl) (da_cons (de_var 1 (pv 1)) da_nil)))) (dss_one (ds_raise rfl (takes_of rfl rfl rfl rfl) B.k_ParseError (by rfl))) dss_nil)
    (dss_one (ds_ret (de_var 1 (pv 1)))))))
theorem ok__law_cell_at {f : Addr} {fd : FuncData} (B : Bl K mg) (F : Fun K "_law_cell_at" "_law_cell_at" s__law_cell_at f fd) :
    FnOk P w K mg base (L2.CX P w) 1 f fd ["_law_script", "_law_k"] (spD K mg d__law_cell_at) :=
  fn_ok F sc__law_cell_at rfl rfl fun cdv A outer s H vs E env0 hr => by
    exact (dss_cons (ds_if (dt_cmp op_lt d_lt (de_var 1 (pv 1)) (de_b d_len call_lenA (by rfl) B.b_len bo_len (da_cons (de_var 0 (pv 0)) da_nil)) (nomark _)) (dss_one (ds_ret (de_ix (de_var 0 (pv 0)) (de_var 1 (pv 1)) (fun _ _ => rfl)))) dss_nil)
    (dss_cons (ds_if (dt_cmp (op_eqA hr.units) d_eqA (de_var 0 (pv 0)) (de_lst da_nil) (nomark _)) (dss_one (ds_ret de_int)) dss_nil)
    (dss_cons (ds_set (i := 2) sc__law_cell_at.nd rfl (by first | exact .inl rfl | exact .inr rfl) (de_ix (de_var 0 (pv 0)) (de_op op_mod d_mod (de_var 1 (pv 1)) (de_b d_len call_lenA (by rfl) B.b_len bo_len (da_cons (de_var 0 (pv 0)) da_nil))) (fun _ _ => rfl)))
    (dss_cons (ds_for (passes_of rfl) rfl (di_range1 (by rfl) B.b_range (da_cons (de_b d_min2 (call_min2 rfl) (by rfl) B.b_min bo_min (da_cons (de_op op_fdiv d_fdiv (de_var 1 (pv 1)) (de_b d_len call_lenA (by rfl) B.b_len bo_len (da_cons (de_var 0 (pv 0)) da_nil))) (da_cons de_int da_nil))) da_nil)) (dg_name (pg_name (i := 3) sc__law_cell_at.nd rfl (by first | exact .inl rfl | exact .inr rfl))) (dss_one (ds_set (i := 2) sc__law_cell_at.nd rfl (by first | exact .inl rfl | exact .inr rfl) (de_op op_fdiv d_fdiv (de_var 2 (pv 2)) de_int))))
    (dss_one (ds_ret (de_op op_addA d_add (de_op op_addA d_add (de_op op_mulA d_mulA (de_ix (de_var 0 (pv 0)) (de_op op_mod d_mod (de_var 1 (pv 1)) (de_b d_len call_lenA (by rfl) B.b_len bo_len (da_cons (de_var 0 (pv 0)) da_nil))) (fun _ _ => rfl)) de_int) (de_var 1 (pv 1))) (de_op op_mulA d_mulA (de_var 2 (pv 2)) de_int))))))))
theorem ok__law_mixed {f : Addr} {fd : FuncData} (B : Bl K mg) (F : Fun K "_law_mixed" "_law_mixed" s__law_mixed f fd)
    {a__law_cell_at : Addr} {e__law_cell_at : FuncData} (C__law_cell_at : Cd K mg "_law_cell_at" s__law_cell_at ["_law_script", "_law_k"] a__law_cell_at e__law_cell_at) (G__law_cell_at : FnOk P w K mg base (L2.CX P w) 1 a__law_cell_at e__law_cell_at ["_law_script", "_law_k"] (spD K mg d__law_cell_at)) :
    FnOk P w K mg base (L2.CX P w) 2 f fd ["_law_script", "_law_k", "_law_many"] (spD K mg d__law_mixed) :=
  fn_ok F sc__law_mixed rfl rfl fun cdv A outer s H vs E env0 hr => by
    exact (dss_cons (ds_set (i := 3) sc__law_mixed.nd rfl (by first | exact .inl rfl | exact .inr rfl) (de_op op_mod d_mod (de_op op_addA d_add (de_op op_addA d_add (de_op op_mulA d_mulA (de_call G__law_cell_at (hr.mono (by decide)) (by rfl) C__law_cell_at.g C__law_cell_at.F.kp C__law_cell_at.b (takes_of rfl rfl rfl rfl) (da_cons (de_var 0 (pv 0)) (da_cons (de_var 1 (pv 1)) da_nil))) de_int) (de_op op_mulA d_mulA de_int (de_var 1 (pv 1)))) de_int) de_int))
    (dss_one (ds_ret (de_op op_mod d_mod (de_op op_mod d_mod (de_op op_mod d_mod (de_op op_pow d_pow (de_var 3 (pv 3)) de_int) de_int) de_int) (de_var 2 (pv 2))))))
theorem ok__law_draw {f : Addr} {fd : FuncData} (B : Bl K mg) (F : Fun K "_law_draw" "_law_draw" s__law_draw f fd)
    {a__law_mixed : Addr} {e__law_mixed : FuncData} (C__law_mixed : Cd K mg "_law_mixed" s__law_mixed ["_law_script", "_law_k", "_law_many"] a__law_mixed e__law_mixed) (G__law_mixed : FnOk P w K mg base (L2.CX P w) 2 a__law_mixed e__law_mixed ["_law_script", "_law_k", "_law_many"] (spD K mg d__law_mixed)) :
    FnOk P w K mg base (L2.CX P w) 3 f fd ["_law_script", "_law_state", "_law_many"] (spD K mg d__law_draw) :=
  fn_ok F sc__law_draw rfl rfl fun cdv A outer s H vs E env0 hr => by
    exact (dss_cons (ds_expr (de_met m_app PySem.F.slot_list_append PySem.F.type_list_append mt_append (de_var 1 (pv 1)) (da_cons de_int da_nil)))
    (dss_one (ds_ret (de_call G__law_mixed (hr.mono (by decide)) (by rfl) C__law_mixed.g C__law_mixed.F.kp C__law_mixed.b (takes_of rfl rfl rfl rfl) (da_cons (de_var 0 (pv 0)) (da_cons (de_b d_len call_lenA (by rfl) B.b_len bo_len (da_cons (de_var 1 (pv 1)) da_nil)) (da_cons (de_var 2 (pv 2)) da_nil)))))))
theorem ok__law_pick {f : Addr} {fd : FuncData} (B : Bl K mg) (F : Fun K "_law_pick" "_law_pick" s__law_pick f fd)
    {a__law_draw : Addr} {e__law_draw : FuncData} (C__law_draw : Cd K mg "_law_draw" s__law_draw ["_law_script", "_law_state", "_law_many"] a__law_draw e__law_draw) (G__law_draw : FnOk P w K mg base (L2.CX P w) 3 a__law_draw e__law_draw ["_law_script", "_law_state", "_law_many"] (spD K mg d__law_draw)) :
    FnOk P w K mg base (L2.CX P w) 4 f fd ["_law_script", "_law_state", "_law_some"] (spD K mg d__law_pick) :=
  fn_ok F sc__law_pick rfl rfl fun cdv A outer s H vs E env0 hr => by
    exact (dss_one (ds_ret (de_ix (de_var 2 (pv 2)) (de_callI 1 G__law_draw (hr.mono (by decide)) (by rfl) C__law_draw.g C__law_draw.F.kp C__law_draw.b (takes_of rfl rfl rfl rfl) (da_cons (de_var 0 (pv 0)) (da_cons (de_var 1 (pv 1)) (da_cons (de_b d_len call_lenA (by rfl) B.b_len bo_len (da_cons (de_var 2 (pv 2)) da_nil)) da_nil)))) (fun _ _ => rfl))))
theorem ok__law_some_rule {f : Addr} {fd : FuncData} (B : Bl K mg) (F : Fun K "_law_some_rule" "_law_some_rule" s__law_some_rule f fd)
    {a__law_draw : Addr} {e__law_draw : FuncData} (C__law_draw : Cd K mg "_law_draw" s__law_draw ["_law_script", "_law_state", "_law_many"] a__law_draw e__law_draw) (G__law_draw : FnOk P w K mg base (L2.CX P w) 3 a__law_draw e__law_draw ["_law_script", "_law_state", "_law_many"] (spD K mg d__law_draw))
    {a__law_pick : Addr} {e__law_pick : FuncData} (C__law_pick : Cd K mg "_law_pick" s__law_pick ["_law_script", "_law_state", "_law_some"] a__law_pick e__law_pick) (G__law_pick : FnOk P w K mg base (L2.CX P w) 4 a__law_pick e__law_pick ["_law_script", "_law_state", "_law_some"] (spD K mg d__law_pick)) :
    FnOk P w K mg base (L2.CX P w) 5 f fd ["_law_script", "_law_state", "_law_goods", "_law_capped"] (spD K mg d__law_some_rule) :=
  fn_ok F sc__law_some_rule rfl rfl fun cdv A outer s H vs E env0 hr => by
    exact (dss_cons (ds_set (i := 4) sc__law_some_rule.nd rfl (by first | exact .inl rfl | exact .inr rfl) (de_callI 1 G__law_draw (hr.mono (by decide)) (by rfl) C__law_draw.g C__law_draw.F.kp C__law_draw.b (takes_of rfl rfl rfl rfl) (da_cons (de_var 0 (pv 0)) (da_cons (de_var 1 (pv 1)) (da_cons de_int da_nil)))))
    (dss_cons (ds_set (i := 5) sc__law_some_rule.nd rfl (by first | exact .inl rfl | exact .inr rfl) (de_callI 1 G__law_draw (hr.mono (by decide)) (by rfl) C__law_draw.g C__law_draw.F.kp C__law_draw.b (takes_of rfl rfl rfl rfl) (da_cons (de_var 0 (pv 0)) (da_cons (de_var 1 (pv 1)) (da_cons (de_b d_len call_lenA (by rfl) B.b_len bo_len (da_cons (de_var 2 (pv 2)) da_nil)) da_nil)))))
    (dss_cons (ds_set (i := 6) sc__law_some_rule.nd rfl (by first | exact .inl rfl | exact .inr rfl) (de_ix (de_ix (de_var 2 (pv 2)) (de_var 5 (pv 5)) (fun _ _ => rfl)) de_int (fun _ _ => rfl)))
    (dss_cons (ds_if (dt_cmp op_lt d_lt (de_var 4 (pv 4)) de_int (nomark _)) (dss_cons (ds_set (i := 9) sc__law_some_rule.nd rfl (by first | exact .inl rfl | exact .inr rfl) (de_op op_addA d_add de_int (de_callI 1 G__law_draw (hr.mono (by decide)) (by rfl) C__law_draw.g C__law_draw.F.kp C__law_draw.b (takes_of rfl rfl rfl rfl) (da_cons (de_var 0 (pv 0)) (da_cons (de_var 1 (pv 1)) (da_cons de_int da_nil))))))
    (dss_cons (ds_set (i := 10) sc__law_some_rule.nd rfl (by first | exact .inl rfl | exact .inr rfl) (de_b d_max2 (call_max2 rfl) (by rfl) B.b_max bo_max (da_cons (de_var 9 (pv 9)) (da_cons (de_op op_sub d_sub (de_op op_mulA d_mulA (de_var 9 (pv 9)) (de_var 6 (pv 6))) (de_callI 1 G__law_draw (hr.mono (by decide)) (by rfl) C__law_draw.g C__law_draw.F.kp C__law_draw.b (takes_of rfl rfl rfl rfl) (da_cons (de_var 0 (pv 0)) (da_cons (de_var 1 (pv 1)) (da_cons (de_op op_addA d_add (de_op op_mulA d_mulA de_int (de_var 9 (pv 9))) de_int) da_nil))))) da_nil))))
    (dss_one (ds_ret (de_tup (da_cons de_str (da_cons (de_var 5 (pv 5)) (da_cons (de_var 9 (pv 9)) (da_cons (de_var 10 (pv 10)) (da_cons (de_callI 1 G__law_pick (hr.mono (by decide)) (by rfl) C__law_pick.g C__law_pick.F.kp C__law_pick.b (takes_of rfl rfl rfl rfl) (da_cons (de_var 0 (pv 0)) (da_cons (de_var 1 (pv 1)) (da_cons (de_tup (da_cons de_non (da_cons de_non (da_cons de_int (da_cons de_int da_nil))))) da_nil)))) da_nil)))))))))) dss_nil)
    (dss_cons (ds_if (dt_cmp (op_eqA hr.units) d_eqA (de_var 4 (pv 4)) de_int (nomark _)) (dss_one (ds_ret (de_tup (da_cons de_str (da_cons (de_var 5 (pv 5)) (da_cons (de_op op_addA d_add de_int (de_callI 1 G__law_draw (hr.mono (by decide)) (by rfl) C__law_draw.g C__law_draw.F.kp C__law_draw.b (takes_of rfl rfl rfl rfl) (da_cons (de_var 0 (pv 0)) (da_cons (de_var 1 (pv 1)) (da_cons de_int da_nil))))) (da_cons (de_b d_max2 (call_max2 rfl) (by rfl) B.b_max bo_max (da_cons de_int (da_cons (de_op op_sub d_sub (de_var 6 (pv 6)) (de_callI 1 G__law_draw (hr.mono (by decide)) (by rfl) C__law_draw.g C__law_draw.F.kp C__law_draw.b (takes_of rfl rfl rfl rfl) (da_cons (de_var 0 (pv 0)) (da_cons (de_var 1 (pv 1)) (da_cons de_int da_nil))))) da_nil))) da_nil))))))) dss_nil)
    (dss_cons (ds_if (dt_cmp (op_eqA hr.units) d_eqA (de_var 4 (pv 4)) de_int (nomark _)) (dss_cons (ds_set (i := 7) sc__law_some_rule.nd rfl (by first | exact .inl rfl | exact .inr rfl) (de_op op_addA d_add de_int (de_callI 1 G__law_draw (hr.mono (by decide)) (by rfl) C__law_draw.g C__law_draw.F.kp C__law_draw.b (takes_of rfl rfl rfl rfl) (da_cons (de_var 0 (pv 0)) (da_cons (de_var 1 (pv 1)) (da_cons de_int da_nil))))))
    (dss_one (ds_ret (de_tup (da_cons de_str (da_cons (de_var 7 (pv 7)) (da_cons (de_op op_addA d_add de_int (de_callI 1 G__law_draw (hr.mono (by decide)) (by rfl) C__law_draw.g C__law_draw.F.kp C__law_draw.b (takes_of rfl rfl rfl rfl) (da_cons (de_var 0 (pv 0)) (da_cons (de_var 1 (pv 1)) (da_cons de_int da_nil))))) da_nil))))))) dss_nil)
    (dss_cons (ds_set (i := 7) sc__law_some_rule.nd rfl (by first | exact .inl rfl | exact .inr rfl) (de_op op_addA d_add de_int (de_callI 1 G__law_draw (hr.mono (by decide)) (by rfl) C__law_draw.g C__law_draw.F.kp C__law_draw.b (takes_of rfl rfl rfl rfl) (da_cons (de_var 0 (pv 0)) (da_cons (de_var 1 (pv 1)) (da_cons de_int da_nil))))))
    (dss_cons (ds_set (i := 8) sc__law_some_rule.nd rfl (by first | exact .inl rfl | exact .inr rfl) (de_callI 1 G__law_pick (hr.mono (by decide)) (by rfl) C__law_pick.g C__law_pick.F.kp C__law_pick.b (takes_of rfl rfl rfl rfl) (da_cons (de_var 0 (pv 0)) (da_cons (de_var 1 (pv 1)) (da_cons (de_if (dt_val (de_var 3 (pv 3))) (de_tup (da_cons de_int (da_cons de_int da_nil))) (de_tup (da_cons de_non (da_cons de_non (da_cons de_int (da_cons de_int da_nil)))))) da_nil)))))
    (dss_one (ds_ret (de_tup (da_cons de_str (da_cons (de_var 7 (pv 7)) (da_cons (de_op op_addA d_add de_int (de_callI 1 G__law_draw (hr.mono (by decide)) (by rfl) C__law_draw.g C__law_draw.F.kp C__law_draw.b (takes_of rfl rfl rfl rfl) (da_cons (de_var 0 (pv 0)) (da_cons (de_var 1 (pv 1)) (da_cons (de_op op_fdiv d_fdiv (de_var 7 (pv 7)) de_int) da_nil))))) (da_cons (de_var 8 (pv 8)) da_nil)))))))))))))))
theorem ok__law_some_goods {f : Addr} {fd : FuncData} (B : Bl K mg) (F : Fun K "_law_some_goods" "_law_some_goods" s__law_some_goods f fd)
    {a__law_draw : Addr} {e__law_draw : FuncData} (C__law_draw : Cd K mg "_law_draw" s__law_draw ["_law_script", "_law_state", "_law_many"] a__law_draw e__law_draw) (G__law_draw : FnOk P w K mg base (L2.CX P w) 3 a__law_draw e__law_draw ["_law_script", "_law_state", "_law_many"] (spD K mg d__law_draw)) :
    FnOk P w K mg base (L2.CX P w) 4 f fd ["_law_script", "_law_state"] (spD K mg d__law_some_goods) :=
  fn_ok F sc__law_some_goods rfl rfl fun cdv A outer s H vs E env0 hr => by
    exact (dss_cons (ds_set (i := 2) sc__law_some_goods.nd rfl (by first | exact .inl rfl | exact .inr rfl) (de_if (dt_cmp (op_eqA hr.units) d_eqA (de_callI 1 G__law_draw (hr.mono (by decide)) (by rfl) C__law_draw.g C__law_draw.F.kp C__law_draw.b (takes_of rfl rfl rfl rfl) (da_cons (de_var 0 (pv 0)) (da_cons (de_var 1 (pv 1)) (da_cons de_int da_nil)))) de_int (nomark _)) de_int de_int))
    (dss_one (ds_ret (de_ty d_tuple call_tuple_of (by rfl) B.b_tuple bo_tuple (da_cons (de_lc (own := [("_law_again", 3)]) (t := (.one 3)) rfl sc__law_some_goods.nd (di_range1 (by rfl) B.b_range (da_cons (de_var 2 (pv 2)) da_nil)) (blkOk_by (own := [("_law_again", 3)]) (N := ["_law_script", "_law_state", "_law_count", "_law_again"]) (sc := defScope s__law_some_goods) (by decide +kernel)) (fun _ _ _ _ _ => (pg_name (i := 3) sc__law_some_goods.nd rfl (by first | exact .inl rfl | exact .inr rfl))) (fun _ _ _ _ _ => dts_nil) (fun _ _ _ _ _ => (de_tup (da_cons (de_op op_addA d_add de_int (de_callI 1 G__law_draw (hr.mono (by decide)) (by rfl) C__law_draw.g C__law_draw.F.kp C__law_draw.b takes0 (da_cons (de_var 0 (pv 0)) (da_cons (de_var 1 (pv 1)) (da_cons de_int da_nil))))) (da_cons (de_callI 1 G__law_draw (hr.mono (by decide)) (by rfl) C__law_draw.g C__law_draw.F.kp C__law_draw.b takes0 (da_cons (de_var 0 (pv 0)) (da_cons (de_var 1 (pv 1)) (da_cons de_int da_nil)))) da_nil)))) (by simp [CT.ins])) da_nil)))))
theorem ok__law_some_shop {f : Addr} {fd : FuncData} (B : Bl K mg) (F : Fun K "_law_some_shop" "_law_some_shop" s__law_some_shop f fd)
    {a__law_some_goods : Addr} {e__law_some_goods : FuncData} (C__law_some_goods : Cd K mg "_law_some_goods" s__law_some_goods ["_law_script", "_law_state"] a__law_some_goods e__law_some_goods) (G__law_some_goods : FnOk P w K mg base (L2.CX P w) 4 a__law_some_goods e__law_some_goods ["_law_script", "_law_state"] (spD K mg d__law_some_goods))
    {a__law_draw : Addr} {e__law_draw : FuncData} (C__law_draw : Cd K mg "_law_draw" s__law_draw ["_law_script", "_law_state", "_law_many"] a__law_draw e__law_draw) (G__law_draw : FnOk P w K mg base (L2.CX P w) 3 a__law_draw e__law_draw ["_law_script", "_law_state", "_law_many"] (spD K mg d__law_draw))
    {a__law_some_rule : Addr} {e__law_some_rule : FuncData} (C__law_some_rule : Cd K mg "_law_some_rule" s__law_some_rule ["_law_script", "_law_state", "_law_goods", "_law_capped"] a__law_some_rule e__law_some_rule) (G__law_some_rule : FnOk P w K mg base (L2.CX P w) 5 a__law_some_rule e__law_some_rule ["_law_script", "_law_state", "_law_goods", "_law_capped"] (spD K mg d__law_some_rule)) :
    FnOk P w K mg base (L2.CX P w) 6 f fd ["_law_script", "_law_state"] (spD K mg d__law_some_shop) :=
  fn_ok F sc__law_some_shop rfl rfl fun cdv A outer s H vs E env0 hr => by
    exact (dss_cons (ds_par (i := 3) (j := 4) rfl sc__law_some_shop.nd rfl rfl (by decide) rfl rfl (da_cons (de_callI 1 G__law_some_goods (hr.mono (by decide)) (by rfl) C__law_some_goods.g C__law_some_goods.F.kp C__law_some_goods.b (takes_of rfl rfl rfl rfl) (da_cons (de_var 0 (pv 0)) (da_cons (de_var 1 (pv 1)) da_nil))) (da_cons (de_lst da_nil) da_nil)))
    (dss_cons (ds_for (passes_of rfl) rfl (di_range1 (by rfl) B.b_range (da_cons (de_callI 1 G__law_draw (hr.mono (by decide)) (by rfl) C__law_draw.g C__law_draw.F.kp C__law_draw.b (takes_of rfl rfl rfl rfl) (da_cons (de_var 0 (pv 0)) (da_cons (de_var 1 (pv 1)) (da_cons de_int da_nil)))) da_nil)) (dg_name (pg_name (i := 2) sc__law_some_shop.nd rfl (by first | exact .inl rfl | exact .inr rfl))) (dss_cons (ds_set (i := 5) sc__law_some_shop.nd rfl (by first | exact .inl rfl | exact .inr rfl) (de_b d_any (cr_any rfl) (by rfl) B.b_any bo_any (da_cons (de_lc (own := [("_law_rule", 6)]) (t := (.one 6)) rfl sc__law_some_shop.nd (di_list false (de_var 4 (pv 4))) (blkOk_by (own := [("_law_rule", 6)]) (N := ["_law_script", "_law_state", "_law_again", "_law_goods", "_law_rules", "_law_capped", "_law_rule"]) (sc := defScope s__law_some_shop) (by decide +kernel)) (fun _ _ _ _ _ => (pg_name (i := 6) sc__law_some_shop.nd rfl (by first | exact .inl rfl | exact .inr rfl))) (fun _ _ _ _ _ => dts_nil) (fun _ _ _ _ _ => (de_and (de_cmp (op_eqA hr.units) d_eqA (de_ix (de_var 6 (pv 6)) de_int (fun _ _ => rfl)) de_str (nomark _)) (de_one (de_cmp op_is d_is (de_ix (de_var 6 (pv 6)) de_int (fun _ _ => rfl)) de_non (nomark _))))) (by simp [CT.ins])) da_nil)))
    (dss_one (ds_expr (de_met m_app PySem.F.slot_list_append PySem.F.type_list_append mt_append (de_var 4 (pv 4)) (da_cons (de_callI 1 G__law_some_rule (hr.mono (by decide)) (by rfl) C__law_some_rule.g C__law_some_rule.F.kp C__law_some_rule.b (takes_of rfl rfl rfl rfl) (da_cons (de_var 0 (pv 0)) (da_cons (de_var 1 (pv 1)) (da_cons (de_var 3 (pv 3)) (da_cons (de_var 5 (pv 5)) da_nil))))) da_nil))))))
    (dss_one (ds_ret (de_tup (da_cons (de_var 3 (pv 3)) (da_cons (de_ty d_tuple call_tuple_of (by rfl) B.b_tuple bo_tuple (da_cons (de_var 4 (pv 4)) da_nil)) da_nil)))))))
theorem ok_law {f : Addr} {fd : FuncData} (B : Bl K mg) (F : Fun K "law" "law" s_law f fd)
    {a__law_some_shop : Addr} {e__law_some_shop : FuncData} (C__law_some_shop : Cd K mg "_law_some_shop" s__law_some_shop ["_law_script", "_law_state"] a__law_some_shop e__law_some_shop) (G__law_some_shop : FnOk P w K mg base (L2.CX P w) 6 a__law_some_shop e__law_some_shop ["_law_script", "_law_state"] (spD K mg d__law_some_shop))
    {a_format_shop : Addr} {e_format_shop : FuncData} (C_format_shop : Cd K mg "format_shop" s_format_shop ["shop"] a_format_shop e_format_shop) (G_format_shop : FnOk P w K mg base (L2.CX P w) 9 a_format_shop e_format_shop ["shop"] (spD K mg d_format_shop))
    {a_parse_shop : Addr} {e_parse_shop : FuncData} (C_parse_shop : Cd K mg "parse_shop" s_parse_shop ["text"] a_parse_shop e_parse_shop) (G_parse_shop : FnOk P w K mg base (L2.CX P w) 8 a_parse_shop e_parse_shop ["text"] (spD K mg d_parse_shop)) :
    FnOk P w K mg base (L2.CX P w) 10 f fd ["_law_script"] (spD K mg d_law) :=
  fn_ok F sc_law rfl rfl fun cdv A outer s H vs E env0 hr => by
    exact (dss_cons (ds_set (i := 1) sc_law.nd rfl (by first | exact .inl rfl | exact .inr rfl) (de_lst da_nil))
    (dss_cons (ds_set (i := 2) sc_law.nd rfl (by first | exact .inl rfl | exact .inr rfl) (de_callI 1 G__law_some_shop (hr.mono (by decide)) (by rfl) C__law_some_shop.g C__law_some_shop.F.kp C__law_some_shop.b (takes_of rfl rfl rfl rfl) (da_cons (de_var 0 (pv 0)) (da_cons (de_var 1 (pv 1)) da_nil))))
    (dss_cons (ds_set (i := 3) sc_law.nd rfl (by first | exact .inl rfl | exact .inr rfl) (de_op op_addA d_add (de_join de_str (de_lc (own := [("_law_price", 8), ("_law_cost", 9)]) (t := (.tup [8, 9])) rfl sc_law.nd (di_tup (de_ix (de_var 2 (pv 2)) de_int (fun _ _ => rfl))) (blkOk_by (own := [("_law_price", 8), ("_law_cost", 9)]) (N := ["_law_script", "_law_state", "_law_shop", "_law_text", "_law_rows", "_law_rule", "_law_row", "_law_item", "_law_price", "_law_cost"]) (sc := defScope s_law) (by decide +kernel)) (fun _ _ _ _ _ => (pg_tup rfl (pgs_cons (pg_name (i := 8) sc_law.nd rfl (by first | exact .inl rfl | exact .inr rfl)) (pgs_cons (pg_name (i := 9) sc_law.nd rfl (by first | exact .inl rfl | exact .inr rfl)) pgs_nil)))) (fun _ _ _ _ _ => dts_nil) (fun _ _ _ _ _ => (de_op op_addA d_add (de_op op_addA d_add (de_ty d_str call_strA (by rfl) B.b_str bo_str (da_cons (de_var 8 (pv 8)) da_nil)) de_str) (de_ty d_str call_strA (by rfl) B.b_str bo_str (da_cons (de_var 9 (pv 9)) da_nil)))) (by simp [CT.ins]))) de_str))
    (dss_cons (ds_set (i := 4) sc_law.nd rfl (by first | exact .inl rfl | exact .inr rfl) (de_lst da_nil))
    (dss_cons (ds_for (passes_of rfl) rfl (di_tup (de_ix (de_var 2 (pv 2)) de_int (fun _ _ => rfl))) (dg_name (pg_name (i := 5) sc_law.nd rfl (by first | exact .inl rfl | exact .inr rfl))) (dss_cons (ds_set (i := 6) sc_law.nd rfl (by first | exact .inl rfl | exact .inr rfl) (de_ix (de_var 5 (pv 5)) de_int (fun _ _ => rfl)))
    (dss_cons (ds_for (passes_of rfl) rfl (di_tup (de_slice (de_var 5 (pv 5)) (do_some de_int) do_none)) (dg_name (pg_name (i := 7) sc_law.nd rfl (by first | exact .inl rfl | exact .inr rfl))) (dss_one (ds_set (i := 6) sc_law.nd rfl (by first | exact .inl rfl | exact .inr rfl) (de_op op_addA d_add (de_op op_addA d_add (de_var 6 (pv 6)) de_str) (de_if (dt_cmp op_is d_is (de_var 7 (pv 7)) de_non (nomark _)) de_str (de_ty d_str call_strA (by rfl) B.b_str bo_str (da_cons (de_var 7 (pv 7)) da_nil)))))))
    (dss_one (ds_expr (de_met m_app PySem.F.slot_list_append PySem.F.type_list_append mt_append (de_var 4 (pv 4)) (da_cons (de_var 6 (pv 6)) da_nil)))))))
    (dss_cons (ds_set (i := 3) sc_law.nd rfl (by first | exact .inl rfl | exact .inr rfl) (de_op op_addA d_add (de_var 3 (pv 3)) (de_if (dt_cmp (op_neA hr.units) d_neA (de_var 4 (pv 4)) (de_lst da_nil) (nomark _)) (de_join de_str (de_var 4 (pv 4))) de_str)))
    (dss_one (ds_ret (de_and (de_cmp (op_eqA hr.units) d_eqA (de_call G_format_shop (hr.mono (by decide)) (by rfl) C_format_shop.g C_format_shop.F.kp C_format_shop.b (takes_of rfl rfl rfl rfl) (da_cons (de_var 2 (pv 2)) da_nil)) (de_var 3 (pv 3)) (nomark _)) (de_one (de_cmp (op_eqA hr.units) d_eqA (de_call G_parse_shop (hr.mono (by decide)) (by rfl) C_parse_shop.g C_parse_shop.F.kp C_parse_shop.b (takes_of rfl rfl rfl rfl) (da_cons (de_var 3 (pv 3)) da_nil)) (de_var 2 (pv 2)) (nomark _))))))))))))
end
end DL
namespace DL
open PySem PySem.Spec L2
theorem all_mk {l : PySem.W.OpenLaw} {w : World} {K : PySem.W.Frag} {h : Heap} {mg : Str → Option Value} {fa : Addr} (X : K.In h) (G : h.Ns mainGlobals mg) (hfa : mg "law" = some (.ref fa))
    {f0 f1 f2 f3 f4 f5 f6 f7 f8 f9 f10 f11 f12 f13 f14 f15 f16 f17 f18 f19 f20 f21 f22 f23 f24 f25 f26 f27 f28 f29 f30 f31 : Addr} {od0 an0 od1 an1 od2 an2 od3 an3 od4 an4 od5 an5 od6 an6 od7 an7 od8 an8 od9 an9 od10 an10 od11 an11 od12 an12 od13 an13 od14 an14 od15 an15 od16 an16 od17 an17 od18 an18 od19 an19 od20 an20 od21 an21 od22 an22 od23 an23 od24 an24 od25 an25 od26 an26 od27 an27 od28 an28 od29 an29 od30 an30 od31 an31 : Option Addr} {sl0 sl1 sl2 sl3 sl4 sl5 sl6 sl7 sl8 sl9 sl10 sl11 sl12 sl13 sl14 sl15 sl16 sl17 sl18 sl19 sl20 sl21 sl22 sl23 sl24 sl25 sl26 sl27 sl28 sl29 sl30 sl31 : Array (Option Value)}
    {oc0 kV0 dc0 pm0 cd0 ct0 oc1 kV1 dc1 pm1 cd1 ct1 oc2 kV2 dc2 pm2 cd2 ct2 oc3 kV3 dc3 pm3 cd3 ct3 oc4 kV4 dc4 pm4 cd4 ct4 oc5 kV5 dc5 pm5 cd5 ct5 oc6 kV6 dc6 pm6 cd6 ct6 oc7 kV7 dc7 pm7 cd7 ct7 oc8 kV8 dc8 pm8 cd8 ct8 oc9 kV9 dc9 pm9 cd9 ct9 oc10 kV10 dc10 pm10 cd10 ct10 oc11 kV11 dc11 pm11 cd11 ct11 oc12 kV12 dc12 pm12 cd12 ct12 oc13 kV13 dc13 pm13 cd13 ct13 oc14 kV14 dc14 pm14 cd14 ct14 oc15 kV15 dc15 pm15 cd15 ct15 oc16 kV16 dc16 pm16 cd16 ct16 oc17 kV17 dc17 pm17 cd17 ct17 oc18 kV18 dc18 pm18 cd18 ct18 oc19 kV19 dc19 pm19 cd19 ct19 oc20 kV20 dc20 pm20 cd20 ct20 oc21 kV21 dc21 pm21 cd21 ct21 oc22 kV22 dc22 pm22 cd22 ct22 oc23 kV23 dc23 pm23 cd23 ct23 oc24 kV24 dc24 pm24 cd24 ct24 oc25 kV25 dc25 pm25 cd25 ct25 oc26 kV26 dc26 pm26 cd26 ct26 oc27 kV27 dc27 pm27 cd27 ct27 oc28 kV28 dc28 pm28 cd28 ct28 oc29 kV29 dc29 pm29 cd29 ct29 oc30 kV30 dc30 pm30 cd30 ct30 oc31 kV31 dc31 pm31 cd31 ct31 : Value}
    (a0 : PySem.W.nsIn K mainGlobals "is_integer" = some (some (.ref f0))) (l0 : K.lookup f0 = some ⟨oc0, od0, .func (PySem.W.fnOf "is_integer" "is_integer" (defArgs s_is_integer) (defBody s_is_integer) (defScope s_is_integer) .none kV0 dc0 pm0 an0 cd0 ct0), sl0⟩) (c0 : PySem.W.codeIn K cd0 "is_integer" = true) (k0 : PySem.W.keepIn K (.ref f0) = true)
    (a1 : PySem.W.nsIn K mainGlobals "is_between" = some (some (.ref f1))) (l1 : K.lookup f1 = some ⟨oc1, od1, .func (PySem.W.fnOf "is_between" "is_between" (defArgs s_is_between) (defBody s_is_between) (defScope s_is_between) .none kV1 dc1 pm1 an1 cd1 ct1), sl1⟩) (c1 : PySem.W.codeIn K cd1 "is_between" = true) (k1 : PySem.W.keepIn K (.ref f1) = true)
    (a2 : PySem.W.nsIn K mainGlobals "is_tuple_of" = some (some (.ref f2))) (l2 : K.lookup f2 = some ⟨oc2, od2, .func (PySem.W.fnOf "is_tuple_of" "is_tuple_of" (defArgs s_is_tuple_of) (defBody s_is_tuple_of) (defScope s_is_tuple_of) .none kV2 dc2 pm2 an2 cd2 ct2), sl2⟩) (c2 : PySem.W.codeIn K cd2 "is_tuple_of" = true) (k2 : PySem.W.keepIn K (.ref f2) = true)
    (a3 : PySem.W.nsIn K mainGlobals "is_most" = some (some (.ref f3))) (l3 : K.lookup f3 = some ⟨oc3, od3, .func (PySem.W.fnOf "is_most" "is_most" (defArgs s_is_most) (defBody s_is_most) (defScope s_is_most) .none kV3 dc3 pm3 an3 cd3 ct3), sl3⟩) (c3 : PySem.W.codeIn K cd3 "is_most" = true) (k3 : PySem.W.keepIn K (.ref f3) = true)
    (a4 : PySem.W.nsIn K mainGlobals "is_good" = some (some (.ref f4))) (l4 : K.lookup f4 = some ⟨oc4, od4, .func (PySem.W.fnOf "is_good" "is_good" (defArgs s_is_good) (defBody s_is_good) (defScope s_is_good) .none kV4 dc4 pm4 an4 cd4 ct4), sl4⟩) (c4 : PySem.W.codeIn K cd4 "is_good" = true) (k4 : PySem.W.keepIn K (.ref f4) = true)
    (a5 : PySem.W.nsIn K mainGlobals "is_pack" = some (some (.ref f5))) (l5 : K.lookup f5 = some ⟨oc5, od5, .func (PySem.W.fnOf "is_pack" "is_pack" (defArgs s_is_pack) (defBody s_is_pack) (defScope s_is_pack) .none kV5 dc5 pm5 an5 cd5 ct5), sl5⟩) (c5 : PySem.W.codeIn K cd5 "is_pack" = true) (k5 : PySem.W.keepIn K (.ref f5) = true)
    (a6 : PySem.W.nsIn K mainGlobals "is_from" = some (some (.ref f6))) (l6 : K.lookup f6 = some ⟨oc6, od6, .func (PySem.W.fnOf "is_from" "is_from" (defArgs s_is_from) (defBody s_is_from) (defScope s_is_from) .none kV6 dc6 pm6 an6 cd6 ct6), sl6⟩) (c6 : PySem.W.codeIn K cd6 "is_from" = true) (k6 : PySem.W.keepIn K (.ref f6) = true)
    (a7 : PySem.W.nsIn K mainGlobals "is_over" = some (some (.ref f7))) (l7 : K.lookup f7 = some ⟨oc7, od7, .func (PySem.W.fnOf "is_over" "is_over" (defArgs s_is_over) (defBody s_is_over) (defScope s_is_over) .none kV7 dc7 pm7 an7 cd7 ct7), sl7⟩) (c7 : PySem.W.codeIn K cd7 "is_over" = true) (k7 : PySem.W.keepIn K (.ref f7) = true)
    (a8 : PySem.W.nsIn K mainGlobals "is_each" = some (some (.ref f8))) (l8 : K.lookup f8 = some ⟨oc8, od8, .func (PySem.W.fnOf "is_each" "is_each" (defArgs s_is_each) (defBody s_is_each) (defScope s_is_each) .none kV8 dc8 pm8 an8 cd8 ct8), sl8⟩) (c8 : PySem.W.codeIn K cd8 "is_each" = true) (k8 : PySem.W.keepIn K (.ref f8) = true)
    (a9 : PySem.W.nsIn K mainGlobals "is_rule" = some (some (.ref f9))) (l9 : K.lookup f9 = some ⟨oc9, od9, .func (PySem.W.fnOf "is_rule" "is_rule" (defArgs s_is_rule) (defBody s_is_rule) (defScope s_is_rule) .none kV9 dc9 pm9 an9 cd9 ct9), sl9⟩) (c9 : PySem.W.codeIn K cd9 "is_rule" = true) (k9 : PySem.W.keepIn K (.ref f9) = true)
    (a10 : PySem.W.nsIn K mainGlobals "is_endless_each" = some (some (.ref f10))) (l10 : K.lookup f10 = some ⟨oc10, od10, .func (PySem.W.fnOf "is_endless_each" "is_endless_each" (defArgs s_is_endless_each) (defBody s_is_endless_each) (defScope s_is_endless_each) .none kV10 dc10 pm10 an10 cd10 ct10), sl10⟩) (c10 : PySem.W.codeIn K cd10 "is_endless_each" = true) (k10 : PySem.W.keepIn K (.ref f10) = true)
    (a11 : PySem.W.nsIn K mainGlobals "are_goods" = some (some (.ref f11))) (l11 : K.lookup f11 = some ⟨oc11, od11, .func (PySem.W.fnOf "are_goods" "are_goods" (defArgs s_are_goods) (defBody s_are_goods) (defScope s_are_goods) .none kV11 dc11 pm11 an11 cd11 ct11), sl11⟩) (c11 : PySem.W.codeIn K cd11 "are_goods" = true) (k11 : PySem.W.keepIn K (.ref f11) = true)
    (a12 : PySem.W.nsIn K mainGlobals "are_rules" = some (some (.ref f12))) (l12 : K.lookup f12 = some ⟨oc12, od12, .func (PySem.W.fnOf "are_rules" "are_rules" (defArgs s_are_rules) (defBody s_are_rules) (defScope s_are_rules) .none kV12 dc12 pm12 an12 cd12 ct12), sl12⟩) (c12 : PySem.W.codeIn K cd12 "are_rules" = true) (k12 : PySem.W.keepIn K (.ref f12) = true)
    (a13 : PySem.W.nsIn K mainGlobals "is_shop" = some (some (.ref f13))) (l13 : K.lookup f13 = some ⟨oc13, od13, .func (PySem.W.fnOf "is_shop" "is_shop" (defArgs s_is_shop) (defBody s_is_shop) (defScope s_is_shop) .none kV13 dc13 pm13 an13 cd13 ct13), sl13⟩) (c13 : PySem.W.codeIn K cd13 "is_shop" = true) (k13 : PySem.W.keepIn K (.ref f13) = true)
    (a14 : PySem.W.nsIn K mainGlobals "check_shop" = some (some (.ref f14))) (l14 : K.lookup f14 = some ⟨oc14, od14, .func (PySem.W.fnOf "check_shop" "check_shop" (defArgs s_check_shop) (defBody s_check_shop) (defScope s_check_shop) .none kV14 dc14 pm14 an14 cd14 ct14), sl14⟩) (c14 : PySem.W.codeIn K cd14 "check_shop" = true) (k14 : PySem.W.keepIn K (.ref f14) = true)
    (a15 : PySem.W.nsIn K mainGlobals "format_item" = some (some (.ref f15))) (l15 : K.lookup f15 = some ⟨oc15, od15, .func (PySem.W.fnOf "format_item" "format_item" (defArgs s_format_item) (defBody s_format_item) (defScope s_format_item) .none kV15 dc15 pm15 an15 cd15 ct15), sl15⟩) (c15 : PySem.W.codeIn K cd15 "format_item" = true) (k15 : PySem.W.keepIn K (.ref f15) = true)
    (a16 : PySem.W.nsIn K mainGlobals "format_good" = some (some (.ref f16))) (l16 : K.lookup f16 = some ⟨oc16, od16, .func (PySem.W.fnOf "format_good" "format_good" (defArgs s_format_good) (defBody s_format_good) (defScope s_format_good) .none kV16 dc16 pm16 an16 cd16 ct16), sl16⟩) (c16 : PySem.W.codeIn K cd16 "format_good" = true) (k16 : PySem.W.keepIn K (.ref f16) = true)
    (a17 : PySem.W.nsIn K mainGlobals "format_rule" = some (some (.ref f17))) (l17 : K.lookup f17 = some ⟨oc17, od17, .func (PySem.W.fnOf "format_rule" "format_rule" (defArgs s_format_rule) (defBody s_format_rule) (defScope s_format_rule) .none kV17 dc17 pm17 an17 cd17 ct17), sl17⟩) (c17 : PySem.W.codeIn K cd17 "format_rule" = true) (k17 : PySem.W.keepIn K (.ref f17) = true)
    (a18 : PySem.W.nsIn K mainGlobals "format_shop" = some (some (.ref f18))) (l18 : K.lookup f18 = some ⟨oc18, od18, .func (PySem.W.fnOf "format_shop" "format_shop" (defArgs s_format_shop) (defBody s_format_shop) (defScope s_format_shop) .none kV18 dc18 pm18 an18 cd18 ct18), sl18⟩) (c18 : PySem.W.codeIn K cd18 "format_shop" = true) (k18 : PySem.W.keepIn K (.ref f18) = true)
    (a19 : PySem.W.nsIn K mainGlobals "read_item" = some (some (.ref f19))) (l19 : K.lookup f19 = some ⟨oc19, od19, .func (PySem.W.fnOf "read_item" "read_item" (defArgs s_read_item) (defBody s_read_item) (defScope s_read_item) .none kV19 dc19 pm19 an19 cd19 ct19), sl19⟩) (c19 : PySem.W.codeIn K cd19 "read_item" = true) (k19 : PySem.W.keepIn K (.ref f19) = true)
    (a20 : PySem.W.nsIn K mainGlobals "read_items" = some (some (.ref f20))) (l20 : K.lookup f20 = some ⟨oc20, od20, .func (PySem.W.fnOf "read_items" "read_items" (defArgs s_read_items) (defBody s_read_items) (defScope s_read_items) .none kV20 dc20 pm20 an20 cd20 ct20), sl20⟩) (c20 : PySem.W.codeIn K cd20 "read_items" = true) (k20 : PySem.W.keepIn K (.ref f20) = true)
    (a21 : PySem.W.nsIn K mainGlobals "read_rules" = some (some (.ref f21))) (l21 : K.lookup f21 = some ⟨oc21, od21, .func (PySem.W.fnOf "read_rules" "read_rules" (defArgs s_read_rules) (defBody s_read_rules) (defScope s_read_rules) .none kV21 dc21 pm21 an21 cd21 ct21), sl21⟩) (c21 : PySem.W.codeIn K cd21 "read_rules" = true) (k21 : PySem.W.keepIn K (.ref f21) = true)
    (a22 : PySem.W.nsIn K mainGlobals "read_shop" = some (some (.ref f22))) (l22 : K.lookup f22 = some ⟨oc22, od22, .func (PySem.W.fnOf "read_shop" "read_shop" (defArgs s_read_shop) (defBody s_read_shop) (defScope s_read_shop) .none kV22 dc22 pm22 an22 cd22 ct22), sl22⟩) (c22 : PySem.W.codeIn K cd22 "read_shop" = true) (k22 : PySem.W.keepIn K (.ref f22) = true)
    (a23 : PySem.W.nsIn K mainGlobals "parse_shop" = some (some (.ref f23))) (l23 : K.lookup f23 = some ⟨oc23, od23, .func (PySem.W.fnOf "parse_shop" "parse_shop" (defArgs s_parse_shop) (defBody s_parse_shop) (defScope s_parse_shop) .none kV23 dc23 pm23 an23 cd23 ct23), sl23⟩) (c23 : PySem.W.codeIn K cd23 "parse_shop" = true) (k23 : PySem.W.keepIn K (.ref f23) = true)
    (a24 : PySem.W.nsIn K mainGlobals "_law_cell_at" = some (some (.ref f24))) (l24 : K.lookup f24 = some ⟨oc24, od24, .func (PySem.W.fnOf "_law_cell_at" "_law_cell_at" (defArgs s__law_cell_at) (defBody s__law_cell_at) (defScope s__law_cell_at) .none kV24 dc24 pm24 an24 cd24 ct24), sl24⟩) (c24 : PySem.W.codeIn K cd24 "_law_cell_at" = true) (k24 : PySem.W.keepIn K (.ref f24) = true)
    (a25 : PySem.W.nsIn K mainGlobals "_law_mixed" = some (some (.ref f25))) (l25 : K.lookup f25 = some ⟨oc25, od25, .func (PySem.W.fnOf "_law_mixed" "_law_mixed" (defArgs s__law_mixed) (defBody s__law_mixed) (defScope s__law_mixed) .none kV25 dc25 pm25 an25 cd25 ct25), sl25⟩) (c25 : PySem.W.codeIn K cd25 "_law_mixed" = true) (k25 : PySem.W.keepIn K (.ref f25) = true)
    (a26 : PySem.W.nsIn K mainGlobals "_law_draw" = some (some (.ref f26))) (l26 : K.lookup f26 = some ⟨oc26, od26, .func (PySem.W.fnOf "_law_draw" "_law_draw" (defArgs s__law_draw) (defBody s__law_draw) (defScope s__law_draw) .none kV26 dc26 pm26 an26 cd26 ct26), sl26⟩) (c26 : PySem.W.codeIn K cd26 "_law_draw" = true) (k26 : PySem.W.keepIn K (.ref f26) = true)
    (a27 : PySem.W.nsIn K mainGlobals "_law_pick" = some (some (.ref f27))) (l27 : K.lookup f27 = some ⟨oc27, od27, .func (PySem.W.fnOf "_law_pick" "_law_pick" (defArgs s__law_pick) (defBody s__law_pick) (defScope s__law_pick) .none kV27 dc27 pm27 an27 cd27 ct27), sl27⟩) (c27 : PySem.W.codeIn K cd27 "_law_pick" = true) (k27 : PySem.W.keepIn K (.ref f27) = true)
    (a28 : PySem.W.nsIn K mainGlobals "_law_some_rule" = some (some (.ref f28))) (l28 : K.lookup f28 = some ⟨oc28, od28, .func (PySem.W.fnOf "_law_some_rule" "_law_some_rule" (defArgs s__law_some_rule) (defBody s__law_some_rule) (defScope s__law_some_rule) .none kV28 dc28 pm28 an28 cd28 ct28), sl28⟩) (c28 : PySem.W.codeIn K cd28 "_law_some_rule" = true) (k28 : PySem.W.keepIn K (.ref f28) = true)
    (a29 : PySem.W.nsIn K mainGlobals "_law_some_goods" = some (some (.ref f29))) (l29 : K.lookup f29 = some ⟨oc29, od29, .func (PySem.W.fnOf "_law_some_goods" "_law_some_goods" (defArgs s__law_some_goods) (defBody s__law_some_goods) (defScope s__law_some_goods) .none kV29 dc29 pm29 an29 cd29 ct29), sl29⟩) (c29 : PySem.W.codeIn K cd29 "_law_some_goods" = true) (k29 : PySem.W.keepIn K (.ref f29) = true)
    (a30 : PySem.W.nsIn K mainGlobals "_law_some_shop" = some (some (.ref f30))) (l30 : K.lookup f30 = some ⟨oc30, od30, .func (PySem.W.fnOf "_law_some_shop" "_law_some_shop" (defArgs s__law_some_shop) (defBody s__law_some_shop) (defScope s__law_some_shop) .none kV30 dc30 pm30 an30 cd30 ct30), sl30⟩) (c30 : PySem.W.codeIn K cd30 "_law_some_shop" = true) (k30 : PySem.W.keepIn K (.ref f30) = true)
    (a31 : PySem.W.nsIn K mainGlobals "law" = some (some (.ref f31))) (l31 : K.lookup f31 = some ⟨oc31, od31, .func (PySem.W.fnOf "law" "law" (defArgs s_law) (defBody s_law) (defScope s_law) .none kV31 dc31 pm31 an31 cd31 ct31), sl31⟩) (c31 : PySem.W.codeIn K cd31 "law" = true) (k31 : PySem.W.keepIn K (.ref f31) = true)
    (z_all : PySem.W.nsIn K mainGlobals "all" = some none)
    (z_any : PySem.W.nsIn K mainGlobals "any" = some none)
    (z_bool : PySem.W.nsIn K mainGlobals "bool" = some none)
    (z_int : PySem.W.nsIn K mainGlobals "int" = some none)
    (z_isinstance : PySem.W.nsIn K mainGlobals "isinstance" = some none)
    (z_len : PySem.W.nsIn K mainGlobals "len" = some none)
    (z_max : PySem.W.nsIn K mainGlobals "max" = some none)
    (z_min : PySem.W.nsIn K mainGlobals "min" = some none)
    (z_range : PySem.W.nsIn K mainGlobals "range" = some none)
    (z_str : PySem.W.nsIn K mainGlobals "str" = some none)
    (z_tuple : PySem.W.nsIn K mainGlobals "tuple" = some none)
    {t_MOST_DIGITS : Tok} (y_MOST_DIGITS : PySem.W.nsIn K mainGlobals "MOST_DIGITS" = some (some (.int 2 t_MOST_DIGITS)))
    {t_MOST_GOODS : Tok} (y_MOST_GOODS : PySem.W.nsIn K mainGlobals "MOST_GOODS" = some (some (.int 2 t_MOST_GOODS)))
    {t_MOST_RULES : Tok} (y_MOST_RULES : PySem.W.nsIn K mainGlobals "MOST_RULES" = some (some (.int 4 t_MOST_RULES)))
    {t_NO_MOST : Tok} (y_NO_MOST : PySem.W.nsIn K mainGlobals "NO_MOST" = some (some (.str "-" t_NO_MOST)))
    {t_NO_RULES : Tok} (y_NO_RULES : PySem.W.nsIn K mainGlobals "NO_RULES" = some (some (.str "none" t_NO_RULES)))
    {c_InvalidShop : Addr} (e_InvalidShop : PySem.W.nsIn K mainGlobals "InvalidShop" = some (some (.ref c_InvalidShop)))
    {c_ParseError : Addr} (e_ParseError : PySem.W.nsIn K mainGlobals "ParseError" = some (some (.ref c_ParseError)))
    (q_InvalidShop : PySem.W.excIn K c_InvalidShop [.type "ValueError", .type "Exception", .type "BaseException", .type "object"] "ValueError.__new__" = true) (p_InvalidShop : PySem.W.keepIn K (.ref c_InvalidShop) = true) (r_InvalidShop : PySem.W.subIn K (.ref c_InvalidShop) (.type "BaseException") = some true)
    (q_ParseError : PySem.W.excIn K c_ParseError [.type "ValueError", .type "Exception", .type "BaseException", .type "object"] "ValueError.__new__" = true) (p_ParseError : PySem.W.keepIn K (.ref c_ParseError) = true) (r_ParseError : PySem.W.subIn K (.ref c_ParseError) (.type "BaseException") = some true)
    (w_InvalidShop : PySem.W.typeIn K (.ref c_InvalidShop) = some (.type "type"))
    (w_ParseError : PySem.W.typeIn K (.ref c_ParseError) = some (.type "type"))
    (D0 : ∀ ns : List Int, ns.length ≤ 63 → ∃ o, d_law [.im (.fz (ns.map D.int))] = .ok (.im (.bl true)) o) :
    ∃ fd : FuncData, (∀ (s : Shared) (v : Value), BindsTo s fd ⟨[v], []⟩ [("_law_script", v)]) ∧ ∀ base : Heap, K.In base → base.Ns mainGlobals mg → FnOk l.prog w K mg base (L2.CX l.prog w) 10 fa fd ["_law_script"] (spLaw K) := by
  have e := hfa.symm.trans (PySem.W.mg_of X G a31)
  cases e
  have B : Bl K mg := ⟨PySem.W.mg_none_of X G z_all, PySem.W.mg_none_of X G z_any, PySem.W.mg_none_of X G z_bool, PySem.W.mg_none_of X G z_int, PySem.W.mg_none_of X G z_isinstance, PySem.W.mg_none_of X G z_len, PySem.W.mg_none_of X G z_max, PySem.W.mg_none_of X G z_min, PySem.W.mg_none_of X G z_range, PySem.W.mg_none_of X G z_str, PySem.W.mg_none_of X G z_tuple, ⟨_, PySem.W.mg_of X G y_MOST_DIGITS, _, rfl⟩, ⟨_, PySem.W.mg_of X G y_MOST_GOODS, _, rfl⟩, ⟨_, PySem.W.mg_of X G y_MOST_RULES, _, rfl⟩, ⟨_, .str "-", PySem.W.mg_of X G y_NO_MOST, ⟨_, rfl⟩, fun _ _ => .str _⟩, ⟨_, .str "none", PySem.W.mg_of X G y_NO_RULES, ⟨_, rfl⟩, fun _ _ => .str _⟩, ⟨_, PySem.W.mg_of X G e_InvalidShop, q_InvalidShop, p_InvalidShop, r_InvalidShop, w_InvalidShop⟩, ⟨_, PySem.W.mg_of X G e_ParseError, q_ParseError, p_ParseError, r_ParseError, w_ParseError⟩⟩
  have F0 := fun_mk (st := s_is_integer) l0 c0 k0
  have C0 : Cd K mg "is_integer" s_is_integer ["value"] _ _ := ⟨F0, PySem.W.mg_of X G a0, F0.binds (ps := ["value"]) fun _ _ _ _ _ _ us hl => match us, hl with | [_], _ => rfl⟩
  have F1 := fun_mk (st := s_is_between) l1 c1 k1
  have C1 : Cd K mg "is_between" s_is_between ["value", "low", "high"] _ _ := ⟨F1, PySem.W.mg_of X G a1, F1.binds (ps := ["value", "low", "high"]) fun _ _ _ _ _ _ us hl => match us, hl with | [_, _, _], _ => rfl⟩
  have F2 := fun_mk (st := s_is_tuple_of) l2 c2 k2
  have C2 : Cd K mg "is_tuple_of" s_is_tuple_of ["value", "length"] _ _ := ⟨F2, PySem.W.mg_of X G a2, F2.binds (ps := ["value", "length"]) fun _ _ _ _ _ _ us hl => match us, hl with | [_, _], _ => rfl⟩
  have F3 := fun_mk (st := s_is_most) l3 c3 k3
  have C3 : Cd K mg "is_most" s_is_most ["value"] _ _ := ⟨F3, PySem.W.mg_of X G a3, F3.binds (ps := ["value"]) fun _ _ _ _ _ _ us hl => match us, hl with | [_], _ => rfl⟩
  have F4 := fun_mk (st := s_is_good) l4 c4 k4
  have C4 : Cd K mg "is_good" s_is_good ["value"] _ _ := ⟨F4, PySem.W.mg_of X G a4, F4.binds (ps := ["value"]) fun _ _ _ _ _ _ us hl => match us, hl with | [_], _ => rfl⟩
  have F5 := fun_mk (st := s_is_pack) l5 c5 k5
  have C5 : Cd K mg "is_pack" s_is_pack ["value", "many_goods"] _ _ := ⟨F5, PySem.W.mg_of X G a5, F5.binds (ps := ["value", "many_goods"]) fun _ _ _ _ _ _ us hl => match us, hl with | [_, _], _ => rfl⟩
  have F6 := fun_mk (st := s_is_from) l6 c6 k6
  have C6 : Cd K mg "is_from" s_is_from ["value", "many_goods"] _ _ := ⟨F6, PySem.W.mg_of X G a6, F6.binds (ps := ["value", "many_goods"]) fun _ _ _ _ _ _ us hl => match us, hl with | [_, _], _ => rfl⟩
  have F7 := fun_mk (st := s_is_over) l7 c7 k7
  have C7 : Cd K mg "is_over" s_is_over ["value"] _ _ := ⟨F7, PySem.W.mg_of X G a7, F7.binds (ps := ["value"]) fun _ _ _ _ _ _ us hl => match us, hl with | [_], _ => rfl⟩
  have F8 := fun_mk (st := s_is_each) l8 c8 k8
  have C8 : Cd K mg "is_each" s_is_each ["value"] _ _ := ⟨F8, PySem.W.mg_of X G a8, F8.binds (ps := ["value"]) fun _ _ _ _ _ _ us hl => match us, hl with | [_], _ => rfl⟩
  have F9 := fun_mk (st := s_is_rule) l9 c9 k9
  have C9 : Cd K mg "is_rule" s_is_rule ["value", "many_goods"] _ _ := ⟨F9, PySem.W.mg_of X G a9, F9.binds (ps := ["value", "many_goods"]) fun _ _ _ _ _ _ us hl => match us, hl with | [_, _], _ => rfl⟩
  have F10 := fun_mk (st := s_is_endless_each) l10 c10 k10
  have C10 : Cd K mg "is_endless_each" s_is_endless_each ["rule"] _ _ := ⟨F10, PySem.W.mg_of X G a10, F10.binds (ps := ["rule"]) fun _ _ _ _ _ _ us hl => match us, hl with | [_], _ => rfl⟩
  have F11 := fun_mk (st := s_are_goods) l11 c11 k11
  have C11 : Cd K mg "are_goods" s_are_goods ["value"] _ _ := ⟨F11, PySem.W.mg_of X G a11, F11.binds (ps := ["value"]) fun _ _ _ _ _ _ us hl => match us, hl with | [_], _ => rfl⟩
  have F12 := fun_mk (st := s_are_rules) l12 c12 k12
  have C12 : Cd K mg "are_rules" s_are_rules ["value", "many_goods"] _ _ := ⟨F12, PySem.W.mg_of X G a12, F12.binds (ps := ["value", "many_goods"]) fun _ _ _ _ _ _ us hl => match us, hl with | [_, _], _ => rfl⟩
  have F13 := fun_mk (st := s_is_shop) l13 c13 k13
  have C13 : Cd K mg "is_shop" s_is_shop ["value"] _ _ := ⟨F13, PySem.W.mg_of X G a13, F13.binds (ps := ["value"]) fun _ _ _ _ _ _ us hl => match us, hl with | [_], _ => rfl⟩
  have F14 := fun_mk (st := s_check_shop) l14 c14 k14
  have C14 : Cd K mg "check_shop" s_check_shop ["shop"] _ _ := ⟨F14, PySem.W.mg_of X G a14, F14.binds (ps := ["shop"]) fun _ _ _ _ _ _ us hl => match us, hl with | [_], _ => rfl⟩
  have F15 := fun_mk (st := s_format_item) l15 c15 k15
  have C15 : Cd K mg "format_item" s_format_item ["item"] _ _ := ⟨F15, PySem.W.mg_of X G a15, F15.binds (ps := ["item"]) fun _ _ _ _ _ _ us hl => match us, hl with | [_], _ => rfl⟩
  have F16 := fun_mk (st := s_format_good) l16 c16 k16
  have C16 : Cd K mg "format_good" s_format_good ["good"] _ _ := ⟨F16, PySem.W.mg_of X G a16, F16.binds (ps := ["good"]) fun _ _ _ _ _ _ us hl => match us, hl with | [_], _ => rfl⟩
  have F17 := fun_mk (st := s_format_rule) l17 c17 k17
  have C17 : Cd K mg "format_rule" s_format_rule ["rule"] _ _ := ⟨F17, PySem.W.mg_of X G a17, F17.binds (ps := ["rule"]) fun _ _ _ _ _ _ us hl => match us, hl with | [_], _ => rfl⟩
  have F18 := fun_mk (st := s_format_shop) l18 c18 k18
  have C18 : Cd K mg "format_shop" s_format_shop ["shop"] _ _ := ⟨F18, PySem.W.mg_of X G a18, F18.binds (ps := ["shop"]) fun _ _ _ _ _ _ us hl => match us, hl with | [_], _ => rfl⟩
  have F19 := fun_mk (st := s_read_item) l19 c19 k19
  have C19 : Cd K mg "read_item" s_read_item ["text"] _ _ := ⟨F19, PySem.W.mg_of X G a19, F19.binds (ps := ["text"]) fun _ _ _ _ _ _ us hl => match us, hl with | [_], _ => rfl⟩
  have F20 := fun_mk (st := s_read_items) l20 c20 k20
  have C20 : Cd K mg "read_items" s_read_items ["text", "between"] _ _ := ⟨F20, PySem.W.mg_of X G a20, F20.binds (ps := ["text", "between"]) fun _ _ _ _ _ _ us hl => match us, hl with | [_, _], _ => rfl⟩
  have F21 := fun_mk (st := s_read_rules) l21 c21 k21
  have C21 : Cd K mg "read_rules" s_read_rules ["text"] _ _ := ⟨F21, PySem.W.mg_of X G a21, F21.binds (ps := ["text"]) fun _ _ _ _ _ _ us hl => match us, hl with | [_], _ => rfl⟩
  have F22 := fun_mk (st := s_read_shop) l22 c22 k22
  have C22 : Cd K mg "read_shop" s_read_shop ["text"] _ _ := ⟨F22, PySem.W.mg_of X G a22, F22.binds (ps := ["text"]) fun _ _ _ _ _ _ us hl => match us, hl with | [_], _ => rfl⟩
  have F23 := fun_mk (st := s_parse_shop) l23 c23 k23
  have C23 : Cd K mg "parse_shop" s_parse_shop ["text"] _ _ := ⟨F23, PySem.W.mg_of X G a23, F23.binds (ps := ["text"]) fun _ _ _ _ _ _ us hl => match us, hl with | [_], _ => rfl⟩
  have F24 := fun_mk (st := s__law_cell_at) l24 c24 k24
  have C24 : Cd K mg "_law_cell_at" s__law_cell_at ["_law_script", "_law_k"] _ _ := ⟨F24, PySem.W.mg_of X G a24, F24.binds (ps := ["_law_script", "_law_k"]) fun _ _ _ _ _ _ us hl => match us, hl with | [_, _], _ => rfl⟩
  have F25 := fun_mk (st := s__law_mixed) l25 c25 k25
  have C25 : Cd K mg "_law_mixed" s__law_mixed ["_law_script", "_law_k", "_law_many"] _ _ := ⟨F25, PySem.W.mg_of X G a25, F25.binds (ps := ["_law_script", "_law_k", "_law_many"]) fun _ _ _ _ _ _ us hl => match us, hl with | [_, _, _], _ => rfl⟩
  have F26 := fun_mk (st := s__law_draw) l26 c26 k26
  have C26 : Cd K mg "_law_draw" s__law_draw ["_law_script", "_law_state", "_law_many"] _ _ := ⟨F26, PySem.W.mg_of X G a26, F26.binds (ps := ["_law_script", "_law_state", "_law_many"]) fun _ _ _ _ _ _ us hl => match us, hl with | [_, _, _], _ => rfl⟩
  have F27 := fun_mk (st := s__law_pick) l27 c27 k27
  have C27 : Cd K mg "_law_pick" s__law_pick ["_law_script", "_law_state", "_law_some"] _ _ := ⟨F27, PySem.W.mg_of X G a27, F27.binds (ps := ["_law_script", "_law_state", "_law_some"]) fun _ _ _ _ _ _ us hl => match us, hl with | [_, _, _], _ => rfl⟩
  have F28 := fun_mk (st := s__law_some_rule) l28 c28 k28
  have C28 : Cd K mg "_law_some_rule" s__law_some_rule ["_law_script", "_law_state", "_law_goods", "_law_capped"] _ _ := ⟨F28, PySem.W.mg_of X G a28, F28.binds (ps := ["_law_script", "_law_state", "_law_goods", "_law_capped"]) fun _ _ _ _ _ _ us hl => match us, hl with | [_, _, _, _], _ => rfl⟩
  have F29 := fun_mk (st := s__law_some_goods) l29 c29 k29
  have C29 : Cd K mg "_law_some_goods" s__law_some_goods ["_law_script", "_law_state"] _ _ := ⟨F29, PySem.W.mg_of X G a29, F29.binds (ps := ["_law_script", "_law_state"]) fun _ _ _ _ _ _ us hl => match us, hl with | [_, _], _ => rfl⟩
  have F30 := fun_mk (st := s__law_some_shop) l30 c30 k30
  have C30 : Cd K mg "_law_some_shop" s__law_some_shop ["_law_script", "_law_state"] _ _ := ⟨F30, PySem.W.mg_of X G a30, F30.binds (ps := ["_law_script", "_law_state"]) fun _ _ _ _ _ _ us hl => match us, hl with | [_, _], _ => rfl⟩
  have F31 := fun_mk (st := s_law) l31 c31 k31
  have C31 : Cd K mg "law" s_law ["_law_script"] _ _ := ⟨F31, PySem.W.mg_of X G a31, F31.binds (ps := ["_law_script"]) fun _ _ _ _ _ _ us hl => match us, hl with | [_], _ => rfl⟩
  refine ⟨PySem.W.fnOf "law" "law" (defArgs s_law) (defBody s_law) (defScope s_law) .none kV31 dc31 pm31 an31 cd31 ct31, fun s v => .of_eq rfl, fun base _ _ => ?_⟩
  have G0 := ok_is_integer (P := l.prog) (w := w) (base := base) B F0 
  have G1 := ok_is_between (P := l.prog) (w := w) (base := base) B F1 C0 G0
  have G2 := ok_is_tuple_of (P := l.prog) (w := w) (base := base) B F2 
  have G3 := ok_is_most (P := l.prog) (w := w) (base := base) B F3 C1 G1
  have G4 := ok_is_good (P := l.prog) (w := w) (base := base) B F4 C2 G2 C1 G1
  have G5 := ok_is_pack (P := l.prog) (w := w) (base := base) B F5 C2 G2 C1 G1 C3 G3
  have G6 := ok_is_from (P := l.prog) (w := w) (base := base) B F6 C2 G2 C1 G1
  have G7 := ok_is_over (P := l.prog) (w := w) (base := base) B F7 C2 G2 C1 G1
  have G8 := ok_is_each (P := l.prog) (w := w) (base := base) B F8 C2 G2 C3 G3 C1 G1
  have G9 := ok_is_rule (P := l.prog) (w := w) (base := base) B F9 C5 G5 C6 G6 C7 G7 C8 G8
  have G10 := ok_is_endless_each (P := l.prog) (w := w) (base := base) B F10 
  have G11 := ok_are_goods (P := l.prog) (w := w) (base := base) B F11 C4 G4
  have G12 := ok_are_rules (P := l.prog) (w := w) (base := base) B F12 C9 G9 C10 G10
  have G13 := ok_is_shop (P := l.prog) (w := w) (base := base) B F13 C2 G2 C11 G11 C12 G12
  have G14 := ok_check_shop (P := l.prog) (w := w) (base := base) B F14 C13 G13
  have G15 := ok_format_item (P := l.prog) (w := w) (base := base) B F15 
  have G16 := ok_format_good (P := l.prog) (w := w) (base := base) B F16 
  have G17 := ok_format_rule (P := l.prog) (w := w) (base := base) B F17 C15 G15
  have G18 := ok_format_shop (P := l.prog) (w := w) (base := base) B F18 C14 G14 C16 G16 C17 G17
  have G19 := ok_read_item (P := l.prog) (w := w) (base := base) B F19 
  have G20 := ok_read_items (P := l.prog) (w := w) (base := base) B F20 C19 G19
  have G21 := ok_read_rules (P := l.prog) (w := w) (base := base) B F21 C20 G20
  have G22 := ok_read_shop (P := l.prog) (w := w) (base := base) B F22 C21 G21 C20 G20
  have G23 := ok_parse_shop (P := l.prog) (w := w) (base := base) B F23 C22 G22 C13 G13
  have G24 := ok__law_cell_at (P := l.prog) (w := w) (base := base) B F24 
  have G25 := ok__law_mixed (P := l.prog) (w := w) (base := base) B F25 C24 G24
  have G26 := ok__law_draw (P := l.prog) (w := w) (base := base) B F26 C25 G25
  have G27 := ok__law_pick (P := l.prog) (w := w) (base := base) B F27 C26 G26
  have G28 := ok__law_some_rule (P := l.prog) (w := w) (base := base) B F28 C26 G26 C27 G27
  have G29 := ok__law_some_goods (P := l.prog) (w := w) (base := base) B F29 C26 G26
  have G30 := ok__law_some_shop (P := l.prog) (w := w) (base := base) B F30 C29 G29 C26 G26 C28 G28
  have G31 := ok_law (P := l.prog) (w := w) (base := base) B F31 C30 G30 C18 G18 C23 G23
  exact law_ok G31 D0
end DL
namespace DL
open PySem PySem.Spec L2
/-! ### items of rules and their texts -/
open TL
def wordOk (w : Str) : Prop := w = "pack" ∨ w = "from" ∨ w = "over" ∨ w = "each"
def itS : D → Str
  | .non => "-"
  | .str w => w
  | .int i => numS i
  | _ => ""
def itOk : D → Prop
  | .non => True
  | .str w => wordOk w
  | .int i => 0 ≤ i ∧ i < 100
  | _ => False
def row : Ru → List D
  | .pack g s p m => [.str "pack", .int g, .int s, .int p, oD m]
  | .frm g l p => [.str "from", .int g, .int l, .int p]
  | .over f o => [.str "over", .int f, .int o]
  | .each f o m => [.str "each", .int f, .int o, oD m]
theorem row_is (u : Ru) : u.d = .tup (row u) := by cases u <;> rfl
theorem row_len (u : Ru) : 1 ≤ (row u).length ∧ (row u).length ≤ 5 := by cases u <;> simp [row]
theorem oD_ok {m : Option Int} (h : okM m) : itOk (oD m) := by
  cases m with
  | none => trivial
  | some k => exact ⟨by have := h.1; omega, by have := h.2; omega⟩
theorem row_ok {u : Ru} {n : Int} (h : u.ok n) (hn : n ≤ 2) : ∀ d ∈ row u, itOk d := by
  intro d hd
  cases u with
  | pack g s p m =>
    obtain ⟨h1, h2, h3, h4⟩ := h
    simp only [row, List.mem_cons, List.not_mem_nil, or_false] at hd
    rcases hd with rfl | rfl | rfl | rfl | rfl
    · exact .inl rfl
    · exact ⟨h1.1, by omega⟩
    · exact ⟨by omega, by omega⟩
    · exact ⟨by omega, by omega⟩
    · exact oD_ok h4
  | frm g l p =>
    obtain ⟨h1, h2, h3⟩ := h
    simp only [row, List.mem_cons, List.not_mem_nil, or_false] at hd
    rcases hd with rfl | rfl | rfl | rfl
    · exact .inr (.inl rfl)
    · exact ⟨h1.1, by omega⟩
    · exact ⟨by omega, by omega⟩
    · exact ⟨by omega, by omega⟩
  | over f o =>
    obtain ⟨h1, h2, h3, h4⟩ := h
    simp only [row, List.mem_cons, List.not_mem_nil, or_false] at hd
    rcases hd with rfl | rfl | rfl
    · exact .inr (.inr (.inl rfl))
    · exact ⟨by omega, by omega⟩
    · exact ⟨by omega, by omega⟩
  | each f o m =>
    obtain ⟨h1, h2, h3, h4⟩ := h
    simp only [row, List.mem_cons, List.not_mem_nil, or_false] at hd
    rcases hd with rfl | rfl | rfl | rfl
    · exact .inr (.inr (.inr rfl))
    · exact ⟨by omega, by omega⟩
    · exact ⟨by omega, by omega⟩
    · exact oD_ok h3
theorem num_at {i : Int} (h : 0 ≤ i ∧ i < 100) : (numS i == ("-" : Str)) = false ∧ (numS i).length ≤ 2 ∧ Txt.isascii (numS i) = true ∧ Txt.isdigit (numS i) = true ∧ PySem.intText? (numS i) = some i ∧ (∀ c ∈ tl (numS i), c ≠ 32 ∧ c ≠ 44 ∧ c ≠ 47 ∧ c ≠ 59) := by
  obtain ⟨n, rfl⟩ := Int.eq_ofNat_of_zero_le h.1
  exact num_ok ⟨n, by omega⟩
theorem log_ok : ∀ n : Fin 100, (n.val).log2 < 1920 := by decide +kernel
theorem log_at {i : Int} (h : 0 ≤ i ∧ i < 100) : i.natAbs.log2 < 1920 := by
  obtain ⟨n, rfl⟩ := Int.eq_ofNat_of_zero_le h.1
  exact log_ok ⟨n, by omega⟩
theorem word_facts {w : Str} (h : wordOk w) : (w == ("-" : Str)) = false ∧ w.length = 4 ∧ (∀ c ∈ tl w, c ≠ 32 ∧ c ≠ 44 ∧ c ≠ 47 ∧ c ≠ 59) ∧ (tl w).head? ≠ some 110 := by
  rcases h with rfl | rfl | rfl | rfl <;> decide +kernel
theorem it_facts {d : D} (h : itOk d) : (itS d).length ≤ 4 ∧ ∀ c ∈ tl (itS d), c ≠ 32 ∧ c ≠ 44 ∧ c ≠ 47 ∧ c ≠ 59 := by
  cases d with
  | non => exact ⟨by decide +kernel, by decide +kernel⟩
  | str w => exact ⟨Nat.le_of_eq (word_facts h).2.1, (word_facts h).2.2.1⟩
  | int i => exact ⟨Nat.le_trans (num_at h).2.1 (by decide), (num_at h).2.2.2.2.2⟩
  | bl b => exact h.elim
  | tup b => exact h.elim
  | lst b => exact h.elim
  | fz b => exact h.elim
/-! ### format -/
theorem dStr_num {i : Int} (h : 0 ≤ i ∧ i < 100) : dStr [.int i] = some (.im (.str (numS i))) := by
  show (if i.natAbs.log2 < 1920 then some (T.im (D.str (numS i))) else none) = _
  rw [if_pos (log_at h)]
theorem dFmt_num {i : Int} (h : 0 ≤ i ∧ i < 100) : dFmt (.int i) = some (.im (.str (numS i))) := by
  show (if i.natAbs.log2 < 1920 then some (T.im (D.str (numS i))) else none) = _
  rw [if_pos (log_at h)]
theorem r_format_item {d : D} (h : itOk d) : d_format_item [.im d] = .ok (.im (.str (itS d))) [.no] := by
  cases d with
  | non => simp [d_format_item, f_format_item, g_NO_MOST, itS, finF, sEr, op2, op1, T.val, R.opt, toB, opL, vals, consT, disp, mvs, mkTup, callT, callI, argE, others, isAl, isAli, finT, outE, padE, runD, cpsOf, cpT, toI, slT, T.weak, metT, kApp, kExt, elemD, iT, iL, iR1, iR2, iE, iZ, onI]
  | str w => simp [d_format_item, f_format_item, g_NO_MOST, itS, dStr, finF, sEr, op2, op1, T.val, R.opt, toB, opL, vals, consT, disp, mvs, mkTup, callT, callI, argE, others, isAl, isAli, finT, outE, padE, runD, cpsOf, cpT, toI, slT, T.weak, metT, kApp, kExt, elemD, iT, iL, iR1, iR2, iE, iZ, onI]
  | int i => simp [d_format_item, f_format_item, g_NO_MOST, itS, dStr_num h, finF, sEr, op2, op1, T.val, R.opt, toB, opL, vals, consT, disp, mvs, mkTup, callT, callI, argE, others, isAl, isAli, finT, outE, padE, runD, cpsOf, cpT, toI, slT, T.weak, metT, kApp, kExt, elemD, iT, iL, iR1, iR2, iE, iZ, onI]
  | bl b => exact h.elim
  | tup b => exact h.elim
  | lst b => exact h.elim
  | fz b => exact h.elim

def ruS (u : Ru) : Str := Txt.join " " ((row u).map itS)
def gdS (g : Int × Int) : Str := numS g.1 ++ "/" ++ numS g.2
theorem its_map {ds : List D} : items (.lst (ds.map fun d => D.str (itS d))) = some ((ds.map itS).map D.str) := by
  show some _ = _
  rw [List.map_map]
  rfl
theorem join_ru {u : Ru} (h : ∀ d ∈ row u, itOk d) : dJoin " " (.lst ((row u).map fun d => D.str (itS d))) = some (.im (.str (ruS u))) :=
  dJoin_of (M := 4) its_map (fun p hp => by
    obtain ⟨d, hd, rfl⟩ := List.mem_map.mp hp
    exact (it_facts (h d hd)).1) (by
    have := (row_len u).2
    have e : (" " : Str).length = 1 := by decide +kernel
    rw [e, List.length_map]
    omega)
theorem r_format_rule {u : Ru} (h : ∀ d ∈ row u, itOk d) : d_format_rule [.im u.d] = .ok (.im (.str (ruS u))) [.no] := by
  have q := eLc_of (fi := fiT (eVar 0)) (vs := [1]) (t := .one 1) (ft := tT) (fe := eCall d_format_item (aCons (eVar 1) aNil)) (env := [.im (.tup (row u)), .no]) (k := ⟨row u, none⟩) (e := [.im (.tup (row u)), .no]) (by simp [sEr, op2, op1, T.val, R.opt, toB, opL, vals, consT, disp, mvs, mkTup, callT, callI, argE, others, isAl, isAli, finT, outE, padE, runD, cpsOf, cpT, toI, slT, T.weak, metT, kApp, kExt, elemD, iT, iL, iR1, iR2, iE, iZ, onI])
    (lc_map (k := ⟨row u, none⟩) (vs := [1]) (t := .one 1) (h := fun d => .str (itS d)) (env := [.im (.tup (row u)), .no]) trivial (row u) [] (small_size (by have := (row_len u).2; show 0 + (row u).length ≤ 1000; omega)) fun d z => by
      refine ⟨[.im (.tup (row u)), .im d], .im (.str (itS d)), [.im (.tup (row u)), .im d], rfl, ?_, rfl, rfl⟩
      simp [r_format_item (h d z), sEr, op2, op1, T.val, R.opt, toB, opL, vals, consT, disp, mvs, mkTup, callT, callI, argE, others, isAl, isAli, finT, outE, padE, runD, cpsOf, cpT, toI, slT, T.weak, metT, kApp, kExt, elemD, iT, iL, iR1, iR2, iE, iZ, onI])
  rw [row_is]
  refine fin4 (rest := [.im (.tup (row u)), .no]) (m := 0) rfl ?_ _ rfl
  show f_format_rule [.im (.tup (row u)), .no] = _
  unfold f_format_rule
  simp [eM1, q, join_ru h, sEr, op2, op1, T.val, R.opt, toB, opL, vals, consT, disp, mvs, mkTup, callT, callI, argE, others, isAl, isAli, finT, outE, padE, runD, cpsOf, cpT, toI, slT, T.weak, metT, kApp, kExt, elemD, iT, iL, iR1, iR2, iE, iZ, onI]
theorem gd_shape (g : Int × Int) : gd g = .tup [.int g.1, .int g.2] := rfl
theorem len_sl : ("/" : Str).length = 1 := by decide +kernel
theorem js1 (x : Str) (e : En) : eC (.str x) e = .ok (.im (.str x)) e := rfl
theorem r_format_good {g : Int × Int} (h1 : 0 ≤ g.1 ∧ g.1 < 100) (h2 : 0 ≤ g.2 ∧ g.2 < 100) : d_format_good [.im (gd g)] = .ok (.im (.str (gdS g))) [.no] := by
  have l1 := (num_at h1).2.1
  have l2 := (num_at h2).2.1
  have e : eJs ((eUn dFmt (eVar 1)) :: ((eC (.str "/")) :: ((eUn dFmt (eVar 2)) :: []))) [.im (gd g), .im (.int g.1), .im (.int g.2)] = .ok (.im (.str (gdS g))) [.im (gd g), .im (.int g.1), .im (.int g.2)] := by
    have a1 : eUn dFmt (eVar 1) [.im (gd g), .im (.int g.1), .im (.int g.2)] = .ok (.im (.str (numS g.1))) [.im (gd g), .im (.int g.1), .im (.int g.2)] := by simp [eUn, dFmt_num h1, sEr, op2, op1, T.val, R.opt, toB, opL, vals, consT, disp, mvs, mkTup, callT, callI, argE, others, isAl, isAli, finT, outE, padE, runD, cpsOf, cpT, toI, slT, T.weak, metT, kApp, kExt, elemD, iT, iL, iR1, iR2, iE, iZ, onI]
    have a2 : eUn dFmt (eVar 2) [.im (gd g), .im (.int g.1), .im (.int g.2)] = .ok (.im (.str (numS g.2))) [.im (gd g), .im (.int g.1), .im (.int g.2)] := by simp [eUn, dFmt_num h2, sEr, op2, op1, T.val, R.opt, toB, opL, vals, consT, disp, mvs, mkTup, callT, callI, argE, others, isAl, isAli, finT, outE, padE, runD, cpsOf, cpT, toI, slT, T.weak, metT, kApp, kExt, elemD, iT, iL, iR1, iR2, iE, iZ, onI]
    have n1 : (Str.empty ++ numS g.1).length ≤ 1000000 := by rw [empty_app]; omega
    have n2 : (Str.empty ++ numS g.1 ++ "/").length ≤ 1000000 := by rw [empty_app, len_tl, tl_append, List.length_append, ← len_tl, ← len_tl, len_sl]; omega
    have n3 : (Str.empty ++ numS g.1 ++ "/" ++ numS g.2).length ≤ 1000000 := by rw [empty_app, len_tl, tl_append, tl_append, List.length_append, List.length_append, ← len_tl, ← len_tl, ← len_tl, len_sl]; omega
    unfold eJs
    simp only [jsR, a1, a2, js1, bind_ok, if_pos n1, if_pos n2, if_pos n3]
    rw [empty_app]
    rfl
  refine fin4 (rest := [.im (gd g), .im (.int g.1), .im (.int g.2)]) (m := 0) rfl ?_ _ rfl
  show f_format_good [.im (gd g), .no, .no] = _
  refine seq_of (e1 := [.im (gd g), .im (.int g.1), .im (.int g.2)]) ?_ ?_
  · simp [f_format_good_1, gd_shape, sEr, op2, op1, T.val, R.opt, toB, opL, vals, consT, disp, mvs, mkTup, callT, callI, argE, others, isAl, isAli, finT, outE, padE, runD, cpsOf, cpT, toI, slT, T.weak, metT, kApp, kExt, elemD, iT, iL, iR1, iR2, iE, iZ, onI]
  · simp [f_format_good_2, e, sEr, op2, op1, T.val, R.opt, toB, opL, vals, consT, disp, mvs, mkTup, callT, callI, argE, others, isAl, isAli, finT, outE, padE, runD, cpsOf, cpT, toI, slT, T.weak, metT, kApp, kExt, elemD, iT, iL, iR1, iR2, iE, iZ, onI]

theorem gd_ok {gi : List (Int × Int)} {us : List Ru} (h : Shp gi us) : ∀ g ∈ gi, (0 ≤ g.1 ∧ g.1 < 100) ∧ (0 ≤ g.2 ∧ g.2 < 100) := fun g hg => by
  have := h.pr g hg
  omega
theorem ru_ok {gi : List (Int × Int)} {us : List Ru} (h : Shp gi us) : ∀ u ∈ us, ∀ d ∈ row u, itOk d := fun u hu => row_ok (h.ru u hu).1 (by have := h.len.2; omega)
theorem gdS_len {g : Int × Int} (h1 : 0 ≤ g.1 ∧ g.1 < 100) (h2 : 0 ≤ g.2 ∧ g.2 < 100) : (gdS g).length ≤ 5 := by
  have l1 := (num_at h1).2.1
  have l2 := (num_at h2).2.1
  unfold gdS
  rw [len_tl, tl_append, tl_append, List.length_append, List.length_append, ← len_tl, ← len_tl, ← len_tl, len_sl]
  omega
theorem len_sp : (" " : Str).length = 1 := by decide +kernel
theorem len_cs : (", " : Str).length = 2 := by decide +kernel
theorem len_ss : ("; " : Str).length = 2 := by decide +kernel
theorem len_none : ("none" : Str).length = 4 := by decide +kernel
theorem ruS_len {u : Ru} (h : ∀ d ∈ row u, itOk d) : (ruS u).length ≤ 25 := by
  have := join_len (y := (" " : Str)) (M := 4) (ps := (row u).map itS) fun p hp => by
    obtain ⟨d, hd, rfl⟩ := List.mem_map.mp hp
    exact (it_facts (h d hd)).1
  rw [len_sp, List.length_map] at this
  have := (row_len u).2
  unfold ruS
  omega
def firstS (gi : List (Int × Int)) : Str := Txt.join ", " (gi.map gdS)
def secS (us : List Ru) : Str := if us = [] then "none" else Txt.join ", " (us.map ruS)
def shS (gi : List (Int × Int)) (us : List Ru) : Str := firstS gi ++ "; " ++ secS us
theorem first_len {gi : List (Int × Int)} {us : List Ru} (h : Shp gi us) : (firstS gi).length ≤ 14 := by
  have := join_len (y := (", " : Str)) (M := 5) (ps := gi.map gdS) fun p hp => by
    obtain ⟨d, hd, rfl⟩ := List.mem_map.mp hp
    exact gdS_len (gd_ok h d hd).1 (gd_ok h d hd).2
  rw [len_cs, List.length_map] at this
  have := h.len.2
  unfold firstS
  omega
theorem sec_len {gi : List (Int × Int)} {us : List Ru} (h : Shp gi us) : (secS us).length ≤ 108 := by
  unfold secS
  split
  · rw [len_none]; decide
  · have := join_len (y := (", " : Str)) (M := 25) (ps := us.map ruS) fun p hp => by
      obtain ⟨d, hd, rfl⟩ := List.mem_map.mp hp
      exact ruS_len (ru_ok h d hd)
    rw [len_cs, List.length_map] at this
    have := h.few
    omega
theorem join_first {gi : List (Int × Int)} {us : List Ru} (h : Shp gi us) {d : D} (hd : items d = some ((gi.map gdS).map D.str)) : dJoin ", " d = some (.im (.str (firstS gi))) :=
  dJoin_of (M := 5) hd (fun p hp => by
    obtain ⟨d, hd, rfl⟩ := List.mem_map.mp hp
    exact gdS_len (gd_ok h d hd).1 (gd_ok h d hd).2) (by
    have := h.len.2
    rw [len_cs, List.length_map]
    omega)
theorem join_sec {gi : List (Int × Int)} {us : List Ru} (h : Shp gi us) (hu : us ≠ []) {d : D} (hd : items d = some ((us.map ruS).map D.str)) : dJoin ", " d = some (.im (.str (secS us))) := by
  have := dJoin_of (y := (", " : Str)) (M := 25) hd (fun p hp => by
    obtain ⟨d, hd, rfl⟩ := List.mem_map.mp hp
    exact ruS_len (ru_ok h d hd)) (by
    have := h.few
    rw [len_cs, List.length_map]
    omega)
  rw [this]
  unfold secS
  rw [if_neg hu]
abbrev Ef (a b c d e f g : Sl) : En := [a, b, c, d, e, f, g]
theorem f1 (sh : D) (q : d_check_shop [.im sh] = .ok (.im .non) [.no]) : f_format_shop_1 (Ef (.im sh) .no .no .no .no .no .no) = .nx (Ef (.im sh) .no .no .no .no .no .no) := by
  simp [f_format_shop_1, q, sEr, op2, op1, T.val, R.opt, toB, opL, vals, consT, disp, mvs, mkTup, callT, callI, argE, others, isAl, isAli, finT, outE, padE, runD, cpsOf, cpT, toI, slT, T.weak, metT, kApp, kExt, elemD, iT, iL, iR1, iR2, iE, iZ, onI]
theorem f2 (gs rs : D) : f_format_shop_2 (Ef (.im (.tup [gs, rs])) .no .no .no .no .no .no) = .nx (Ef (.im (.tup [gs, rs])) .no .no (.im gs) (.im rs) .no .no) := by
  simp [f_format_shop_2, sEr, op2, op1, T.val, R.opt, toB, opL, vals, consT, disp, mvs, mkTup, callT, callI, argE, others, isAl, isAli, finT, outE, padE, runD, cpsOf, cpT, toI, slT, T.weak, metT, kApp, kExt, elemD, iT, iL, iR1, iR2, iE, iZ, onI]
theorem f3 (sh : Sl) (gs zs : List D) (rs : Sl) (x : Str) (q : eLc (fiT (eVar 3)) [5] (.one 5) tT (eCall d_format_good (aCons (eVar 5) aNil)) (Ef sh .no .no (.im (.tup gs)) rs .no .no) = .ok (.fr zs) (Ef sh .no .no (.im (.tup gs)) rs .no .no)) (hj : dJoin ", " (.lst zs) = some (.im (.str x))) :
    f_format_shop_3 (Ef sh .no .no (.im (.tup gs)) rs .no .no) = .nx (Ef sh (.im (.str x)) .no (.im (.tup gs)) rs .no .no) := by
  simp [f_format_shop_3, eM1, q, hj, sEr, op2, op1, T.val, R.opt, toB, opL, vals, consT, disp, mvs, mkTup, callT, callI, argE, others, isAl, isAli, finT, outE, padE, runD, cpsOf, cpT, toI, slT, T.weak, metT, kApp, kExt, elemD, iT, iL, iR1, iR2, iE, iZ, onI]
theorem f4a (sh fi gs : Sl) (rs zs : List D) (x : Str) (hr : ∃ L : Int, (rs.length : Int) = L ∧ 0 < L) (q : eLc (fiT (eVar 4)) [6] (.one 6) tT (eCall d_format_rule (aCons (eVar 6) aNil)) (Ef sh fi .no gs (.im (.tup rs)) .no .no) = .ok (.fr zs) (Ef sh fi .no gs (.im (.tup rs)) .no .no)) (hj : dJoin ", " (.lst zs) = some (.im (.str x))) :
    f_format_shop_4 (Ef sh fi .no gs (.im (.tup rs)) .no .no) = .nx (Ef sh fi (.im (.str x)) gs (.im (.tup rs)) .no .no) := by
  obtain ⟨L, e, hL⟩ := hr
  simp [f_format_shop_4, eM1, q, hj, e, hL, sEr, op2, op1, T.val, R.opt, toB, opL, vals, consT, disp, mvs, mkTup, callT, callI, argE, others, isAl, isAli, finT, outE, padE, runD, cpsOf, cpT, toI, slT, T.weak, metT, kApp, kExt, elemD, iT, iL, iR1, iR2, iE, iZ, onI]
theorem f4b (sh fi gs : Sl) : f_format_shop_4 (Ef sh fi .no gs (.im (.tup [])) .no .no) = .nx (Ef sh fi (.im (.str "none")) gs (.im (.tup [])) .no .no) := by
  simp [f_format_shop_4, eM1, g_NO_RULES, sEr, op2, op1, T.val, R.opt, toB, opL, vals, consT, disp, mvs, mkTup, callT, callI, argE, others, isAl, isAli, finT, outE, padE, runD, cpsOf, cpT, toI, slT, T.weak, metT, kApp, kExt, elemD, iT, iL, iR1, iR2, iE, iZ, onI]
theorem f5 (sh gs rs : Sl) (x y : Str) (hx : x.length ≤ 1000) (hy : y.length ≤ 1000) : f_format_shop_5 (Ef sh (.im (.str x)) (.im (.str y)) gs rs .no .no) = .rt (.im (.str (x ++ "; " ++ y))) (Ef sh (.im (.str x)) (.im (.str y)) gs rs .no .no) := by
  have a1 : eUn dFmt (eVar 1) (Ef sh (.im (.str x)) (.im (.str y)) gs rs .no .no) = .ok (.im (.str x)) (Ef sh (.im (.str x)) (.im (.str y)) gs rs .no .no) := by
    have : dFmt (.str x) = some (.im (.str x)) := by
      show (if x.length ≤ 1000000 then some (T.im (.str x)) else none) = _
      rw [if_pos (by omega)]
    simp [eUn, this, sEr, op2, op1, T.val, R.opt, toB, opL, vals, consT, disp, mvs, mkTup, callT, callI, argE, others, isAl, isAli, finT, outE, padE, runD, cpsOf, cpT, toI, slT, T.weak, metT, kApp, kExt, elemD, iT, iL, iR1, iR2, iE, iZ, onI]
  have a2 : eUn dFmt (eVar 2) (Ef sh (.im (.str x)) (.im (.str y)) gs rs .no .no) = .ok (.im (.str y)) (Ef sh (.im (.str x)) (.im (.str y)) gs rs .no .no) := by
    have : dFmt (.str y) = some (.im (.str y)) := by
      show (if y.length ≤ 1000000 then some (T.im (.str y)) else none) = _
      rw [if_pos (by omega)]
    simp [eUn, this, sEr, op2, op1, T.val, R.opt, toB, opL, vals, consT, disp, mvs, mkTup, callT, callI, argE, others, isAl, isAli, finT, outE, padE, runD, cpsOf, cpT, toI, slT, T.weak, metT, kApp, kExt, elemD, iT, iL, iR1, iR2, iE, iZ, onI]
  have n1 : (Str.empty ++ x).length ≤ 1000000 := by rw [empty_app]; omega
  have n2 : (Str.empty ++ x ++ "; ").length ≤ 1000000 := by rw [empty_app, len_tl, tl_append, List.length_append, ← len_tl, ← len_tl, len_ss]; omega
  have n3 : (Str.empty ++ x ++ "; " ++ y).length ≤ 1000000 := by rw [empty_app, len_tl, tl_append, tl_append, List.length_append, List.length_append, ← len_tl, ← len_tl, ← len_tl, len_ss]; omega
  have e : eJs ((eUn dFmt (eVar 1)) :: ((eC (.str "; ")) :: ((eUn dFmt (eVar 2)) :: []))) (Ef sh (.im (.str x)) (.im (.str y)) gs rs .no .no) = .ok (.im (.str (x ++ "; " ++ y))) (Ef sh (.im (.str x)) (.im (.str y)) gs rs .no .no) := by
    unfold eJs
    simp only [jsR, a1, a2, js1, bind_ok, if_pos n1, if_pos n2, if_pos n3]
    rw [empty_app]
  unfold f_format_shop_5
  simp only [sRet_s, e, bindF_ok]
def gT' : D → D
  | .tup [.int p, .int c] => .str (gdS (p, c))
  | _ => .non
def rT' : D → D
  | .tup ds => .str (Txt.join " " (ds.map itS))
  | _ => .non
theorem gT_map (gi : List (Int × Int)) : items (.lst ((gi.map gd).map gT')) = some ((gi.map gdS).map D.str) := by
  show some _ = _
  rw [List.map_map, List.map_map]
  rfl
theorem rT_map (us : List Ru) : items (.lst ((us.map Ru.d).map rT')) = some ((us.map ruS).map D.str) := by
  show some _ = _
  rw [List.map_map, List.map_map]
  congr 1
  refine List.map_congr_left fun u _ => ?_
  show rT' u.d = .str (ruS u)
  rw [row_is]
  rfl
theorem r_format_shop {gi : List (Int × Int)} {us : List Ru} (h : Shp gi us) : d_format_shop [.im (shopD gi us)] = .ok (.im (.str (shS gi us))) [.no] := by
  have hc := r_check_shop h.is
  have g1 : eLc (fiT (eVar 3)) [5] (.one 5) tT (eCall d_format_good (aCons (eVar 5) aNil)) (Ef (.im (shopD gi us)) .no .no (.im (.tup (gi.map gd))) (.im (.tup (us.map Ru.d))) .no .no) = .ok (.fr ((gi.map gd).map gT')) (Ef (.im (shopD gi us)) .no .no (.im (.tup (gi.map gd))) (.im (.tup (us.map Ru.d))) .no .no) :=
    eLc_of (k := ⟨gi.map gd, none⟩) (e := Ef (.im (shopD gi us)) .no .no (.im (.tup (gi.map gd))) (.im (.tup (us.map Ru.d))) .no .no) (by simp [sEr, op2, op1, T.val, R.opt, toB, opL, vals, consT, disp, mvs, mkTup, callT, callI, argE, others, isAl, isAli, finT, outE, padE, runD, cpsOf, cpT, toI, slT, T.weak, metT, kApp, kExt, elemD, iT, iL, iR1, iR2, iE, iZ, onI])
    (lc_map (k := ⟨gi.map gd, none⟩) (vs := [5]) (t := .one 5) (h := gT') (env := Ef (.im (shopD gi us)) .no .no (.im (.tup (gi.map gd))) (.im (.tup (us.map Ru.d))) .no .no) trivial (gi.map gd) [] (small_size (by have := h.len.2; rw [List.length_map]; show 0 + gi.length ≤ 1000; omega)) fun d z => by
      obtain ⟨g, hg, rfl⟩ := List.mem_map.mp z
      refine ⟨Ef (.im (shopD gi us)) .no .no (.im (.tup (gi.map gd))) (.im (.tup (us.map Ru.d))) (.im (gd g)) .no, .im (.str (gdS g)), Ef (.im (shopD gi us)) .no .no (.im (.tup (gi.map gd))) (.im (.tup (us.map Ru.d))) (.im (gd g)) .no, rfl, ?_, rfl, rfl⟩
      simp [r_format_good (gd_ok h g hg).1 (gd_ok h g hg).2, sEr, op2, op1, T.val, R.opt, toB, opL, vals, consT, disp, mvs, mkTup, callT, callI, argE, others, isAl, isAli, finT, outE, padE, runD, cpsOf, cpT, toI, slT, T.weak, metT, kApp, kExt, elemD, iT, iL, iR1, iR2, iE, iZ, onI])
  have g2 := f3 (.im (shopD gi us)) (gi.map gd) _ (.im (.tup (us.map Ru.d))) _ g1 (join_first h (gT_map gi))
  have g3 : f_format_shop_4 (Ef (.im (shopD gi us)) (.im (.str (firstS gi))) .no (.im (.tup (gi.map gd))) (.im (.tup (us.map Ru.d))) .no .no) = .nx (Ef (.im (shopD gi us)) (.im (.str (firstS gi))) (.im (.str (secS us))) (.im (.tup (gi.map gd))) (.im (.tup (us.map Ru.d))) .no .no) := by
    by_cases hu : us = []
    · subst hu
      exact f4b _ _ _
    · refine f4a _ _ _ _ ((us.map Ru.d).map rT') _ ⟨_, rfl, ?_⟩ ?_ (join_sec h hu (rT_map us))
      · have := List.length_pos_iff.mpr hu
        rw [List.length_map]
        omega
      · exact eLc_of (k := ⟨us.map Ru.d, none⟩) (e := Ef (.im (shopD gi us)) (.im (.str (firstS gi))) .no (.im (.tup (gi.map gd))) (.im (.tup (us.map Ru.d))) .no .no) (by simp [sEr, op2, op1, T.val, R.opt, toB, opL, vals, consT, disp, mvs, mkTup, callT, callI, argE, others, isAl, isAli, finT, outE, padE, runD, cpsOf, cpT, toI, slT, T.weak, metT, kApp, kExt, elemD, iT, iL, iR1, iR2, iE, iZ, onI])
          (lc_map (k := ⟨us.map Ru.d, none⟩) (vs := [6]) (t := .one 6) (h := rT') (env := Ef (.im (shopD gi us)) (.im (.str (firstS gi))) .no (.im (.tup (gi.map gd))) (.im (.tup (us.map Ru.d))) .no .no) trivial (us.map Ru.d) [] (small_size (by have := h.few; rw [List.length_map]; show 0 + us.length ≤ 1000; omega)) fun d z => by
            obtain ⟨u, hu, rfl⟩ := List.mem_map.mp z
            refine ⟨Ef (.im (shopD gi us)) (.im (.str (firstS gi))) .no (.im (.tup (gi.map gd))) (.im (.tup (us.map Ru.d))) .no (.im u.d), .im (.str (ruS u)), Ef (.im (shopD gi us)) (.im (.str (firstS gi))) .no (.im (.tup (gi.map gd))) (.im (.tup (us.map Ru.d))) .no (.im u.d), rfl, ?_, ?_, rfl⟩
            · simp [r_format_rule (ru_ok h u hu), sEr, op2, op1, T.val, R.opt, toB, opL, vals, consT, disp, mvs, mkTup, callT, callI, argE, others, isAl, isAli, finT, outE, padE, runD, cpsOf, cpT, toI, slT, T.weak, metT, kApp, kExt, elemD, iT, iL, iR1, iR2, iE, iZ, onI]
            · rw [row_is]
              rfl)
  refine fin4 (rest := Ef (.im (shopD gi us)) (.im (.str (firstS gi))) (.im (.str (secS us))) (.im (.tup (gi.map gd))) (.im (.tup (us.map Ru.d))) .no .no) (m := 0) rfl ?_ _ rfl
  show f_format_shop (Ef (.im (shopD gi us)) .no .no .no .no .no .no) = _
  unfold f_format_shop
  exact seq_of (f1 _ hc) (seq_of (f2 _ _) (seq_of g2 (seq_of g3 (f5 _ _ _ _ _ (by have := first_len h; omega) (by have := sec_len h; omega)))))
/-! ### read -/
def readV (x : Str) : D := if (x == ("-" : Str)) = true then .non else if 2 < x.length then .str x else match PySem.intText? x with
  | some n => .int n
  | none => .str x
theorem readV_it {d : D} (h : itOk d) : readV (itS d) = d := by
  cases d with
  | non => rfl
  | str w =>
    obtain ⟨h1, h2, _⟩ := word_facts h
    unfold readV
    rw [show itS (.str w) = w from rfl, h1, if_neg (by decide), if_pos (by omega)]
  | int i =>
    obtain ⟨h1, h2, _, _, h5, _⟩ := num_at h
    unfold readV
    rw [show itS (.int i) = numS i from rfl, h1, if_neg (by decide), if_neg (by omega), h5]
  | bl b => exact h.elim
  | tup b => exact h.elim
  | lst b => exact h.elim
  | fz b => exact h.elim
theorem dLen_s {x : Str} (h : x.length ≤ 1000) : dLen [.str x] = some (.im (.int x.length)) := by
  show (if x.length ≤ sizeLine then some (T.im (.int x.length)) else none) = _
  rw [if_pos (small_size h)]
theorem ri1 (x : Str) (h : (x == ("-" : Str)) = true) : d_read_item [.im (.str x)] = .ok (.im .non) [.no] := by
  simp [d_read_item, f_read_item, f_read_item_1, g_NO_MOST, h, finF, sEr, op2, op1, T.val, R.opt, toB, opL, vals, consT, disp, mvs, mkTup, callT, callI, argE, others, isAl, isAli, finT, outE, padE, runD, cpsOf, cpT, toI, slT, T.weak, metT, kApp, kExt, elemD, iT, iL, iR1, iR2, iE, iZ, onI]
theorem ri2 (x : Str) (L : Int) (h : (x == ("-" : Str)) = false) (hl : dLen [.str x] = some (.im (.int L))) (h2 : 2 < L) : d_read_item [.im (.str x)] = .ok (.im (.str x)) [.no] := by
  simp [d_read_item, f_read_item, f_read_item_1, f_read_item_2, g_NO_MOST, h, hl, h2, finF, sEr, op2, op1, T.val, R.opt, toB, opL, vals, consT, disp, mvs, mkTup, callT, callI, argE, others, isAl, isAli, finT, outE, padE, runD, cpsOf, cpT, toI, slT, T.weak, metT, kApp, kExt, elemD, iT, iL, iR1, iR2, iE, iZ, onI]
theorem ri3 (x : Str) (L n : Int) (h : (x == ("-" : Str)) = false) (hl : dLen [.str x] = some (.im (.int L))) (h2 : ¬ 2 < L) (h3 : Txt.isascii x = true) (h4 : Txt.isdigit x = true) (h5 : dInt [.str x] = some (.im (.int n))) (h6 : dStr [.int n] = some (.im (.str x))) : d_read_item [.im (.str x)] = .ok (.im (.int n)) [.no] := by
  have a1 : eM0 dAscii (eVar 0) [.im (.str x), .no] = .ok (.im (.bl true)) [.im (.str x), .no] := by simp [eM0, dAscii, h3, sEr, op2, op1, T.val, R.opt, toB, opL, vals, consT, disp, mvs, mkTup, callT, callI, argE, others, isAl, isAli, finT, outE, padE, runD, cpsOf, cpT, toI, slT, T.weak, metT, kApp, kExt, elemD, iT, iL, iR1, iR2, iE, iZ, onI]
  have a2 : eM0 dDigit (eVar 0) [.im (.str x), .no] = .ok (.im (.bl true)) [.im (.str x), .no] := by simp [eM0, dDigit, h4, sEr, op2, op1, T.val, R.opt, toB, opL, vals, consT, disp, mvs, mkTup, callT, callI, argE, others, isAl, isAli, finT, outE, padE, runD, cpsOf, cpT, toI, slT, T.weak, metT, kApp, kExt, elemD, iT, iL, iR1, iR2, iE, iZ, onI]
  simp [d_read_item, f_read_item, f_read_item_1, f_read_item_2, f_read_item_3, f_read_item_4, g_NO_MOST, h, hl, h2, a1, a2, h5, h6, finF, sEr, op2, op1, T.val, R.opt, toB, opL, vals, consT, disp, mvs, mkTup, callT, callI, argE, others, isAl, isAli, finT, outE, padE, runD, cpsOf, cpT, toI, slT, T.weak, metT, kApp, kExt, elemD, iT, iL, iR1, iR2, iE, iZ, onI]
theorem r_read_item {d : D} (h : itOk d) : d_read_item [.im (.str (itS d))] = .ok (.im d) [.no] := by
  cases d with
  | non => exact ri1 _ rfl
  | str w =>
    obtain ⟨h1, h2, _⟩ := word_facts h
    exact ri2 w w.length h1 (dLen_s (by omega)) (by omega)
  | int i =>
    obtain ⟨h1, h2, h3, h4, h5, _⟩ := num_at h
    refine ri3 (numS i) (numS i).length i h1 (dLen_s (by omega)) (by omega) h3 h4 ?_ (dStr_num h)
    unfold dInt
    show (match PySem.intText? (numS i) with | some n => if (numS i).length ≤ 640 then some (T.im (.int n)) else none | none => none) = _
    rw [h5]
    dsimp only
    rw [if_pos (by omega)]
  | bl b => exact h.elim
  | tup b => exact h.elim
  | lst b => exact h.elim
  | fz b => exact h.elim

def rdV : D → D
  | .str x => readV x
  | _ => .non
theorem rdV_map {ds : List D} (h : ∀ d ∈ ds, itOk d) : ((ds.map itS).map D.str).map rdV = ds := by
  rw [List.map_map, List.map_map]
  refine (List.map_congr_left fun d hd => ?_).trans (List.map_id ds)
  exact readV_it (h d hd)
theorem r_read_items {y : Str} {s : Nat} {S : List Nat} (ey : tl y = s :: S) (hk : y.cps.all (· < 256) = true) {ds : List D} (hne : ds ≠ []) (hd : ∀ d ∈ ds, itOk d) (hs : ∀ d ∈ ds, s ∉ tl (itS d)) (hl : ds.length ≤ 100) (hy : y.length ≤ 2) :
    d_read_items [.im (.str (Txt.join y (ds.map itS))), .im (.str y)] = .ok (.im (.tup ds)) [.no, .no] := by
  have jl : (Txt.join y (ds.map itS)).length ≤ 600 := by
    have := join_len (y := y) (M := 4) (ps := ds.map itS) fun p hp => by
      obtain ⟨d, hz, rfl⟩ := List.mem_map.mp hp
      exact (it_facts (hd d hz)).1
    rw [List.length_map] at this
    refine Nat.le_trans this ?_
    exact Nat.le_trans (Nat.mul_le_mul hl (by omega : 4 + y.length ≤ 6)) (by decide)
  have sp : dSplit (Txt.join y (ds.map itS)) (.str y) = some (.fr ((ds.map itS).map D.str)) := dSplit_of ey hk (by simpa using hne) (fun p hp => by
    obtain ⟨d, hz, rfl⟩ := List.mem_map.mp hp
    exact hs d hz) (by omega)
  generalize Txt.join y (ds.map itS) = x at sp jl ⊢
  have q := eLc_of (fi := fiL false (eM1 dSplit (eVar 0) (eVar 1))) (vs := [2]) (t := .one 2) (ft := tT) (fe := eCall d_read_item (aCons (eVar 2) aNil)) (env := [.im (.str x), .im (.str y), .no]) (k := ⟨(ds.map itS).map D.str, none⟩) (e := [.im (.str x), .im (.str y), .no]) (by simp [eM1, sp, fiL, sEr, op2, op1, T.val, R.opt, toB, opL, vals, consT, disp, mvs, mkTup, callT, callI, argE, others, isAl, isAli, finT, outE, padE, runD, cpsOf, cpT, toI, slT, T.weak, metT, kApp, kExt, elemD, iT, iL, iR1, iR2, iE, iZ, onI])
    (lc_map (k := ⟨(ds.map itS).map D.str, none⟩) (vs := [2]) (t := .one 2) (h := rdV) (env := [.im (.str x), .im (.str y), .no]) trivial ((ds.map itS).map D.str) [] (small_size (by rw [List.length_map, List.length_map]; show 0 + ds.length ≤ 1000; omega)) fun d z => by
      obtain ⟨v, hv, rfl⟩ := List.mem_map.mp z
      obtain ⟨d, hz, rfl⟩ := List.mem_map.mp hv
      refine ⟨[.im (.str x), .im (.str y), .im (.str (itS d))], .im d, [.im (.str x), .im (.str y), .im (.str (itS d))], rfl, ?_, ?_, rfl⟩
      · simp [r_read_item (hd d hz), sEr, op2, op1, T.val, R.opt, toB, opL, vals, consT, disp, mvs, mkTup, callT, callI, argE, others, isAl, isAli, finT, outE, padE, runD, cpsOf, cpT, toI, slT, T.weak, metT, kApp, kExt, elemD, iT, iL, iR1, iR2, iE, iZ, onI]
      · show T.im d = T.im (readV (itS d))
        rw [readV_it (hd d hz)])
  refine fin4 (rest := [.im (.str x), .im (.str y), .no]) (m := 0) rfl ?_ _ rfl
  show f_read_items [.im (.str x), .im (.str y), .no] = _
  unfold f_read_items
  rw [rdV_map hd] at q
  simp [q, sEr, op2, op1, T.val, R.opt, toB, opL, vals, consT, disp, mvs, mkTup, callT, callI, argE, others, isAl, isAli, finT, outE, padE, runD, cpsOf, cpT, toI, slT, T.weak, metT, kApp, kExt, elemD, iT, iL, iR1, iR2, iE, iZ, onI]
theorem free {d : D} (h : itOk d) {c : Nat} (hc : c = 32 ∨ c = 44 ∨ c = 47 ∨ c = 59) : c ∉ tl (itS d) := fun z => by
  have := (it_facts h).2 c z
  rcases hc with rfl | rfl | rfl | rfl <;> simp at this
theorem ru_free {u : Ru} (h : ∀ d ∈ row u, itOk d) {c : Nat} (hc : c = 44 ∨ c = 47 ∨ c = 59) : c ∉ tl (ruS u) := by
  refine join_mem ?_ fun p hp => ?_
  · rcases hc with rfl | rfl | rfl <;> decide +kernel
  · obtain ⟨d, hd, rfl⟩ := List.mem_map.mp hp
    exact free (h d hd) (by omega)
theorem gdS_join (g : Int × Int) : gdS g = Txt.join "/" ([D.int g.1, D.int g.2].map itS) := (join_two "/" (numS g.1) (numS g.2)).symm
theorem gd_its {g : Int × Int} (h1 : 0 ≤ g.1 ∧ g.1 < 100) (h2 : 0 ≤ g.2 ∧ g.2 < 100) : ∀ d ∈ [D.int g.1, D.int g.2], itOk d := by
  intro d hd
  simp only [List.mem_cons, List.not_mem_nil, or_false] at hd
  rcases hd with rfl | rfl
  · exact h1
  · exact h2
theorem gd_free {g : Int × Int} (h1 : 0 ≤ g.1 ∧ g.1 < 100) (h2 : 0 ≤ g.2 ∧ g.2 < 100) {c : Nat} (hc : c = 44 ∨ c = 59) : c ∉ tl (gdS g) := by
  rw [gdS_join]
  refine join_mem ?_ fun p hp => ?_
  · rcases hc with rfl | rfl <;> decide +kernel
  · obtain ⟨d, hd, rfl⟩ := List.mem_map.mp hp
    exact free (gd_its h1 h2 d hd) (by omega)
theorem r_read_rule {u : Ru} (h : ∀ d ∈ row u, itOk d) : d_read_items [.im (.str (ruS u)), .im (.str " ")] = .ok (.im u.d) [.no, .no] := by
  rw [row_is]
  have := row_len u
  exact r_read_items (y := (" " : Str)) (s := 32) (S := []) (by decide +kernel) (by decide +kernel) (fun z => by rw [z] at this; simp at this) h (fun d hd => free (h d hd) (.inl rfl)) (by omega) (by rw [len_sp]; decide)
theorem r_read_good {g : Int × Int} (h1 : 0 ≤ g.1 ∧ g.1 < 100) (h2 : 0 ≤ g.2 ∧ g.2 < 100) : d_read_items [.im (.str (gdS g)), .im (.str "/")] = .ok (.im (gd g)) [.no, .no] := by
  rw [gdS_join]
  exact r_read_items (y := ("/" : Str)) (s := 47) (S := []) (by decide +kernel) (by decide +kernel) (by simp) (gd_its h1 h2) (fun d hd => free (gd_its h1 h2 d hd) (by omega)) (by simp) (by rw [len_sl]; decide)
/-- the inverse of a rule's text -/
def rdR (y : Str) : D → D
  | .str x => .tup ((Txt.split x y).map readV)
  | _ => .non
theorem rdR_it {y : Str} {s : Nat} {S : List Nat} (ey : tl y = s :: S) (hk : y.cps.all (· < 256) = true) {ds : List D} (hne : ds ≠ []) (hd : ∀ d ∈ ds, itOk d) (hs : ∀ d ∈ ds, s ∉ tl (itS d)) : rdR y (.str (Txt.join y (ds.map itS))) = .tup ds := by
  show D.tup ((Txt.split (Txt.join y (ds.map itS)) y).map readV) = _
  rw [split_join ey hk (by simpa using hne) fun p hp => by
    obtain ⟨d, hz, rfl⟩ := List.mem_map.mp hp
    exact hs d hz]
  rw [List.map_map]
  congr 1
  refine (List.map_congr_left fun d hd' => ?_).trans (List.map_id ds)
  exact readV_it (hd d hd')
theorem rdR_ru {u : Ru} (h : ∀ d ∈ row u, itOk d) : rdR " " (.str (ruS u)) = u.d := by
  rw [row_is]
  have := row_len u
  exact rdR_it (y := (" " : Str)) (s := 32) (S := []) (by decide +kernel) (by decide +kernel) (fun z => by rw [z] at this; simp at this) h (fun d hd => free (h d hd) (.inl rfl))
theorem rdR_gd {g : Int × Int} (h1 : 0 ≤ g.1 ∧ g.1 < 100) (h2 : 0 ≤ g.2 ∧ g.2 < 100) : rdR "/" (.str (gdS g)) = gd g := by
  rw [gdS_join]
  exact rdR_it (y := ("/" : Str)) (s := 47) (S := []) (by decide +kernel) (by decide +kernel) (by simp) (gd_its h1 h2) (fun d hd => free (gd_its h1 h2 d hd) (by omega))
theorem tl_cs : tl (", " : Str) = 44 :: [32] := by decide +kernel
theorem tl_ss : tl ("; " : Str) = 59 :: [32] := by decide +kernel
theorem k_cs : (", " : Str).cps.all (· < 256) = true := by decide +kernel
theorem k_ss : ("; " : Str).cps.all (· < 256) = true := by decide +kernel
/-- a list of rows, read -/
theorem rd_list {α : Type} {y : Str} {f : α → D} {g : α → Str} {l : List α} (hne : l ≠ []) (hr : ∀ a ∈ l, d_read_items [.im (.str (g a)), .im (.str y)] = .ok (.im (f a)) [.no, .no]) (hi : ∀ a ∈ l, rdR y (.str (g a)) = f a) (hf : ∀ a ∈ l, 44 ∉ tl (g a)) (hl : l.length ≤ 4) (hg : ∀ a ∈ l, (g a).length ≤ 25) :
    dSplit (Txt.join ", " (l.map g)) (.str ", ") = some (.fr ((l.map g).map D.str)) ∧ ((l.map g).map D.str).map (rdR y) = l.map f := by
  constructor
  · refine dSplit_of tl_cs k_cs (by simpa using hne) (fun p hp => ?_) ?_
    · obtain ⟨a, ha, rfl⟩ := List.mem_map.mp hp
      exact hf a ha
    · have := join_len (y := (", " : Str)) (M := 25) (ps := l.map g) fun p hp => by
        obtain ⟨a, ha, rfl⟩ := List.mem_map.mp hp
        exact hg a ha
      rw [len_cs, List.length_map] at this
      omega
  · rw [List.map_map, List.map_map]
    exact List.map_congr_left fun a ha => hi a ha

theorem joinL_head {S p : List Nat} (hp : p ≠ []) (ps : List (List Nat)) : (joinL S (p :: ps)).head? = p.head? := by
  cases p with
  | nil => exact absurd rfl hp
  | cons a p => cases ps <;> rfl
theorem row_word {u : Ru} {n : Int} (h : u.ok n) : ∃ w ts, row u = .str w :: ts ∧ wordOk w := by
  cases u with
  | pack => exact ⟨_, _, rfl, .inl rfl⟩
  | frm => exact ⟨_, _, rfl, .inr (.inl rfl)⟩
  | over => exact ⟨_, _, rfl, .inr (.inr (.inl rfl))⟩
  | each => exact ⟨_, _, rfl, .inr (.inr (.inr rfl))⟩
theorem ru_head {u : Ru} {n : Int} (h : u.ok n) : tl (ruS u) ≠ [] ∧ (tl (ruS u)).head? ≠ some 110 := by
  obtain ⟨w, ts, e, hw⟩ := row_word h
  have f := word_facts hw
  have hn : tl w ≠ [] := fun z => by
    have := f.2.1
    rw [len_tl, z] at this
    cases this
  have e2 : tl (ruS u) = joinL (tl " ") (tl w :: (ts.map itS).map tl) := by
    unfold ruS
    rw [join_tl, e]
    rfl
  have e3 : (tl (ruS u)).head? = (tl w).head? := by rw [e2, joinL_head hn]
  refine ⟨fun z => ?_, by rw [e3]; exact f.2.2.2⟩
  rw [z] at e3
  cases hw2 : tl w with
  | nil => exact hn hw2
  | cons a b => rw [hw2] at e3; cases e3
theorem sec_ne {gi : List (Int × Int)} {us : List Ru} (h : Shp gi us) (hu : us ≠ []) : (secS us == ("none" : Str)) = false := by
  unfold secS
  rw [if_neg hu]
  cases us with
  | nil => exact absurd rfl hu
  | cons u us =>
    have f := ru_head (h.ru u List.mem_cons_self).1
    refine beq_eq_false_iff_ne.mpr fun z => f.2 ?_
    have e : (tl (Txt.join ", " ((u :: us).map ruS))).head? = (tl (ruS u)).head? := by
      rw [join_tl]
      exact joinL_head f.1 _
    rw [z] at e
    rw [← e]
    decide +kernel
theorem rr1 : d_read_rules [.im (.str "none")] = .ok (.im (.tup [])) [.no] := by
  simp [d_read_rules, f_read_rules, f_read_rules_1, g_NO_RULES, finF, sEr, op2, op1, T.val, R.opt, toB, opL, vals, consT, disp, mvs, mkTup, callT, callI, argE, others, isAl, isAli, finT, outE, padE, runD, cpsOf, cpT, toI, slT, T.weak, metT, kApp, kExt, elemD, iT, iL, iR1, iR2, iE, iZ, onI]
theorem rr2 (x : Str) (zs : List D) (h : (x == ("none" : Str)) = false) (q : eLc (fiL false (eM1 dSplit (eVar 0) (eC (.str ", ")))) [1] (.one 1) tT (eCall d_read_items (aCons (eVar 1) (aCons (eC (.str " ")) aNil))) [.im (.str x), .no] = .ok (.fr zs) [.im (.str x), .no]) : d_read_rules [.im (.str x)] = .ok (.im (.tup zs)) [.no] := by
  simp [d_read_rules, f_read_rules, f_read_rules_1, f_read_rules_2, g_NO_RULES, h, q, finF, sEr, op2, op1, T.val, R.opt, toB, opL, vals, consT, disp, mvs, mkTup, callT, callI, argE, others, isAl, isAli, finT, outE, padE, runD, cpsOf, cpT, toI, slT, T.weak, metT, kApp, kExt, elemD, iT, iL, iR1, iR2, iE, iZ, onI]
theorem r_read_rules {gi : List (Int × Int)} {us : List Ru} (h : Shp gi us) : d_read_rules [.im (.str (secS us))] = .ok (.im (.tup (us.map Ru.d))) [.no] := by
  by_cases hu : us = []
  · subst hu
    exact rr1
  · refine rr2 _ _ (sec_ne h hu) ?_
    obtain ⟨q1, q2⟩ := rd_list (y := (" " : Str)) (f := Ru.d) (g := ruS) hu (fun u z => r_read_rule (ru_ok h u z)) (fun u z => rdR_ru (ru_ok h u z)) (fun u z => ru_free (ru_ok h u z) (.inl rfl)) h.few fun u z => ruS_len (ru_ok h u z)
    have e : secS us = Txt.join ", " (us.map ruS) := by unfold secS; rw [if_neg hu]
    rw [e]
    generalize Txt.join ", " (us.map ruS) = x at q1 ⊢
    have q := eLc_of (fi := fiL false (eM1 dSplit (eVar 0) (eC (.str ", ")))) (vs := [1]) (t := .one 1) (ft := tT) (fe := eCall d_read_items (aCons (eVar 1) (aCons (eC (.str " ")) aNil))) (env := [.im (.str x), .no]) (k := ⟨(us.map ruS).map D.str, none⟩) (e := [.im (.str x), .no]) (by simp [eM1, q1, fiL, sEr, op2, op1, T.val, R.opt, toB, opL, vals, consT, disp, mvs, mkTup, callT, callI, argE, others, isAl, isAli, finT, outE, padE, runD, cpsOf, cpT, toI, slT, T.weak, metT, kApp, kExt, elemD, iT, iL, iR1, iR2, iE, iZ, onI])
      (lc_map (k := ⟨(us.map ruS).map D.str, none⟩) (vs := [1]) (t := .one 1) (h := rdR " ") (env := [.im (.str x), .no]) trivial ((us.map ruS).map D.str) [] (small_size (by have := h.few; rw [List.length_map, List.length_map]; show 0 + us.length ≤ 1000; omega)) fun d z => by
        obtain ⟨v, hv, rfl⟩ := List.mem_map.mp z
        obtain ⟨u, hz, rfl⟩ := List.mem_map.mp hv
        refine ⟨[.im (.str x), .im (.str (ruS u))], .im u.d, [.im (.str x), .im (.str (ruS u))], rfl, ?_, ?_, rfl⟩
        · simp [r_read_rule (ru_ok h u hz), sEr, op2, op1, T.val, R.opt, toB, opL, vals, consT, disp, mvs, mkTup, callT, callI, argE, others, isAl, isAli, finT, outE, padE, runD, cpsOf, cpT, toI, slT, T.weak, metT, kApp, kExt, elemD, iT, iL, iR1, iR2, iE, iZ, onI]
        · rw [rdR_ru (ru_ok h u hz)]
          rw [row_is]
          rfl)
    rw [q2] at q
    exact q
abbrev Erd (a b c d e : Sl) : En := [a, b, c, d, e]
theorem rs1 (x a b : Str) (q : dSplit x (.str "; ") = some (.fr [.str a, .str b])) : f_read_shop_1 (Erd (.im (.str x)) .no .no .no .no) = .nx (Erd (.im (.str x)) (.own false [.str a, .str b]) .no .no .no) := by
  simp [f_read_shop_1, eM1, q, sEr, op2, op1, T.val, R.opt, toB, opL, vals, consT, disp, mvs, mkTup, callT, callI, argE, others, isAl, isAli, finT, outE, padE, runD, cpsOf, cpT, toI, slT, T.weak, metT, kApp, kExt, elemD, iT, iL, iR1, iR2, iE, iZ, onI]
theorem rs2 (t : Sl) (a b : Str) : f_read_shop_2 (Erd t (.own false [.str a, .str b]) .no .no .no) = .nx (Erd t (.own false [.str a, .str b]) .no .no .no) := by
  simp [f_read_shop_2, sEr, op2, op1, T.val, R.opt, toB, opL, vals, consT, disp, mvs, mkTup, callT, callI, argE, others, isAl, isAli, finT, outE, padE, runD, cpsOf, cpT, toI, slT, T.weak, metT, kApp, kExt, elemD, iT, iL, iR1, iR2, iE, iZ, onI]
theorem rs3 (t : Sl) (a b : Str) : f_read_shop_3 (Erd t (.own false [.str a, .str b]) .no .no .no) = .nx (Erd t (.own false [.str a, .str b]) (.im (.str a)) (.im (.str b)) .no) := by
  simp [f_read_shop_3, gTl, sEr, op2, op1, T.val, R.opt, toB, opL, vals, consT, disp, mvs, mkTup, callT, callI, argE, others, isAl, isAli, finT, outE, padE, runD, cpsOf, cpT, toI, slT, T.weak, metT, kApp, kExt, elemD, iT, iL, iR1, iR2, iE, iZ, onI]
theorem rs4 (t o : Sl) (a b : Str) (zs : List D) (r : D) (q : eLc (fiL false (eM1 dSplit (eVar 2) (eC (.str ", ")))) [4] (.one 4) tT (eCall d_read_items (aCons (eVar 4) (aCons (eC (.str "/")) aNil))) (Erd t o (.im (.str a)) (.im (.str b)) .no) = .ok (.fr zs) (Erd t o (.im (.str a)) (.im (.str b)) .no)) (q2 : d_read_rules [.im (.str b)] = .ok (.im r) [.no]) :
    f_read_shop_4 (Erd t o (.im (.str a)) (.im (.str b)) .no) = .rt (.im (.tup [.tup zs, r])) (Erd t o (.im (.str a)) (.im (.str b)) .no) := by
  simp [f_read_shop_4, q, q2, sEr, op2, op1, T.val, R.opt, toB, opL, vals, consT, disp, mvs, mkTup, callT, callI, argE, others, isAl, isAli, finT, outE, padE, runD, cpsOf, cpT, toI, slT, T.weak, metT, kApp, kExt, elemD, iT, iL, iR1, iR2, iE, iZ, onI]
theorem first_free {gi : List (Int × Int)} {us : List Ru} (h : Shp gi us) : 59 ∉ tl (firstS gi) := join_mem (by decide +kernel) fun p hp => by
  obtain ⟨g, hg, rfl⟩ := List.mem_map.mp hp
  exact gd_free (gd_ok h g hg).1 (gd_ok h g hg).2 (.inr rfl)
theorem sec_free {gi : List (Int × Int)} {us : List Ru} (h : Shp gi us) : 59 ∉ tl (secS us) := by
  unfold secS
  split
  · decide +kernel
  · exact join_mem (by decide +kernel) fun p hp => by
      obtain ⟨u, hu, rfl⟩ := List.mem_map.mp hp
      exact ru_free (ru_ok h u hu) (.inr (.inr rfl))
theorem shS_len {gi : List (Int × Int)} {us : List Ru} (h : Shp gi us) : (shS gi us).length ≤ 200 := by
  have := first_len h
  have := sec_len h
  unfold shS
  rw [len_tl, tl_append, tl_append, List.length_append, List.length_append, ← len_tl, ← len_tl, ← len_tl, len_ss]
  omega
theorem sh_split {gi : List (Int × Int)} {us : List Ru} (h : Shp gi us) : dSplit (shS gi us) (.str "; ") = some (.fr [.str (firstS gi), .str (secS us)]) := by
  have l := shS_len h
  have e : shS gi us = Txt.join "; " [firstS gi, secS us] := (join_two _ _ _).symm
  rw [e] at l ⊢
  exact dSplit_of tl_ss k_ss (by simp) (fun p hp => by
    simp only [List.mem_cons, List.not_mem_nil, or_false] at hp
    rcases hp with rfl | rfl
    · exact first_free h
    · exact sec_free h) (by omega)
theorem r_read_shop {gi : List (Int × Int)} {us : List Ru} (h : Shp gi us) : d_read_shop [.im (.str (shS gi us))] = .ok (.im (shopD gi us)) [.no] := by
  have hne : gi ≠ [] := fun z => by have := h.len.1; rw [z] at this; cases this
  obtain ⟨q1, q2⟩ := rd_list (y := ("/" : Str)) (f := gd) (g := gdS) hne (fun g z => r_read_good (gd_ok h g z).1 (gd_ok h g z).2) (fun g z => rdR_gd (gd_ok h g z).1 (gd_ok h g z).2) (fun g z => gd_free (gd_ok h g z).1 (gd_ok h g z).2 (.inl rfl)) (by have := h.len.2; omega) fun g z => by
    have := gdS_len (gd_ok h g z).1 (gd_ok h g z).2
    omega
  replace q1 : dSplit (firstS gi) (.str ", ") = _ := q1
  have q := eLc_of (fi := fiL false (eM1 dSplit (eVar 2) (eC (.str ", ")))) (vs := [4]) (t := .one 4) (ft := tT) (fe := eCall d_read_items (aCons (eVar 4) (aCons (eC (.str "/")) aNil))) (env := Erd (.im (.str (shS gi us))) (.own false [.str (firstS gi), .str (secS us)]) (.im (.str (firstS gi))) (.im (.str (secS us))) .no) (k := ⟨(gi.map gdS).map D.str, none⟩) (e := Erd (.im (.str (shS gi us))) (.own false [.str (firstS gi), .str (secS us)]) (.im (.str (firstS gi))) (.im (.str (secS us))) .no) (by simp [eM1, q1, fiL, sEr, op2, op1, T.val, R.opt, toB, opL, vals, consT, disp, mvs, mkTup, callT, callI, argE, others, isAl, isAli, finT, outE, padE, runD, cpsOf, cpT, toI, slT, T.weak, metT, kApp, kExt, elemD, iT, iL, iR1, iR2, iE, iZ, onI])
    (lc_map (k := ⟨(gi.map gdS).map D.str, none⟩) (vs := [4]) (t := .one 4) (h := rdR "/") (env := Erd (.im (.str (shS gi us))) (.own false [.str (firstS gi), .str (secS us)]) (.im (.str (firstS gi))) (.im (.str (secS us))) .no) trivial ((gi.map gdS).map D.str) [] (small_size (by have := h.len.2; rw [List.length_map, List.length_map]; show 0 + gi.length ≤ 1000; omega)) fun d z => by
      obtain ⟨v, hv, rfl⟩ := List.mem_map.mp z
      obtain ⟨g, hz, rfl⟩ := List.mem_map.mp hv
      refine ⟨Erd (.im (.str (shS gi us))) (.own false [.str (firstS gi), .str (secS us)]) (.im (.str (firstS gi))) (.im (.str (secS us))) (.im (.str (gdS g))), .im (gd g), Erd (.im (.str (shS gi us))) (.own false [.str (firstS gi), .str (secS us)]) (.im (.str (firstS gi))) (.im (.str (secS us))) (.im (.str (gdS g))), rfl, ?_, ?_, rfl⟩
      · simp [r_read_good (gd_ok h g hz).1 (gd_ok h g hz).2, sEr, op2, op1, T.val, R.opt, toB, opL, vals, consT, disp, mvs, mkTup, callT, callI, argE, others, isAl, isAli, finT, outE, padE, runD, cpsOf, cpT, toI, slT, T.weak, metT, kApp, kExt, elemD, iT, iL, iR1, iR2, iE, iZ, onI]
      · rw [rdR_gd (gd_ok h g hz).1 (gd_ok h g hz).2]
        rfl)
  rw [q2] at q
  refine fin4 (rest := Erd (.im (.str (shS gi us))) (.own false [.str (firstS gi), .str (secS us)]) (.im (.str (firstS gi))) (.im (.str (secS us))) .no) (m := 0) rfl ?_ _ rfl
  show f_read_shop (Erd (.im (.str (shS gi us))) .no .no .no .no) = _
  unfold f_read_shop
  exact seq_of (rs1 _ _ _ (sh_split h)) (seq_of (rs2 _ _ _) (seq_of (rs3 _ _ _) (rs4 _ _ _ _ _ _ q (r_read_rules h))))
theorem rp (x : Str) (sh : D) (q : d_read_shop [.im (.str x)] = .ok (.im sh) [.no]) (h : isShop sh = true) : d_parse_shop [.im (.str x)] = .ok (.im sh) [.no] := by
  simp [d_parse_shop, f_parse_shop, f_parse_shop_1, f_parse_shop_2, f_parse_shop_3, f_parse_shop_4, q, r_is_shop, h, finF, sEr, op2, op1, T.val, R.opt, toB, opL, vals, consT, disp, mvs, mkTup, callT, callI, argE, others, isAl, isAli, finT, outE, padE, runD, cpsOf, cpT, toI, slT, T.weak, metT, kApp, kExt, elemD, iT, iL, iR1, iR2, iE, iZ, onI]
theorem r_parse_shop {gi : List (Int × Int)} {us : List Ru} (h : Shp gi us) : d_parse_shop [.im (.str (shS gi us))] = .ok (.im (shopD gi us)) [.no] := rp _ _ (r_read_shop h) h.is

/-! ### the law -/
abbrev Eg (a b c d e f g h i j : Sl) : En := [a, b, c, d, e, f, g, h, i, j]
theorem add_s {x y : Str} (h : x.length + y.length ≤ 1000) : dAdd (.str x) (.str y) = some (.im (.str (x ++ y))) := by
  show (if x.length + y.length ≤ sizeLine then some (T.im (.str (x ++ y))) else none) = _
  rw [if_pos (small_size h)]
theorem join_snoc (y a p : Str) (ps : List Str) : Txt.join y (a :: ps) ++ y ++ p = Txt.join y (a :: (ps ++ [p])) := by
  rw [← fold_join1, ← fold_join1, List.foldl_append]
  rfl
theorem t1 (s0 : Sl) : f_law_1 (Eg s0 .no .no .no .no .no .no .no .no .no) = .nx (Eg s0 (.own false (rep0 0)) .no .no .no .no .no .no .no .no) := by
  simp [f_law_1, sEr, op2, op1, T.val, R.opt, toB, opL, vals, consT, disp, mvs, mkTup, callT, callI, argE, others, isAl, isAli, finT, outE, padE, runD, cpsOf, cpT, toI, slT, T.weak, metT, kApp, kExt, elemD, iT, iL, iR1, iR2, iE, iZ, onI]
theorem t2 (ns : List Int) (m : Nat) (sh : D) (e : d__law_some_shop [scr ns, .own true (rep0 0)] = .ok (.im sh) [.no, .own true (rep0 m)]) :
    f_law_2 (Eg (scr ns) (.own false (rep0 0)) .no .no .no .no .no .no .no .no) = .nx (Eg (scr ns) (.own false (rep0 m)) (.im sh) .no .no .no .no .no .no .no) := by
  simp [scr] at e
  simp [f_law_2, scr, e, sEr, op2, op1, T.val, R.opt, toB, opL, vals, consT, disp, mvs, mkTup, callT, callI, argE, others, isAl, isAli, finT, outE, padE, runD, cpsOf, cpT, toI, slT, T.weak, metT, kApp, kExt, elemD, iT, iL, iR1, iR2, iE, iZ, onI]
theorem t3e (s0 st sh tx : Sl) (p c : Int) (a b d : Str) (q1 : dStr [.int p] = some (.im (.str a))) (q2 : dStr [.int c] = some (.im (.str b))) (q3 : dAdd (.str a) (.str "/") = some (.im (.str d))) (x : Str) (q4 : dAdd (.str d) (.str b) = some (.im (.str x))) :
    eOp dAdd (eOp dAdd (eB dStr (aCons (eVar 8) aNil)) (eC (.str "/"))) (eB dStr (aCons (eVar 9) aNil)) (Eg s0 st sh tx .no .no .no .no (.im (.int p)) (.im (.int c))) = .ok (.im (.str x)) (Eg s0 st sh tx .no .no .no .no (.im (.int p)) (.im (.int c))) := by
  simp [-dAdd, q1, q2, q3, q4, sEr, op2, op1, T.val, R.opt, toB, opL, vals, consT, disp, mvs, mkTup, callT, callI, argE, others, isAl, isAli, finT, outE, padE, runD, cpsOf, cpT, toI, slT, T.weak, metT, kApp, kExt, elemD, iT, iL, iR1, iR2, iE, iZ, onI]
theorem t3 (s0 st : Sl) (gs zs : List D) (rs : D) (x y : Str) (q : eLc (fiT (eOp dIx (eVar 2) (eC (.int 0)))) [8, 9] (.tup [8, 9]) tT (eOp dAdd (eOp dAdd (eB dStr (aCons (eVar 8) aNil)) (eC (.str "/"))) (eB dStr (aCons (eVar 9) aNil))) (Eg s0 st (.im (.tup [.tup gs, rs])) .no .no .no .no .no .no .no) = .ok (.fr zs) (Eg s0 st (.im (.tup [.tup gs, rs])) .no .no .no .no .no .no .no)) (hj : dJoin ", " (.lst zs) = some (.im (.str x))) (ha : dAdd (.str x) (.str "; ") = some (.im (.str y))) :
    f_law_3 (Eg s0 st (.im (.tup [.tup gs, rs])) .no .no .no .no .no .no .no) = .nx (Eg s0 st (.im (.tup [.tup gs, rs])) (.im (.str y)) .no .no .no .no .no .no) := by
  simp [-dAdd, f_law_3, eM1, q, hj, ha, sEr, op2, op1, T.val, R.opt, toB, opL, vals, consT, disp, mvs, mkTup, callT, callI, argE, others, isAl, isAli, finT, outE, padE, runD, cpsOf, cpT, toI, slT, T.weak, metT, kApp, kExt, elemD, iT, iL, iR1, iR2, iE, iZ, onI]
theorem t4 (s0 st sh tx : Sl) : f_law_4 (Eg s0 st sh tx .no .no .no .no .no .no) = .nx (Eg s0 st sh tx (.own false []) .no .no .no .no .no) := by
  simp [f_law_4, sEr, op2, op1, T.val, R.opt, toB, opL, vals, consT, disp, mvs, mkTup, callT, callI, argE, others, isAl, isAli, finT, outE, padE, runD, cpsOf, cpT, toI, slT, T.weak, metT, kApp, kExt, elemD, iT, iL, iR1, iR2, iE, iZ, onI]
theorem t5 (s0 st tx : Sl) (g : D) (rs : List D) (e9 : En) (q : loopF (gN 5) b_law_2 rs (Eg s0 st (.im (.tup [g, .tup rs])) tx (.own false []) .no .no .no .no .no) = .nx e9) : f_law_5 (Eg s0 st (.im (.tup [g, .tup rs])) tx (.own false []) .no .no .no .no .no) = .nx e9 := by
  unfold f_law_5
  exact sFor_of (its := rs) (e := Eg s0 st (.im (.tup [g, .tup rs])) tx (.own false []) .no .no .no .no .no) (by simp [dIx, sEr, op2, op1, T.val, R.opt, toB, opL, vals, consT, disp, mvs, mkTup, callT, callI, argE, others, isAl, isAli, finT, outE, padE, runD, cpsOf, cpT, toI, slT, T.weak, metT, kApp, kExt, elemD, iT, iL, iR1, iR2, iE, iZ, onI]) q
theorem t6 (s0 st sh ru rw it : Sl) (zs : List D) (x y z : Str) (b : Bool) (q : dNeA (.lst zs) (.lst []) = some (.im (.bl b))) (hj : b = true → dJoin ", " (.lst zs) = some (.im (.str y))) (hn : b = false → y = "none") (ha : dAdd (.str x) (.str y) = some (.im (.str z))) :
    f_law_6 (Eg s0 st sh (.im (.str x)) (.own false zs) ru rw it .no .no) = .nx (Eg s0 st sh (.im (.str z)) (.own false zs) ru rw it .no .no) := by
  cases b with
  | true => simp [-dAdd, f_law_6, eM1, q, hj rfl, ha, sEr, op2, op1, T.val, R.opt, toB, opL, vals, consT, disp, mvs, mkTup, callT, callI, argE, others, isAl, isAli, finT, outE, padE, runD, cpsOf, cpT, toI, slT, T.weak, metT, kApp, kExt, elemD, iT, iL, iR1, iR2, iE, iZ, onI]
  | false =>
    have := hn rfl
    subst this
    simp [-dAdd, f_law_6, eM1, q, ha, sEr, op2, op1, T.val, R.opt, toB, opL, vals, consT, disp, mvs, mkTup, callT, callI, argE, others, isAl, isAli, finT, outE, padE, runD, cpsOf, cpT, toI, slT, T.weak, metT, kApp, kExt, elemD, iT, iL, iR1, iR2, iE, iZ, onI]
theorem t7 (s0 st ro ru rw it : Sl) (sh : D) (x : Str) (q1 : d_format_shop [.im sh] = .ok (.im (.str x)) [.no]) (q2 : d_parse_shop [.im (.str x)] = .ok (.im sh) [.no]) (q3 : dEqA sh sh = some (.im (.bl true))) :
    f_law_7 (Eg s0 st (.im sh) (.im (.str x)) ro ru rw it .no .no) = .rt (.im (.bl true)) (Eg s0 st (.im sh) (.im (.str x)) ro ru rw it .no .no) := by
  simp [f_law_7, q1, q2, q3, sEr, op2, op1, T.val, R.opt, toB, opL, vals, consT, disp, mvs, mkTup, callT, callI, argE, others, isAl, isAli, finT, outE, padE, runD, cpsOf, cpT, toI, slT, T.weak, metT, kApp, kExt, elemD, iT, iL, iR1, iR2, iE, iZ, onI]
theorem i1 (s0 st sh tx ro ru : Sl) (x a b : Str) (d : D) (h : itOk d) (q1 : dAdd (.str x) (.str " ") = some (.im (.str a))) (q2 : dAdd (.str a) (.str (itS d)) = some (.im (.str b))) :
    b_law_1 (Eg s0 st sh tx ro ru (.im (.str x)) (.im d) .no .no) = .nx (Eg s0 st sh tx ro ru (.im (.str b)) (.im d) .no .no) := by
  cases d with
  | non => simp [-dAdd, b_law_1, b_law_1_1, q1, show dAdd (.str a) (.str "-") = some (.im (.str b)) from q2, sEr, op2, op1, T.val, R.opt, toB, opL, vals, consT, disp, mvs, mkTup, callT, callI, argE, others, isAl, isAli, finT, outE, padE, runD, cpsOf, cpT, toI, slT, T.weak, metT, kApp, kExt, elemD, iT, iL, iR1, iR2, iE, iZ, onI]
  | str w => simp [-dAdd, b_law_1, b_law_1_1, q1, show dAdd (.str a) (.str w) = some (.im (.str b)) from q2, dStr, sEr, op2, op1, T.val, R.opt, toB, opL, vals, consT, disp, mvs, mkTup, callT, callI, argE, others, isAl, isAli, finT, outE, padE, runD, cpsOf, cpT, toI, slT, T.weak, metT, kApp, kExt, elemD, iT, iL, iR1, iR2, iE, iZ, onI]
  | int i => simp [-dAdd, b_law_1, b_law_1_1, q1, show dAdd (.str a) (.str (numS i)) = some (.im (.str b)) from q2, dStr_num h, sEr, op2, op1, T.val, R.opt, toB, opL, vals, consT, disp, mvs, mkTup, callT, callI, argE, others, isAl, isAli, finT, outE, padE, runD, cpsOf, cpT, toI, slT, T.weak, metT, kApp, kExt, elemD, iT, iL, iR1, iR2, iE, iZ, onI]
  | bl b => exact h.elim
  | tup b => exact h.elim
  | lst b => exact h.elim
  | fz b => exact h.elim
theorem j1 (s0 st sh tx ro rw it : Sl) (w : Str) (ts : List D) : b_law_2_1 (Eg s0 st sh tx ro (.im (.tup (.str w :: ts))) rw it .no .no) = .nx (Eg s0 st sh tx ro (.im (.tup (.str w :: ts))) (.im (.str w)) it .no .no) := by
  simp [b_law_2_1, dIx, sEr, op2, op1, T.val, R.opt, toB, opL, vals, consT, disp, mvs, mkTup, callT, callI, argE, others, isAl, isAli, finT, outE, padE, runD, cpsOf, cpT, toI, slT, T.weak, metT, kApp, kExt, elemD, iT, iL, iR1, iR2, iE, iZ, onI]
theorem cut_post {ds : List D} (n : Nat) (hn : n ≤ ds.length) : cutD ds (some (n : Int)) none = ds.drop n := by
  unfold cutD HT.sIx
  have h : ¬ ((n : Int) < 0) := by omega
  have e : min n ds.length = n := by omega
  simp [h, e]
  rw [List.take_of_length_le (by rw [List.length_drop]; omega)]
theorem cut_one (a : D) (ds : List D) : cutD (a :: ds) (some 1) none = ds := cut_post 1 (by simp)
theorem j2 (s0 st sh tx ro it : Sl) (w : Str) (ts : List D) (e9 : En) (q : loopF (gN 7) b_law_1 ts (Eg s0 st sh tx ro (.im (.tup (.str w :: ts))) (.im (.str w)) it .no .no) = .nx e9) : b_law_2_2 (Eg s0 st sh tx ro (.im (.tup (.str w :: ts))) (.im (.str w)) it .no .no) = .nx e9 := by
  unfold b_law_2_2
  exact sFor_of (its := ts) (e := Eg s0 st sh tx ro (.im (.tup (.str w :: ts))) (.im (.str w)) it .no .no) (by simp [cut_one, sEr, op2, op1, T.val, R.opt, toB, opL, vals, consT, disp, mvs, mkTup, callT, callI, argE, others, isAl, isAli, finT, outE, padE, runD, cpsOf, cpT, toI, slT, T.weak, metT, kApp, kExt, elemD, iT, iL, iR1, iR2, iE, iZ, onI]) q
theorem j3 (s0 st sh tx ru it : Sl) (zs : List D) (x : Str) (hz : zs.length < 1000000) : b_law_2_3 (Eg s0 st sh tx (.own false zs) ru (.im (.str x)) it .no .no) = .nx (Eg s0 st sh tx (.own false (zs ++ [.str x])) ru (.im (.str x)) it .no .no) := by
  simp [b_law_2_3, hz, sEr, op2, op1, T.val, R.opt, toB, opL, vals, consT, disp, mvs, mkTup, callT, callI, argE, others, isAl, isAli, finT, outE, padE, runD, cpsOf, cpT, toI, slT, T.weak, metT, kApp, kExt, elemD, iT, iL, iR1, iR2, iE, iZ, onI]

/-- all signs are below 128 -/
theorem word_lo {w : Str} (h : wordOk w) : ∀ c ∈ tl w, c < 128 := by
  rcases h with rfl | rfl | rfl | rfl <;> decide +kernel
theorem it_lo {d : D} (h : itOk d) : ∀ c ∈ tl (itS d), c < 128 := by
  cases d with
  | non => decide +kernel
  | str w => exact word_lo h
  | int i =>
    have h3 := (num_at h).2.2.1
    unfold Txt.isascii at h3
    rw [← Array.all_toList, List.all_eq_true] at h3
    exact fun c hc => of_decide_eq_true (h3 c hc)
  | bl b => exact h.elim
  | tup b => exact h.elim
  | lst b => exact h.elim
  | fz b => exact h.elim
theorem ru_lo {u : Ru} (h : ∀ d ∈ row u, itOk d) : PyData.strOk (ruS u) = true := by
  unfold PyData.strOk
  rw [← Array.all_toList, List.all_eq_true]
  intro c hc
  refine decide_eq_true (Classical.byContradiction fun z => ?_)
  refine join_mem (y := (" " : Str)) (c := c) (ps := (row u).map itS) (fun q => ?_) (fun p hp => ?_) hc
  · have : ∀ c ∈ tl (" " : Str), c < 128 := by decide +kernel
    have := this c q
    omega
  · obtain ⟨d, hd, rfl⟩ := List.mem_map.mp hp
    intro q
    have := it_lo (h d hd) c q
    omega
theorem shp_rows : ∀ {us : List Ru}, (∀ u ∈ us, ∀ d ∈ row u, itOk d) → lays ((us.map ruS).map D.str) = true ∧ deps ((us.map ruS).map D.str) = 0
  | [], _ => ⟨rfl, rfl⟩
  | u :: us, h => by
    obtain ⟨h1, h2⟩ := shp_rows (us := us) fun x z => h x (List.mem_cons_of_mem _ z)
    rw [List.map_cons, List.map_cons]
    unfold lays deps
    rw [h1, h2]
    have e : lay (.str (ruS u)) = true := ru_lo (h u List.mem_cons_self)
    rw [e]
    exact ⟨rfl, rfl⟩
theorem ne_rows {us : List Ru} (h : ∀ u ∈ us, ∀ d ∈ row u, itOk d) : dNeA (.lst ((us.map ruS).map D.str)) (.lst []) = some (.im (.bl (!us.isEmpty))) := by
  have e : shp (.lst []) = true := by rfl
  have l : shp (.lst ((us.map ruS).map D.str)) = true := by
    obtain ⟨h1, h2⟩ := shp_rows h
    rw [shp_eq, lay, dep, h1, h2]
    rfl
  unfold dNeA dNeS dNe
  cases us with
  | nil => simp [e]
  | cons a as =>
    rw [List.map_cons, List.map_cons] at l ⊢
    simp [-List.map_map, l, e]
theorem inner (s0 st sh tx ro it : Sl) {u : Ru} {n : Int} (h : u.ok n) (hn : n ≤ 2) : ∃ w ts it' , row u = .str w :: ts ∧ loopF (gN 7) b_law_1 ts (Eg s0 st sh tx ro (.im u.d) (.im (.str w)) it .no .no) = .nx (Eg s0 st sh tx ro (.im u.d) (.im (.str (ruS u))) it' .no .no) := by
  obtain ⟨w, ts, e, hw⟩ := row_word h
  have ok := row_ok h hn
  have l5 := (row_len u).2
  rw [e] at ok l5
  rw [List.length_cons] at l5
  obtain ⟨e9, q, it', rfl⟩ := loop_all (g := gN 7) (f := b_law_1) (ds := ts) (env := Eg s0 st sh tx ro (.im u.d) (.im (.str w)) it .no .no)
    (I := fun i e => ∃ it', e = Eg s0 st sh tx ro (.im u.d) (.im (.str (Txt.join " " (w :: (ts.take i).map itS)))) it' .no .no) ⟨it, by
      have : Txt.join " " (w :: (ts.take 0).map itS) = w := ext_tl (by rw [join_tl]; rfl)
      rw [this]⟩ (by
    rintro i d _ hd ⟨it', rfl⟩
    have hi := (List.getElem?_eq_some_iff.mp hd).1
    have hd2 : itOk d := ok d (List.mem_cons_of_mem _ (List.mem_of_getElem? hd))
    have hlen : (Txt.join " " (w :: (ts.take i).map itS)).length ≤ 25 := by
      have := join_len (y := (" " : Str)) (M := 4) (ps := w :: (ts.take i).map itS) fun p hp => by
        rcases List.mem_cons.mp hp with rfl | hp
        · exact Nat.le_of_eq (word_facts hw).2.1
        · obtain ⟨d, hz, rfl⟩ := List.mem_map.mp hp
          exact (it_facts (ok d (List.mem_cons_of_mem _ (List.mem_of_mem_take hz)))).1
      rw [len_sp, List.length_cons, List.length_map, List.length_take] at this
      omega
    have hit := (it_facts hd2).1
    have hl2 : (Txt.join " " (w :: (ts.take i).map itS) ++ " ").length ≤ 26 := by
      rw [len_tl, tl_append, List.length_append, ← len_tl, ← len_tl, len_sp]
      omega
    have es : Txt.join " " (w :: (ts.take i).map itS) ++ " " ++ itS d = Txt.join " " (w :: (ts.take (i + 1)).map itS) := by
      rw [join_snoc, List.take_succ, hd, List.map_append]
      rfl
    refine ⟨_, _, rfl, .inl (i1 s0 st sh tx ro (.im u.d) _ _ _ d hd2 (add_s (by rw [len_sp]; omega)) (add_s (by omega))), .im d, by rw [es]⟩)
  refine ⟨w, ts, it', e, ?_⟩
  rw [List.take_length] at q
  rw [q]
  unfold ruS
  rw [e]
  rfl

theorem law_data (ns : List Int) (hl : ns.length ≤ 63) : ∃ o, d_law [.im (.fz (ns.map D.int))] = .ok (.im (.bl true)) o := by
  obtain ⟨gi, us, m, e, _, hm, h, _, fl⟩ := draw_shop ns 0 hl (by decide)
  have hok := ru_ok h
  -- the goods' text
  have ha : dAdd (.str (firstS gi)) (.str "; ") = some (.im (.str (firstS gi ++ "; "))) := add_s (by have := first_len h; rw [len_ss]; omega)
  have q1 : eLc (fiT (eOp dIx (eVar 2) (eC (.int 0)))) [8, 9] (.tup [8, 9]) tT (eOp dAdd (eOp dAdd (eB dStr (aCons (eVar 8) aNil)) (eC (.str "/"))) (eB dStr (aCons (eVar 9) aNil))) (Eg (scr ns) (.own false (rep0 m)) (.im (shopD gi us)) .no .no .no .no .no .no .no) = .ok (.fr ((gi.map gd).map gT')) (Eg (scr ns) (.own false (rep0 m)) (.im (shopD gi us)) .no .no .no .no .no .no .no) :=
    eLc_of (k := ⟨gi.map gd, none⟩) (e := Eg (scr ns) (.own false (rep0 m)) (.im (shopD gi us)) .no .no .no .no .no .no .no) (by simp [dIx, sEr, op2, op1, T.val, R.opt, toB, opL, vals, consT, disp, mvs, mkTup, callT, callI, argE, others, isAl, isAli, finT, outE, padE, runD, cpsOf, cpT, toI, slT, T.weak, metT, kApp, kExt, elemD, iT, iL, iR1, iR2, iE, iZ, onI])
    (lc_map (k := ⟨gi.map gd, none⟩) (vs := [8, 9]) (t := .tup [8, 9]) (h := gT') (env := Eg (scr ns) (.own false (rep0 m)) (.im (shopD gi us)) .no .no .no .no .no .no .no) trivial (gi.map gd) [] (small_size (by have := h.len.2; rw [List.length_map]; show 0 + gi.length ≤ 1000; omega)) fun d z => by
      obtain ⟨g, hg, rfl⟩ := List.mem_map.mp z
      obtain ⟨h1, h2⟩ := gd_ok h g hg
      have l1 := (num_at h1).2.1
      have l2 := (num_at h2).2.1
      refine ⟨_, .im (.str (gdS g)), _, rfl, t3e (scr ns) (.own false (rep0 m)) (.im (shopD gi us)) .no g.1 g.2 (numS g.1) (numS g.2) (numS g.1 ++ "/") (dStr_num h1) (dStr_num h2) (add_s (by rw [len_sl]; omega)) (gdS g) (add_s ?_), rfl, rfl⟩
      rw [len_tl (numS g.1 ++ "/"), tl_append, List.length_append, ← len_tl, ← len_tl, len_sl]
      omega)
  -- the rules' texts
  obtain ⟨e9, ql, ru, rw', it, rfl⟩ := loop_all (g := gN 5) (f := b_law_2) (ds := us.map Ru.d) (env := Eg (scr ns) (.own false (rep0 m)) (.im (shopD gi us)) (.im (.str (firstS gi ++ "; "))) (.own false []) .no .no .no .no .no)
    (I := fun i e => ∃ ru rw' it, e = Eg (scr ns) (.own false (rep0 m)) (.im (shopD gi us)) (.im (.str (firstS gi ++ "; "))) (.own false (((us.take i).map ruS).map D.str)) ru rw' it .no .no) ⟨.no, .no, .no, rfl⟩ (by
    rintro i x _ hd ⟨ru, rw', it, rfl⟩
    rw [List.getElem?_map] at hd
    obtain ⟨u, hu, rfl⟩ := Option.map_eq_some_iff.mp hd
    have hm := List.mem_of_getElem? hu
    obtain ⟨w, ts, it', ew, qi⟩ := inner (scr ns) (.own false (rep0 m)) (.im (shopD gi us)) (.im (.str (firstS gi ++ "; "))) (.own false (((us.take i).map ruS).map D.str)) it (h.ru u hm).1 (by have := h.len.2; omega)
    have ed : u.d = .tup (.str w :: ts) := by rw [row_is, ew]
    have key : b_law_2 (Eg (scr ns) (.own false (rep0 m)) (.im (shopD gi us)) (.im (.str (firstS gi ++ "; "))) (.own false (((us.take i).map ruS).map D.str)) (.im u.d) rw' it .no .no) = .nx (Eg (scr ns) (.own false (rep0 m)) (.im (shopD gi us)) (.im (.str (firstS gi ++ "; "))) (.own false (((us.take i).map ruS).map D.str ++ [.str (ruS u)])) (.im u.d) (.im (.str (ruS u))) it' .no .no) := by
      rw [ed] at qi ⊢
      refine seq_of (j1 _ _ _ _ _ _ _ w ts) (seq_of (j2 _ _ _ _ _ _ w ts _ qi) (j3 _ _ _ _ _ _ _ _ ?_))
      rw [List.length_map, List.length_map, List.length_take]
      have := h.few
      omega
    refine ⟨_, _, rfl, .inl key, .im u.d, .im (.str (ruS u)), it', ?_⟩
    rw [List.take_succ, hu, List.map_append, List.map_append]
    rfl)
  rw [List.length_map, List.take_length] at ql
  have nn := ne_rows hok
  refine ⟨[.no], fin4 (m := 0) (rest := Eg (scr ns) (.own false (rep0 m)) (.im (shopD gi us)) (.im (.str (shS gi us))) (.own false ((us.map ruS).map D.str)) ru rw' it .no .no) rfl ?_ _ rfl⟩
  show f_law (padE 10 [scr ns]) = _
  unfold f_law
  refine seq_of (t1 (scr ns)) (seq_of (t2 ns m _ e) (seq_of (t3 _ _ (gi.map gd) _ _ _ _ q1 (join_first h (gT_map gi)) ha) (seq_of (t4 _ _ _ _) (seq_of (t5 _ _ _ _ _ _ ql) (seq_of (t6 _ _ _ _ _ _ _ _ (secS us) (shS gi us) _ nn (fun b => ?_) (fun b => ?_) (add_s ?_)) (t7 _ _ _ _ _ _ _ _ (r_format_shop h) (r_parse_shop h) (eq_shop gi us)))))))
  · exact join_sec h (fun z => by subst z; cases b) rfl
  · have : us = [] := by
      cases us with
      | nil => rfl
      | cons _ _ => cases b
    subst this
    rfl
  · have := first_len h
    have := sec_len h
    rw [len_tl (firstS gi ++ "; "), tl_append, List.length_append, ← len_tl, ← len_tl, len_ss]
    omega

end DL
open PySem PySem.W PyProof.Rows
set_option maxRecDepth 100000 in
set_option maxHeartbeats 0 in
theorem PySem.Challenge.cw_sureprices_k37_whole_shop_texts_holds : PySem.Challenge.rw_sureprices_k37_whole_shop_texts.Holds := by
  w_on; o_law; k_head; (case hw => w_witness2)
  k_fill
  refine L2.walk_of (n := 63) (k := 10) (x := "_law_script") (CX := fun w => L2.CX PySem.Challenge.rw_sureprices_k37_whole_shop_texts.prog w) (sp := fun w => DL.spLaw _) rfl (by decide) rfl ⟨rfl, by decide, by decide⟩ (fun w h Y => PySem.W.kIn_of Y) ?F (fun _ _ a ns hl hO hS => DL.law_hsp hl hO hS) (fun _ _ _ _ _ z => DL.law_cx z)
  case F =>
    intro w mg fa h KX G hmg
    refine' DL.all_mk KX G hmg ?a0 ?l0 ?c0 ?k0 ?a1 ?l1 ?c1 ?k1 ?a2 ?l2 ?c2 ?k2 ?a3 ?l3 ?c3 ?k3 ?a4 ?l4 ?c4 ?k4 ?a5 ?l5 ?c5 ?k5 ?a6 ?l6 ?c6 ?k6 ?a7 ?l7 ?c7 ?k7 ?a8 ?l8 ?c8 ?k8 ?a9 ?l9 ?c9 ?k9 ?a10 ?l10 ?c10 ?k10 ?a11 ?l11 ?c11 ?k11 ?a12 ?l12 ?c12 ?k12 ?a13 ?l13 ?c13 ?k13 ?a14 ?l14 ?c14 ?k14 ?a15 ?l15 ?c15 ?k15 ?a16 ?l16 ?c16 ?k16 ?a17 ?l17 ?c17 ?k17 ?a18 ?l18 ?c18 ?k18 ?a19 ?l19 ?c19 ?k19 ?a20 ?l20 ?c20 ?k20 ?a21 ?l21 ?c21 ?k21 ?a22 ?l22 ?c22 ?k22 ?a23 ?l23 ?c23 ?k23 ?a24 ?l24 ?c24 ?k24 ?a25 ?l25 ?c25 ?k25 ?a26 ?l26 ?c26 ?k26 ?a27 ?l27 ?c27 ?k27 ?a28 ?l28 ?c28 ?k28 ?a29 ?l29 ?c29 ?k29 ?a30 ?l30 ?c30 ?k30 ?a31 ?l31 ?c31 ?k31 ?z_all ?z_any ?z_bool ?z_int ?z_isinstance ?z_len ?z_max ?z_min ?z_range ?z_str ?z_tuple ?y_MOST_DIGITS ?y_MOST_GOODS ?y_MOST_RULES ?y_NO_MOST ?y_NO_RULES ?e_InvalidShop ?e_ParseError ?q_InvalidShop ?p_InvalidShop ?r_InvalidShop ?q_ParseError ?p_ParseError ?r_ParseError ?w_InvalidShop ?w_ParseError DL.law_data
    (case a0 => k_is)
    (case l0 => k_is)
    (case c0 => k_is)
    (case k0 => k_is)
    (case a1 => k_is)
    (case l1 => k_is)
    (case c1 => k_is)
    (case k1 => k_is)
    (case a2 => k_is)
    (case l2 => k_is)
    (case c2 => k_is)
    (case k2 => k_is)
    (case a3 => k_is)
    (case l3 => k_is)
    (case c3 => k_is)
    (case k3 => k_is)
    (case a4 => k_is)
    (case l4 => k_is)
    (case c4 => k_is)
    (case k4 => k_is)
    (case a5 => k_is)
    (case l5 => k_is)
    (case c5 => k_is)
    (case k5 => k_is)
    (case a6 => k_is)
    (case l6 => k_is)
    (case c6 => k_is)
    (case k6 => k_is)
    (case a7 => k_is)
    (case l7 => k_is)
    (case c7 => k_is)
    (case k7 => k_is)
    (case a8 => k_is)
    (case l8 => k_is)
    (case c8 => k_is)
    (case k8 => k_is)
    (case a9 => k_is)
    (case l9 => k_is)
    (case c9 => k_is)
    (case k9 => k_is)
    (case a10 => k_is)
    (case l10 => k_is)
    (case c10 => k_is)
    (case k10 => k_is)
    (case a11 => k_is)
    (case l11 => k_is)
    (case c11 => k_is)
    (case k11 => k_is)
    (case a12 => k_is)
    (case l12 => k_is)
    (case c12 => k_is)
    (case k12 => k_is)
    (case a13 => k_is)
    (case l13 => k_is)
    (case c13 => k_is)
    (case k13 => k_is)
    (case a14 => k_is)
    (case l14 => k_is)
    (case c14 => k_is)
    (case k14 => k_is)
    (case a15 => k_is)
    (case l15 => k_is)
    (case c15 => k_is)
    (case k15 => k_is)
    (case a16 => k_is)
    (case l16 => k_is)
    (case c16 => k_is)
    (case k16 => k_is)
    (case a17 => k_is)
    (case l17 => k_is)
    (case c17 => k_is)
    (case k17 => k_is)
    (case a18 => k_is)
    (case l18 => k_is)
    (case c18 => k_is)
    (case k18 => k_is)
    (case a19 => k_is)
    (case l19 => k_is)
    (case c19 => k_is)
    (case k19 => k_is)
    (case a20 => k_is)
    (case l20 => k_is)
    (case c20 => k_is)
    (case k20 => k_is)
    (case a21 => k_is)
    (case l21 => k_is)
    (case c21 => k_is)
    (case k21 => k_is)
    (case a22 => k_is)
    (case l22 => k_is)
    (case c22 => k_is)
    (case k22 => k_is)
    (case a23 => k_is)
    (case l23 => k_is)
    (case c23 => k_is)
    (case k23 => k_is)
    (case a24 => k_is)
    (case l24 => k_is)
    (case c24 => k_is)
    (case k24 => k_is)
    (case a25 => k_is)
    (case l25 => k_is)
    (case c25 => k_is)
    (case k25 => k_is)
    (case a26 => k_is)
    (case l26 => k_is)
    (case c26 => k_is)
    (case k26 => k_is)
    (case a27 => k_is)
    (case l27 => k_is)
    (case c27 => k_is)
    (case k27 => k_is)
    (case a28 => k_is)
    (case l28 => k_is)
    (case c28 => k_is)
    (case k28 => k_is)
    (case a29 => k_is)
    (case l29 => k_is)
    (case c29 => k_is)
    (case k29 => k_is)
    (case a30 => k_is)
    (case l30 => k_is)
    (case c30 => k_is)
    (case k30 => k_is)
    (case a31 => k_is)
    (case l31 => k_is)
    (case c31 => k_is)
    (case k31 => k_is)
    (case z_all => k_is)
    (case z_any => k_is)
    (case z_bool => k_is)
    (case z_int => k_is)
    (case z_isinstance => k_is)
    (case z_len => k_is)
    (case z_max => k_is)
    (case z_min => k_is)
    (case z_range => k_is)
    (case z_str => k_is)
    (case z_tuple => k_is)
    (case y_MOST_DIGITS => k_is)
    (case y_MOST_GOODS => k_is)
    (case y_MOST_RULES => k_is)
    (case y_NO_MOST => k_is)
    (case y_NO_RULES => k_is)
    (case e_InvalidShop => k_is)
    (case e_ParseError => k_is)
    (case q_InvalidShop => k_exc)
    (case p_InvalidShop => k_is)
    (case r_InvalidShop => k_is)
    (case q_ParseError => k_exc)
    (case p_ParseError => k_is)
    (case r_ParseError => k_is)
    (case w_InvalidShop => k_is)
    (case w_ParseError => k_is)
