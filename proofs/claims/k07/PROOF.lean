import PyProof.Rows.All
import Wide.All
import OpenK.AllK
import Wide.FinOn
import HandS.ForMost
import HandS.Exc
import HandS.ExcOwn
import HandS.TryOnly
import HandS.WordsExc
import HandS.TupAny
import HandS.Style
import HandS.IsInst
import HandS.Deep
import KE.DataEq
import HandS.Text
import KE.GoesMore
import KE.GoesEnum
import HandS.Zip
import HandS.TupMul
import HandS.Rev
import KE.SortData
import KE.DataCmp
import KE.DataMinMax
import KE.DataFind
import KE.KRevSl
import HandS.HotCalls
import HandS.ExcIs
import HandS.NoneIn
import HandS.FStr
import HandS.StrMore
import HandS.RaiseMore
import HandS.ReplaceLit
import KE.KDictWalk
import KE.KDictKeyed
import HandS.TupSets
import HandS.DictSubView
import HandS.DictComp
import KE.KDictDisplayH
import HandS.Gcd
import KE.KMathGC
import HandS.Sort
import HandS.SortKw
import HandS.MakeKw
import KE.KDictZip
import KE.KItemsList
import PySem.Challenge.RW_sureprices_k07_charges_refused
set_option Elab.async false
set_option linter.all false
set_option maxRecDepth 100000
set_option maxHeartbeats 2000000
namespace DL
open PySem PySem.Spec L2
inductive D where
  | non | bl (b : Bool) | int (i : Int) | str (x : Str) | tup (xs : List D) | lst (xs : List D) | fz (xs : List D) | dct (ks vs : List D)

def entT (x : List Int × Addr × Value) : DictEntry := ⟨reduceHash (Builtin.Tuple.tupleHashOf (x.1.map hashInt)), .ref x.2.1, x.2.2⟩
structure DcObj (a : Addr) (o : Obj) (kvs : List (List Int × Addr × V)) : Prop where
  sm : (a == sysModules) = false
  len : kvs.length ≤ sizeLine
  ex : o.ExactDict
  nd : (kvs.map (·.1)).Nodup
  dat : ∃ (es : Array DictEntry) (ep : Nat) (ys : List (List Int × Addr × Value)), o.data = .dict es ep ∧ Paired (fun x y => x.1 = y.1 ∧ x.2.1 = y.2.1 ∧ RelV x.2.2 y.2.2) kvs ys ∧ es.toList = ys.map entT

inductive Sl where
  | no | im (d : D) | own (io : Bool) (xs : List D)
abbrev En := List Sl
structure Cp where
  fr : Bool
  d : D
inductive T where
  | im (d : D) | al (i : Nat) | fr (ds : List D) | ft (cs : List Cp)
inductive R (α : Type) where
  | er | ex (c : Str) (e : En) | ok (a : α) (e : En)

def FzAt (K : PySem.W.Frag) (H : Hp) (a : Addr) (xs : List V) : Prop :=
  (∃ o, H a = some (.frz o (.lst xs))) ∨
    ∃ (o : Obj) (its : Array Value) (n : Nat), K.lookup a = some o ∧ o.cls = .type "list" ∧ o.dict = none ∧ o.data = .seq its n ∧ its.size ≤ sizeLine ∧ Vals xs its.toList
theorem FzAt.sql {K : PySem.W.Frag} {H : Hp} {a : Addr} {xs : List V} (h : FzAt K H a xs) : SqL K H a xs := by
  rcases h with ⟨o, h⟩ | h
  · exact .inl (.inr ⟨o, h⟩)
  · exact .inr h

mutual
inductive Rep (K : PySem.W.Frag) (G : Addr → Prop) (H : Hp) : V → D → Prop
  | non : Rep K G H .non .non
  | bl (b : Bool) : Rep K G H (.bl b) (.bl b)
  | int (i : Int) : Rep K G H (.int i) (.int i)
  | str (x : Str) : Rep K G H (.str x) (.str x)
  | tup {a xs ds} (h : SqT K H a xs) (r : Reps K G H xs ds) : Rep K G H (.ref a) (.tup ds)
  | lst {a xs ds} (g : G a) (h : H a = some (.lst xs)) (r : Reps K G H xs ds) : Rep K G H (.ref a) (.lst ds)
  | fz {a xs ds} (h : FzAt K H a xs) (r : Reps K G H xs ds) : Rep K G H (.ref a) (.fz ds)
  | dct {a o u} {kvs : List (List Int × Addr × V)} {ks vs} (h : H a = some (.frz o u)) (ho : DcObj a o kvs) (hq : ∀ x ∈ kvs, SqT K H x.2.1 (x.1.map V.int)) (hk : ks = kvs.map fun x => .tup (x.1.map .int)) (r : Reps K G H (kvs.map (·.2.2)) vs) : Rep K G H (.ref a) (.dct ks vs)
inductive Reps (K : PySem.W.Frag) (G : Addr → Prop) (H : Hp) : List V → List D → Prop
  | nil : Reps K G H [] []
  | cons {v d vs ds} (r : Rep K G H v d) (rs : Reps K G H vs ds) : Reps K G H (v :: vs) (d :: ds)
end
structure TK (H H' : Hp) : Prop where
  tup : ∀ b xs, H b = some (.tup xs) → H' b = some (.tup xs)
  frz : ∀ b o u, H b = some (.frz o u) → H' b = some (.frz o u)
theorem TK.refl (H : Hp) : TK H H := ⟨fun _ _ h => h, fun _ _ _ h => h⟩
theorem TK.sqt {K : PySem.W.Frag} {H H' : Hp} (k : TK H H') {a : Addr} {xs : List V} (h : SqT K H a xs) : SqT K H' a xs := by
  rcases h with (h | ⟨o, h⟩) | h
  · exact .inl (.inl (k.tup _ _ h))
  · exact .inl (.inr ⟨o, k.frz _ _ _ h⟩)
  · exact .inr h
theorem TK.fz {K : PySem.W.Frag} {H H' : Hp} (k : TK H H') {a : Addr} {xs : List V} (h : FzAt K H a xs) : FzAt K H' a xs := by
  rcases h with ⟨o, h⟩ | h
  · exact .inl ⟨o, k.frz _ _ _ h⟩
  · exact .inr h

section
variable {K : PySem.W.Frag} {G G' : Addr → Prop} {H H' : Hp}
mutual
theorem Rep.mono (k : TK H H') (g : ∀ a xs, G a → H a = some (.lst xs) → G' a ∧ H' a = some (.lst xs)) : ∀ {v d}, Rep K G H v d → Rep K G' H' v d
  | _, _, .non => .non
  | _, _, .bl b => .bl b
  | _, _, .int i => .int i
  | _, _, .str x => .str x
  | _, _, .tup h r => .tup (k.sqt h) (Reps.mono k g r)
  | _, _, .lst ga h r => .lst (g _ _ ga h).1 (g _ _ ga h).2 (Reps.mono k g r)
  | _, _, .fz h r => .fz (k.fz h) (Reps.mono k g r)
  | _, _, .dct h ho hq hk r => .dct (k.frz _ _ _ h) ho (fun x hx => k.sqt (hq x hx)) hk (Reps.mono k g r)
theorem Reps.mono (k : TK H H') (g : ∀ a xs, G a → H a = some (.lst xs) → G' a ∧ H' a = some (.lst xs)) : ∀ {vs ds}, Reps K G H vs ds → Reps K G' H' vs ds
  | _, _, .nil => .nil
  | _, _, .cons r rs => .cons (Rep.mono k g r) (Reps.mono k g rs)
end
theorem Reps.length {vs : List V} {ds : List D} : Reps K G H vs ds → vs.length = ds.length
  | .nil => rfl
  | .cons _ rs => congrArg (· + 1) (Reps.length rs)
theorem Reps.get {vs : List V} {ds : List D} {i : Nat} {d : D} : Reps K G H vs ds → ds[i]? = some d → ∃ v, vs[i]? = some v ∧ Rep K G H v d
  | .nil, h => by simp at h
  | .cons r rs, h => by
    cases i with
    | zero => simp at h; subst h; exact ⟨_, rfl, r⟩
    | succ i => simpa using Reps.get rs (by simpa using h)
theorem Reps.append {vs ws : List V} {ds es : List D} : Reps K G H vs ds → Reps K G H ws es → Reps K G H (vs ++ ws) (ds ++ es)
  | .nil, s => s
  | .cons r rs, s => .cons r (Reps.append rs s)
theorem Reps.take {vs : List V} {ds : List D} : ∀ (n : Nat), Reps K G H vs ds → Reps K G H (vs.take n) (ds.take n)
  | 0, _ => by simpa using Reps.nil
  | n + 1, .nil => .nil
  | n + 1, .cons r rs => .cons r (Reps.take n rs)
theorem Reps.drop {vs : List V} {ds : List D} : ∀ (n : Nat), Reps K G H vs ds → Reps K G H (vs.drop n) (ds.drop n)
  | 0, r => r
  | n + 1, .nil => .nil
  | n + 1, .cons r rs => Reps.drop n rs
theorem Reps.set {vs : List V} {ds : List D} {v : V} {d : D} (r : Rep K G H v d) : ∀ (i : Nat), Reps K G H vs ds → Reps K G H (vs.set i v) (ds.set i d)
  | _, .nil => .nil
  | 0, .cons _ rs => .cons r rs
  | i + 1, .cons r' rs => .cons r' (Reps.set r i rs)
theorem Reps.reverse {vs : List V} {ds : List D} : Reps K G H vs ds → Reps K G H vs.reverse ds.reverse
  | .nil => .nil
  | .cons r rs => by
    rw [List.reverse_cons, List.reverse_cons]
    exact Reps.append (Reps.reverse rs) (.cons r .nil)
theorem Reps.rep {vs : List V} {ds : List D} (h : Reps K G H vs ds) : ∀ k : Nat, Reps K G H (List.replicate k vs).flatten (List.replicate k ds).flatten
  | 0 => .nil
  | k + 1 => by
    rw [List.replicate_succ, List.replicate_succ, List.flatten_cons, List.flatten_cons]
    exact Reps.append h (Reps.rep h k)
theorem Reps.ints {vs : List V} : ∀ {ns : List Int}, Reps K G H vs (ns.map .int) → vs = ns.map .int
  | [], h => by cases h; rfl
  | n :: ns, h => by
    cases h with
    | cons r rs => cases r; rw [Reps.ints rs]; rfl
theorem Reps.bls {vs : List V} : ∀ {ns : List Bool}, Reps K G H vs (ns.map .bl) → vs = ns.map .bl
  | [], h => by cases h; rfl
  | n :: ns, h => by
    cases h with
    | cons r rs => cases r; rw [Reps.bls rs]; rfl
theorem Reps.of_ints : ∀ (ns : List Int), Reps K G H (ns.map V.int) (ns.map D.int)
  | [] => .nil
  | n :: ns => .cons (.int n) (Reps.of_ints ns)
end
mutual
/-- no list within -/
def D.flat : D → Bool
  | .lst _ => false
  | .tup xs => D.flats xs
  | .fz xs => D.flats xs
  | .dct _ xs => D.flats xs
  | _ => true
def D.flats : List D → Bool
  | [] => true
  | x :: xs => D.flat x && D.flats xs
end
section
variable {K : PySem.W.Frag} {G G' : Addr → Prop} {H H' : Hp}
mutual
theorem Rep.flat : ∀ {v d}, Rep K G H v d → D.flat d = true → Rep K G' H v d
  | _, _, .non, _ => .non
  | _, _, .bl b, _ => .bl b
  | _, _, .int i, _ => .int i
  | _, _, .str x, _ => .str x
  | _, _, .tup h r, f => .tup h (Reps.flats r (by simpa [D.flat] using f))
  | _, _, .lst _ _ _, f => by simp [D.flat] at f
  | _, _, .fz h r, f => .fz h (Reps.flats r (by simpa [D.flat] using f))
  | _, _, .dct h ho hq hk r, f => .dct h ho hq hk (Reps.flats r (by simpa [D.flat] using f))
theorem Reps.flats : ∀ {vs ds}, Reps K G H vs ds → D.flats ds = true → Reps K G' H vs ds
  | _, _, .nil, _ => .nil
  | _, _, .cons r rs, f => by
    simp [D.flats] at f
    exact .cons (Rep.flat r f.1) (Reps.flats rs f.2)
end
end
structure Cc where
  K : PySem.W.Frag
  mg : Str → Option Value
  H0 : Hp
  Io : Addr → Prop
  vs : List V
def ownM (σ : St) (env : En) (a : Addr) : Prop := ∃ (i : Nat) (io : Bool) (ds : List D), env[i]? = some (Sl.own io ds) ∧ σ[i]? = some (some (V.ref a))
def Nn (σ : St) (env : En) (H : Hp) (a : Addr) : Prop := ownM σ env a ∨ H a = none
abbrev Av (L : Addr → Prop) (σ : St) (env : En) : Addr → Prop := fun a => ¬ L a ∧ ¬ ownM σ env a
structure RE (c : Cc) (L : Addr → Prop) (σ : St) (H : Hp) (env : En) : Prop where
  len : env.length = σ.length
  im : ∀ (i : Nat) (d : D), env[i]? = some (Sl.im d) → ∃ v, σ[i]? = some (some v) ∧ Rep c.K (Av L σ env) H v d
  own : ∀ (i : Nat) (io : Bool) (ds : List D), env[i]? = some (Sl.own io ds) → ∃ a xs, σ[i]? = some (some (V.ref a)) ∧ H a = some (.lst xs) ∧ Reps c.K (Av L σ env) H xs ds ∧ (io = false → c.H0 a = none) ∧ (io = true → c.Io a ∧ c.vs[i]? = some (.ref a))
  inj : ∀ (i j : Nat) (io jo : Bool) (ds es : List D) (a : Addr), env[i]? = some (Sl.own io ds) → env[j]? = some (Sl.own jo es) → σ[i]? = some (some (V.ref a)) → σ[j]? = some (some (V.ref a)) → i = j
  ext : ∀ a, L a → ¬ ownM σ env a ∧ ∃ xs, H a = some (.lst xs)
  fr : ∀ b o, ¬ c.Io b → c.H0 b = some o → H b = some o
  io : ∀ a, c.Io a → ∃ xs, H a = some (.lst xs)
def Stp (σ : St) (env : En) (H : Hp) (σ' : St) (env' : En) (H' : Hp) : Prop := ∀ b, ¬ Nn σ env H b → H' b = H b ∧ ¬ Nn σ' env' H' b
theorem Stp.refl {σ : St} {env : En} {H : Hp} : Stp σ env H σ env H := fun _ h => ⟨rfl, h⟩
theorem Stp.trans {σ σ1 σ2 : St} {env env1 env2 : En} {H H1 H2 : Hp} (a : Stp σ env H σ1 env1 H1) (b : Stp σ1 env1 H1 σ2 env2 H2) : Stp σ env H σ2 env2 H2 := fun x h => by
  obtain ⟨e1, n1⟩ := a x h
  obtain ⟨e2, n2⟩ := b x n1
  exact ⟨e2.trans e1, n2⟩
theorem Stp.back {σ σ' : St} {env env' : En} {H H' : Hp} (s : Stp σ env H σ' env' H') {a : Addr} (h : Nn σ' env' H' a) : Nn σ env H a := Classical.byContradiction fun n => (s a n).2 h
theorem Nn.not {σ : St} {env : En} {H : Hp} {a : Addr} {o : HO} (h : H a = some o) (n : ¬ ownM σ env a) : ¬ Nn σ env H a := fun z => z.elim n fun z => by rw [z] at h; cases h
theorem RE.tk {c : Cc} {L : Addr → Prop} {σ σ' : St} {env env' : En} {H H' : Hp} (h : RE c L σ H env) (s : Stp σ env H σ' env' H') : TK H H' := by
  have key : ∀ b o, H b = some o → (∀ xs, o ≠ .lst xs) → H' b = some o := fun b o e n => by
    have : ¬ ownM σ env b := fun ⟨i, io, ds, e1, e2⟩ => by
      obtain ⟨a, xs, e3, e4, _⟩ := h.own i io ds e1
      rw [e2] at e3
      cases e3
      rw [e] at e4
      cases e4
      exact n _ rfl
    rw [(s b (Nn.not e this)).1, e]
  exact ⟨fun b xs e => key b _ e (fun _ z => nomatch z), fun b o u e => key b _ e (fun _ z => nomatch z)⟩
theorem RE.rep {c : Cc} {L L' : Addr → Prop} {σ σ' : St} {env env' : En} {H H' : Hp} (h : RE c L σ H env) (s : Stp σ env H σ' env' H') {v : V} {d : D} (r : Rep c.K (Av L' σ env) H v d) : Rep c.K (Av L' σ' env') H' v d :=
  r.mono (h.tk s) fun a xs g e => by
    obtain ⟨e1, n1⟩ := s a (Nn.not e g.2)
    exact ⟨⟨g.1, fun z => n1 (.inl z)⟩, e1.trans e⟩
theorem RE.reps {c : Cc} {L L' : Addr → Prop} {σ σ' : St} {env env' : En} {H H' : Hp} (h : RE c L σ H env) (s : Stp σ env H σ' env' H') {v : List V} {d : List D} (r : Reps c.K (Av L' σ env) H v d) : Reps c.K (Av L' σ' env') H' v d :=
  r.mono (h.tk s) fun a xs g e => by
    obtain ⟨e1, n1⟩ := s a (Nn.not e g.2)
    exact ⟨⟨g.1, fun z => n1 (.inl z)⟩, e1.trans e⟩
theorem Stp.grow {σ : St} {env : En} {H H' : Hp} (k : ∀ b o, H b = some o → H' b = some o) : Stp σ env H σ env H' := fun b n => by
  cases e : H b with
  | none => exact (n (.inr e)).elim
  | some o => exact ⟨k b o e, fun z => z.elim (fun z => n (.inl z)) fun z => by rw [k b o e] at z; cases z⟩
theorem RE.grow {c : Cc} {L : Addr → Prop} {σ : St} {env : En} {H H' : Hp} (h : RE c L σ H env) (k : ∀ b o, H b = some o → H' b = some o) : RE c L σ H' env where
  len := h.len
  im := fun i d e => by
    obtain ⟨v, e1, r⟩ := h.im i d e
    exact ⟨v, e1, h.rep (Stp.grow k) r⟩
  own := fun i io ds e => by
    obtain ⟨a, xs, e1, e2, r, z⟩ := h.own i io ds e
    exact ⟨a, xs, e1, k _ _ e2, h.reps (Stp.grow k) r, z⟩
  inj := h.inj
  ext := fun a la => ⟨(h.ext a la).1, (h.ext a la).2.imp fun xs e => k _ _ e⟩
  fr := fun b o n e => k _ _ (h.fr b o n e)
  io := fun a i => (h.io a i).imp fun xs e => k _ _ e
theorem RE.less {c : Cc} {L L' : Addr → Prop} {σ : St} {env : En} {H : Hp} (h : RE c L σ H env) (l : ∀ a, L' a → L a) : RE c L' σ H env where
  len := h.len
  im := fun i d e => by
    obtain ⟨v, e1, r⟩ := h.im i d e
    exact ⟨v, e1, r.mono (.refl H) fun a xs g e => ⟨⟨fun z => g.1 (l a z), g.2⟩, e⟩⟩
  own := fun i io ds e => by
    obtain ⟨a, xs, e1, e2, r, z⟩ := h.own i io ds e
    exact ⟨a, xs, e1, e2, r.mono (.refl H) fun a xs g e => ⟨⟨fun z => g.1 (l a z), g.2⟩, e⟩, z⟩
  inj := h.inj
  ext := fun a la => h.ext a (l a la)
  fr := h.fr
  io := h.io
theorem RE.more {c : Cc} {L : Addr → Prop} {σ : St} {env : En} {H H' : Hp} (h : RE c L σ H env) (k : ∀ b o, H b = some o → H' b = some o) {a : Addr} {xs : List V} (n : H a = none) (e : H' a = some (.lst xs)) : RE c (fun b => L b ∨ b = a) σ H' env := by
  have no : ∀ b, (∃ o, H b = some o) → b ≠ a := fun b ⟨o, q⟩ z => by rw [z, n] at q; cases q
  have kk : ∀ {v d}, Rep c.K (Av L σ env) H v d → Rep c.K (Av (fun b => L b ∨ b = a) σ env) H' v d := fun r =>
    r.mono (h.tk (Stp.grow k)) fun b ys g q => ⟨⟨fun z => z.elim g.1 fun z => no b ⟨_, q⟩ z, g.2⟩, k _ _ q⟩
  have ks : ∀ {v d}, Reps c.K (Av L σ env) H v d → Reps c.K (Av (fun b => L b ∨ b = a) σ env) H' v d := fun r =>
    r.mono (h.tk (Stp.grow k)) fun b ys g q => ⟨⟨fun z => z.elim g.1 fun z => no b ⟨_, q⟩ z, g.2⟩, k _ _ q⟩
  refine ⟨h.len, fun i d e => ?_, fun i io ds e => ?_, h.inj, fun b lb => ?_, fun b o n e => k _ _ (h.fr b o n e), fun a i => (h.io a i).imp fun xs e => k _ _ e⟩
  · obtain ⟨v, e1, r⟩ := h.im i d e
    exact ⟨v, e1, kk r⟩
  · obtain ⟨a, xs, e1, e2, r, z⟩ := h.own i io ds e
    exact ⟨a, xs, e1, k _ _ e2, ks r, z⟩
  · rcases lb with lb | rfl
    · exact ⟨(h.ext b lb).1, (h.ext b lb).2.imp fun xs e => k _ _ e⟩
    · refine ⟨fun ⟨i, io, ds, e1, e2⟩ => ?_, _, e⟩
      obtain ⟨a', ys, e3, e4, _⟩ := h.own i io ds e1
      rw [e2] at e3
      cases e3
      rw [n] at e4
      cases e4

inductive RepC (K : PySem.W.Frag) (G : Addr → Prop) (H : Hp) : List Addr → List V → List Cp → Prop
  | nil : RepC K G H [] [] []
  | im {As v d vs cs} (r : Rep K G H v d) (rs : RepC K G H As vs cs) : RepC K G H As (v :: vs) (⟨false, d⟩ :: cs)
  | fr {As a xs ds vs cs} (n : a ∉ As) (e : H a = some (.lst xs)) (r : Reps K G H xs ds) (rs : RepC K G H As vs cs) : RepC K G H (a :: As) (.ref a :: vs) (⟨true, .lst ds⟩ :: cs)
def RepT (c : Cc) (L : Addr → Prop) (N : Addr → Prop) (σ : St) (H : Hp) (env : En) (v : V) : T → Prop
  | .im d => Rep c.K (Av L σ env) H v d
  | .al i => (∃ (io : Bool) (ds : List D), env[i]? = some (Sl.own io ds)) ∧ σ[i]? = some (some v)
  | .fr ds => ∃ a xs, v = .ref a ∧ H a = some (.lst xs) ∧ Reps c.K (Av (fun b => L b ∨ b = a) σ env) H xs ds ∧ ¬ L a ∧ c.H0 a = none ∧ N a ∧ RE c (fun b => L b ∨ b = a) σ H env
  | .ft cs => ∃ t vs As, v = .ref t ∧ SqT c.K H t vs ∧ RepC c.K (Av (fun b => L b ∨ b ∈ As) σ env) H As vs cs ∧ (∀ a ∈ As, ¬ L a ∧ c.H0 a = none ∧ N a) ∧ RE c (fun b => L b ∨ b ∈ As) σ H env

def Wx (mg : Str → Option Value) (W : WX) (x : Str) (σ : St) (H : Hp) : Prop := ∀ C, mg x = some (.ref C) → W (.ref C) none σ H
abbrev FE := En → R T
abbrev FT := En → R Bool
abbrev FA := En → R (List T)
end DL
namespace DL
open PySem PySem.Spec L2
def R.bind {α β : Type} (r : R α) (g : α → En → R β) : R β := match r with
  | .er => .er
  | .ex x e => .ex x e
  | .ok a e => g a e
@[simp] theorem bind_ok {α β : Type} (a : α) (e : En) (g : α → En → R β) : R.bind (.ok a e) g = g a e := rfl
@[simp] theorem bind_er {α β : Type} (g : α → En → R β) : R.bind .er g = .er := rfl
@[simp] theorem bind_ex {α β : Type} (x : Str) (e : En) (g : α → En → R β) : R.bind (.ex x e) g = .ex x e := rfl

def dK {α : Type} (c : Cc) (W : WX) (L : Addr → Prop) (σ : St) (H : Hp) (env : En) (r : R α) (P : α → En → Hp → Prop) : Prop := match r with
  | .er => False
  | .ex x env' => ∀ H', RE c L σ H' env' → Stp σ env H σ env' H' → Wx c.mg W x σ H'
  | .ok a env' => ∀ H', RE c L σ H' env' → Stp σ env H σ env' H' → P a env' H'
def dE (c : Cc) (W : WX) (f : FE) : TE := fun σ H Q => ∃ env L, RE c L σ H env ∧ dK c W L σ H env (f env) fun t env' H' => ∀ v, RepT c L (Nn σ env H) σ H' env' v t → Q v H'
def dT (c : Cc) (W : WX) (f : FT) : TT := fun σ H Q => ∃ env L, RE c L σ H env ∧ dK c W L σ H env (f env) fun b _ H' => Q b H'
section
variable {α β : Type} {c : Cc} {W : WX} {L L' : Addr → Prop} {σ : St} {H : Hp} {env : En}
theorem dE_iff {f : FE} {Q : VK} : dE c W f σ H Q ↔ ∃ env L, RE c L σ H env ∧ dK c W L σ H env (f env) fun t env' H' => ∀ v, RepT c L (Nn σ env H) σ H' env' v t → Q v H' := Iff.rfl
theorem dT_iff {f : FT} {Q : Bool → Hp → Prop} : dT c W f σ H Q ↔ ∃ env L, RE c L σ H env ∧ dK c W L σ H env (f env) fun b _ H' => Q b H' := Iff.rfl
theorem dK.bind {r : R α} {g : α → En → R β} {P : β → En → Hp → Prop} (h : dK c W L σ H env (r.bind g) P) : dK c W L σ H env r fun a env1 H1 => dK c W L σ H1 env1 (g a env1) P := by
  cases r with
  | er => exact h
  | ex x e => exact h
  | ok a e =>
    intro H1 r1 s1
    have h : dK c W L σ H env (g a e) P := h
    show dK c W L σ H1 e (g a e) P
    cases q : g a e with
    | er => rw [q] at h; exact h
    | ex x e2 => rw [q] at h; exact fun H2 r2 s2 => h H2 r2 (s1.trans s2)
    | ok b e2 => rw [q] at h; exact fun H2 r2 s2 => h H2 r2 (s1.trans s2)
theorem dK.mono {r : R α} {P P' : α → En → Hp → Prop} (h : dK c W L σ H env r P) (k : ∀ a env' H', RE c L σ H' env' → Stp σ env H σ env' H' → P a env' H' → P' a env' H') : dK c W L σ H env r P' := by
  cases r with
  | er => exact h
  | ex x e => exact h
  | ok a e => exact fun H' r s => k a e H' r s (h H' r s)
theorem dK.less {r : R α} {P : α → En → Hp → Prop} (h : dK c W L σ H env r P) (l : ∀ a, L a → L' a) : dK c W L' σ H env r P := by
  cases r with
  | er => exact h
  | ex x e => exact fun H' r s => h H' (r.less l) s
  | ok a e => exact fun H' r s => h H' (r.less l) s
theorem dE.of {f : FE} {Q : VK} (r : RE c L σ H env) (h : dK c W L σ H env (f env) fun t env' H' => ∀ v, RepT c L (Nn σ env H) σ H' env' v t → Q v H') : dE c W f σ H Q := dE_iff.mpr ⟨env, L, r, h⟩
theorem dT.of {f : FT} {Q : Bool → Hp → Prop} (r : RE c L σ H env) (h : dK c W L σ H env (f env) fun b _ H' => Q b H') : dT c W f σ H Q := dT_iff.mpr ⟨env, L, r, h⟩
end
theorem PEw {X : Cx} {e : Expr} {t t' : TE} (h : PE X e t) (k : ∀ σ H Q, t' σ H Q → t σ H Q) : PE X e t' := ⟨fun pins s σ H Q I q => h.run pins s σ H Q I (k σ H Q q)⟩
theorem PTw {X : Cx} {e : Expr} {t t' : TT} (h : PT X e t) (k : ∀ σ H Q, t' σ H Q → t σ H Q) : PT X e t' := ⟨fun pins s σ H Q I q => h.run pins s σ H Q I (k σ H Q q)⟩
theorem PWw {X : Cx} {e : Expr} {t t' : TT} (h : PW X e t) (k : ∀ σ H Q, t' σ H Q → t σ H Q) : PW X e t' := ⟨fun wh pins s σ H Q I q => h.run wh pins s σ H Q I (k σ H Q q)⟩
theorem PAw {X : Cx} {e : List Expr} {t t' : TA} (h : PA X e t) (k : ∀ σ H Q, t' σ H Q → t σ H Q) : PA X e t' := ⟨fun pos pins s σ H Q I q => h.run pos pins s σ H Q I (k σ H Q q)⟩
theorem PSw {X : Cx} {e : Stmt} {t t' : TS} (h : PS X e t) (k : ∀ D σ H, t' D σ H → t D σ H) : PS X e t' := ⟨fun pins s σ H D I q => h.run pins s σ H D I (k D σ H q)⟩
theorem PSsw {X : Cx} {e : List Stmt} {t t' : TS} (h : PSs X e t) (k : ∀ D σ H, t' D σ H → t D σ H) : PSs X e t' := ⟨fun pins s σ H D I q => h.run pins s σ H D I (k D σ H q)⟩

section
variable {c : Cc} {L L' N N' : Addr → Prop} {σ : St} {H : Hp} {env : En} {v : V} {t : T}
theorem RepC.in {K : PySem.W.Frag} {G : Addr → Prop} {H : Hp} : ∀ {As vs cs}, RepC K G H As vs cs → ∀ a ∈ As, ∃ xs, H a = some (.lst xs)
  | _, _, _, .nil, a, h => by cases h
  | _, _, _, .im _ rs, a, h => RepC.in rs a h
  | _, _, _, .fr n e r rs, a, h => by
    rcases List.mem_cons.mp h with rfl | h
    · exact ⟨_, e⟩
    · exact RepC.in rs a h
theorem RepC.mono {K : PySem.W.Frag} {G G' : Addr → Prop} {H H' : Hp} (k : TK H H') (g : ∀ a xs, G a → H a = some (.lst xs) → G' a ∧ H' a = some (.lst xs)) : ∀ {As vs cs}, RepC K G H As vs cs → (∀ a ∈ As, ∀ xs, H a = some (.lst xs) → H' a = some (.lst xs)) → RepC K G' H' As vs cs
  | _, _, _, .nil, _ => .nil
  | _, _, _, .im r rs, q => .im (r.mono k g) (RepC.mono k g rs q)
  | _, _, _, .fr n e r rs, q => .fr n (q _ List.mem_cons_self _ e) (r.mono k g) (RepC.mono k g rs fun a h => q a (List.mem_cons_of_mem _ h))
theorem RepC.reps {K : PySem.W.Frag} {G G' : Addr → Prop} {H : Hp} (g : ∀ a, G a → G' a) : ∀ {As vs cs}, RepC K G H As vs cs → (∀ a ∈ As, G' a) → Reps K G' H vs (cs.map Cp.d)
  | _, _, _, .nil, _ => .nil
  | _, _, _, .im r rs, q => .cons (r.mono (.refl H) fun a xs h e => ⟨g a h, e⟩) (RepC.reps g rs q)
  | _, _, _, .fr n e r rs, q => .cons (.lst (q _ List.mem_cons_self) e (r.mono (.refl H) fun a xs h e => ⟨g a h, e⟩)) (RepC.reps g rs fun a h => q a (List.mem_cons_of_mem _ h))
theorem RepT.less (l : ∀ a, L' a → L a) (n : ∀ a, N a → N' a) (h : RepT c L N σ H env v t) : RepT c L' N' σ H env v t := by
  cases t with
  | im d => exact Rep.mono (.refl H) (fun a xs g e => ⟨⟨fun z => g.1 (l a z), g.2⟩, e⟩) h
  | al i => exact h
  | fr ds =>
    obtain ⟨a, xs, e, e1, r, n1, n2, n3, q⟩ := h
    exact ⟨a, xs, e, e1, r.mono (.refl H) (fun b ys g e => ⟨⟨fun z => g.1 (z.imp (l b) id), g.2⟩, e⟩), fun z => n1 (l a z), n2, n a n3, q.less fun b z => z.imp (l b) id⟩
  | ft cs =>
    obtain ⟨t, vs, As, e, e1, r, n1, q⟩ := h
    exact ⟨t, vs, As, e, e1, r.mono (.refl H) (fun b ys g e => ⟨⟨fun z => g.1 (z.imp (l b) id), g.2⟩, e⟩) (fun _ _ _ e => e), fun a ha => ⟨fun z => (n1 a ha).1 (l a z), (n1 a ha).2.1, n a (n1 a ha).2.2⟩, q.less fun b z => z.imp (l b) id⟩
def T.weak : T → T
  | .fr ds => .im (.lst ds)
  | .ft cs => .im (.tup (cs.map Cp.d))
  | t => t
theorem RepT.wk (h : RepT c L N σ H env v t) : RepT c L N σ H env v t.weak := by
  cases t with
  | im d => exact h
  | al i => exact h
  | fr ds =>
    obtain ⟨a, xs, rfl, e1, r, n1, n2, n3, q⟩ := h
    exact .lst ⟨n1, (q.ext a (.inr rfl)).1⟩ e1 (r.mono (.refl H) fun b ys g e => ⟨⟨fun z => g.1 (.inl z), g.2⟩, e⟩)
  | ft cs =>
    obtain ⟨t, vs, As, rfl, e1, r, n1, q⟩ := h
    exact .tup e1 (r.reps (fun b g => ⟨fun z => g.1 (.inl z), g.2⟩) fun a ha => ⟨(n1 a ha).1, (q.ext a (.inr ha)).1⟩)
end
def T.val (t : T) (env : En) : Option D := match t with
  | .im d => some d
  | .al i => match env[i]? with
    | some (.own _ ds) => some (.lst ds)
    | _ => none
  | .fr ds => some (.lst ds)
  | .ft cs => some (.tup (cs.map Cp.d))
@[simp] theorem val_im (d : D) (env : En) : (T.im d).val env = some d := rfl
@[simp] theorem val_fr (ds : List D) (env : En) : (T.fr ds).val env = some (.lst ds) := rfl
@[simp] theorem val_ft (cs : List Cp) (env : En) : (T.ft cs).val env = some (.tup (cs.map Cp.d)) := rfl
def RepO (K : PySem.W.Frag) (G : Addr → Prop) (H : Hp) (v : V) : D → Prop
  | .lst ds => ∃ a xs, v = .ref a ∧ H a = some (.lst xs) ∧ Reps K G H xs ds
  | d => Rep K G H v d
theorem Rep.o {K : PySem.W.Frag} {G : Addr → Prop} {H : Hp} {v : V} {d : D} (h : Rep K G H v d) : RepO K G H v d := by
  cases d with
  | lst ds => cases h with | lst g e r => exact ⟨_, _, rfl, e, r⟩
  | non => exact h
  | bl b => exact h
  | int i => exact h
  | str x => exact h
  | tup xs => exact h
  | fz xs => exact h
  | dct ks xs => exact h
theorem RepO.any {K : PySem.W.Frag} {G : Addr → Prop} {H : Hp} {v : V} {d : D} (h : RepO K G H v d) : Rep K (fun _ => True) H v d := by
  have w : ∀ {v d}, Rep K G H v d → Rep K (fun _ => True) H v d := fun r => r.mono (.refl H) fun a xs _ e => ⟨trivial, e⟩
  have ws : ∀ {v d}, Reps K G H v d → Reps K (fun _ => True) H v d := fun r => r.mono (.refl H) fun a xs _ e => ⟨trivial, e⟩
  cases d with
  | lst ds => obtain ⟨a, xs, rfl, e, r⟩ := h; exact .lst trivial e (ws r)
  | non => exact w h
  | bl b => exact w h
  | int i => exact w h
  | str x => exact w h
  | tup xs => exact w h
  | fz xs => exact w h
  | dct ks xs => exact w h
section
variable {c : Cc} {L N : Addr → Prop} {σ : St} {H H1 : Hp} {env env1 : En} {v : V} {t : T} {d : D}
theorem RepT.opr (r : RE c L σ H env) (h : RepT c L N σ H env v t) (s : Stp σ env H σ env1 H1) (r1 : RE c L σ H1 env1) (e : t.val env1 = some d) : RepO c.K (Av L σ env1) H1 v d := by
  have h := h.wk
  cases t with
  | im d' => cases e; exact Rep.o (r.rep s h)
  | al i =>
    obtain ⟨⟨io, ds, e1⟩, e2⟩ := h
    cases q : env1[i]? with
    | none => simp [T.val, q] at e
    | some sl =>
      cases sl with
      | no => simp [T.val, q] at e
      | im d => simp [T.val, q] at e
      | own io' ds' =>
        simp [T.val, q] at e
        subst e
        obtain ⟨a, xs, e3, e4, r5, _⟩ := r1.own i io' ds' q
        rw [e2] at e3
        cases e3
        exact ⟨a, xs, rfl, e4, r5⟩
  | fr ds => cases e; exact Rep.o (r.rep s h)
  | ft cs => cases e; exact Rep.o (r.rep s h)
theorem RepT.opr0 (r : RE c L σ H env) (h : RepT c L N σ H env v t) (e : t.val env = some d) : RepO c.K (Av L σ env) H v d := h.opr r .refl r e
end
section
variable {X : Cx} {c : Cc} {W : WX} {pos : Pos}
def eVar (i : Nat) : FE := fun env => match env[i]? with
  | some (.im d) => .ok (.im d) env
  | some (.own _ _) => .ok (.al i) env
  | _ => .er
theorem de_var (i : Nat) {x : Str} (h : PE X (.Name x pos) (tVar i)) : PE X (.Name x pos) (dE c W (eVar i)) := by
  refine PEw h fun σ H Q h => ?_
  obtain ⟨env, L, r, h⟩ := dE_iff.mp h
  unfold eVar at h
  cases e : env[i]? with
  | none => rw [e] at h; exact h.elim
  | some s =>
    rw [e] at h
    cases s with
    | no => exact h.elim
    | im d =>
      obtain ⟨v, e1, q⟩ := r.im i d e
      exact ⟨v, e1, h H r .refl v q⟩
    | own io ds =>
      obtain ⟨a, xs, e1, q⟩ := r.own i io ds e
      exact ⟨_, e1, h H r .refl _ ⟨⟨io, ds, e⟩, e1⟩⟩
def eC (d : D) : FE := fun env => .ok (.im d) env
theorem de_c {e : Expr} {v : V} {d : D} (h : PE X e (tC v)) (k : ∀ G H, Rep c.K G H v d) : PE X e (dE c W (eC d)) := by
  refine PEw h fun σ H Q h => ?_
  obtain ⟨env, L, r, h⟩ := dE_iff.mp h
  exact h H r .refl v (k _ H)
theorem de_int {i : Int} {j} : PE X (.Constant (.int i) j pos) (dE c W (eC (.int i))) := de_c pe_int fun _ _ => .int i
theorem de_bl {b : Bool} {j} : PE X (.Constant (.bool b) j pos) (dE c W (eC (.bl b))) := de_c pe_bl fun _ _ => .bl b
theorem de_non {j} : PE X (.Constant .none j pos) (dE c W (eC .non)) := de_c pe_non fun _ _ => .non
theorem de_str {x : Str} {j} : PE X (.Constant (.str x) j pos) (dE c W (eC (.str x))) := de_c pe_str fun _ _ => .str x
end
def OpD (c : Cc) (r : R2) (g : D → D → Option T) : Prop := ∀ (L : Addr → Prop) (σ : St) (H : Hp) (env : En) (x y : V) (dx dy : D) (t : T) (Q : VK), RE c L σ H env → RepO c.K (Av L σ env) H x dx → RepO c.K (Av L σ env) H y dy → g dx dy = some t →
  (∀ v H', RE c L σ H' env → Stp σ env H σ env H' → RepT c L (Nn σ env H) σ H' env v t → Q v H') → r x y H Q
def UnD (c : Cc) (r : V → Hp → VK → Prop) (g : D → Option T) : Prop := ∀ (L : Addr → Prop) (σ : St) (H : Hp) (env : En) (x : V) (dx : D) (t : T) (Q : VK), RE c L σ H env → RepO c.K (Av L σ env) H x dx → g dx = some t →
  (∀ v H', RE c L σ H' env → Stp σ env H σ env H' → RepT c L (Nn σ env H) σ H' env v t → Q v H') → r x H Q
def R.opt {α : Type} (o : Option α) (env : En) : R α := match o with
  | some a => .ok a env
  | none => .er
@[simp] theorem opt_some {α : Type} (a : α) (env : En) : R.opt (some a) env = .ok a env := rfl
@[simp] theorem opt_none {α : Type} (env : En) : R.opt (none : Option α) env = .er := rfl
def op2 (g : D → D → Option T) (ta tb : T) (env : En) : R T := match ta.val env, tb.val env with
  | some x, some y => R.opt (g x y) env
  | _, _ => .er
def op1 (g : D → Option T) (ta : T) (env : En) : R T := match ta.val env with
  | some x => R.opt (g x) env
  | _ => .er
def eOp (g : D → D → Option T) (fa fb : FE) : FE := fun env => (fa env).bind fun ta e1 => (fb e1).bind fun tb e2 => op2 g ta tb e2
def eUn (g : D → Option T) (fa : FE) : FE := fun env => (fa env).bind fun ta e1 => op1 g ta e1
section
variable {X : Cx} {c : Cc} {W : WX} {pos : Pos} {a b : Expr} {fa fb : FE} {r : R2} {g : D → D → Option T}
theorem dK_op2 {L : Addr → Prop} {σ : St} {H : Hp} {env : En} {x y : V} {ta tb : T} {N1 N2 N : Addr → Prop} {Q : VK} (ho : OpD c r g) (re : RE c L σ H env) (hx : ∀ d, ta.val env = some d → RepO c.K (Av L σ env) H x d) (hy : ∀ d, tb.val env = some d → RepO c.K (Av L σ env) H y d)
    (n : ∀ a, Nn σ env H a → N a) (h : dK c W L σ H env (op2 g ta tb env) fun t env' H' => ∀ v, RepT c L N σ H' env' v t → Q v H') : r x y H Q := by
  unfold op2 at h
  cases ea : ta.val env with
  | none => rw [ea] at h; exact h.elim
  | some dx =>
    cases eb : tb.val env with
    | none => rw [ea, eb] at h; exact h.elim
    | some dy =>
      rw [ea, eb] at h
      cases eg : g dx dy with
      | none => simp only [eg] at h; exact h.elim
      | some t =>
        simp only [eg] at h
        exact ho L σ H env x y dx dy t Q re (hx _ ea) (hy _ eb) eg fun v H' re' s q => h H' re' s v (q.less (fun _ z => z) n)
theorem d_tOp (ho : OpD c r g) : ∀ σ H Q, dE c W (eOp g fa fb) σ H Q → tOp r (dE c W fa) (dE c W fb) σ H Q := fun σ H Q h => by
  obtain ⟨env, L, re, h⟩ := dE_iff.mp h
  refine dE.of re (h.bind.mono fun ta e1 H1 r1 s1 h1 x q1 => ?_)
  refine dE.of r1 (h1.bind.mono fun tb e2 H2 r2 s2 h2 y q2 => ?_)
  exact dK_op2 (W := W) (N1 := fun _ => True) (N2 := fun _ => True) ho r2 (fun d e => q1.opr r1 s2 r2 e) (fun d e => q2.opr0 r2 e) (fun a n => s1.back (s2.back n)) h2
theorem de_op {op : Operator} (hr : OpR X (binaryOp op) r) (ho : OpD c r g) (ha : PE X a (dE c W fa)) (hb : PE X b (dE c W fb)) : PE X (.BinOp a op b pos) (dE c W (eOp g fa fb)) :=
  PEw (pe_op hr ha hb) (d_tOp ho)
theorem de_cmp {op : CmpOp} (hr : OpR X (compareOp op) r) (ho : OpD c r g) (ha : PE X a (dE c W fa)) (hb : PE X b (dE c W fb)) (hm : behindInMarks op b = false) : PE X (.Compare a [op] [b] pos) (dE c W (eOp g fa fb)) :=
  PEw (pe_cmpR hr ha hb hm) (d_tOp ho)
theorem d_tUn {r : V → Hp → VK → Prop} {g : D → Option T} (ho : UnD c r g) : ∀ σ H Q, dE c W (eUn g fa) σ H Q → tUn r (dE c W fa) σ H Q := fun σ H Q h => by
  obtain ⟨env, L, re, h⟩ := dE_iff.mp h
  refine dE.of re (h.bind.mono fun ta e1 H1 r1 s1 h1 x q1 => ?_)
  unfold op1 at h1
  cases ea : ta.val e1 with
  | none => rw [ea] at h1; exact h1.elim
  | some dx =>
    rw [ea] at h1
    cases eg : g dx with
    | none => simp only [eg] at h1; exact h1.elim
    | some t =>
      simp only [eg] at h1
      exact ho L σ H1 e1 x dx t Q r1 (q1.opr0 r1 ea) eg fun v H' re' s q => h1 H' re' s v (q.less (fun _ z => z) fun a n => s1.back n)
theorem de_un {op : UnaryOp} {r : V → Hp → VK → Prop} {g : D → Option T} (hr : UnR X (unaryOp op) r) (ho : UnD c r g) (ha : PE X a (dE c W fa)) : PE X (.UnaryOp op a pos) (dE c W (eUn g fa)) := PEw (pe_un hr ha) (d_tUn ho)
end
end DL
namespace DL
open PySem PySem.Spec L2
section
variable {K : PySem.W.Frag} {G : Addr → Prop} {H : Hp} {v : V}
theorem RepO.int {i : Int} (h : RepO K G H v (.int i)) : v = .int i := by cases (show Rep K G H v (.int i) from h); rfl
theorem RepO.bl {i : Bool} (h : RepO K G H v (.bl i)) : v = .bl i := by cases (show Rep K G H v (.bl i) from h); rfl
theorem RepO.str {i : Str} (h : RepO K G H v (.str i)) : v = .str i := by cases (show Rep K G H v (.str i) from h); rfl
theorem RepO.non (h : RepO K G H v .non) : v = .non := by cases (show Rep K G H v .non from h); rfl
theorem RepO.tup {ds : List D} (h : RepO K G H v (.tup ds)) : ∃ a xs, v = .ref a ∧ SqT K H a xs ∧ Reps K G H xs ds := by
  cases (show Rep K G H v (.tup ds) from h) with
  | tup h1 r => exact ⟨_, _, rfl, h1, r⟩
theorem RepO.fz {ds : List D} (h : RepO K G H v (.fz ds)) : ∃ a xs, v = .ref a ∧ FzAt K H a xs ∧ Reps K G H xs ds := by
  cases (show Rep K G H v (.fz ds) from h) with
  | fz h1 r => exact ⟨_, _, rfl, h1, r⟩
theorem RepO.lst {ds : List D} (h : RepO K G H v (.lst ds)) : ∃ a xs, v = .ref a ∧ H a = some (.lst xs) ∧ Reps K G H xs ds := h
theorem not_non {d : D} (h : RepO K G H v d) (n : d ≠ .non) : v ≠ .non := by
  intro e
  subst e
  cases d with
  | non => exact n rfl
  | lst ds => obtain ⟨a, xs, e, _⟩ := h; cases e
  | bl b => cases h
  | int i => cases h
  | str x => cases h
  | tup xs => cases h
  | fz xs => cases h
  | dct _ _ => cases h
end
theorem OpD.or {c : Cc} {r r' : R2} {g g' : D → D → Option T} (h : OpD c r g) (h' : OpD c r' g') : OpD c (fun x y H Q => r x y H Q ∨ r' x y H Q) (fun x y => match g x y with
  | some t => some t
  | none => g' x y) := fun L σ H env x y dx dy t Q re hx hy e k => by
  cases q : g dx dy with
  | some t' =>
    simp only [q] at e
    cases e
    exact .inl (h L σ H env x y dx dy _ Q re hx hy q k)
  | none =>
    simp only [q] at e
    exact .inr (h' L σ H env x y dx dy _ Q re hx hy e k)
theorem new_tup {c : Cc} {L : Addr → Prop} {σ : St} {H : Hp} {env : En} {Q : VK} {xs : List V} {ds : List D} (re : RE c L σ H env) (r : Reps c.K (Av L σ env) H xs ds) (k : ∀ v H', RE c L σ H' env → Stp σ env H σ env H' → RepT c L (Nn σ env H) σ H' env v (.im (.tup ds)) → Q v H') :
    ∀ p, H p = none → Q (.ref p) (upd H p (.tup xs)) := fun p n => by
  have kp : ∀ b o, H b = some o → upd H p (.tup xs) b = some o := fun b o e => by rw [upd_ne (ne_of_none e n)]; exact e
  exact k _ _ (re.grow kp) (.grow kp) (.tup (.inl (.inl upd_same)) (re.reps (.grow kp) r))
theorem RE.newL {c : Cc} {L : Addr → Prop} {σ : St} {H : Hp} {env : En} {xs : List V} {ds : List D} (re : RE c L σ H env) (r : Reps c.K (Av L σ env) H xs ds) {p : Addr} (n : H p = none) :
    RE c L σ (upd H p (.lst xs)) env ∧ Stp σ env H σ env (upd H p (.lst xs)) ∧ RepT c L (Nn σ env H) σ (upd H p (.lst xs)) env (.ref p) (.fr ds) := by
  have kp : ∀ b o, H b = some o → upd H p (.lst xs) b = some o := fun b o e => by rw [upd_ne (ne_of_none e n)]; exact e
  have r2 : RE c (fun b => L b ∨ b = p) σ (upd H p (.lst xs)) env := re.more kp n upd_same
  refine ⟨re.grow kp, .grow kp, p, xs, rfl, upd_same, ?_, fun l => ?_, ?_, .inr n, r2⟩
  · exact r.mono (re.tk (.grow kp)) fun b ys g e => ⟨⟨fun z => z.elim g.1 (fun z => by rw [z, n] at e; cases e), g.2⟩, kp _ _ e⟩
  · obtain ⟨_, ys, e⟩ := re.ext p l
    rw [n] at e
    cases e
  · cases e : c.H0 p with
    | none => rfl
    | some o =>
      by_cases i : c.Io p
      · obtain ⟨ys, q⟩ := re.io p i
        rw [n] at q
        cases q
      · have q := re.fr p o i e
        rw [n] at q
        cases q
@[simp] def dAdd : D → D → Option T
  | .int i, .int j => some (.im (.int (i + j)))
  | .str x, .str y => if x.length + y.length ≤ sizeLine then some (.im (.str (x ++ y))) else none
  | .tup xs, .tup ys => if xs.length + ys.length ≤ 1000000 then some (.im (.tup (xs ++ ys))) else none
  | .lst xs, .lst ys => if xs.length + ys.length ≤ 1000000 then some (.fr (xs ++ ys)) else none
  | _, _ => none
@[simp] def dSub : D → D → Option T
  | .int i, .int j => some (.im (.int (i - j)))
  | _, _ => none
@[simp] def dMul : D → D → Option T
  | .int i, .int j => if (-(2 ^ 64) < i ∧ i < 2 ^ 64) ∨ (-(2 ^ 64) < j ∧ j < 2 ^ 64) then some (.im (.int (i * j))) else none
  | _, _ => none
@[simp] def dFdiv : D → D → Option T
  | .int i, .int j => if 0 < j ∧ j < 1073741824 then some (.im (.int (i / j))) else none
  | _, _ => none
@[simp] def dMod : D → D → Option T
  | .int i, .int j => if 0 < j then some (.im (.int (i % j))) else none
  | _, _ => none
@[simp] def dPow : D → D → Option T
  | .int i, .int j => if 0 ≤ j ∧ j ≤ 1000000 ∧ i.natAbs < 2 ^ 64 then some (.im (.int (i ^ j.toNat))) else none
  | _, _ => none
@[simp] def dNeg : D → Option T
  | .int i => some (.im (.int (-i)))
  | _ => none
@[simp] def dLt : D → D → Option T
  | .int i, .int j => some (.im (.bl (decide (i < j))))
  | _, _ => none
@[simp] def dLe : D → D → Option T
  | .int i, .int j => some (.im (.bl (decide (i ≤ j))))
  | _, _ => none
@[simp] def dGt : D → D → Option T
  | .int i, .int j => some (.im (.bl (decide (j < i))))
  | _, _ => none
@[simp] def dGe : D → D → Option T
  | .int i, .int j => some (.im (.bl (decide (j ≤ i))))
  | _, _ => none
theorem line6 {n : Nat} (h : n ≤ 1000000) : n ≤ sizeLine := Nat.le_trans h (by rw [sizeLine_eq]; decide)
section
variable {X : Cx} {c : Cc}
theorem opd_I {C : Int → Int → Prop} {gv : Int → Int → V} {g : D → D → Option T} (h : ∀ x y t, g x y = some t → ∃ i j d, x = .int i ∧ y = .int j ∧ C i j ∧ t = .im d ∧ ∀ G H, Rep c.K G H (gv i j) d) : OpD c (rI C gv) g := by
  intro L σ H env x y dx dy t Q re hx hy e k
  obtain ⟨i, j, d, rfl, rfl, hc, rfl, r⟩ := h dx dy t e
  exact ⟨i, j, hx.int, hy.int, hc, k _ H re .refl (r _ _)⟩
theorem opd_I0 {gv : Int → Int → V} {g : D → D → Option T} (h : ∀ x y t, g x y = some t → ∃ i j d, x = .int i ∧ y = .int j ∧ t = .im d ∧ ∀ G H, Rep c.K G H (gv i j) d) : OpD c (rI0 gv) g := by
  intro L σ H env x y dx dy t Q re hx hy e k
  obtain ⟨i, j, d, rfl, rfl, rfl, r⟩ := h dx dy t e
  exact ⟨i, j, hx.int, hy.int, k _ H re .refl (r _ _)⟩
theorem d_sub : OpD c (rI0 fun i j => .int (i - j)) dSub := opd_I0 fun x y t h => by
  cases x <;> cases y <;> simp at h
  exact ⟨_, _, _, rfl, rfl, h.symm, fun _ _ => .int _⟩
theorem d_lt : OpD c (rI0 fun i j => .bl (decide (i < j))) dLt := opd_I0 fun x y t h => by
  cases x <;> cases y <;> simp at h
  exact ⟨_, _, _, rfl, rfl, h.symm, fun _ _ => .bl _⟩
theorem d_le : OpD c (rI0 fun i j => .bl (decide (i ≤ j))) dLe := opd_I0 fun x y t h => by
  cases x <;> cases y <;> simp at h
  exact ⟨_, _, _, rfl, rfl, h.symm, fun _ _ => .bl _⟩
theorem d_gt : OpD c (rI0 fun i j => .bl (decide (j < i))) dGt := opd_I0 fun x y t h => by
  cases x <;> cases y <;> simp at h
  exact ⟨_, _, _, rfl, rfl, h.symm, fun _ _ => .bl _⟩
theorem d_ge : OpD c (rI0 fun i j => .bl (decide (j ≤ i))) dGe := opd_I0 fun x y t h => by
  cases x <;> cases y <;> simp at h
  exact ⟨_, _, _, rfl, rfl, h.symm, fun _ _ => .bl _⟩
theorem d_mul : OpD c (rI CMul fun i j => .int (i * j)) dMul := opd_I fun x y t h => by
  cases x <;> cases y <;> simp only [dMul] at h <;> try (cases h; done)
  split at h
  · rename_i q
    exact ⟨_, _, _, rfl, rfl, q, (Option.some.inj h).symm, fun _ _ => .int _⟩
  · cases h
theorem d_fdiv : OpD c (rI CDiv fun i j => .int (i / j)) dFdiv := opd_I fun x y t h => by
  cases x <;> cases y <;> simp only [dFdiv] at h <;> try (cases h; done)
  split at h
  · rename_i q
    exact ⟨_, _, _, rfl, rfl, q, (Option.some.inj h).symm, fun _ _ => .int _⟩
  · cases h
theorem d_mod : OpD c (rI (fun _ j => 0 < j) fun i j => .int (i % j)) dMod := opd_I fun x y t h => by
  cases x <;> cases y <;> simp only [dMod] at h <;> try (cases h; done)
  split at h
  · rename_i q
    exact ⟨_, _, _, rfl, rfl, q, (Option.some.inj h).symm, fun _ _ => .int _⟩
  · cases h
theorem d_pow : OpD c (rI CPow fun i j => .int (i ^ j.toNat)) dPow := opd_I fun x y t h => by
  cases x <;> cases y <;> simp only [dPow] at h <;> try (cases h; done)
  split at h
  · rename_i q
    exact ⟨_, _, _, rfl, rfl, q, (Option.some.inj h).symm, fun _ _ => .int _⟩
  · cases h
theorem d_neg : UnD c (rU fun i => .int (-i)) dNeg := by
  intro L σ H env x dx t Q re hx e k
  cases dx <;> simp at e
  subst e
  exact ⟨_, hx.int, k _ H re .refl (.int _)⟩
abbrev rAddA (K : PySem.W.Frag) : R2 := fun x y H Q => rI0 (fun i j => .int (i + j)) x y H Q ∨ ((∃ i j, x = .str i ∧ y = .str j ∧ i.length + j.length ≤ sizeLine ∧ Q (.str (i ++ j)) H) ∨ (rCatA K x y H Q ∨ rCat x y H Q))
theorem op_addA : OpR X (binaryOp .Add) (rAddA X.K) := op_add.or (op_add_str.or (op_catA.or op_cat))
theorem d_add : OpD c (rAddA c.K) dAdd := by
  intro L σ H env x y dx dy t Q re hx hy e k
  cases dx <;> cases dy <;> simp only [dAdd] at e <;> try (cases e; done)
  · cases e
    exact .inl ⟨_, _, hx.int, hy.int, k _ H re .refl (.int _)⟩
  · split at e
    · rename_i q
      cases e
      exact .inr (.inl ⟨_, _, hx.str, hy.str, q, k _ H re .refl (.str _)⟩)
    · cases e
  · split at e
    · rename_i q
      cases e
      obtain ⟨a, xs, rfl, h1, r1⟩ := hx.tup
      obtain ⟨b, ys, rfl, h2, r2⟩ := hy.tup
      refine .inr (.inr (.inl ⟨a, b, xs, ys, rfl, rfl, h1, h2, ?_, fun z => ?_, fun _ z => ?_, fun _ _ => new_tup re (r1.append r2) k⟩))
      · rw [r1.length, r2.length]
        exact line6 q
      · subst z
        cases r1
        exact k _ H re .refl (.tup h2 r2)
      · subst z
        cases r2
        rw [List.append_nil] at k
        exact k _ H re .refl (.tup h1 r1)
    · cases e
  · split at e
    · rename_i q
      cases e
      obtain ⟨a, xs, rfl, h1, r1⟩ := hx.lst
      obtain ⟨b, ys, rfl, h2, r2⟩ := hy.lst
      refine .inr (.inr (.inr ⟨a, b, xs, ys, rfl, rfl, h1, h2, ?_, fun p n => ?_⟩))
      · rw [r1.length, r2.length]
        exact line6 q
      · obtain ⟨q1, q2, q3⟩ := re.newL (r1.append r2) n
        exact k _ _ q1 q2 q3
    · cases e
end
def dIx : D → D → Option T
  | .tup xs, .int i => (atI xs i).map .im
  | .lst xs, .int i => (atI xs i).map .im
  | .fz xs, .int i => (atI xs i).map .im
  | .str z, .int i => if z.length ≤ 1000000 then (atI z.cps.toList i).map fun c => .im (.str ⟨#[c]⟩) else none
  | _, _ => none
theorem atI_reps {K : PySem.W.Frag} {G : Addr → Prop} {H : Hp} {xs : List V} {ds : List D} {i : Int} {d : D} (r : Reps K G H xs ds) (h : atI ds i = some d) : ∃ v, atI xs i = some v ∧ Rep K G H v d := by
  unfold atI at h ⊢
  rw [r.length]
  cases e : ixN ds.length i with
  | none => rw [e] at h; cases h
  | some j =>
    rw [e] at h
    exact r.get h
section
variable {X : Cx} {c : Cc} {W : WX} {pos : Pos} {a b : Expr} {fa fb : FE}
theorem d_ix : OpD c (rIx c.K) dIx := by
  intro L σ H env x y dx dy t Q re hx hy e k
  cases dx <;> cases dy <;> simp only [dIx] at e <;> try (cases e; done)
  · split at e
    · rename_i hz
      obtain ⟨cc, e1, rfl⟩ := Option.map_eq_some_iff.mp e
      exact .inr (.inr ⟨_, _, cc, hx.str, hy.int, line6 hz, e1, k _ H re .refl (.str _)⟩)
    · cases e
  · obtain ⟨a, xs, rfl, h1, r1⟩ := hx.tup
    obtain ⟨d, e1, rfl⟩ := Option.map_eq_some_iff.mp e
    obtain ⟨v, e2, r⟩ := atI_reps r1 e1
    exact .inr (.inl ⟨a, xs, _, v, rfl, hy.int, h1, e2, k _ H re .refl r⟩)
  · obtain ⟨a, xs, rfl, h1, r1⟩ := hx.lst
    obtain ⟨d, e1, rfl⟩ := Option.map_eq_some_iff.mp e
    obtain ⟨v, e2, r⟩ := atI_reps r1 e1
    exact .inl ⟨a, xs, _, v, rfl, hy.int, .of h1, e2, k _ H re .refl r⟩
  · obtain ⟨a, xs, rfl, h1, r1⟩ := hx.fz
    obtain ⟨d, e1, rfl⟩ := Option.map_eq_some_iff.mp e
    obtain ⟨v, e2, r⟩ := atI_reps r1 e1
    exact .inl ⟨a, xs, _, v, rfl, hy.int, h1.sql, e2, k _ H re .refl r⟩
theorem de_ix (ha : PE X a (dE c W fa)) (hb : PE X b (dE c W fb)) (hs : PlainIx b) (hK : c.K = X.K := by rfl) : PE X (.Subscript a b pos) (dE c W (eOp dIx fa fb)) :=
  PEw (pe_ix ix_seq ha hb hs) (by have q := d_tOp (W := W) (fa := fa) (fb := fb) (d_ix (c := c)); rw [hK] at q; exact q)
end
end DL
namespace DL
open PySem PySem.Spec L2
abbrev Lu (L : Addr → Prop) (As : List Addr) : Addr → Prop := fun b => L b ∨ b ∈ As
inductive RepAs (K : PySem.W.Frag) (G : Addr → Prop) (σ : St) (H : Hp) (env : En) : List Addr → List V → List T → Prop
  | nil : RepAs K G σ H env [] [] []
  | im {As v d vs ts} (r : Rep K G H v d) (rs : RepAs K G σ H env As vs ts) : RepAs K G σ H env As (v :: vs) (.im d :: ts)
  | al {As v i vs ts} (o : ∃ (io : Bool) (ds : List D), env[i]? = some (Sl.own io ds)) (e : σ[i]? = some (some v)) (rs : RepAs K G σ H env As vs ts) : RepAs K G σ H env As (v :: vs) (.al i :: ts)
  | fr {As a xs ds vs ts} (n : a ∉ As) (e : H a = some (.lst xs)) (r : Reps K G H xs ds) (rs : RepAs K G σ H env As vs ts) : RepAs K G σ H env (a :: As) (.ref a :: vs) (.fr ds :: ts)
def dA (c : Cc) (W : WX) (f : FA) : TA := fun σ H Q => ∃ env L, RE c L σ H env ∧ dK c W L σ H env (f env) fun ts env' H' => ∀ vs As, RepAs c.K (Av (Lu L As) σ env') σ H' env' As vs ts → (∀ a ∈ As, ¬ L a ∧ c.H0 a = none ∧ Nn σ env H a) → RE c (Lu L As) σ H' env' → Q vs H'
theorem dA.of {c : Cc} {W : WX} {L : Addr → Prop} {σ : St} {H : Hp} {env : En} {f : FA} {Q : List V → Hp → Prop} (r : RE c L σ H env) (h : dK c W L σ H env (f env) fun ts env' H' => ∀ vs As, RepAs c.K (Av (Lu L As) σ env') σ H' env' As vs ts → (∀ a ∈ As, ¬ L a ∧ c.H0 a = none ∧ Nn σ env H a) → RE c (Lu L As) σ H' env' → Q vs H') : dA c W f σ H Q := ⟨env, L, r, h⟩
def aNil : FA := fun env => .ok [] env
def consT (t : T) (ts : List T) (e2 : En) : R (List T) := match t with
  | .al i => match e2[i]? with
    | some (.own _ _) => .ok (.al i :: ts) e2
    | _ => .er
  | .ft cs => .ok (.im (.tup (cs.map Cp.d)) :: ts) e2
  | .im d => .ok (.im d :: ts) e2
  | .fr ds => .ok (.fr ds :: ts) e2
def aCons (fa : FE) (fr : FA) : FA := fun env => (fa env).bind fun t e1 => (fr e1).bind fun ts e2 => consT t ts e2
section
variable {X : Cx} {c : Cc} {W : WX} {e : Expr} {es : List Expr} {fa : FE} {fr : FA}
theorem da_nil : PA X [] (dA c W aNil) := PAw pa_nil fun σ H Q h => by
  obtain ⟨env, L, r, h⟩ := h
  exact h H r .refl [] [] .nil (fun a z => by cases z) (r.less fun a z => z.elim id fun z => by cases z)
theorem Rep.past {L : Addr → Prop} {As : List Addr} {σ : St} {H H1 : Hp} {env env1 : En} {v : V} {d : D} (r : RE c L σ H env) (s : Stp σ env H σ env1 H1) (h : Rep c.K (Av L σ env) H v d) (n : ∀ a ∈ As, Nn σ env H a) : Rep c.K (Av (Lu L As) σ env1) H1 v d :=
  h.mono (r.tk s) fun a xs g e => by
    obtain ⟨e1, n1⟩ := s a (Nn.not e g.2)
    exact ⟨⟨fun z => z.elim g.1 (fun z => (n a z).elim g.2 (fun q => by rw [q] at e; cases e)), fun z => n1 (.inl z)⟩, e1.trans e⟩
theorem Reps.past {L : Addr → Prop} {As : List Addr} {σ : St} {H H1 : Hp} {env env1 : En} {v : List V} {d : List D} (r : RE c L σ H env) (s : Stp σ env H σ env1 H1) (h : Reps c.K (Av L σ env) H v d) (n : ∀ a ∈ As, Nn σ env H a) : Reps c.K (Av (Lu L As) σ env1) H1 v d :=
  h.mono (r.tk s) fun a xs g e => by
    obtain ⟨e1, n1⟩ := s a (Nn.not e g.2)
    exact ⟨⟨fun z => z.elim g.1 (fun z => (n a z).elim g.2 (fun q => by rw [q] at e; cases e)), fun z => n1 (.inl z)⟩, e1.trans e⟩
theorem d_aCons : ∀ σ H Q, dA c W (aCons fa fr) σ H Q → tCons (dE c W fa) (dA c W fr) σ H Q := fun σ H Q h => by
  obtain ⟨env, L, r, h⟩ := h
  refine dE.of r (h.bind.mono fun t e1 H1 r1 s1 h1 x q1 => ?_)
  -- the first is data
  have asIm : ∀ d, (∀ ts e2, consT t ts e2 = R.ok (T.im d :: ts) e2) → Rep c.K (Av L σ e1) H1 x d → dA c W fr σ H1 fun xs H2 => Q (x :: xs) H2 := fun d hm q => by
    refine dA.of r1 (h1.bind.mono fun ts e2 H2 r2 s2 h2 vs As q2 n2 r3 => ?_)
    rw [hm ts e2] at h2
    exact h2 H2 r2 .refl (x :: vs) As (.im (q.past r1 s2 fun a z => (n2 a z).2.2) q2) (fun a z => ⟨(n2 a z).1, (n2 a z).2.1, s1.back (n2 a z).2.2⟩) r3
  cases t with
  | im d => exact asIm d (fun _ _ => rfl) q1
  | ft cs => exact asIm _ (fun _ _ => rfl) q1.wk
  | al i =>
    refine dA.of r1 (h1.bind.mono fun ts e2 H2 r2 s2 h2 vs As q2 n2 r3 => ?_)
    cases q : e2[i]? with
    | none => simp only [consT, q] at h2; exact h2.elim
    | some s =>
      cases s with
      | no => simp only [consT, q] at h2; exact h2.elim
      | im d => simp only [consT, q] at h2; exact h2.elim
      | own io ds =>
        simp only [consT, q] at h2
        exact h2 H2 r2 .refl (x :: vs) As (.al ⟨io, ds, q⟩ q1.2 q2) (fun a z => ⟨(n2 a z).1, (n2 a z).2.1, s1.back (n2 a z).2.2⟩) r3
  | fr ds =>
    obtain ⟨a, xs, rfl, ea, ra, na, h0, nn, rL⟩ := q1
    refine dA.of rL ((h1.less (L' := fun b => L b ∨ b = a) fun b z => .inl z).bind.mono fun ts e2 H2 r2 s2 h2 vs As q2 n2 r3 => ?_)
    have e2a : H2 a = some (.lst xs) := (s2 a (Nn.not ea (rL.ext a (.inr rfl)).1)).1.trans ea
    have na2 : a ∉ As := fun z => (n2 a z).1 (.inr rfl)
    have key : ∀ b, Lu (fun b => L b ∨ b = a) As b ↔ Lu L (a :: As) b := fun b => by simp [Lu, or_assoc]
    have q2' : RepAs c.K (Av (Lu L (a :: As)) σ e2) σ H2 e2 As vs ts := by
      have : Av (Lu (fun b => L b ∨ b = a) As) σ e2 = Av (Lu L (a :: As)) σ e2 := by funext b; simp [Av, key b]
      rw [← this]; exact q2
    have ra' : Reps c.K (Av (Lu L (a :: As)) σ e2) H2 xs ds := by
      have : Av (Lu (fun b => L b ∨ b = a) As) σ e2 = Av (Lu L (a :: As)) σ e2 := by funext b; simp [Av, key b]
      rw [← this]; exact ra.past rL s2 fun b z => (n2 b z).2.2
    have r3' : RE c (Lu L (a :: As)) σ H2 e2 := r3.less fun b z => (key b).mpr z
    refine h2 H2 r2 .refl (.ref a :: vs) (a :: As) (.fr na2 e2a ra' q2') (fun b z => ?_) r3'
    rcases List.mem_cons.mp z with rfl | z
    · exact ⟨na, h0, nn⟩
    · exact ⟨fun l => (n2 b z).1 (.inl l), (n2 b z).2.1, s1.back (n2 b z).2.2⟩
theorem da_cons (ha : PE X e (dE c W fa)) (hr : PA X es (dA c W fr)) (hs : starEach (e :: es) X.env = (false, eval e X.env) :: starEach es X.env := by rfl) : PA X (e :: es) (dA c W (aCons fa fr)) := PAw (pa_cons ha hr hs) d_aCons
end
def vals (env : En) : List T → Option (List D)
  | [] => some []
  | t :: ts => match t.val env, vals env ts with
    | some d, some ds => some (d :: ds)
    | _, _ => none
inductive RepOs (K : PySem.W.Frag) (G : Addr → Prop) (H : Hp) : List V → List D → Prop
  | nil : RepOs K G H [] []
  | cons {v d vs ds} (r : RepO K G H v d) (rs : RepOs K G H vs ds) : RepOs K G H (v :: vs) (d :: ds)
section
variable {c : Cc} {L : Addr → Prop} {σ : St} {H : Hp} {env : En}
theorem RepAs.oprs {As0 : List Addr} : ∀ {As vs ts ds}, RepAs c.K (Av (Lu L As0) σ env) σ H env As vs ts → RE c L σ H env → RE c (Lu L As0) σ H env → (∀ a ∈ As, a ∈ As0 ∧ ¬ L a) → vals env ts = some ds → RepOs c.K (Av L σ env) H vs ds
  | _, _, _, ds, .nil, _, _, _, e => by cases e; exact .nil
  | _, _, _, ds, .im (d := d) (ts := ts) r rs, h, h2, n, e => by
    simp only [vals, val_im] at e
    cases q : vals env ts with
    | none => rw [q] at e; cases e
    | some es =>
      rw [q] at e
      cases e
      exact .cons (Rep.o (r.mono (.refl H) fun a xs g e => ⟨⟨fun z => g.1 (.inl z), g.2⟩, e⟩)) (RepAs.oprs rs h h2 n q)
  | _, _, _, ds, .al (i := i) (ts := ts) o es rs, h, h2, n, e => by
    simp only [vals] at e
    cases q : vals env ts with
    | none => rw [q] at e; split at e <;> cases e <;> simp_all
    | some es' =>
      cases qv : (T.al i).val env with
      | none => rw [qv] at e; cases e
      | some dv =>
        rw [q, qv] at e
        cases e
        exact .cons (RepT.opr0 (N := fun _ => True) h (t := .al i) ⟨o, es⟩ qv) (RepAs.oprs rs h h2 n q)
  | _, _, _, ds, .fr (a := a) (ts := ts) na ea r rs, h, h2, n, e => by
    simp only [vals, val_fr] at e
    cases q : vals env ts with
    | none => rw [q] at e; cases e
    | some es =>
      rw [q] at e
      cases e
      exact .cons ⟨a, _, rfl, ea, r.mono (.refl H) fun b xs g e => ⟨⟨fun z => g.1 (.inl z), g.2⟩, e⟩⟩ (RepAs.oprs rs h h2 (fun b z => n b (List.mem_cons_of_mem _ z)) q)
end
def CallD (c : Cc) (r : List V → Hp → VK → Prop) (g : List D → Option T) : Prop := ∀ (L : Addr → Prop) (σ : St) (H : Hp) (env : En) (xs : List V) (ds : List D) (t : T) (Q : VK), RE c L σ H env → RepOs c.K (Av L σ env) H xs ds → g ds = some t →
  (∀ v H', RE c L σ H' env → Stp σ env H σ env H' → RepT c L (Nn σ env H) σ H' env v t → Q v H') → r xs H Q
def opL (g : List D → Option T) (ts : List T) (env : En) : R T := match vals env ts with
  | some ds => R.opt (g ds) env
  | none => .er
def eB (g : List D → Option T) (fa : FA) : FE := fun env => (fa env).bind fun ts e1 => opL g ts e1
section
variable {X : Cx} {c : Cc} {W : WX} {pos p : Pos} {x : Str} {e : Expr} {es : List Expr} {fa : FA} {r : List V → Hp → VK → Prop} {g : List D → Option T} {id Ty : String}
theorem d_tCB (ho : CallD c r g) : ∀ σ H Q, dE c W (eB g fa) σ H Q → tCB r (dA c W fa) σ H Q := fun σ H Q h => by
  obtain ⟨env, L, re, h⟩ := dE_iff.mp h
  refine dA.of re (h.bind.mono fun ts e1 H1 r1 s1 h1 vs As q n r2 => ?_)
  unfold opL at h1
  cases ev : vals e1 ts with
  | none => rw [ev] at h1; exact h1.elim
  | some ds =>
    rw [ev] at h1
    cases eg : g ds with
    | none => simp only [eg] at h1; exact h1.elim
    | some t =>
      simp only [eg] at h1
      exact ho L σ H1 e1 vs ds t Q r1 (q.oprs r1 r2 (fun a z => ⟨z, (n a z).1⟩) ev) eg fun v H' re' s q => h1 H' re' s v (q.less (fun _ z => z) fun a n => s1.back n)
theorem de_b (ho : CallD c r g) (hc : CallR X (.builtin id) r) (hg : Gl X x) (hm : X.mg x = none) (hv : bootBuiltins x = some (.builtin id)) (ha : PA X (e :: es) (dA c W fa)) (hn : x ≠ "__name__" := by decide) (hdb : (x == ("__debug__" : Str)) = false := by decide)
    (he : starEach (e :: es) X.env = (false, eval e X.env) :: starEach es X.env := by rfl) (hpl : (backTo pos (starEach es X.env)).any (·.1) = false := by rfl) : PE X (.Call (.Name x p) (e :: es) [] pos) (dE c W (eB g fa)) :=
  PEw (pe_callB hc hg hm hv ha hn hdb he hpl) (d_tCB ho)
theorem de_ty (ho : CallD c r g) (hc : CallR X (.type Ty) r) (hg : Gl X x) (hm : X.mg x = none) (hv : bootBuiltins x = some (.type Ty)) (ha : PA X (e :: es) (dA c W fa)) (hn : x ≠ "__name__" := by decide) (hdb : (x == ("__debug__" : Str)) = false := by decide)
    (he : starEach (e :: es) X.env = (false, eval e X.env) :: starEach es X.env := by rfl) (hpl : (backTo pos (starEach es X.env)).any (·.1) = false := by rfl) : PE X (.Call (.Name x p) (e :: es) [] pos) (dE c W (eB g fa)) :=
  PEw (pe_callTy hc hg hm hv ha hn hdb he hpl) (d_tCB ho)
end
end DL
namespace DL
open PySem PySem.Spec L2
def mvs : List T → En → Option (List Cp × En)
  | [], env => some ([], env)
  | .im d :: ts, env => match mvs ts env with
    | some (cs, e) => some (⟨false, d⟩ :: cs, e)
    | none => none
  | .fr ds :: ts, env => match mvs ts env with
    | some (cs, e) => some (⟨true, .lst ds⟩ :: cs, e)
    | none => none
  | .al i :: ts, env => match env[i]? with
    | some (.own false ds) => match mvs ts (env.set i .no) with
      | some (cs, e) => some (⟨true, .lst ds⟩ :: cs, e)
      | none => none
    | _ => none
  | .ft _ :: _, _ => none
@[simp] theorem mvs_nil (env : En) : mvs [] env = some ([], env) := rfl
@[simp] theorem mvs_im (d : D) (ts : List T) (env : En) : mvs (.im d :: ts) env = (match mvs ts env with | some (cs, e) => some (⟨false, d⟩ :: cs, e) | none => none) := rfl
@[simp] theorem mvs_fr (d : List D) (ts : List T) (env : En) : mvs (.fr d :: ts) env = (match mvs ts env with | some (cs, e) => some (⟨true, .lst d⟩ :: cs, e) | none => none) := rfl
theorem own_set_no {σ : St} {env : En} {i : Nat} {b : Addr} (h : ownM σ (env.set i .no) b) : ownM σ env b ∧ ∃ (j : Nat) (io : Bool) (ds : List D), j ≠ i ∧ env[j]? = some (Sl.own io ds) ∧ σ[j]? = some (some (V.ref b)) := by
  obtain ⟨j, io, ds, e1, e2⟩ := h
  by_cases q : i = j
  · subst q
    rw [List.getElem?_set] at e1
    simp at e1
  · rw [List.getElem?_set_ne q] at e1
    exact ⟨⟨j, io, ds, e1, e2⟩, j, io, ds, fun z => q z.symm, e1, e2⟩
theorem own_keep {σ : St} {env : En} {i : Nat} {a b : Addr} (h : ownM σ env b) (n : b ≠ a) (s : σ[i]? = some (some (V.ref a))) : ownM σ (env.set i .no) b := by
  obtain ⟨j, io, ds, e1, e2⟩ := h
  have q : i ≠ j := fun q => by
    subst q
    rw [s] at e2
    cases e2
    exact n rfl
  exact ⟨j, io, ds, by rw [List.getElem?_set_ne q]; exact e1, e2⟩
theorem get_set_no {env : En} {i j : Nat} {s : Sl} (h : (env.set i .no)[j]? = some s) (n : s ≠ .no) : j ≠ i ∧ env[j]? = some s := by
  by_cases q : i = j
  · subst q
    rw [List.getElem?_set] at h
    simp at h
    exact absurd h.2.symm n
  · rw [List.getElem?_set_ne q] at h
    exact ⟨fun z => q z.symm, h⟩
theorem RE.drop {c : Cc} {L : Addr → Prop} {σ : St} {H : Hp} {env : En} {i : Nat} {ds : List D} {a : Addr} {io : Bool} (h : RE c L σ H env) (e : env[i]? = some (Sl.own io ds)) (s : σ[i]? = some (some (V.ref a))) : RE c (fun b => L b ∨ b = a) σ H (env.set i .no) ∧ Stp σ env H σ (env.set i .no) H := by
  have na : ¬ ownM σ (env.set i .no) a := fun z => by
    obtain ⟨_, j, jo, es, n, e1, e2⟩ := own_set_no z
    exact n (h.inj j i jo io es ds a e1 e e2 s)
  have oa : ownM σ env a := ⟨i, io, ds, e, s⟩
  have av : ∀ b, Av L σ env b → Av (fun b => L b ∨ b = a) σ (env.set i .no) b := fun b g => ⟨fun z => z.elim g.1 fun z => g.2 (by rw [z]; exact oa), fun z => g.2 (own_set_no z).1⟩
  refine ⟨⟨by rw [List.length_set]; exact h.len, fun j d q => ?_, fun j jo es q => ?_, fun j k jo ko ds es a q1 q2 q3 q4 => ?_, fun b lb => ?_, h.fr, h.io⟩, fun b n => ⟨rfl, fun z => n (z.imp (fun z => (own_set_no z).1) id)⟩⟩
  · obtain ⟨v, e1, r⟩ := h.im j d (get_set_no q (fun z => nomatch z)).2
    exact ⟨v, e1, r.mono (.refl H) fun b xs g q => ⟨av b g, q⟩⟩
  · obtain ⟨b, xs, e1, e2, r, z⟩ := h.own j jo es (get_set_no q (fun z => nomatch z)).2
    exact ⟨b, xs, e1, e2, r.mono (.refl H) fun b xs g q => ⟨av b g, q⟩, z⟩
  · exact h.inj j k jo ko ds es a (get_set_no q1 (fun z => nomatch z)).2 (get_set_no q2 (fun z => nomatch z)).2 q3 q4
  · rcases lb with lb | rfl
    · exact ⟨fun z => (h.ext b lb).1 (own_set_no z).1, (h.ext b lb).2⟩
    · obtain ⟨b', xs, e1, e2, _⟩ := h.own i io ds e
      rw [s] at e1
      cases e1
      exact ⟨na, xs, e2⟩
section
variable {c : Cc} {L G0 : Addr → Prop} {σ : St} {H : Hp} {env0 : En}
theorem RepAs.mv : ∀ {As vs ts}, RepAs c.K G0 σ H env0 As vs ts → ∀ (S : List Addr) (env : En), RE c (Lu L S) σ H env → (∀ b, G0 b ↔ Av (Lu L S) σ env b) → (∀ a ∈ As, a ∈ S) → ∀ {cs env'}, mvs ts env = some (cs, env') →
    ∃ S' Bs, RE c (Lu L S') σ H env' ∧ Stp σ env H σ env' H ∧ (∀ b, G0 b ↔ Av (Lu L S') σ env' b) ∧ (∀ b ∈ S, b ∈ S') ∧ RepC c.K G0 H Bs vs cs ∧ (∀ b ∈ Bs, b ∈ S' ∧ (b ∈ As ∨ (b ∉ S ∧ c.H0 b = none ∧ ownM σ env b ∧ ¬ L b))) ∧ (∀ b ∈ As, b ∈ Bs)
  | _, _, _, .nil, S, env, h, g, n, cs, env', e => by
    cases e
    exact ⟨S, [], h, .refl, g, fun _ z => z, .nil, (fun _ z => nomatch z), fun _ z => nomatch z⟩
  | _, _, _, .im (ts := ts) r rs, S, env, h, g, n, cs, env', e => by
    rw [mvs_im] at e
    cases q : mvs ts env with
    | none => rw [q] at e; cases e
    | some p =>
      obtain ⟨cs1, e1⟩ := p
      rw [q] at e
      cases e
      obtain ⟨S', Bs, h1, h2, h3, h4, h5, h6, h7⟩ := RepAs.mv rs S env h g n q
      exact ⟨S', Bs, h1, h2, h3, h4, .im r h5, h6, h7⟩
  | _, _, _, .fr (As := As) (a := a) (ts := ts) na ea r rs, S, env, h, g, n, cs, env', e => by
    rw [mvs_fr] at e
    cases q : mvs ts env with
    | none => rw [q] at e; cases e
    | some p =>
      obtain ⟨cs1, e1⟩ := p
      rw [q] at e
      cases e
      obtain ⟨S', Bs, h1, h2, h3, h4, h5, h6, h7⟩ := RepAs.mv rs S env h g (fun b z => n b (List.mem_cons_of_mem _ z)) q
      have aS : a ∈ S := n a List.mem_cons_self
      refine ⟨S', a :: Bs, h1, h2, h3, h4, .fr (fun z => ?_) ea r h5, fun b z => ?_, fun b z => ?_⟩
      · rcases (h6 a z).2 with z | z
        · exact na z
        · exact z.1 aS
      · rcases List.mem_cons.mp z with rfl | z
        · exact ⟨h4 b aS, .inl List.mem_cons_self⟩
        · exact ⟨(h6 b z).1, (h6 b z).2.imp (fun z => List.mem_cons_of_mem _ z) id⟩
      · rcases List.mem_cons.mp z with rfl | z
        · exact List.mem_cons_self
        · exact List.mem_cons_of_mem _ (h7 b z)
  | As, _, _, .al (i := i) (ts := ts) o es rs, S, env, h, g, n, cs, env', e => by
    unfold mvs at e
    cases q0 : env[i]? with
    | none => rw [q0] at e; cases e
    | some s =>
      cases s with
      | no => rw [q0] at e; cases e
      | im d => rw [q0] at e; cases e
      | own io ds =>
        cases io with
        | true => rw [q0] at e; cases e
        | false =>
          rw [q0] at e
          dsimp only at e
          cases q : mvs ts (env.set i .no) with
          | none => rw [q] at e; cases e
          | some p =>
            obtain ⟨cs1, e1⟩ := p
            rw [q] at e
            cases e
            obtain ⟨a, xs, ea, eb, r, f0, _⟩ := h.own i false ds q0
            rw [es] at ea
            cases ea
            obtain ⟨hd, sd⟩ := h.drop q0 es
            have oa : ownM σ env a := ⟨i, false, ds, q0, es⟩
            have naS : a ∉ S := fun z => (h.ext a (.inr z)).1 oa
            have naL : ¬ L a := fun z => (h.ext a (.inl z)).1 oa
            have key : ∀ b, Lu L (a :: S) b ↔ (Lu L S b ∨ b = a) := fun b => by simp [Lu, or_assoc, or_comm, or_left_comm]
            obtain ⟨S', Bs, h1, h2, h3, h4, h5, h6, h7⟩ := RepAs.mv rs (a :: S) (env.set i .no) (hd.less fun b z => (key b).mp z) (fun b => ⟨fun z => ⟨fun y => ((key b).mp y).elim ((g b).mp z).1 fun y => ((g b).mp z).2 (by rw [y]; exact oa), fun y => ((g b).mp z).2 (own_set_no y).1⟩, fun z => (g b).mpr ⟨fun y => z.1 ((key b).mpr (.inl y)), fun y => z.2 (own_keep y (fun q => z.1 ((key b).mpr (.inr q))) es)⟩⟩) (fun b z => List.mem_cons_of_mem _ (n b z)) q
            refine ⟨S', a :: Bs, h1, sd.trans h2, h3, fun b z => h4 b (List.mem_cons_of_mem _ z), .fr (fun z => ?_) eb (r.mono (.refl H) fun b ys gb eq => ⟨?_, eq⟩) h5, fun b z => ?_, fun b z => List.mem_cons_of_mem _ (h7 b z)⟩
            · rcases (h6 a z).2 with z | z
              · exact naS (n a z)
              · exact z.1 List.mem_cons_self
            · exact (g b).mpr gb
            · rcases List.mem_cons.mp z with rfl | z
              · exact ⟨h4 b List.mem_cons_self, .inr ⟨naS, f0 rfl, oa, naL⟩⟩
              · refine ⟨(h6 b z).1, (h6 b z).2.imp id fun ⟨z1, z2, z3, z4⟩ => ⟨fun y => z1 (List.mem_cons_of_mem _ y), z2, (own_set_no z3).1, z4⟩⟩
end
def mkTup (cs : List Cp) : T := if cs.all (fun c => !c.fr) = true then .im (.tup (cs.map Cp.d)) else .ft cs
@[simp] theorem mkTup_nil : mkTup [] = .im (.tup []) := rfl
def disp (k : List Cp → T) (ts : List T) (env : En) : R T := if ts.length ≤ 1000000 then (match mvs ts env with
  | some (cs, e) => .ok (k cs) e
  | none => .er) else .er
def eTup (fa : FA) : FE := fun env => (fa env).bind fun ts e1 => disp mkTup ts e1
def eLst (fa : FA) : FE := fun env => (fa env).bind fun ts e1 => disp (fun cs => .fr (cs.map Cp.d)) ts e1
theorem RepAs.length {K : PySem.W.Frag} {G : Addr → Prop} {σ : St} {H : Hp} {env : En} : ∀ {As vs ts}, RepAs K G σ H env As vs ts → vs.length = ts.length
  | _, _, _, .nil => rfl
  | _, _, _, .im _ rs => congrArg (· + 1) (RepAs.length rs)
  | _, _, _, .al _ _ rs => congrArg (· + 1) (RepAs.length rs)
  | _, _, _, .fr _ _ _ rs => congrArg (· + 1) (RepAs.length rs)
theorem RE.bare {c : Cc} {L : Addr → Prop} {σ : St} {H : Hp} {env : En} {As : List Addr} (h : RE c (Lu L As) σ H env) : RE c L σ H env := h.less fun _ z => .inl z
section
variable {X : Cx} {c : Cc} {W : WX} {pos : Pos} {es : List Expr} {fa : FA}
theorem disp_ok {k : List Cp → T} {L N : Addr → Prop} {σ : St} {H : Hp} {env : En} {vs : List V} {As : List Addr} {ts : List T} {P : T → En → Hp → Prop} {Q : Prop} (r : RE c (Lu L As) σ H env) (q : RepAs c.K (Av (Lu L As) σ env) σ H env As vs ts) (n : ∀ a ∈ As, ¬ L a ∧ c.H0 a = none ∧ N a)
    (nn : ∀ a, ownM σ env a → N a) (h : dK c W L σ H env (disp k ts env) P)
    (kk : vs.length ≤ sizeLine → ∀ cs env' Bs, RE c (Lu L Bs) σ H env' → Stp σ env H σ env' H → RepC c.K (Av (Lu L Bs) σ env') H Bs vs cs → (∀ a ∈ Bs, ¬ L a ∧ c.H0 a = none ∧ N a) → dK c W L σ H env (.ok (k cs) env') P → Q) : Q := by
  unfold disp at h
  split at h
  · rename_i len
    cases e : mvs ts env with
    | none => rw [e] at h; exact h.elim
    | some p =>
      obtain ⟨cs, env'⟩ := p
      rw [e] at h
      obtain ⟨S', Bs, h1, h2, h3, h4, h5, h6, h7⟩ := q.mv As env r (fun b => Iff.rfl) (fun _ z => z) e
      refine kk (by rw [q.length]; exact line6 len) cs env' Bs (h1.less fun b z => z.imp id fun z => (h6 b z).1) h2 (h5.mono (.refl H) (fun b xs g e => ⟨⟨fun z => ((h3 b).mp g).1 (z.imp id fun z => (h6 b z).1), ((h3 b).mp g).2⟩, e⟩) (fun _ _ _ e => e)) (fun b z => ?_) h
      rcases (h6 b z).2 with y | ⟨_, y2, y3, y4⟩
      · exact n b y
      · exact ⟨y4, y2, nn b y3⟩
  · exact h.elim
theorem RepC.none {K : PySem.W.Frag} {G : Addr → Prop} {H : Hp} : ∀ {As vs cs}, RepC K G H As vs cs → cs.all (fun c => !c.fr) = true → Reps K G H vs (cs.map Cp.d)
  | _, _, _, .nil, _ => .nil
  | _, _, _, .im r rs, h => .cons r (RepC.none rs (by simpa using h))
  | _, _, _, .fr .., h => by simp at h
theorem de_tup {x1} (ha : PA X es (dA c W fa)) : PE X (.Tuple es x1 pos) (dE c W (eTup fa)) := PEw (pe_tup ha) fun σ H Q h => by
  obtain ⟨env, L, re, h⟩ := dE_iff.mp h
  refine dA.of re (h.bind.mono fun ts e1 H1 r1 s1 h1 vs As q n r2 => ?_)
  refine disp_ok (N := Nn σ env H) r2 q (fun a z => n a z) (fun a z => s1.back (.inl z)) h1 fun len cs env' Bs r3 s3 q3 n3 h3 => ⟨len, fun p np => ?_⟩
  have kp : ∀ b o, H1 b = some o → upd H1 p (.tup vs) b = some o := fun b o e => by rw [upd_ne (ne_of_none e np)]; exact e
  have q4 : RepC c.K (Av (Lu L Bs) σ env') (upd H1 p (.tup vs)) Bs vs cs := q3.mono (r3.tk (.grow kp)) (fun b xs g e => ⟨g, kp _ _ e⟩) fun b z xs e => kp _ _ e
  have r4 : RE c (Lu L Bs) σ (upd H1 p (.tup vs)) env' := r3.grow kp
  have key : RepT c L (Nn σ env H) σ (upd H1 p (.tup vs)) env' (.ref p) (.ft cs) := ⟨p, vs, Bs, rfl, .inl (.inl upd_same), q4, n3, r4⟩
  refine h3 _ r4.bare (s3.trans (.grow kp)) _ ?_
  unfold mkTup
  split
  · exact key.wk
  · exact key
theorem de_lst (ha : PA X es (dA c W fa)) : PE X (.List es pos) (dE c W (eLst fa)) := PEw (pe_lst ha) fun σ H Q h => by
  obtain ⟨env, L, re, h⟩ := dE_iff.mp h
  refine dA.of re (h.bind.mono fun ts e1 H1 r1 s1 h1 vs As q n r2 => ?_)
  refine disp_ok (N := Nn σ env H) r2 q (fun a z => n a z) (fun a z => s1.back (.inl z)) h1 fun len cs env' Bs r3 s3 q3 n3 h3 => ⟨len, fun p np => ?_⟩
  have rp : Reps c.K (Av L σ env') H1 vs (cs.map Cp.d) := q3.reps (fun b g => ⟨fun z => g.1 (.inl z), g.2⟩) fun a z => ⟨(n3 a z).1, (r3.ext a (.inr z)).1⟩
  obtain ⟨y1, y2, y3⟩ := r3.bare.newL rp np
  exact h3 _ y1 (s3.trans y2) _ (y3.less (fun _ z => z) fun a z => s1.back (s3.back z))
end
end DL
namespace DL
open PySem PySem.Spec L2
mutual
def toP : D → PyData
  | .non => .none
  | .bl b => .bool b
  | .int i => .int i
  | .str x => .str x
  | .tup xs => .tuple (toPs xs)
  | .lst xs => .list (toPs xs)
  | .fz xs => .list (toPs xs)
  | .dct _ _ => .dict []
def toPs : List D → List PyData
  | [] => []
  | x :: xs => toP x :: toPs xs
end
theorem toPs_map : ∀ ds, toPs ds = ds.map toP
  | [] => rfl
  | d :: ds => by rw [toPs, toPs_map ds]; rfl
section
variable {K : PySem.W.Frag} {G : Addr → Prop} {H : Hp}
mutual
theorem Rep.dp : ∀ {v d}, Rep K G H v d → (toP d).plain = true → Dp K H v (toP d)
  | _, _, .non, _ => .non
  | _, _, .bl b, _ => .bl b
  | _, _, .int i, _ => .int i
  | _, _, .str x, _ => .str x
  | _, _, .tup h r, p => .tup h (Reps.dp r p)
  | _, _, .lst g h r, p => .lst (.of h) (Reps.dp r p)
  | _, _, .fz h r, p => .lst h.sql (Reps.dp r p)
  | _, _, .dct _ _ _ _ _, p => nomatch p
theorem Reps.dp : ∀ {v d}, Reps K G H v d → PyData.plainAll (toPs d) = true → DpAll K H v (toPs d)
  | _, _, .nil, _ => .nil
  | _, _, .cons (d := d) (ds := ds) r rs, p => by
    have p : ((toP d).plain && PyData.plainAll (toPs ds)) = true := p
    rw [Bool.and_eq_true] at p
    exact .cons (Rep.dp r p.1) (Reps.dp rs p.2)
end
end
def eqv (x y : D) : Bool := PyData.eqv (toP x) (toP y)
def eqvs (xs ys : List D) : Bool := PyData.eqvAll (toPs xs) (toPs ys)
def shp (x : D) : Bool := SeqAt.shaped (toP x)
@[simp] theorem eqv_ii (i j : Int) : eqv (.int i) (.int j) = (i == j) := rfl
@[simp] theorem eqv_bb (i j : Bool) : eqv (.bl i) (.bl j) = (i == j) := rfl
@[simp] theorem eqv_ss (i j : Str) : eqv (.str i) (.str j) = (i == j) := rfl
@[simp] theorem eqv_nn : eqv .non .non = true := rfl
@[simp] theorem eqv_tt (i j : List D) : eqv (.tup i) (.tup j) = eqvs i j := rfl
@[simp] theorem eqv_ll (i j : List D) : eqv (.lst i) (.lst j) = eqvs i j := rfl
@[simp] theorem eqv_fl (i j : List D) : eqv (.fz i) (.lst j) = eqvs i j := rfl
@[simp] theorem eqv_is (i : Int) (x : Str) : eqv (.int i) (.str x) = false := rfl
@[simp] theorem eqv_si (i : Int) (x : Str) : eqv (.str x) (.int i) = false := rfl
@[simp] theorem eqv_ns (x : Str) : eqv .non (.str x) = false := rfl
@[simp] theorem eqv_ni (x : Int) : eqv .non (.int x) = false := rfl
@[simp] theorem eqv_in (x : Int) : eqv (.int x) .non = false := rfl
@[simp] theorem eqv_sn (x : Str) : eqv (.str x) .non = false := rfl
@[simp] theorem eqv_ts (i : List D) (x : Str) : eqv (.tup i) (.str x) = false := rfl
@[simp] theorem eqv_ti (i : List D) (x : Int) : eqv (.tup i) (.int x) = false := rfl
@[simp] theorem eqv_it (i : List D) (x : Int) : eqv (.int x) (.tup i) = false := rfl
@[simp] theorem eqv_ls (i : List D) (x : Str) : eqv (.lst i) (.str x) = false := rfl
@[simp] theorem eqv_tn (i : List D) : eqv (.tup i) .non = false := rfl
@[simp] theorem eqv_nt (i : List D) : eqv .non (.tup i) = false := rfl
@[simp] theorem eqv_tl (i j : List D) : eqv (.tup i) (.lst j) = false := rfl
@[simp] theorem eqv_lt (i j : List D) : eqv (.lst i) (.tup j) = false := rfl
@[simp] theorem eqvs_nn : eqvs [] [] = true := rfl
@[simp] theorem eqvs_cn (x : D) (xs : List D) : eqvs (x :: xs) [] = false := rfl
@[simp] theorem eqvs_nc (x : D) (xs : List D) : eqvs [] (x :: xs) = false := rfl
@[simp] theorem eqvs_cc (x y : D) (xs ys : List D) : eqvs (x :: xs) (y :: ys) = (eqv x y && eqvs xs ys) := rfl
mutual
def lay : D → Bool
  | .str x => PySem.PyData.strOk x
  | .tup xs => lays xs
  | .lst xs => lays xs
  | .fz xs => lays xs
  | .dct _ _ => false
  | _ => true
def lays : List D → Bool
  | [] => true
  | x :: xs => lay x && lays xs
end
mutual
def dep : D → Nat
  | .tup xs => deps xs + 1
  | .lst xs => deps xs + 1
  | .fz xs => deps xs + 1
  | .dct _ _ => 1
  | _ => 0
def deps : List D → Nat
  | [] => 0
  | x :: xs => max (dep x) (deps xs)
end
mutual
theorem lay_toP : ∀ d, PyData.canLay0 (toP d) = lay d
  | .non => rfl
  | .bl _ => rfl
  | .int _ => rfl
  | .str _ => rfl
  | .tup xs => lays_toP xs
  | .lst xs => lays_toP xs
  | .fz xs => lays_toP xs
  | .dct _ _ => rfl
theorem lays_toP : ∀ d, PyData.canLayAll0 (toPs d) = lays d
  | [] => rfl
  | x :: xs => by
    show (PyData.canLay0 (toP x) && PyData.canLayAll0 (toPs xs)) = (lay x && lays xs)
    rw [lay_toP x, lays_toP xs]
end
mutual
theorem dep_toP : ∀ d, PyData.depth (toP d) = dep d
  | .non => rfl
  | .bl _ => rfl
  | .int _ => rfl
  | .str _ => rfl
  | .tup xs => congrArg (· + 1) (deps_toP xs)
  | .lst xs => congrArg (· + 1) (deps_toP xs)
  | .fz xs => congrArg (· + 1) (deps_toP xs)
  | .dct _ _ => rfl
theorem deps_toP : ∀ d, PyData.depthAll (toPs d) = deps d
  | [] => rfl
  | x :: xs => by
    show max (PyData.depth (toP x)) (PyData.depthAll (toPs xs)) = max (dep x) (deps xs)
    rw [dep_toP x, deps_toP xs]
end
theorem shp_eq (d : D) : shp d = (lay d && decide (dep d ≤ 64)) := by
  unfold shp SeqAt.shaped
  rw [lay_toP, dep_toP]
def dEq (x y : D) : Option T := if shp x = true ∧ shp y = true then some (.im (.bl (eqv x y))) else none
def dNe (x y : D) : Option T := if shp x = true ∧ shp y = true then some (.im (.bl (!eqv x y))) else none
section
variable {X : Cx} {c : Cc} {W : WX} {pos : Pos} {a b : Expr} {fa fb : FE}
theorem plain_of_shp {d : D} (h : shp d = true) : (toP d).plain = true := by
  unfold shp SeqAt.shaped at h
  rw [Bool.and_eq_true] at h
  exact PyData.plain_of_canLay0 _ h.1
theorem RepO.dp {K : PySem.W.Frag} {G : Addr → Prop} {H : Hp} {v : V} {d : D} (h : RepO K G H v d) (p : (toP d).plain = true) : Dp K H v (toP d) := h.any.dp p
theorem d_eq : OpD c (rEqD c.K) dEq := by
  intro L σ H env x y dx dy t Q re hx hy e k
  unfold dEq at e
  split at e
  · rename_i q
    cases e
    exact ⟨_, _, hx.dp (plain_of_shp q.1), hy.dp (plain_of_shp q.2), q.1, q.2, k _ H re .refl (.bl _)⟩
  · cases e
theorem d_ne : OpD c (rNeD c.K) dNe := by
  intro L σ H env x y dx dy t Q re hx hy e k
  unfold dNe at e
  split at e
  · rename_i q
    cases e
    exact ⟨_, _, hx.dp (plain_of_shp q.1), hy.dp (plain_of_shp q.2), q.1, q.2, k _ H re .refl (.bl _)⟩
  · cases e
@[simp] def dIs : D → D → Option T
  | .bl a, .bl b => some (.im (.bl (decide (a = b))))
  | .non, .non => some (.im (.bl true))
  | _, .non => some (.im (.bl false))
  | _, _ => none
@[simp] def dNis : D → D → Option T
  | .bl a, .bl b => some (.im (.bl (!decide (a = b))))
  | .non, .non => some (.im (.bl false))
  | _, .non => some (.im (.bl true))
  | _, _ => none
abbrev rIs : R2 := fun x y H Q => (y = .non ∧ Q (.bl (decide (x = .non))) H) ∨ rIsB x y H Q
abbrev rNis : R2 := fun x y H Q => (y = .non ∧ Q (.bl (!decide (x = .non))) H) ∨ rNotB x y H Q
theorem op_is : OpR X (compareOp .Is) rIs := op_isN.or op_isBl
theorem op_nis : OpR X (compareOp .IsNot) rNis := op_notN.or op_notBl
theorem d_is : OpD c rIs dIs := by
  intro L σ H env x y dx dy t Q re hx hy e k
  have key : ∀ d : D, RepO c.K (Av L σ env) H x d → d ≠ .non → Rep c.K (Av L σ env) H (.bl (decide (x = .non))) (.bl false) := fun d h n => by
    rw [decide_eq_false (not_non h n)]
    exact .bl _
  cases dy <;> cases dx <;> simp only [dIs] at e <;> (try (cases e; done)) <;> cases e
  · refine .inl ⟨hy.non, k _ H re .refl ?_⟩
    rw [hx.non]
    exact .bl _
  · exact .inl ⟨hy.non, k _ H re .refl (key _ hx (fun z => nomatch z))⟩
  · exact .inl ⟨hy.non, k _ H re .refl (key _ hx (fun z => nomatch z))⟩
  · exact .inl ⟨hy.non, k _ H re .refl (key _ hx (fun z => nomatch z))⟩
  · exact .inl ⟨hy.non, k _ H re .refl (key _ hx (fun z => nomatch z))⟩
  · exact .inl ⟨hy.non, k _ H re .refl (key _ hx (fun z => nomatch z))⟩
  · exact .inl ⟨hy.non, k _ H re .refl (key _ hx (fun z => nomatch z))⟩
  · exact .inl ⟨hy.non, k _ H re .refl (key _ hx (fun z => nomatch z))⟩
  · exact .inr ⟨_, _, hx.bl, hy.bl, k _ H re .refl (.bl _)⟩
theorem d_nis : OpD c rNis dNis := by
  intro L σ H env x y dx dy t Q re hx hy e k
  have key : ∀ d : D, RepO c.K (Av L σ env) H x d → d ≠ .non → Rep c.K (Av L σ env) H (.bl (!decide (x = .non))) (.bl true) := fun d h n => by
    rw [decide_eq_false (not_non h n)]
    exact .bl _
  cases dy <;> cases dx <;> simp only [dNis] at e <;> (try (cases e; done)) <;> cases e
  · refine .inl ⟨hy.non, k _ H re .refl ?_⟩
    rw [hx.non]
    exact .bl _
  · exact .inl ⟨hy.non, k _ H re .refl (key _ hx (fun z => nomatch z))⟩
  · exact .inl ⟨hy.non, k _ H re .refl (key _ hx (fun z => nomatch z))⟩
  · exact .inl ⟨hy.non, k _ H re .refl (key _ hx (fun z => nomatch z))⟩
  · exact .inl ⟨hy.non, k _ H re .refl (key _ hx (fun z => nomatch z))⟩
  · exact .inl ⟨hy.non, k _ H re .refl (key _ hx (fun z => nomatch z))⟩
  · exact .inl ⟨hy.non, k _ H re .refl (key _ hx (fun z => nomatch z))⟩
  · exact .inl ⟨hy.non, k _ H re .refl (key _ hx (fun z => nomatch z))⟩
  · exact .inr ⟨_, _, hx.bl, hy.bl, k _ H re .refl (.bl _)⟩
def sc : D → Bool
  | .non => true
  | .bl _ => true
  | .int _ => true
  | .str _ => true
  | _ => false
def items : D → Option (List D)
  | .tup ds => some ds
  | .lst ds => some ds
  | .fz ds => some ds
  | _ => none
@[simp] theorem items_tup (ds : List D) : items (.tup ds) = some ds := rfl
@[simp] theorem items_lst (ds : List D) : items (.lst ds) = some ds := rfl
@[simp] theorem items_fz (ds : List D) : items (.fz ds) = some ds := rfl
def hasD (x : D) (ds : List D) : Bool := ds.any fun y => eqv y x
@[simp] theorem hasD_nil (x : D) : hasD x [] = false := rfl
@[simp] theorem hasD_cons (x y : D) (ds : List D) : hasD x (y :: ds) = (eqv y x || hasD x ds) := rfl
def dIn (neg : Bool) (x y : D) : Option T := match items y with
  | some ds => if sc x = true ∧ ds.all sc = true then some (.im (.bl (if neg then !hasD x ds else hasD x ds))) else none
  | none => none
theorem sc_flat {K : PySem.W.Frag} {G : Addr → Prop} {H : Hp} {v : V} {d : D} (h : Rep K G H v d) (s : sc d = true) : flatV v = true := by
  cases h <;> simp_all [sc, flatV]
theorem sc_eqV {K : PySem.W.Frag} {G G' : Addr → Prop} {H : Hp} {v w : V} {d e : D} (h : Rep K G H v d) (s : sc d = true) (h' : Rep K G' H w e) (s' : sc e = true) : eqV v w = eqv d e := by
  cases h <;> first | (simp [sc] at s; done) | (cases h' <;> first | (simp [sc] at s'; done) | rfl)
theorem scs_flat {K : PySem.W.Frag} {G : Addr → Prop} {H : Hp} : ∀ {vs ds}, Reps K G H vs ds → ds.all sc = true → vs.all flatV = true
  | _, _, .nil, _ => rfl
  | _, _, .cons r rs, h => by
    simp only [List.all_cons, Bool.and_eq_true] at h ⊢
    exact ⟨sc_flat r h.1, scs_flat rs h.2⟩
theorem inV_has {K : PySem.W.Frag} {G G' : Addr → Prop} {H : Hp} {w : V} {e : D} (h' : Rep K G' H w e) (s' : sc e = true) : ∀ {vs ds}, Reps K G H vs ds → ds.all sc = true → inV w vs = hasD e ds
  | _, _, .nil, _ => rfl
  | _, _, .cons r rs, h => by
    simp only [List.all_cons, Bool.and_eq_true] at h
    have ih := inV_has h' s' rs h.2
    unfold inV at ih ⊢
    rw [List.any_cons, hasD_cons, ih, sc_eqV r h.1 h' s']
theorem RepO.seq {K : PySem.W.Frag} {G : Addr → Prop} {H : Hp} {v : V} {d : D} {ds : List D} (h : RepO K G H v d) (e : items d = some ds) : ∃ a xs, v = .ref a ∧ (SqL K H a xs ∨ SqT K H a xs) ∧ Reps K G H xs ds := by
  cases d <;> simp only [items] at e <;> (try (cases e; done)) <;> cases e
  · obtain ⟨a, xs, e1, e2, r⟩ := h.tup
    exact ⟨a, xs, e1, .inr e2, r⟩
  · obtain ⟨a, xs, e1, e2, r⟩ := h.lst
    exact ⟨a, xs, e1, .inl (.of e2), r⟩
  · obtain ⟨a, xs, e1, e2, r⟩ := h.fz
    exact ⟨a, xs, e1, .inl e2.sql, r⟩
theorem d_in (neg : Bool) : OpD c (rIn c.K neg) (dIn neg) := by
  intro L σ H env x y dx dy t Q re hx hy e k
  unfold dIn at e
  cases q : items dy with
  | none => rw [q] at e; cases e
  | some ds =>
    rw [q] at e
    dsimp only at e
    split at e
    · rename_i s
      cases e
      obtain ⟨a, xs, rfl, h, r⟩ := hy.seq q
      refine ⟨a, xs, rfl, h, sc_flat hx.any s.1, scs_flat r s.2, k _ H re .refl ?_⟩
      rw [inV_has hx.any s.1 r s.2]
      exact .bl _
    · cases e
def dLen : List D → Option T
  | [.str z] => if z.length ≤ sizeLine then some (.im (.int z.length)) else none
  | [d] => (items d).map fun ds => .im (.int ds.length)
  | _ => none
@[simp] theorem dLen_tup (ds : List D) : dLen [.tup ds] = some (.im (.int ds.length)) := rfl
@[simp] theorem dLen_lst (ds : List D) : dLen [.lst ds] = some (.im (.int ds.length)) := rfl
@[simp] theorem dLen_fz (ds : List D) : dLen [.fz ds] = some (.im (.int ds.length)) := rfl
abbrev rLenA (K : PySem.W.Frag) : List V → Hp → VK → Prop := fun xs H Q => (∃ z, xs = [.str z] ∧ z.length ≤ sizeLine ∧ Q (.int z.length) H) ∨ ∃ p ys, xs = [.ref p] ∧ (SqL K H p ys ∨ SqT K H p ys) ∧ Q (.int ys.length) H
theorem call_lenA : CallR X (.builtin "len") (rLenA X.K) := call_len_str.or call_len_seq
theorem RepOs.one {K : PySem.W.Frag} {G : Addr → Prop} {H : Hp} {vs : List V} {d : D} (h : RepOs K G H vs [d]) : ∃ v, vs = [v] ∧ RepO K G H v d := by
  cases h with
  | cons r rs => cases rs; exact ⟨_, rfl, r⟩
theorem RepOs.two {K : PySem.W.Frag} {G : Addr → Prop} {H : Hp} {vs : List V} {d e : D} (h : RepOs K G H vs [d, e]) : ∃ v w, vs = [v, w] ∧ RepO K G H v d ∧ RepO K G H w e := by
  cases h with
  | cons r rs =>
    obtain ⟨w, rfl, q⟩ := rs.one
    exact ⟨_, w, rfl, r, q⟩
theorem d_len : CallD c (rLenA c.K) dLen := by
  intro L σ H env xs ds t Q re hx e k
  have go : ∀ d es, ds = [d] → items d = some es → t = .im (.int es.length) → rLenA c.K xs H Q := fun d es e1 e2 e3 => by
    subst e1 e3
    obtain ⟨v, rfl, r⟩ := hx.one
    obtain ⟨a, ys, rfl, h, rs⟩ := r.seq e2
    refine .inr ⟨a, ys, rfl, h, k _ H re .refl ?_⟩
    rw [rs.length]
    exact .int _
  unfold dLen at e
  split at e
  · split at e
    · rename_i z q
      cases e
      obtain ⟨v, rfl, r⟩ := hx.one
      rw [r.str]
      exact .inl ⟨z, rfl, q, k _ H re .refl (.int _)⟩
    · cases e
  · rename_i d _
    cases q : items d with
    | none => rw [q] at e; cases e
    | some es =>
      rw [q] at e
      exact go d es rfl q (Option.some.inj e).symm
  · cases e
def dTuple : List D → Option T
  | [.lst ds] => some (.im (.tup ds))
  | [.tup ds] => some (.im (.tup ds))
  | [.fz ds] => some (.im (.tup ds))
  | _ => none
@[simp] theorem dTuple_lst (ds : List D) : dTuple [.lst ds] = some (.im (.tup ds)) := rfl
@[simp] theorem dTuple_tup (ds : List D) : dTuple [.tup ds] = some (.im (.tup ds)) := rfl
abbrev rTuple (K : PySem.W.Frag) : List V → Hp → VK → Prop := fun xs H Q => ∃ p ys, xs = [.ref p] ∧ ((SqL K H p ys ∧ ∀ l, H l = none → Q (.ref l) (upd H l (.tup ys))) ∨ (SqT K H p ys ∧ Q (.ref p) H))
theorem d_tuple : CallD c (rTuple c.K) dTuple := by
  intro L σ H env xs ds t Q re hx e k
  unfold dTuple at e
  split at e <;> (try (cases e; done)) <;> cases e
  · obtain ⟨v, rfl, r⟩ := hx.one
    obtain ⟨a, ys, rfl, h, rs⟩ := r.lst
    exact ⟨a, ys, rfl, .inl ⟨.of h, new_tup re rs k⟩⟩
  · obtain ⟨v, rfl, r⟩ := hx.one
    obtain ⟨a, ys, rfl, h, rs⟩ := r.tup
    exact ⟨a, ys, rfl, .inr ⟨h, k _ H re .refl (.tup h rs)⟩⟩
  · obtain ⟨v, rfl, r⟩ := hx.one
    obtain ⟨a, ys, rfl, h, rs⟩ := r.fz
    exact ⟨a, ys, rfl, .inl ⟨h.sql, new_tup re rs k⟩⟩
def dList : List D → Option T
  | [d] => (items d).map .fr
  | _ => none
@[simp] theorem dList_lst (ds : List D) : dList [.lst ds] = some (.fr ds) := rfl
@[simp] theorem dList_tup (ds : List D) : dList [.tup ds] = some (.fr ds) := rfl
abbrev rListA (K : PySem.W.Frag) : List V → Hp → VK → Prop := fun xs H Q => ∃ p ys, xs = [.ref p] ∧ (SqL K H p ys ∨ SqT K H p ys) ∧ ∀ l, H l = none → Q (.ref l) (upd H l (.lst ys))
theorem d_list : CallD c (rListA c.K) dList := by
  intro L σ H env xs ds t Q re hx e k
  unfold dList at e
  split at e
  · rename_i d
    obtain ⟨v, rfl, r⟩ := hx.one
    obtain ⟨es, e1, rfl⟩ := Option.map_eq_some_iff.mp e
    obtain ⟨a, ys, rfl, h, rs⟩ := r.seq e1
    refine ⟨a, ys, rfl, h, fun l nl => ?_⟩
    obtain ⟨y1, y2, y3⟩ := re.newL rs nl
    exact k _ _ y1 y2 y3
  · cases e
@[simp] def dMax2 : List D → Option T
  | [.int i, .int j] => some (.im (.int (if j > i then j else i)))
  | _ => none
@[simp] def dMin2 : List D → Option T
  | [.int i, .int j] => some (.im (.int (if j < i then j else i)))
  | _ => none
theorem d_max2 : CallD c (fun xs H Q => ∃ i j, xs = [.int i, .int j] ∧ Q (.int (if j > i then j else i)) H) dMax2 := by
  intro L σ H env xs ds t Q re hx e k
  unfold dMax2 at e
  split at e <;> cases e
  obtain ⟨v, w, rfl, r, s⟩ := hx.two
  rw [r.int, s.int]
  exact ⟨_, _, rfl, k _ H re .refl (.int _)⟩
theorem d_min2 : CallD c (fun xs H Q => ∃ i j, xs = [.int i, .int j] ∧ Q (.int (if j < i then j else i)) H) dMin2 := by
  intro L σ H env xs ds t Q re hx e k
  unfold dMin2 at e
  split at e <;> cases e
  obtain ⟨v, w, rfl, r, s⟩ := hx.two
  rw [r.int, s.int]
  exact ⟨_, _, rfl, k _ H re .refl (.int _)⟩
@[simp] def dAbs : List D → Option T
  | [.int i] => some (.im (.int (if i < 0 then -i else i)))
  | _ => none
def intsOf : List D → Option (List Int)
  | [] => some []
  | .int i :: ds => (intsOf ds).map (i :: ·)
  | _ => none
def blsOf : List D → Option (List Bool)
  | [] => some []
  | .bl i :: ds => (blsOf ds).map (i :: ·)
  | _ => none
@[simp] theorem intsOf_nil : intsOf [] = some [] := rfl
@[simp] theorem intsOf_cons (i : Int) (ds : List D) : intsOf (.int i :: ds) = (intsOf ds).map (i :: ·) := rfl
@[simp] theorem blsOf_nil : blsOf [] = some [] := rfl
@[simp] theorem blsOf_cons (i : Bool) (ds : List D) : blsOf (.bl i :: ds) = (blsOf ds).map (i :: ·) := rfl
@[simp] theorem intsOf_map : ∀ ns : List Int, intsOf (ns.map D.int) = some ns
  | [] => rfl
  | n :: ns => by rw [List.map_cons, intsOf_cons, intsOf_map ns]; rfl
@[simp] theorem blsOf_map : ∀ ns : List Bool, blsOf (ns.map D.bl) = some ns
  | [] => rfl
  | n :: ns => by rw [List.map_cons, blsOf_cons, blsOf_map ns]; rfl
theorem intsOf_is : ∀ {ds ns}, intsOf ds = some ns → ds = ns.map D.int
  | [], ns, h => by cases h; rfl
  | d :: ds, ns, h => by
    cases d <;> simp only [intsOf] at h <;> (try (cases h; done))
    obtain ⟨ms, e, rfl⟩ := Option.map_eq_some_iff.mp h
    rw [intsOf_is e]
    rfl
theorem blsOf_is : ∀ {ds ns}, blsOf ds = some ns → ds = ns.map D.bl
  | [], ns, h => by cases h; rfl
  | d :: ds, ns, h => by
    cases d <;> simp only [blsOf] at h <;> (try (cases h; done))
    obtain ⟨ms, e, rfl⟩ := Option.map_eq_some_iff.mp h
    rw [blsOf_is e]
    rfl
def rSumT (K : PySem.W.Frag) : List V → Hp → VK → Prop := fun vs H Q => ∃ (a : Addr) (ns : List Int), vs = [V.ref a] ∧ SqT K H a (ns.map V.int) ∧ Q (.int ns.sum) H
theorem cr_sumT (hc : X.calm = true) : CallR X (.builtin "sum") (rSumT X.K) := by
  intro pins s σ H vs us Q I r h
  obtain ⟨a, ns, rfl, hs, q⟩ := h
  obtain ⟨its, rv, ht, _⟩ := I.tuple hs
  rw [Vals.ref1 r]
  have hi := rv.ints
  obtain ⟨xs, e⟩ := hi.allInts.items
  have hn : numsOf (intItems xs).toList = ns := by rw [← e]; exact hi.numsOf
  rw [nums_intItems] at hn
  rw [e] at ht
  have hlt : a < s.heap.objs.size := ht.lt
  refine call_sum_walkG (wpAny_pyIter_tuple (show s.heap.IsTuple a (intItems xs) from ht) ?_)
  refine ⟨_, _, _, _, _, _, numAt xs, rfl, Walks.tuple (A := X.A.in1) (I.ok.hd hc) s.heap.objs.size a (Nat.ne_of_lt hlt) (intItems xs), ⟨⟨_, Heap.get?_push_size _ rfl, rfl, rfl⟩, ?_⟩, fun b hb => ?_, fun _ _ => intItems_at, fun h' tk t' hk => ?_⟩
  · obtain ⟨o, e1, e2⟩ := ht
    exact ⟨o, Heap.get?_push_of_some _ e1, e2⟩
  · have q : b = s.heap.objs.size ∨ b = a := by simpa using hb
    show b < (s.heap.push _).objs.size
    rw [Heap.size_push]
    rcases q with rfl | rfl
    · exact Nat.lt_succ_self _
    · exact Nat.lt_succ_of_lt hlt
  · refine ⟨.int _, H, I.kept fun b o eo => hk b o (fun hmem => ?_) (Heap.get?_push_of_some _ eo), ⟨t', ?_⟩, q⟩
    · rcases List.mem_cons.mp hmem with e1 | hmem
      · exact absurd (e1 ▸ Heap.lt_size eo) (Nat.lt_irrefl _)
      · cases hmem
    · rw [preSum_eq, List.take_of_length_le (by simp [intItems]), hn]
abbrev rSumA (K : PySem.W.Frag) : List V → Hp → VK → Prop := fun xs H Q => rSum K xs H Q ∨ rSumT K xs H Q
theorem call_sumA (hc : X.calm = true) : CallR X (.builtin "sum") (rSumA X.K) := (cr_sum hc).or (cr_sumT hc)
def dSum : List D → Option T
  | [d] => match items d with
    | some ds => (intsOf ds).map fun ns => .im (.int ns.sum)
    | none => none
  | _ => none
@[simp] theorem dSum_lst (ds : List D) : dSum [.lst ds] = (intsOf ds).map fun ns => .im (.int ns.sum) := rfl
@[simp] theorem dSum_tup (ds : List D) : dSum [.tup ds] = (intsOf ds).map fun ns => .im (.int ns.sum) := rfl
theorem d_sum : CallD c (rSumA c.K) dSum := by
  intro L σ H env xs ds t Q re hx e k
  unfold dSum at e
  split at e
  · rename_i d
    obtain ⟨v, rfl, r⟩ := hx.one
    cases q : items d with
    | none => rw [q] at e; cases e
    | some es =>
      rw [q] at e
      obtain ⟨ns, e1, rfl⟩ := Option.map_eq_some_iff.mp e
      obtain ⟨a, ys, rfl, h, rs⟩ := r.seq q
      rw [intsOf_is e1] at rs
      rw [rs.ints] at h
      rcases h with h | h
      · exact .inl ⟨a, ns, rfl, h, k _ H re .refl (.int _)⟩
      · exact .inr ⟨a, ns, rfl, h, k _ H re .refl (.int _)⟩
  · cases e
def dAll : List D → Option T
  | [.lst ds] => (blsOf ds).map fun bs => .im (.bl (bs.all id))
  | _ => none
def dAny : List D → Option T
  | [.lst ds] => (blsOf ds).map fun bs => .im (.bl (bs.any id))
  | _ => none
@[simp] theorem dAll_lst (ds : List D) : dAll [.lst ds] = (blsOf ds).map fun bs => .im (.bl (bs.all id)) := rfl
@[simp] theorem dAny_lst (ds : List D) : dAny [.lst ds] = (blsOf ds).map fun bs => .im (.bl (bs.any id)) := rfl
theorem d_all : CallD c (rAll c.K) dAll := by
  intro L σ H env xs ds t Q re hx e k
  unfold dAll at e
  split at e
  · obtain ⟨v, rfl, r⟩ := hx.one
    obtain ⟨ns, e1, rfl⟩ := Option.map_eq_some_iff.mp e
    obtain ⟨a, ys, rfl, h, rs⟩ := r.lst
    rw [blsOf_is e1] at rs
    rw [rs.bls] at h
    exact ⟨a, ns, rfl, .of h, k _ H re .refl (.bl _)⟩
  · cases e
theorem d_any : CallD c (rAny c.K) dAny := by
  intro L σ H env xs ds t Q re hx e k
  unfold dAny at e
  split at e
  · obtain ⟨v, rfl, r⟩ := hx.one
    obtain ⟨ns, e1, rfl⟩ := Option.map_eq_some_iff.mp e
    obtain ⟨a, ys, rfl, h, rs⟩ := r.lst
    rw [blsOf_is e1] at rs
    rw [rs.bls] at h
    exact ⟨a, ns, rfl, .of h, k _ H re .refl (.bl _)⟩
  · cases e
def isTy (Ty : String) : D → Option Bool
  | .non => kitB "NoneType" Ty
  | .bl _ => kitB "bool" Ty
  | .int _ => kitB "int" Ty
  | .str _ => kitB "str" Ty
  | .tup _ => kitB "tuple" Ty
  | .lst _ => kitB "list" Ty
  | .fz _ => kitB "list" Ty
  | .dct _ _ => kitB "dict" Ty
def eIsi (Ty : String) (fa : FE) : FE := fun env => (fa env).bind fun t e => op1 (fun d => (isTy Ty d).map fun b => .im (.bl b)) t e
inductive TyZ (K : PySem.W.Frag) (H : Hp) : V → Value → Prop where
  | x {v : V} {t : Value} (h : TyX K H v t) : TyZ K H v t
  | dct {a : Addr} {o : Obj} {u : HO} (e : H a = some (.frz o u)) (c : o.cls = .type "dict") : TyZ K H (.ref a) (.type "dict")
def rIsZ (K : PySem.W.Frag) : List V → Hp → VK → Prop := fun xs H Q => ∃ (x k : V) (t u : Value) (b : Bool), xs = [x, k] ∧ ClsV k u ∧ TyZ K H x t ∧ PySem.W.kitOne K t u = some b ∧ Q (.bl b) H
theorem call_isZ {X : Cx} : CallR X (.builtin "isinstance") (rIsZ X.K) := by
  intro pins s σ H xs us Q I r h
  obtain ⟨x, k, t, u, b, rfl, hk, ty, e, q⟩ := h
  cases ty with
  | x ty => exact call_isi pins s σ H _ us Q I r ⟨x, k, t, u, b, rfl, hk, ty, e, q⟩
  | dct ea c =>
    cases r with
    | cons r1 r =>
      cases r with
      | cons r2 r =>
        cases r
        cases r1
        rename_i a o _ _
        obtain rfl := hk.eq r2
        have z := (show ObjOk X.prog X.w H s.heap a _ from I.hok a _ ea).1
        exact PySem.W.kia_one PySem.W.kitx_dict I.kIn ⟨o, z, c⟩ e (fun z => nomatch z) fun tk => ⟨.bl b, H, I.tok tk, rfl, q⟩
theorem RepO.ty {K : PySem.W.Frag} {G : Addr → Prop} {H : Hp} {v : V} {d : D} (h : RepO K G H v d) : ∃ s : String, TyZ K H v (.type s) ∧ ∀ Ty, isTy Ty d = kitB s Ty := by
  cases d with
  | non => rw [h.non]; exact ⟨_, .x (.base .non), fun _ => rfl⟩
  | bl b => rw [h.bl]; exact ⟨_, .x (.base (.bl b)), fun _ => rfl⟩
  | int i => rw [h.int]; exact ⟨_, .x (.base (.int i)), fun _ => rfl⟩
  | str x => rw [h.str]; exact ⟨_, .x (.base (.str x)), fun _ => rfl⟩
  | tup xs =>
    obtain ⟨a, ys, rfl, h, rs⟩ := h.tup
    rcases h with (h | ⟨o, h⟩) | ⟨o, its, n, h, h2, _⟩
    · exact ⟨"tuple", .x (.base (.tup h)), fun _ => rfl⟩
    · exact ⟨"tuple", .x (.fTuple h), fun _ => rfl⟩
    · exact ⟨"tuple", .x (.kTuple h h2), fun _ => rfl⟩
  | lst xs =>
    obtain ⟨a, ys, rfl, h, rs⟩ := h.lst
    exact ⟨"list", .x (.base (.lst h)), fun _ => rfl⟩
  | fz xs =>
    obtain ⟨a, ys, rfl, h, rs⟩ := h.fz
    rcases h with ⟨o, h⟩ | ⟨o, its, n, h, h2, _⟩
    · exact ⟨"list", .x (.base (.frz h)), fun _ => rfl⟩
    · exact ⟨"list", .x (.kList h h2), fun _ => rfl⟩
  | dct ks vs =>
    cases (show Rep K G H v (.dct ks vs) from h) with
    | dct hh ho hq hk rs => exact ⟨"dict", .dct hh ho.ex.1, fun _ => rfl⟩
theorem de_isi {p : Pos} {Tn : String} (hg : Gl X "isinstance") (hm : X.mg "isinstance" = none) (ha : PE X a (dE c W fa)) (hb : PE X b (tC (.ty Tn))) (ht : Tn ∈ ["int", "bool", "str", "tuple", "list", "dict"] := by decide) (hK : c.K = X.K := by rfl)
    (he : starEach [a, b] X.env = (false, eval a X.env) :: starEach [b] X.env := by rfl) (he2 : starEach [b] X.env = (false, eval b X.env) :: starEach [] X.env := by rfl) (hpl : (backTo pos (starEach [b] X.env)).any (·.1) = false := by rfl) :
    PE X (.Call (.Name "isinstance" p) [a, b] [] pos) (dE c W (eIsi Tn fa)) :=
  PEw (pe_callB call_isZ hg hm (by decide +kernel) (pa_cons ha (pa_cons hb pa_nil he2) he) (by decide) (by decide) he hpl) fun σ H Q h => by
    obtain ⟨env, L, re, h⟩ := dE_iff.mp h
    refine dE.of re (h.bind.mono fun ta e1 H1 r1 s1 h1 x q1 => ?_)
    unfold op1 at h1
    cases ea : ta.val e1 with
    | none => rw [ea] at h1; exact h1.elim
    | some dx =>
      rw [ea] at h1
      dsimp only at h1
      cases eb : isTy Tn dx with
      | none => rw [eb] at h1; exact h1.elim
      | some k =>
        rw [eb] at h1
        obtain ⟨s, tx, es⟩ := (q1.opr0 r1 ea).ty
        rw [hK] at tx
        exact ⟨x, .ty Tn, .type s, .type Tn, k, rfl, .ty Tn, tx, kit_ty ((es Tn).symm.trans eb), h1 H1 r1 .refl _ (.bl k)⟩
end
@[simp] theorem isTy_int_non : isTy "int" (.non) = some false := (by decide +kernel : kitB "NoneType" "int" = some false)
@[simp] theorem isTy_int_bl (b : Bool) : isTy "int" (.bl b) = some true := (by decide +kernel : kitB "bool" "int" = some true)
@[simp] theorem isTy_int_int (b : Int) : isTy "int" (.int b) = some true := (by decide +kernel : kitB "int" "int" = some true)
@[simp] theorem isTy_int_str (b : Str) : isTy "int" (.str b) = some false := (by decide +kernel : kitB "str" "int" = some false)
@[simp] theorem isTy_int_tup (b : List D) : isTy "int" (.tup b) = some false := (by decide +kernel : kitB "tuple" "int" = some false)
@[simp] theorem isTy_int_lst (b : List D) : isTy "int" (.lst b) = some false := (by decide +kernel : kitB "list" "int" = some false)
@[simp] theorem isTy_int_dct (a b : List D) : isTy "int" (.dct a b) = some false := (by decide +kernel : kitB "dict" "int" = some false)
@[simp] theorem isTy_int_fz (b : List D) : isTy "int" (.fz b) = some false := (by decide +kernel : kitB "list" "int" = some false)
@[simp] theorem isTy_bool_non : isTy "bool" (.non) = some false := (by decide +kernel : kitB "NoneType" "bool" = some false)
@[simp] theorem isTy_bool_bl (b : Bool) : isTy "bool" (.bl b) = some true := (by decide +kernel : kitB "bool" "bool" = some true)
@[simp] theorem isTy_bool_int (b : Int) : isTy "bool" (.int b) = some false := (by decide +kernel : kitB "int" "bool" = some false)
@[simp] theorem isTy_bool_str (b : Str) : isTy "bool" (.str b) = some false := (by decide +kernel : kitB "str" "bool" = some false)
@[simp] theorem isTy_bool_tup (b : List D) : isTy "bool" (.tup b) = some false := (by decide +kernel : kitB "tuple" "bool" = some false)
@[simp] theorem isTy_bool_lst (b : List D) : isTy "bool" (.lst b) = some false := (by decide +kernel : kitB "list" "bool" = some false)
@[simp] theorem isTy_bool_dct (a b : List D) : isTy "bool" (.dct a b) = some false := (by decide +kernel : kitB "dict" "bool" = some false)
@[simp] theorem isTy_bool_fz (b : List D) : isTy "bool" (.fz b) = some false := (by decide +kernel : kitB "list" "bool" = some false)
@[simp] theorem isTy_str_non : isTy "str" (.non) = some false := (by decide +kernel : kitB "NoneType" "str" = some false)
@[simp] theorem isTy_str_bl (b : Bool) : isTy "str" (.bl b) = some false := (by decide +kernel : kitB "bool" "str" = some false)
@[simp] theorem isTy_str_int (b : Int) : isTy "str" (.int b) = some false := (by decide +kernel : kitB "int" "str" = some false)
@[simp] theorem isTy_str_str (b : Str) : isTy "str" (.str b) = some true := (by decide +kernel : kitB "str" "str" = some true)
@[simp] theorem isTy_str_tup (b : List D) : isTy "str" (.tup b) = some false := (by decide +kernel : kitB "tuple" "str" = some false)
@[simp] theorem isTy_str_lst (b : List D) : isTy "str" (.lst b) = some false := (by decide +kernel : kitB "list" "str" = some false)
@[simp] theorem isTy_str_dct (a b : List D) : isTy "str" (.dct a b) = some false := (by decide +kernel : kitB "dict" "str" = some false)
@[simp] theorem isTy_str_fz (b : List D) : isTy "str" (.fz b) = some false := (by decide +kernel : kitB "list" "str" = some false)
@[simp] theorem isTy_tuple_non : isTy "tuple" (.non) = some false := (by decide +kernel : kitB "NoneType" "tuple" = some false)
@[simp] theorem isTy_tuple_bl (b : Bool) : isTy "tuple" (.bl b) = some false := (by decide +kernel : kitB "bool" "tuple" = some false)
@[simp] theorem isTy_tuple_int (b : Int) : isTy "tuple" (.int b) = some false := (by decide +kernel : kitB "int" "tuple" = some false)
@[simp] theorem isTy_tuple_str (b : Str) : isTy "tuple" (.str b) = some false := (by decide +kernel : kitB "str" "tuple" = some false)
@[simp] theorem isTy_tuple_tup (b : List D) : isTy "tuple" (.tup b) = some true := (by decide +kernel : kitB "tuple" "tuple" = some true)
@[simp] theorem isTy_tuple_lst (b : List D) : isTy "tuple" (.lst b) = some false := (by decide +kernel : kitB "list" "tuple" = some false)
@[simp] theorem isTy_tuple_dct (a b : List D) : isTy "tuple" (.dct a b) = some false := (by decide +kernel : kitB "dict" "tuple" = some false)
@[simp] theorem isTy_tuple_fz (b : List D) : isTy "tuple" (.fz b) = some false := (by decide +kernel : kitB "list" "tuple" = some false)
@[simp] theorem isTy_list_non : isTy "list" (.non) = some false := (by decide +kernel : kitB "NoneType" "list" = some false)
@[simp] theorem isTy_list_bl (b : Bool) : isTy "list" (.bl b) = some false := (by decide +kernel : kitB "bool" "list" = some false)
@[simp] theorem isTy_list_int (b : Int) : isTy "list" (.int b) = some false := (by decide +kernel : kitB "int" "list" = some false)
@[simp] theorem isTy_list_str (b : Str) : isTy "list" (.str b) = some false := (by decide +kernel : kitB "str" "list" = some false)
@[simp] theorem isTy_list_tup (b : List D) : isTy "list" (.tup b) = some false := (by decide +kernel : kitB "tuple" "list" = some false)
@[simp] theorem isTy_list_lst (b : List D) : isTy "list" (.lst b) = some true := (by decide +kernel : kitB "list" "list" = some true)
@[simp] theorem isTy_list_dct (a b : List D) : isTy "list" (.dct a b) = some false := (by decide +kernel : kitB "dict" "list" = some false)
@[simp] theorem isTy_list_fz (b : List D) : isTy "list" (.fz b) = some true := (by decide +kernel : kitB "list" "list" = some true)
end DL
namespace DL
open PySem PySem.Spec L2
def toB (t : T) (env : En) : R Bool := match t.val env with
  | some (.bl b) => .ok b env
  | _ => .er
@[simp] theorem toB_bl (b : Bool) (env : En) : toB (.im (.bl b)) env = .ok b env := rfl
def tV (fa : FE) : FT := fun env => (fa env).bind fun t e => toB t e
def tAn (fa fb : FT) : FT := fun env => (fa env).bind fun b e => bif b then fb e else .ok false e
def tOr' (fa fb : FT) : FT := fun env => (fa env).bind fun b e => bif b then .ok true e else fb e
def tNo (fa : FT) : FT := fun env => (fa env).bind fun b e => .ok (!b) e
def eAn (fa fb : FE) : FE := fun env => (fa env).bind fun t e => (toB t e).bind fun b e => bif b then fb e else .ok (.im (.bl false)) e
def eOr (fa fb : FE) : FE := fun env => (fa env).bind fun t e => (toB t e).bind fun b e => bif b then .ok (.im (.bl true)) e else fb e
def eNo (fa : FE) : FE := fun env => (fa env).bind fun t e => (toB t e).bind fun b e => .ok (.im (.bl (!b))) e
def eIf (fc : FT) (fa fb : FE) : FE := fun env => (fc env).bind fun b e => bif b then fa e else fb e
def eCh (g g' : D → D → Option T) (fa fb fc : FE) : FE := fun env => (fa env).bind fun ta e1 => (fb e1).bind fun tb e2 => (op2 g ta tb e2).bind fun t e2 => (toB t e2).bind fun b e2 => bif b then (fc e2).bind fun tc e3 => op2 g' tb tc e3 else .ok (.im (.bl false)) e2
section
variable {X : Cx} {c : Cc} {W : WX} {pos : Pos} {a b e3 : Expr} {fa fb fc : FE} {ft fu : FT} {rest : List Expr}
theorem toB_K {L N : Addr → Prop} {σ : St} {H : Hp} {env : En} {t : T} {v : V} {P : Bool → En → Hp → Prop} (r : RE c L σ H env) (q : RepT c L N σ H env v t) (h : dK c W L σ H env (toB t env) P) : ∃ b, v = .bl b ∧ dK c W L σ H env (.ok b env) P := by
  unfold toB at h
  cases e : t.val env with
  | none => rw [e] at h; exact h.elim
  | some d =>
    rw [e] at h
    cases d with
    | bl b => exact ⟨b, (q.opr0 r e).bl, h⟩
    | non => exact h.elim
    | int i => exact h.elim
    | str x => exact h.elim
    | tup xs => exact h.elim
    | lst xs => exact h.elim
    | fz xs => exact h.elim
    | dct _ _ => exact h.elim
theorem d_tB : ∀ σ H Q, dT c W (tV fa) σ H Q → tB (dE c W fa) σ H Q := fun σ H Q h => by
  obtain ⟨env, L, r, h⟩ := dT_iff.mp h
  refine dE.of r (h.bind.mono fun t e1 H1 r1 s1 h1 v q => ?_)
  obtain ⟨b, rfl, h2⟩ := toB_K r1 q h1
  exact ⟨b, rfl, h2 H1 r1 .refl⟩
theorem dt_val (h : PE X a (dE c W fa)) (he : ∀ whole, isTrue a X.env whole = (do let v ← whole; standAt a.pos; holding [v] (truthy v)) := by intro _; rfl) : PT X a (dT c W (tV fa)) := PTw (pt_val h he) d_tB
theorem dt_cmp {op : CmpOp} {r : R2} {g : D → D → Option T} (hr : OpR X (compareOp op) r) (ho : OpD c r g) (ha : PE X a (dE c W fa)) (hb : PE X b (dE c W fb)) (hm : behindInMarks op b = false) : PT X (.Compare a [op] [b] pos) (dT c W (tV (eOp g fa fb))) :=
  PTw (pt_cmpR hr ha hb hm) fun σ H Q h => by
    obtain ⟨env, L, r, h⟩ := dT_iff.mp h
    have key := d_tB (fa := eOp g fa fb) σ H Q ⟨env, L, r, h⟩
    exact d_tOp ho σ H _ key
theorem dt_and1 (ha : PT X a (dT c W ft)) : PW X (.BoolOp .And [a] pos) (dT c W ft) := pw_and1 ha
theorem dt_or1 (ha : PT X a (dT c W ft)) : PW X (.BoolOp .Or [a] pos) (dT c W ft) := pw_or1 ha
theorem dt_and (ha : PT X a (dT c W ft)) (hb : PW X (.BoolOp .And (b :: rest) pos) (dT c W fu)) : PW X (.BoolOp .And (a :: b :: rest) pos) (dT c W (tAn ft fu)) := PWw (pw_and ha hb) fun σ H Q h => by
  obtain ⟨env, L, r, h⟩ := dT_iff.mp h
  refine dT.of r (h.bind.mono fun b e1 H1 r1 s1 h1 => ?_)
  cases b with
  | true => rw [if_pos rfl]; exact dT.of r1 h1
  | false => rw [if_neg Bool.false_ne_true]; exact h1 H1 r1 .refl
theorem dt_or (ha : PT X a (dT c W ft)) (hb : PW X (.BoolOp .Or (b :: rest) pos) (dT c W fu)) : PW X (.BoolOp .Or (a :: b :: rest) pos) (dT c W (tOr' ft fu)) := PWw (pw_or ha hb) fun σ H Q h => by
  obtain ⟨env, L, r, h⟩ := dT_iff.mp h
  refine dT.of r (h.bind.mono fun b e1 H1 r1 s1 h1 => ?_)
  cases b with
  | true => rw [if_pos rfl]; exact h1 H1 r1 .refl
  | false => rw [if_neg Bool.false_ne_true]; exact dT.of r1 h1
theorem dt_not (ha : PT X a (dT c W ft)) : PT X (.UnaryOp .Not a pos) (dT c W (tNo ft)) := PTw (pt_not ha) fun σ H Q h => by
  obtain ⟨env, L, r, h⟩ := dT_iff.mp h
  exact dT.of r (h.bind.mono fun b e1 H1 r1 s1 h1 => h1 H1 r1 .refl)
theorem de_one {op} (h : PE X a (dE c W fa)) : PE X (.BoolOp op [a] pos) (dE c W fa) := pe_one h
theorem de_and (ha : PE X a (dE c W fa)) (hb : PE X (.BoolOp .And (b :: rest) pos) (dE c W fb)) : PE X (.BoolOp .And (a :: b :: rest) pos) (dE c W (eAn fa fb)) := PEw (pe_and ha hb) fun σ H Q h => by
  obtain ⟨env, L, r, h⟩ := dE_iff.mp h
  refine dE.of r (h.bind.mono fun t e1 H1 r1 s1 h1 v q => ?_)
  obtain ⟨b, rfl, h2⟩ := toB_K r1 q h1.bind
  refine ⟨b, rfl, ?_⟩
  have h3 := h2 H1 r1 .refl
  cases b with
  | true => rw [if_pos rfl]; exact dE.of r1 (h3.mono fun t e2 H2 r2 s2 h4 v q => h4 v (q.less (fun _ z => z) fun a n => s1.back n))
  | false => rw [if_neg Bool.false_ne_true]; exact h3 H1 r1 .refl _ (.bl false)
theorem de_or (ha : PE X a (dE c W fa)) (hb : PE X (.BoolOp .Or (b :: rest) pos) (dE c W fb)) : PE X (.BoolOp .Or (a :: b :: rest) pos) (dE c W (eOr fa fb)) := PEw (pe_or ha hb) fun σ H Q h => by
  obtain ⟨env, L, r, h⟩ := dE_iff.mp h
  refine dE.of r (h.bind.mono fun t e1 H1 r1 s1 h1 v q => ?_)
  obtain ⟨b, rfl, h2⟩ := toB_K r1 q h1.bind
  refine ⟨b, rfl, ?_⟩
  have h3 := h2 H1 r1 .refl
  cases b with
  | true => rw [if_pos rfl]; exact h3 H1 r1 .refl _ (.bl true)
  | false => rw [if_neg Bool.false_ne_true]; exact dE.of r1 (h3.mono fun t e2 H2 r2 s2 h4 v q => h4 v (q.less (fun _ z => z) fun a n => s1.back n))
theorem de_not (ha : PE X a (dE c W fa)) : PE X (.UnaryOp .Not a pos) (dE c W (eNo fa)) := PEw (pe_not ha) fun σ H Q h => by
  obtain ⟨env, L, r, h⟩ := dE_iff.mp h
  refine dE.of r (h.bind.mono fun t e1 H1 r1 s1 h1 v q => ?_)
  obtain ⟨b, rfl, h2⟩ := toB_K r1 q h1.bind
  exact ⟨b, rfl, (h2 H1 r1 .refl) H1 r1 .refl _ (.bl _)⟩
theorem de_if {tc : Expr} (hc : PT X tc (dT c W ft)) (ha : PE X a (dE c W fa)) (hb : PE X b (dE c W fb)) : PE X (.IfExp tc a b pos) (dE c W (eIf ft fa fb)) := PEw (pe_ifExp hc ha hb) fun σ H Q h => by
  obtain ⟨env, L, r, h⟩ := dE_iff.mp h
  refine dT.of r (h.bind.mono fun b e1 H1 r1 s1 h1 => ?_)
  cases b with
  | true => rw [if_pos rfl]; exact dE.of r1 (h1.mono fun t e2 H2 r2 s2 h4 v q => h4 v (q.less (fun _ z => z) fun a n => s1.back n))
  | false => rw [if_neg Bool.false_ne_true]; exact dE.of r1 (h1.mono fun t e2 H2 r2 s2 h4 v q => h4 v (q.less (fun _ z => z) fun a n => s1.back n))
theorem d_chain {r r' : R2} {g g' : D → D → Option T} (ho : OpD c r g) (ho' : OpD c r' g') : ∀ σ H Q, dE c W (eCh g g' fa fb fc) σ H Q → tChain r r' (dE c W fa) (dE c W fb) (dE c W fc) σ H Q := fun σ H Q h => by
  obtain ⟨env, L, re, h⟩ := dE_iff.mp h
  refine dE.of re (h.bind.mono fun ta e1 H1 r1 s1 h1 x q1 => ?_)
  refine dE.of r1 (h1.bind.mono fun tb e2 H2 r2 s2 h2 y q2 => ?_)
  have h2 := h2.bind
  refine dK_op2 (W := W) (N1 := fun _ => True) (N2 := fun _ => True) (N := Nn σ env H) ho r2 (fun d e => q1.opr r1 s2 r2 e) (fun d e => q2.opr0 r2 e) (fun a n => s1.back (s2.back n)) (h2.mono fun t e3 H3 r3 s3 h3 z q3 => ?_)
  obtain ⟨b, rfl, h4⟩ := toB_K r3 q3 h3.bind
  refine ⟨b, rfl, ?_⟩
  have h5 := h4 H3 r3 .refl
  cases b with
  | true =>
    rw [if_pos rfl]
    refine dE.of r3 (h5.bind.mono fun tc e4 H4 r4 s4 h6 w q4 => ?_)
    exact dK_op2 (W := W) (N1 := fun _ => True) (N2 := fun _ => True) (N := Nn σ env H) ho' r4 (fun d e => q2.opr r2 (s3.trans s4) r4 e) (fun d e => q4.opr0 r4 e) (fun a n => s1.back (s2.back (s3.back (s4.back n)))) h6
  | false =>
    rw [if_neg Bool.false_ne_true]
    exact h5 H3 r3 .refl _ (.bl false)
theorem de_chain {op op' : CmpOp} {r r' : R2} {g g' : D → D → Option T} (hr : OpR X (compareOp op) r) (ho : OpD c r g) (hr' : OpR X (compareOp op') r') (ho' : OpD c r' g') (ha : PE X a (dE c W fa)) (hb : PE X b (dE c W fb)) (hc : PE X e3 (dE c W fc))
    (hm : lastMarks [op, op'] [b, e3] = false := by with_unfolding_all rfl) : PE X (.Compare a [op, op'] [b, e3] pos) (dE c W (eCh g g' fa fb fc)) := PEw (pe_chain hr hr' ha hb hc hm) (d_chain ho ho')
theorem dt_chain {op op' : CmpOp} {r r' : R2} {g g' : D → D → Option T} (hr : OpR X (compareOp op) r) (ho : OpD c r g) (hr' : OpR X (compareOp op') r') (ho' : OpD c r' g') (ha : PE X a (dE c W fa)) (hb : PE X b (dE c W fb)) (hc : PE X e3 (dE c W fc))
    (hm : lastMarks [op, op'] [b, e3] = false := by with_unfolding_all rfl) : PT X (.Compare a [op, op'] [b, e3] pos) (dT c W (tV (eCh g g' fa fb fc))) := PTw (pt_chain hr hr' ha hb hc hm) fun σ H Q h => d_chain ho ho' σ H _ (d_tB (fa := eCh g g' fa fb fc) σ H Q h)
end
def tNp : En → R (Option Int) := fun env => .ok none env
def toI (t : T) (env : En) : R (Option Int) := match t.val env with
  | some (.int i) => .ok (some i) env
  | _ => .er
@[simp] theorem toI_int (i : Int) (env : En) : toI (.im (.int i)) env = .ok (some i) env := rfl
def tPa (fa : FE) : En → R (Option Int) := fun env => (fa env).bind toI
def dO (c : Cc) (W : WX) (f : En → R (Option Int)) : TO := fun σ H Q => ∃ env L, RE c L σ H env ∧ dK c W L σ H env (f env) fun o _ H' => Q o H'
def cutD (xs : List D) (lo hi : Option Int) : List D := (xs.drop (HT.sIx xs.length 0 lo)).take (HT.sIx xs.length xs.length hi - HT.sIx xs.length 0 lo)
def dSl (d : D) (lo hi : Option Int) : Option T := match d with
  | .tup ds => some (.im (.tup (cutD ds lo hi)))
  | .lst ds => some (.fr (cutD ds lo hi))
  | .str z => if z.length ≤ 1000000 then some (.im (.str (cutS z lo hi))) else none
  | _ => none
def slT (t : T) (lo hi : Option Int) (env : En) : R T := match t.val env with
  | some d => R.opt (dSl d lo hi) env
  | none => .er
@[simp] theorem dSl_tup (ds : List D) (lo hi : Option Int) : dSl (.tup ds) lo hi = some (.im (.tup (cutD ds lo hi))) := rfl
@[simp] theorem dSl_lst (ds : List D) (lo hi : Option Int) : dSl (.lst ds) lo hi = some (.fr (cutD ds lo hi)) := rfl
def eSl (fa : FE) (fl fh : En → R (Option Int)) : FE := fun env => (fa env).bind fun t e1 => (fl e1).bind fun lo e2 => (fh e2).bind fun hi e3 => slT t lo hi e3
section
variable {X : Cx} {c : Cc} {W : WX} {pos p2 : Pos} {a : Expr} {fa : FE} {fl fh : En → R (Option Int)} {lo hi : Option Expr}
theorem do_none : PO X none (dO c W tNp) := ⟨fun pins s σ H Q I h => po_none.run pins s σ H Q I (by obtain ⟨env, L, r, h⟩ := h; exact h H r .refl)⟩
theorem do_some (h : PE X a (dE c W fa)) : PO X (some a) (dO c W (tPa fa)) := ⟨fun pins s σ H Q I q => (po_some h).run pins s σ H Q I (by
  obtain ⟨env, L, r, q⟩ := q
  refine dE.of r (q.bind.mono fun t e1 H1 r1 s1 h1 v q1 => ?_)
  unfold toI at h1
  cases e : t.val e1 with
  | none => rw [e] at h1; exact h1.elim
  | some d =>
    rw [e] at h1
    cases d with
    | int i => exact ⟨i, (q1.opr0 r1 e).int, h1 H1 r1 .refl⟩
    | non => exact h1.elim
    | bl i => exact h1.elim
    | str x => exact h1.elim
    | tup xs => exact h1.elim
    | lst xs => exact h1.elim
    | fz xs => exact h1.elim
    | dct _ _ => exact h1.elim)⟩
theorem Reps.cut {K : PySem.W.Frag} {G : Addr → Prop} {H : Hp} {xs : List V} {ds : List D} (r : Reps K G H xs ds) (lo hi : Option Int) : Reps K G H (cutV xs lo hi) (cutD ds lo hi) := by
  unfold cutV cutD
  rw [r.length]
  exact (r.drop _).take _
abbrev rSl (K : PySem.W.Frag) : V → Option Int → Option Int → Hp → VK → Prop := fun x lo hi H Q => rSlA K x lo hi H Q ∨ (rSlL K x lo hi H Q ∨ rSlS x lo hi H Q)
theorem cut_whole {α : Type} (xs : List α) (l h : Nat) (e : l = 0 ∧ h = xs.length) : (xs.drop l).take (h - l) = xs := by
  obtain ⟨rfl, rfl⟩ := e
  simp
theorem de_slice (ha : PE X a (dE c W fa)) (hl : PO X lo (dO c W fl)) (hh : PO X hi (dO c W fh)) (hK : c.K = X.K := by rfl) : PE X (.Subscript a (.Slice lo hi none p2) pos) (dE c W (eSl fa fl fh)) :=
  PEw (pe_slice (r := rSl X.K) (sl_tupA.or (sl_list.or sl_str)) ha hl hh) fun σ H Q h => by
    obtain ⟨env, L, re, h⟩ := dE_iff.mp h
    refine dE.of re (h.bind.mono fun t e1 H1 r1 s1 h1 x q1 => ?_)
    refine ⟨e1, L, r1, h1.bind.mono fun lo e2 H2 r2 s2 h2 => ?_⟩
    refine ⟨e2, L, r2, h2.bind.mono fun hi e3 H3 r3 s3 h3 => ?_⟩
    unfold slT at h3
    cases e : t.val e3 with
    | none => rw [e] at h3; exact h3.elim
    | some d =>
      rw [e] at h3
      have q := q1.opr r1 (s2.trans s3) r3 e
      have kk : ∀ {t'}, R.opt (dSl d lo hi) e3 = .ok t' e3 → ∀ v H', RE c L σ H' e3 → Stp σ e3 H3 σ e3 H' → RepT c L (Nn σ e3 H3) σ H' e3 v t' → Q v H' := fun {t'} eq v H' a b q => by
        dsimp only at h3
        rw [eq] at h3
        exact h3 H' a b v (q.less (fun _ z => z) fun a n => s1.back (s2.back (s3.back n)))
      cases d with
      | tup ds =>
        obtain ⟨a, xs, rfl, h, r⟩ := q.tup
        rw [hK] at h
        refine .inl ⟨a, xs, rfl, h, fun w => ?_, fun w => new_tup r3 (r.cut lo hi) (kk rfl)⟩
        refine kk rfl _ H3 r3 .refl ?_
        have ew : cutD ds lo hi = ds := by
          unfold cutD
          rw [← r.length]
          exact cut_whole ds _ _ (by rw [← r.length]; exact w)
        rw [ew, ← hK] at *
        exact .tup h r
      | lst ds =>
        obtain ⟨a, xs, rfl, h, r⟩ := q.lst
        refine .inr (.inl ⟨a, xs, rfl, .of h, fun p n => ?_⟩)
        obtain ⟨y1, y2, y3⟩ := r3.newL (r.cut lo hi) n
        exact kk rfl _ _ y1 y2 y3
      | non => exact h3.elim
      | bl i => exact h3.elim
      | int i => exact h3.elim
      | str x =>
        dsimp only [dSl] at h3 kk
        by_cases hz : x.length ≤ 1000000
        · rw [if_pos hz] at kk
          exact .inr (.inr ⟨x, q.str, line6 hz, kk rfl _ H3 r3 .refl (.str _)⟩)
        · rw [if_neg hz] at h3
          exact h3.elim
      | fz xs => exact h3.elim
      | dct _ _ => exact h3.elim
end
end DL
namespace DL
open PySem PySem.Spec L2
theorem own_put {σ : St} {env : En} {i : Nat} {io : Bool} {ds ds' : List D} (e : env[i]? = some (Sl.own io ds)) (b : Addr) : ownM σ (env.set i (.own io ds')) b ↔ ownM σ env b := by
  have hi : i < env.length := (List.getElem?_eq_some_iff.mp e).1
  constructor
  · rintro ⟨j, jo, es, e1, e2⟩
    by_cases q : i = j
    · subst q
      exact ⟨i, io, ds, e, e2⟩
    · rw [List.getElem?_set_ne q] at e1
      exact ⟨j, jo, es, e1, e2⟩
  · rintro ⟨j, jo, es, e1, e2⟩
    by_cases q : i = j
    · subst q
      exact ⟨i, io, ds', by rw [List.getElem?_set_self hi], e2⟩
    · exact ⟨j, jo, es, by rw [List.getElem?_set_ne q]; exact e1, e2⟩
theorem RE.put {c : Cc} {L : Addr → Prop} {σ : St} {H H' : Hp} {env : En} {i : Nat} {io : Bool} {ds ds' : List D} {a : Addr} {xs' : List V} (h : RE c L σ H env) (e : env[i]? = some (Sl.own io ds)) (s : σ[i]? = some (some (V.ref a)))
    (kp : ∀ b o, b ≠ a → H b = some o → H' b = some o) (ea : H' a = some (.lst xs')) (r' : Reps c.K (Av L σ env) H' xs' ds') : RE c L σ H' (env.set i (.own io ds')) ∧ Stp σ env H σ (env.set i (.own io ds')) H' := by
  have hi : i < env.length := (List.getElem?_eq_some_iff.mp e).1
  have ow := own_put (σ := σ) (ds' := ds') e
  have oa : ownM σ env a := ⟨i, io, ds, e, s⟩
  have st : Stp σ env H σ (env.set i (.own io ds')) H' := fun b n => by
    have na : b ≠ a := fun z => n (.inl (by rw [z]; exact oa))
    cases q : H b with
    | none => exact (n (.inr q)).elim
    | some o => exact ⟨kp b o na q, fun z => z.elim (fun z => n (.inl ((ow b).mp z))) fun z => by rw [kp b o na q] at z; cases z⟩
  have av : Av L σ (env.set i (.own io ds')) = Av L σ env := by funext b; simp [Av, ow b]
  obtain ⟨a0, xs0, ea0, _, _, f0, f1⟩ := h.own i io ds e
  rw [s] at ea0
  cases ea0
  refine ⟨⟨by rw [List.length_set]; exact h.len, fun j d q => ?_, fun j jo es q => ?_, fun j k jo ko ds1 es b q1 q2 q3 q4 => ?_, fun b lb => ?_, fun b o n q => ?_, fun b ib => ?_⟩, st⟩
  · have ne : i ≠ j := fun z => by
      subst z
      rw [List.getElem?_set_self hi] at q
      cases q
    rw [List.getElem?_set_ne ne] at q
    obtain ⟨v, e1, r⟩ := h.im j d q
    exact ⟨v, e1, h.rep st r⟩
  · by_cases ne : i = j
    · subst ne
      rw [List.getElem?_set_self hi] at q
      cases q
      rw [av]
      exact ⟨a, xs', s, ea, r', f0, f1⟩
    · rw [List.getElem?_set_ne ne] at q
      obtain ⟨b, ys, e1, e2, r, z⟩ := h.own j jo es q
      have nb : b ≠ a := fun z => ne (h.inj i j io jo ds es a e q s (by rw [← z]; exact e1))
      exact ⟨b, ys, e1, kp _ _ nb e2, h.reps st r, z⟩
  · have get : ∀ (j : Nat) (jo : Bool) (es : List D), (env.set i (.own io ds'))[j]? = some (Sl.own jo es) → ∃ (jo' : Bool) (es' : List D), env[j]? = some (Sl.own jo' es') := fun j jo es q => by
      by_cases ne : i = j
      · subst ne
        exact ⟨io, ds, e⟩
      · rw [List.getElem?_set_ne ne] at q
        exact ⟨jo, es, q⟩
    obtain ⟨x1, x2, x3⟩ := get j jo ds1 q1
    obtain ⟨y1, y2, y3⟩ := get k ko es q2
    exact h.inj j k x1 y1 x2 y2 b x3 y3 q3 q4
  · obtain ⟨n, ys, q⟩ := h.ext b lb
    exact ⟨fun z => n ((ow b).mp z), ys, kp _ _ (fun z => n (by rw [z]; exact oa)) q⟩
  · refine kp b o (fun z => ?_) (h.fr b o n q)
    subst z
    cases io with
    | true => exact n (f1 rfl).1
    | false => rw [f0 rfl] at q; cases q
  · by_cases z : b = a
    · subst z
      exact ⟨xs', ea⟩
    · exact (h.io b ib).imp fun xs q => kp _ _ z q
theorem RE.mores {c : Cc} {L S : Addr → Prop} {σ : St} {env : En} {H H' : Hp} (h : RE c L σ H env) (k : ∀ b o, H b = some o → H' b = some o) (n : ∀ a, S a → H a = none ∧ ∃ xs, H' a = some (.lst xs)) : RE c (fun b => L b ∨ S b) σ H' env := by
  have no : ∀ b, (∃ o, H b = some o) → ¬ S b := fun b ⟨o, q⟩ z => by rw [(n b z).1] at q; cases q
  have kk : ∀ {v d}, Rep c.K (Av L σ env) H v d → Rep c.K (Av (fun b => L b ∨ S b) σ env) H' v d := fun r =>
    r.mono (h.tk (Stp.grow k)) fun b ys g q => ⟨⟨fun z => z.elim g.1 fun z => no b ⟨_, q⟩ z, g.2⟩, k _ _ q⟩
  have ks : ∀ {v d}, Reps c.K (Av L σ env) H v d → Reps c.K (Av (fun b => L b ∨ S b) σ env) H' v d := fun r =>
    r.mono (h.tk (Stp.grow k)) fun b ys g q => ⟨⟨fun z => z.elim g.1 fun z => no b ⟨_, q⟩ z, g.2⟩, k _ _ q⟩
  refine ⟨h.len, fun i d e => ?_, fun i io ds e => ?_, h.inj, fun b lb => ?_, fun b o n e => k _ _ (h.fr b o n e), fun a i => (h.io a i).imp fun xs e => k _ _ e⟩
  · obtain ⟨v, e1, r⟩ := h.im i d e
    exact ⟨v, e1, kk r⟩
  · obtain ⟨a, xs, e1, e2, r, z⟩ := h.own i io ds e
    exact ⟨a, xs, e1, k _ _ e2, ks r, z⟩
  · rcases lb with lb | lb
    · exact ⟨(h.ext b lb).1, (h.ext b lb).2.imp fun xs e => k _ _ e⟩
    · refine ⟨fun ⟨i, io, ds, e1, e2⟩ => ?_, (n b lb).2⟩
      obtain ⟨a', ys, e3, e4, _⟩ := h.own i io ds e1
      rw [e2] at e3
      cases e3
      rw [(n b lb).1] at e4
      cases e4
theorem RE.h0 {c : Cc} {L : Addr → Prop} {σ : St} {H : Hp} {env : En} (re : RE c L σ H env) {p : Addr} (n : H p = none) : c.H0 p = none := by
  cases e : c.H0 p with
  | none => rfl
  | some o =>
    by_cases i : c.Io p
    · obtain ⟨ys, q⟩ := re.io p i
      rw [n] at q
      cases q
    · have q := re.fr p o i e
      rw [n] at q
      cases q

abbrev FD := En → R T
abbrev cc0 (K : PySem.W.Frag) (mg : Str → Option Value) (H : Hp) (vs : List V) (env : En) : Cc := ⟨K, mg, H, ownM (vs.map some) env, vs⟩
def spD (K : PySem.W.Frag) (mg : Str → Option Value) (g : FD) : Sp := fun vs H Q E => ∃ env L, RE (cc0 K mg H vs env) L (vs.map some) H env ∧ match g env with
  | .er => False
  | .ex x out => ∀ H', RE (cc0 K mg H vs env) L (vs.map some) H' out → ∀ C, mg x = some (.ref C) → E (.ref C) none H'
  | .ok t out => ∀ v H', RE (cc0 K mg H vs env) L (vs.map some) H' out → RepT (cc0 K mg H vs env) L (fun a => H a = none) (vs.map some) H' out v t → Q v H'

def isAl : T → Bool
  | .al _ => true
  | _ => false
def flatC (c : Cp) : Bool := match c.fr, c.d with
  | true, .lst ds => D.flats ds
  | _, d => D.flat d
def flatT : T → Bool
  | .im d => D.flat d
  | .fr ds => D.flats ds
  | .ft cs => cs.all flatC
  | .al _ => false
def callT (g : FD) (ts : List T) (e : En) : R T := match vals e ts with
  | none => .er
  | some ds => match g (ds.map .im) with
    | .er => .er
    | .ex x _ => .ex x e
    | .ok t _ => if isAl t = false ∧ (ts.any isAl = false ∨ flatT t = true) then .ok t e else .er
def eCall (g : FD) (fa : FA) : FE := fun env => (fa env).bind fun ts e1 => callT g ts e1
section
variable {c : Cc} {L : Addr → Prop} {σ : St} {H : Hp} {env : En}
theorem RepAs.args {G G' : Addr → Prop} (g : ∀ b, G b → G' b) (ra : RE c L σ H env) (gl : ∀ b, Av L σ env b → G' b) : ∀ {As vs ts ds}, RepAs c.K G σ H env As vs ts → (∀ a ∈ As, G' a) → (ts.any isAl = false ∨ ∀ b, ownM σ env b → G' b) → vals env ts = some ds → Reps c.K G' H vs ds
  | _, _, _, ds, .nil, _, _, e => by cases e; exact .nil
  | _, _, _, ds, .im (ts := ts) r rs, n, hal, e => by
    simp only [vals, val_im] at e
    cases q : vals env ts with
    | none => rw [q] at e; cases e
    | some es =>
      rw [q] at e
      cases e
      exact .cons (r.mono (.refl H) fun b xs gb e => ⟨g b gb, e⟩) (RepAs.args g ra gl rs n (hal.imp (fun z => by simpa [isAl] using z) id) q)
  | _, _, _, ds, .fr (ts := ts) na ea r rs, n, hal, e => by
    simp only [vals, val_fr] at e
    cases q : vals env ts with
    | none => rw [q] at e; cases e
    | some es =>
      rw [q] at e
      cases e
      exact .cons (.lst (n _ List.mem_cons_self) ea (r.mono (.refl H) fun b xs gb e => ⟨g b gb, e⟩)) (RepAs.args g ra gl rs (fun b z => n b (List.mem_cons_of_mem _ z)) (hal.imp (fun z => by simpa [isAl] using z) id) q)
  | _, _, _, ds, .al (i := i) (ts := ts) o es rs, n, hal, e => by
    have hal : ∀ b, ownM σ env b → G' b := hal.elim (fun z => by simp [isAl] at z) id
    obtain ⟨io, es', eo⟩ := o
    have ev : (T.al i).val env = some (.lst es') := by simp [T.val, eo]
    simp only [vals, ev] at e
    cases q : vals env ts with
    | none => rw [q] at e; cases e
    | some fs =>
      rw [q] at e
      cases e
      obtain ⟨a, xs, e3, e4, r5, _⟩ := ra.own i io es' eo
      rw [es] at e3
      cases e3
      exact .cons (.lst (hal _ ⟨i, io, es', eo, es⟩) e4 (r5.mono (.refl H) fun b xs gb e => ⟨gl b gb, e⟩)) (RepAs.args g ra gl rs n (.inr hal) q)
theorem get_im {ds : List D} {i : Nat} {s : Sl} (h : (ds.map Sl.im)[i]? = some s) : ∃ d, ds[i]? = some d ∧ s = .im d := by
  rw [List.getElem?_map] at h
  cases q : ds[i]? with
  | none => rw [q] at h; cases h
  | some d => rw [q] at h; cases h; exact ⟨d, rfl, rfl⟩
theorem no_own_im {σ : St} {ds : List D} (b : Addr) : ¬ ownM σ (ds.map Sl.im) b := fun ⟨i, io, es, e1, _⟩ => by
  obtain ⟨d, _, e⟩ := get_im e1
  cases e
theorem RE.enter {K : PySem.W.Frag} {mg : Str → Option Value} {vs : List V} {ds : List D} {L' : Addr → Prop} (r : Reps K (fun b => ¬ L' b) H vs ds) (ext : ∀ a, L' a → ∃ xs, H a = some (.lst xs)) : RE (cc0 K mg H vs (ds.map .im)) L' (vs.map some) H (ds.map .im) where
  len := by rw [List.length_map, List.length_map, r.length]
  im := fun i d e => by
    obtain ⟨d', e1, e2⟩ := get_im e
    cases e2
    obtain ⟨v, e3, q⟩ := r.get e1
    exact ⟨v, by rw [List.getElem?_map, e3]; rfl, q.mono (.refl H) fun a xs g e => ⟨⟨g, no_own_im a⟩, e⟩⟩
  own := fun i io es e => by
    obtain ⟨d', _, e2⟩ := get_im e
    cases e2
  inj := fun i j io jo es fs a e => by
    obtain ⟨d', _, e2⟩ := get_im e
    cases e2
  ext := fun a la => ⟨no_own_im a, ext a la⟩
  fr := fun b o _ e => e
  io := fun a z => (no_own_im a z).elim
theorem RepC.flat {K : PySem.W.Frag} {G G' : Addr → Prop} {H : Hp} : ∀ {As vs cs}, RepC K G H As vs cs → flatT (.ft cs) = true → RepC K G' H As vs cs
  | _, _, _, .nil, _ => .nil
  | _, _, _, .im (d := d) r rs, f => by
    simp only [flatT, List.all_cons, Bool.and_eq_true] at f
    exact .im (r.flat f.1) (RepC.flat rs f.2)
  | _, _, _, .fr n e r rs, f => by
    simp only [flatT, List.all_cons, Bool.and_eq_true] at f
    exact .fr n e (r.flats f.1) (RepC.flat rs f.2)
theorem RepT.home {c0 : Cc} {L' : Addr → Prop} {σ0 : St} {H1 H' : Hp} {out env' : En} {v : V} {t : T} (h : RepT c0 L' (fun a => H1 a = none) σ0 H' out v t) (hc : c0.K = c.K) (na : ∀ i, t ≠ .al i) (hL : ∀ a, L a → L' a)
    (fl : flatT t = true ∨ ∀ a, ownM σ env' a → L' a ∨ ownM σ0 out a) (re : ∀ S : Addr → Prop, RE c0 (fun b => L' b ∨ S b) σ0 H' out → (∀ a, S a → H1 a = none ∧ ∃ xs, H' a = some (.lst xs)) → RE c (fun b => L b ∨ S b) σ H' env') (h0 : ∀ a, H1 a = none → c.H0 a = none) :
    RepT c L (fun a => H1 a = none) σ H' env' v t := by
  cases t with
  | al i => exact (na i rfl).elim
  | im d =>
    have h : Rep c0.K (Av L' σ0 out) H' v d := h
    rw [hc] at h
    rcases fl with f | f
    · exact h.flat f
    · exact h.mono (.refl H') fun a xs g e => ⟨⟨fun z => g.1 (hL a z), fun z => (f a z).elim g.1 g.2⟩, e⟩
  | fr ds =>
    obtain ⟨a, xs, e, e1, r, n1, n2, n3, q⟩ := h
    rw [hc] at r
    have rr := re (fun b => b = a) q fun b z => by subst z; exact ⟨n3, _, e1⟩
    refine ⟨a, xs, e, e1, ?_, fun z => n1 (hL a z), h0 a n3, n3, rr⟩
    rcases fl with f | f
    · exact r.flats f
    · exact r.mono (.refl H') fun b ys g e => ⟨⟨fun z => g.1 (z.imp (hL b) id), fun z => (f b z).elim (fun y => g.1 (.inl y)) g.2⟩, e⟩
  | ft cs =>
    obtain ⟨tt, vs, As, e, e1, r, n1, q⟩ := h
    rw [hc] at r e1
    have rr := re (fun b => b ∈ As) q fun b z => ⟨(n1 b z).2.2, r.in b z⟩
    refine ⟨tt, vs, As, e, e1, ?_, fun a z => ⟨fun y => (n1 a z).1 (hL a y), h0 a (n1 a z).2.2, (n1 a z).2.2⟩, rr⟩
    rcases fl with f | f
    · exact r.flat f
    · exact r.mono (.refl H') (fun b ys g e => ⟨⟨fun z => g.1 (z.imp (hL b) id), fun z => (f b z).elim (fun y => g.1 (.inl y)) g.2⟩, e⟩) fun _ _ _ e => e
end
section
variable {X : Cx} {c : Cc} {W : WX} {pos p : Pos} {x : Str} {e : Expr} {es : List Expr} {fa : FA} {g : FD} {k : Nat} {f : Addr} {fd : FuncData} {ps : List Str}
theorem d_call : ∀ σ H Q, dE c W (eCall g fa) σ H Q → tCallS (spD c.K c.mg g) (WE W) (dA c W fa) σ H Q := fun σ H Q h => by
  obtain ⟨env, L, re, h⟩ := dE_iff.mp h
  refine dA.of re (h.bind.mono fun ts e1 H1 r1 s1 h1 vs As q n r2 => ?_)
  unfold callT at h1
  cases ev : vals e1 ts with
  | none => rw [ev] at h1; exact h1.elim
  | some ds =>
    rw [ev] at h1
    dsimp only at h1
    -- what the callee must keep off
    obtain ⟨L', hL, hown, hrep, hext⟩ : ∃ L' : Addr → Prop, (∀ a, L a → L' a) ∧ (ts.any isAl = false → ∀ a, ownM σ e1 a → L' a) ∧ Reps c.K (fun b => ¬ L' b) H1 vs ds ∧ (∀ a, L' a → ∃ xs, H1 a = some (.lst xs)) := by
      by_cases na : ts.any isAl = false
      · refine ⟨fun a => L a ∨ ownM σ e1 a, fun a z => .inl z, fun _ a z => .inr z, q.args (G' := fun b => ¬ (L b ∨ ownM σ e1 b)) (fun b gb z => z.elim (fun z => gb.1 (.inl z)) gb.2) r1 (fun b gb z => z.elim gb.1 gb.2) (fun a z y => y.elim (n a z).1 (r2.ext a (.inr z)).1) (.inl na) ev, fun a z => ?_⟩
        rcases z with z | ⟨i, io, es, e1', e2'⟩
        · exact (r1.ext a z).2
        · obtain ⟨b, xs, e3, e4, _⟩ := r1.own i io es e1'
          rw [e2'] at e3
          cases e3
          exact ⟨xs, e4⟩
      · exact ⟨L, fun a z => z, fun z => (na z).elim, q.args (G' := fun b => ¬ L b) (fun b gb z => gb.1 (.inl z)) r1 (fun b gb => gb.1) (fun a z => (n a z).1) (.inr fun b ob z => (r1.ext b z).1 ob) ev, fun a z => (r1.ext a z).2⟩
    refine ⟨ds.map .im, L', RE.enter hrep hext, ?_⟩
    have grow : ∀ {H' : Hp} {out : En}, RE (cc0 c.K c.mg H1 vs (ds.map .im)) L' (vs.map some) H' out → ∀ b o, H1 b = some o → H' b = some o := fun {H' out} r b o e => r.fr b o (no_own_im b) e
    cases eg : g (ds.map .im) with
    | er => rw [eg] at h1; exact h1.elim
    | ex y out =>
      rw [eg] at h1
      exact fun H' rr C hC => h1 H' (r1.grow (grow rr)) (.grow (grow rr)) C hC
    | ok t out =>
      rw [eg] at h1
      dsimp only at h1
      split at h1
      · rename_i fl
        intro v H' rr qt
        have kp := grow rr
        have na : ∀ i, t ≠ .al i := fun i z => by
          subst z
          cases fl.1
        refine h1 H' (r1.grow kp) (.grow kp) v ?_
        have fl' : flatT t = true ∨ ∀ a, ownM σ e1 a → L' a ∨ ownM (vs.map some) out a := fl.2.elim (fun z => .inr fun a oa => .inl (hown z a oa)) .inl
        exact (qt.home (c := c) rfl na hL fl' (fun S _ hS => r1.mores kp hS) (fun a z => r1.h0 z)).less (fun _ z => z) fun a z => s1.back (.inr z)
      · exact h1.elim
theorem de_call (F : FnOk X.prog X.w X.K X.mg X.base (L2.CX X.prog X.w) k f fd ps (spD X.K X.mg g)) (hr : Room k X.A) (hg : Gl X x) (hm : X.mg x = some (.ref f)) (hk : PySem.W.keepIn X.K (.ref f) = true) (hb : Binds X.K fd ps []) (tk : Takes X W)
    (ha : PA X (e :: es) (dA c W fa)) (hK : c.K = X.K := by rfl) (hM : c.mg = X.mg := by rfl) (hdb : (x == ("__debug__" : Str)) = false := by decide) (he : starEach (e :: es) X.env = (false, eval e X.env) :: starEach es X.env := by rfl) (hpl : (backTo pos (starEach es X.env)).any (·.1) = false := by rfl) :
    PE X (.Call (.Name x p) (e :: es) [] pos) (dE c W (eCall g fa)) :=
  PEw (pe_callS F hr hg hm hk hb (fun σ => passAt tk σ) ha hdb he hpl) (by rw [← hK, ← hM]; exact d_call)
end
def argE : Option Nat → List T → En → Option En
  | _, [], _ => some []
  | some 0, t :: ts, e => match t with
    | .al i => match e[i]?, argE none ts e with
      | some (.own _ ds), some r => some (.own true ds :: r)
      | _, _ => none
    | _ => none
  | some (k + 1), t :: ts, e => match t.val e, argE (some k) ts e with
    | some d, some r => some (.im d :: r)
    | _, _ => none
  | none, t :: ts, e => match t.val e, argE none ts e with
    | some d, some r => some (.im d :: r)
    | _, _ => none
def isAli (i : Nat) : T → Bool
  | .al j => i == j
  | _ => false
def others : Option Nat → List T → List T
  | _, [] => []
  | some 0, _ :: ts => ts
  | some (k + 1), t :: ts => t :: others (some k) ts
  | none, t :: ts => t :: ts
def callI (k : Nat) (g : FD) (ts : List T) (e : En) : R T := match ts[k]? with
  | some (.al i) => match e[i]?, argE (some k) ts e with
    | some (.own b ds), some env0 => match g env0 with
      | .er => .er
      | .ex x out => match out[k]? with
        | some (.own true ds') => if (others (some k) ts).any (isAli i) = false ∧ ((others (some k) ts).any isAl = false ∨ D.flats ds' = true) then .ex x (e.set i (.own b ds')) else .er
        | _ => .er
      | .ok t out => match out[k]? with
        | some (.own true ds') => if isAl t = false ∧ (others (some k) ts).any (isAli i) = false ∧ ((others (some k) ts).any isAl = false ∨ (flatT t = true ∧ D.flats ds' = true)) then .ok t (e.set i (.own b ds')) else .er
        | _ => .er
    | _, _ => .er
  | _ => .er
def eCallI (k : Nat) (g : FD) (fa : FA) : FE := fun env => (fa env).bind fun ts e1 => callI k g ts e1
section
variable {c : Cc} {L : Addr → Prop} {σ : St} {H : Hp} {env : En}
theorem RepAs.uncons {K : PySem.W.Frag} {G : Addr → Prop} {As : List Addr} {vs : List V} {t : T} {ts : List T} (h : RepAs K G σ H env As vs (t :: ts)) : ∃ v vs' As', vs = v :: vs' ∧ RepAs K G σ H env As' vs' ts ∧ (∀ b ∈ As', b ∈ As) ∧
    ((∃ d, t = .im d ∧ Rep K G H v d) ∨ (∃ i, t = .al i ∧ (∃ (io : Bool) (ds : List D), env[i]? = some (Sl.own io ds)) ∧ σ[i]? = some (some v)) ∨ (∃ a xs ds, t = .fr ds ∧ v = .ref a ∧ a ∈ As ∧ H a = some (.lst xs) ∧ Reps K G H xs ds)) := by
  cases h with
  | im r rs => exact ⟨_, _, _, rfl, rs, fun _ z => z, .inl ⟨_, rfl, r⟩⟩
  | al o e rs => exact ⟨_, _, _, rfl, rs, fun _ z => z, .inr (.inl ⟨_, rfl, o, e⟩)⟩
  | fr n e r rs => exact ⟨_, _, _, rfl, rs, fun _ z => List.mem_cons_of_mem _ z, .inr (.inr ⟨_, _, _, rfl, rfl, List.mem_cons_self, e, r⟩)⟩
theorem RepAs.argE {As0 : List Addr} {G' : Addr → Prop} {a : Addr} {i : Nat} {bi : Bool} {di : List D} (g : ∀ b, Av (Lu L As0) σ env b → G' b) (ra : RE c L σ H env) (gl : ∀ b, Av L σ env b → G' b) (si : σ[i]? = some (some (V.ref a))) (ei : env[i]? = some (Sl.own bi di)) :
    ∀ (ts : List T) (o : Option Nat) {As vs env0}, RepAs c.K (Av (Lu L As0) σ env) σ H env As vs ts → (∀ b ∈ As, G' b) →
    ((others o ts).any isAl = false ∨ ∀ b, ownM σ env b → b ≠ a → G' b) → (others o ts).any (isAli i) = false → (∀ k, o = some k → ts[k]? = some (T.al i)) → DL.argE o ts env = some env0 →
    env0.length = vs.length ∧ (∀ k, o = some k → vs[k]? = some (.ref a) ∧ env0[k]? = some (Sl.own true di)) ∧ (∀ (j : Nat) (d : D), env0[j]? = some (Sl.im d) → ∃ v, vs[j]? = some v ∧ Rep c.K G' H v d) ∧ (∀ (j : Nat) (io : Bool) (ds : List D), env0[j]? = some (Sl.own io ds) → o = some j ∧ io = true ∧ ds = di)
  | [], o, As, vs, env0, h, _, _, _, e, h2 => by
    cases h
    have : env0 = [] := by
      unfold DL.argE at h2
      exact (Option.some.inj h2).symm
    subst this
    exact ⟨rfl, fun k z => by simpa using e k z, fun j d z => by simp at z, fun j io ds z => by simp at z⟩
  | t :: ts, o, As, vs, env0, h, n, hal, hi, e, h2 => by
    obtain ⟨v, vs', As', rfl, rs, sub, hd⟩ := h.uncons
    -- a head that is not the list to be changed
    have reg : ∀ d, t.val env = some d → (isAl t = false ∨ ∀ b, ownM σ env b → b ≠ a → G' b) → isAli i t = false → Rep c.K G' H v d := fun d ev ha hb => by
      rcases hd with ⟨d', rfl, r⟩ | ⟨j, rfl, ⟨io, ds, eo⟩, es⟩ | ⟨b, xs, ds, rfl, rfl, hm, eb, r⟩
      · cases ev
        exact r.mono (.refl H) fun b xs gb e => ⟨g b gb, e⟩
      · have ev' : (T.al j).val env = some (.lst ds) := by simp [T.val, eo]
        rw [ev'] at ev
        cases ev
        obtain ⟨b, xs, e3, e4, r5, _⟩ := ra.own j io ds eo
        rw [es] at e3
        cases e3
        have ha := ha.elim (fun z => by cases z) id
        refine .lst (ha b ⟨j, io, ds, eo, es⟩ fun z => ?_) e4 (r5.mono (.refl H) fun b xs gb e => ⟨gl b gb, e⟩)
        subst z
        have : i = j := ra.inj i j bi io di ds b ei eo si es
        subst this
        simp [isAli] at hb
      · cases ev
        exact .lst (n b hm) eb (r.mono (.refl H) fun b xs gb e => ⟨g b gb, e⟩)
    have n' : ∀ b ∈ As', G' b := fun b z => n b (sub b z)
    cases o with
    | none =>
      unfold DL.argE at h2
      simp only [others] at hal hi
      have hal1 : isAl t = false ∨ ∀ b, ownM σ env b → b ≠ a → G' b := hal.imp (fun z => by simp at z; exact z.1) id
      have hal2 : (others none ts).any isAl = false ∨ ∀ b, ownM σ env b → b ≠ a → G' b := hal.imp (fun z => by cases ts <;> simp_all [others]) id
      have hi2 : (others none ts).any (isAli i) = false := by cases ts <;> simp_all [others]
      cases q1 : t.val env with
      | none => rw [q1] at h2; simp at h2
      | some d =>
        cases q2 : DL.argE none ts env with
        | none => rw [q1, q2] at h2; simp at h2
        | some r =>
          rw [q1, q2] at h2
          cases h2
          obtain ⟨y1, y2, y3, y4⟩ := RepAs.argE g ra gl si ei ts none rs n' hal2 hi2 (fun k z => nomatch z) q2
          refine ⟨by rw [List.length_cons, List.length_cons, y1], (fun k z => nomatch z), fun j d' z => ?_, fun j io ds z => ?_⟩
          · cases j with
            | zero => simp at z; subst z; exact ⟨v, rfl, reg d q1 hal1 (by simp at hi; exact hi.1)⟩
            | succ j => simpa using y3 j d' (by simpa using z)
          · cases j with
            | zero => simp at z
            | succ j => have q := y4 j io ds (by simpa using z); cases q.1
    | some k =>
      cases k with
      | zero =>
        have et : t = T.al i := by simpa using e 0 rfl
        subst et
        unfold DL.argE at h2
        simp only [others] at hal hi
        have hal2 : (others none ts).any isAl = false ∨ ∀ b, ownM σ env b → b ≠ a → G' b := hal.imp (fun z => by cases ts <;> simp_all [others]) id
        have hi2 : (others none ts).any (isAli i) = false := by cases ts <;> simp_all [others]
        cases q2 : DL.argE none ts env with
        | none => simp only [ei, q2] at h2; cases h2
        | some r =>
          simp only [ei, q2] at h2
          cases h2
          obtain ⟨y1, y2, y3, y4⟩ := RepAs.argE g ra gl si ei ts none rs n' hal2 hi2 (fun k z => nomatch z) q2
          have ev : v = .ref a := by
            rcases hd with ⟨d', z, r⟩ | ⟨j, z, _, es⟩ | ⟨b, xs, ds, z, _⟩
            · cases z
            · cases z
              rw [si] at es
              cases es
              rfl
            · cases z
          refine ⟨by rw [List.length_cons, List.length_cons, y1], (fun k z => by cases z; exact ⟨by rw [ev]; rfl, rfl⟩), fun j d' z => ?_, fun j io ds z => ?_⟩
          · cases j with
            | zero => simp at z
            | succ j => simpa using y3 j d' (by simpa using z)
          · cases j with
            | zero => simp at z; exact ⟨rfl, by simp_all, by simp_all⟩
            | succ j => have q := y4 j io ds (by simpa using z); cases q.1
      | succ k =>
        unfold DL.argE at h2
        simp only [others] at hal hi
        have hal1 : isAl t = false ∨ ∀ b, ownM σ env b → b ≠ a → G' b := hal.imp (fun z => by simp at z; exact z.1) id
        have hal2 : (others (some k) ts).any isAl = false ∨ ∀ b, ownM σ env b → b ≠ a → G' b := hal.imp (fun z => by simp at z; simpa using z.2) id
        have hi2 : (others (some k) ts).any (isAli i) = false := by simp at hi; simpa using hi.2
        cases q1 : t.val env with
        | none => rw [q1] at h2; simp at h2
        | some d =>
          cases q2 : DL.argE (some k) ts env with
          | none => rw [q1, q2] at h2; simp at h2
          | some r =>
            rw [q1, q2] at h2
            cases h2
            obtain ⟨y1, y2, y3, y4⟩ := RepAs.argE g ra gl si ei ts (some k) rs n' hal2 hi2 (fun k' z => by cases z; simpa using e _ rfl) q2
            refine ⟨by rw [List.length_cons, List.length_cons, y1], (fun k' z => by cases z; simpa using y2 k rfl), fun j d' z => ?_, fun j io ds z => ?_⟩
            · cases j with
              | zero => simp at z; subst z; exact ⟨v, rfl, reg d q1 hal1 (by simp at hi; exact hi.1)⟩
              | succ j => simpa using y3 j d' (by simpa using z)
            · cases j with
              | zero => simp at z
              | succ j =>
                have q := y4 j io ds (by simpa using z)
                exact ⟨by cases q.1; rfl, q.2⟩
end
section
variable {X : Cx} {c : Cc} {W : WX} {pos p : Pos} {x : Str} {e : Expr} {es : List Expr} {fa : FA} {g : FD} {k kk : Nat} {f : Addr} {fd : FuncData} {ps : List Str}
theorem d_callI : ∀ σ H Q, dE c W (eCallI kk g fa) σ H Q → tCallS (spD c.K c.mg g) (WE W) (dA c W fa) σ H Q := fun σ H Q h => by
  obtain ⟨env, L, re, h⟩ := dE_iff.mp h
  refine dA.of re (h.bind.mono fun ts e1 H1 r1 s1 h1 vs As q n r2 => ?_)
  unfold callI at h1
  cases et : ts[kk]? with
  | none => simp only [et] at h1; exact h1.elim
  | some tt =>
    cases tt with
    | im d => simp only [et] at h1; exact h1.elim
    | fr d => simp only [et] at h1; exact h1.elim
    | ft d => simp only [et] at h1; exact h1.elim
    | al i =>
      cases ei : e1[i]? with
      | none => simp only [et, ei] at h1; exact h1.elim
      | some s =>
        cases s with
        | no => simp only [et, ei] at h1; exact h1.elim
        | im d => simp only [et, ei] at h1; exact h1.elim
        | own bi di =>
          cases ev : argE (some kk) ts e1 with
          | none => simp only [et, ei, ev] at h1; exact h1.elim
          | some env0 =>
            simp only [et, ei, ev] at h1
            obtain ⟨a, xs, si, ea, ra, f0, f1⟩ := r1.own i bi di ei
            have oa : ownM σ e1 a := ⟨i, bi, di, ei, si⟩
            by_cases hi : (others (some kk) ts).any (isAli i) = false
            case neg =>
              exfalso
              cases eg : g env0 with
              | er => rw [eg] at h1; exact h1
              | ex y out =>
                rw [eg] at h1
                dsimp only at h1
                split at h1
                · rw [if_neg (fun z => hi z.1)] at h1
                  exact h1
                · exact h1
              | ok t out =>
                rw [eg] at h1
                dsimp only at h1
                split at h1
                · rw [if_neg (fun z => hi z.2.1)] at h1
                  exact h1
                · exact h1
            -- what the callee must keep off
            obtain ⟨L', hL, hown, hLo, harg⟩ : ∃ L' : Addr → Prop, (∀ a, L a → L' a) ∧ ((others (some kk) ts).any isAl = false → ∀ b, ownM σ e1 b → b ≠ a → L' b) ∧ (∀ b, L' b → L b ∨ (ownM σ e1 b ∧ b ≠ a)) ∧
                ((others (some kk) ts).any isAl = false ∨ ∀ b, ownM σ e1 b → b ≠ a → ¬ L' b ∧ b ≠ a) := by
              by_cases na : (others (some kk) ts).any isAl = false
              · exact ⟨fun b => L b ∨ (ownM σ e1 b ∧ b ≠ a), fun a z => .inl z, fun _ b o ne => .inr ⟨o, ne⟩, fun b z => z, .inl na⟩
              · exact ⟨L, fun a z => z, fun z => (na z).elim, fun b z => .inl z, .inr fun b o ne => ⟨fun z => (r1.ext b z).1 o, ne⟩⟩
            have nL : ∀ b, Av L σ e1 b → ¬ L' b ∧ b ≠ a := fun b g => ⟨fun z => (hLo b z).elim g.1 fun z => g.2 z.1, fun z => g.2 (by rw [z]; exact oa)⟩
            obtain ⟨y1, y2, y3, y4⟩ := RepAs.argE (G' := fun b => ¬ L' b ∧ b ≠ a) (fun b g => nL b ⟨fun z => g.1 (.inl z), g.2⟩) r1 nL si ei ts (some kk) q (fun b z => ⟨fun y => (hLo b y).elim (n b z).1 fun y => (r2.ext b (.inr z)).1 y.1, fun y => (r2.ext b (.inr z)).1 (by rw [y]; exact oa)⟩) harg hi
              (fun k' z => by cases z; exact et) ev
            obtain ⟨vk, ek⟩ := y2 kk rfl
            have ovs : ∀ b, ownM (vs.map some) env0 b ↔ b = a := fun b => by
              constructor
              · rintro ⟨j, io, ds, e1', e2'⟩
                obtain ⟨z1, _, _⟩ := y4 j io ds e1'
                cases z1
                rw [List.getElem?_map, vk] at e2'
                cases e2'
                rfl
              · rintro rfl
                exact ⟨kk, true, di, ek, by rw [List.getElem?_map, vk]; rfl⟩
            have enter : RE (cc0 c.K c.mg H1 vs env0) L' (vs.map some) H1 env0 := by
              refine ⟨by rw [y1, List.length_map], fun j d z => ?_, fun j io ds z => ?_, fun j j' io jo ds es b z1 z2 _ _ => ?_, fun b lb => ⟨fun z => ?_, ?_⟩, fun b o _ e => e, fun b ib => ?_⟩
              · obtain ⟨v, ev', r⟩ := y3 j d z
                exact ⟨v, by rw [List.getElem?_map, ev']; rfl, r.mono (.refl H1) fun b ys g e => ⟨⟨g.1, fun z => g.2 ((ovs b).mp z)⟩, e⟩⟩
              · obtain ⟨z1, z2, z3⟩ := y4 j io ds z
                cases z1
                subst z2 z3
                exact ⟨a, xs, by rw [List.getElem?_map, vk]; rfl, ea, ra.mono (.refl H1) fun b ys g e => ⟨⟨(nL b g).1, fun z => (nL b g).2 ((ovs b).mp z)⟩, e⟩, (fun z => nomatch z), fun _ => ⟨(ovs a).mpr rfl, vk⟩⟩
              · have w1 := (y4 j io ds z1).1
                have w2 := (y4 j' jo es z2).1
                rw [w1] at w2
                exact Option.some.inj w2
              · have := (ovs b).mp z
                subst this
                exact (hLo b lb).elim (fun z => (r1.ext b z).1 oa) fun z => z.2 rfl
              · rcases hLo b lb with z | ⟨⟨j, io, ds, e1', e2'⟩, _⟩
                · exact (r1.ext b z).2
                · obtain ⟨b', ys, e3, e4, _⟩ := r1.own j io ds e1'
                  rw [e2'] at e3
                  cases e3
                  exact ⟨ys, e4⟩
              · have := (ovs b).mp ib
                subst this
                exact ⟨xs, ea⟩
            refine ⟨env0, L', enter, ?_⟩
            -- behind the call
            have back : ∀ {H' : Hp} {out : En} {ds' : List D} {S : Addr → Prop}, RE (cc0 c.K c.mg H1 vs env0) (fun b => L' b ∨ S b) (vs.map some) H' out → out[kk]? = some (Sl.own true ds') → ((others (some kk) ts).any isAl = false ∨ D.flats ds' = true) →
                (∀ b, S b → H1 b = none ∧ ∃ xs, H' b = some (.lst xs)) → RE c (fun b => L b ∨ S b) σ H' (e1.set i (.own bi ds')) ∧ Stp σ e1 H1 σ (e1.set i (.own bi ds')) H' := fun {H' out ds' S} rr eo fl hS => by
              obtain ⟨a', xs', e3, e4, r5, _⟩ := rr.own kk true ds' eo
              rw [List.getElem?_map, vk] at e3
              cases e3
              have kp : ∀ b o, b ≠ a → H1 b = some o → H' b = some o := fun b o ne e => rr.fr b o (fun z => ne ((ovs b).mp z)) e
              have Sa : ¬ S a := fun z => by rw [(hS a z).1] at ea; cases ea
              have ox : ownM (vs.map some) out a := ⟨kk, true, ds', eo, by rw [List.getElem?_map, vk]; rfl⟩
              have r6 : Reps c.K (Av (fun b => L b ∨ S b) σ e1) H' xs' ds' := by
                rcases fl with fl | fl
                · refine r5.mono (.refl H') fun b ys g e => ⟨⟨fun z => g.1 (z.imp (hL b) id), fun z => ?_⟩, e⟩
                  by_cases ne : b = a
                  · subst ne
                    exact g.2 ox
                  · exact g.1 (.inl (hown fl b z ne))
                · exact r5.flats fl
              -- by a heap between
              let Hx : Hp := fun b => if b = a then H1 a else H' b
              have hx : ∀ b, b ≠ a → Hx b = H' b := fun b ne => if_neg ne
              have hxa : Hx a = H1 a := if_pos rfl
              have rx : RE c (fun b => L b ∨ S b) σ Hx e1 := r1.mores (fun b o e => by
                by_cases ne : b = a
                · subst ne
                  exact hxa.trans e
                · exact (hx b ne).trans (kp b o ne e)) fun b sb => ⟨(hS b sb).1, by
                  rw [hx b fun z => Sa (by rw [← z]; exact sb)]
                  exact (hS b sb).2⟩
              obtain ⟨q1, q2⟩ := rx.put ei si (fun b o ne e => (hx b ne).symm.trans e) e4 r6
              refine ⟨q1, Stp.trans (fun b nb => ?_) q2⟩
              have ne : b ≠ a := fun z => nb (.inl (by rw [z]; exact oa))
              cases e : H1 b with
              | none => exact (nb (.inr e)).elim
              | some o => exact ⟨(hx b ne).trans (kp b o ne e), fun z => z.elim (fun z => nb (.inl z)) fun z => by rw [hx b ne, kp b o ne e] at z; cases z⟩
            have noS : ∀ {H' : Hp} {out : En}, RE (cc0 c.K c.mg H1 vs env0) L' (vs.map some) H' out → RE (cc0 c.K c.mg H1 vs env0) (fun b => L' b ∨ False) (vs.map some) H' out := fun r => r.less fun b z => z.elim id False.elim
            cases eg : g env0 with
            | er => rw [eg] at h1; exact h1.elim
            | ex y out =>
              rw [eg] at h1
              dsimp only at h1
              split at h1
              · rename_i ds' eo
                split at h1
                · rename_i fl
                  intro H' rr C hC
                  obtain ⟨q1, q2⟩ := back (noS rr) eo fl.2 fun b z => z.elim
                  exact h1 H' (q1.less fun b z => .inl z) q2 C hC
                · exact h1.elim
              · exact h1.elim
            | ok t out =>
              rw [eg] at h1
              dsimp only at h1
              split at h1
              · rename_i ds' eo
                split at h1
                · rename_i fl
                  intro v H' rr qt
                  have fl' : (others (some kk) ts).any isAl = false ∨ D.flats ds' = true := fl.2.2.imp id And.right
                  obtain ⟨q1, q2⟩ := back (noS rr) eo fl' fun b z => z.elim
                  have ox : ownM (vs.map some) out a := ⟨kk, true, ds', eo, by rw [List.getElem?_map, vk]; rfl⟩
                  refine h1 H' (q1.less fun b z => .inl z) q2 v ?_
                  refine (qt.home (c := c) rfl (fun j z => by subst z; cases fl.1) hL (fl.2.2.elim (fun z => .inr fun b ob => ?_) fun z => .inl z.1) (fun S rS hS => (back rS eo fl' hS).1) (fun a z => r1.h0 z)).less (fun _ z => z) fun a z => s1.back (.inr z)
                  by_cases ne : b = a
                  · subst ne
                    exact .inr ox
                  · exact .inl (hown z b ((own_put ei b).mp ob) ne)
                · exact h1.elim
              · exact h1.elim
theorem de_callI (kk : Nat) (F : FnOk X.prog X.w X.K X.mg X.base (L2.CX X.prog X.w) k f fd ps (spD X.K X.mg g)) (hr : Room k X.A) (hg : Gl X x) (hm : X.mg x = some (.ref f)) (hk : PySem.W.keepIn X.K (.ref f) = true) (hb : Binds X.K fd ps []) (tk : Takes X W)
    (ha : PA X (e :: es) (dA c W fa)) (hK : c.K = X.K := by rfl) (hM : c.mg = X.mg := by rfl) (hdb : (x == ("__debug__" : Str)) = false := by decide) (he : starEach (e :: es) X.env = (false, eval e X.env) :: starEach es X.env := by rfl) (hpl : (backTo pos (starEach es X.env)).any (·.1) = false := by rfl) :
    PE X (.Call (.Name x p) (e :: es) [] pos) (dE c W (eCallI kk g fa)) :=
  PEw (pe_callS F hr hg hm hk hb (fun σ => passAt tk σ) ha hdb he hpl) (by rw [← hK, ← hM]; exact d_callI)
end
end DL
namespace PySem
open AutoSeq1 (wpAny_loadPart')
theorem enum1_begins {v : Value} {o : Obj} {H : Heap → Prop} (B : Begins v o H) :
    Meets (Builtin.«enumerate.__new__» ⟨[.type "enumerate", v], []⟩) (fun _ R s => H s.heap ∧
      R (.ok (.ret (.ref (s.heap.push o).objs.size))) { s with heap := (s.heap.push o).push { cls := .type "enumerate", data := .fields #[.none, .bool false, .ref s.heap.objs.size, rawInt 0, .none, .none] } }) :=
  .of_wp fun prog w A R s h => by
    obtain ⟨hp, g, d, tk, os⟩ := s; obtain ⟨h1, h⟩ := h
    have hsub := sub_enumerate
    have q1 : ∀ {A' : Around} {E : Value → Shared → Prop} {Q : Value → Shared → Prop}, Q (.ref hp.objs.size) ⟨hp.push o, g, d, tk, os⟩ → wpAny (model prog w) A' (pyIter v) Q E ⟨hp, g, d, tk, os⟩ :=
      fun q => B.iter prog w _ _ ⟨hp, g, d, tk, os⟩ _ h1 q
    wp_walk using q1
    refine wpAny_stack_any fun st => wpAny_pure ?_
    split
    · rename_i c _ _ _ _ _
      cases (c == Value.type "enumerate")
      · wp_walk using q1
        exact ⟨_, rfl, h⟩
      · wp_walk using q1
        exact ⟨_, rfl, h⟩
    · wp_walk using q1
      exact ⟨_, rfl, h⟩
theorem call_enum1_tuple {prog : Program} {w : World} {A : Around} {E : Value → Shared → Prop} {s : Shared} {t : Addr} {items : Array Value} {Q : Value → Shared → Prop} (hL : s.heap.IsTuple t items)
    (h : ∀ h', IsEnum h' (s.heap.objs.size + 1) s.heap.objs.size 0 .none → h'.IsTupleIter s.heap.objs.size t 0 → h'.objs.size = s.heap.objs.size + 2 →
      (∀ b o, s.heap.get? b = some o → h'.get? b = some o) → Q (.ref (s.heap.objs.size + 1)) { s with heap := h' }) :
    wpAny (model prog w) A (call (.type "enumerate") [.ref t]) Q E s := by
  refine callType_new F.called_enumerate (by decide) (F.typeCall_enumerate_1 _) (F.newCall_enumerate_1 _) (fun obj => F.args_object_init_2 obj _) F.entry_enumerate_new
    (enum1_begins (begins_tuple t items)) ⟨hL, ?_⟩
  have hz : (s.heap.push { cls := .type "tuple_iterator", data := .fields #[.ref t, .int 0 0] }).objs.size = s.heap.objs.size + 1 := Heap.size_push ..
  show _ ∧ _
  rw [hz]
  have he : IsEnum ((s.heap.push { cls := .type "tuple_iterator", data := .fields #[.ref t, .int 0 0] }).push
      { cls := .type "enumerate", data := .fields #[.none, .bool false, .ref s.heap.objs.size, rawInt 0, .none, .none] }) (s.heap.objs.size + 1) s.heap.objs.size 0 .none := by
    have := Heap.get?_push_size (s.heap.push { cls := .type "tuple_iterator", data := .fields #[.ref t, .int 0 0] })
      (o := { cls := .type "enumerate", data := .fields #[.none, .bool false, .ref s.heap.objs.size, rawInt 0, .none, .none] }) rfl
    rw [hz] at this; exact this
  refine ⟨⟨_, he, rfl⟩, h _ he ⟨_, Heap.get?_push_of_some _ (Heap.get?_push_size _ rfl), rfl, rfl⟩ (by rw [Heap.size_push, hz]) fun b o x => Heap.get?_push_of_some _ (Heap.get?_push_of_some _ x)⟩
end PySem
namespace L2
open PySem PySem.Spec PyProof.Rows
def IteT (K : PySem.W.Frag) (a : Addr) : It :=
  ⟨fun i H => ∃ (xs : List V) (x : V), SqT K H a xs ∧ xs[i]? = some x, fun i H v H' => ∃ T x, v = .ref T ∧ H T = none ∧ H' = upd H T (.tup [.int (i : Nat), x]) ∧ ∀ xs, SqT K H a xs → xs[i]? = some x, fun i H => ∃ xs : List V, SqT K H a xs ∧ xs.length ≤ i⟩
theorem turn_enumT {P : Program} {w : World} {K : PySem.W.Frag} {elts : List Expr} {kk : Nat} {tpos : Pos} (a e it : Addr) :
    Turn P w K (.Tuple elts kk tpos) (IteT K a) [e, it] e (fun i h => (∃ old, IsEnum h e it ((i : Nat) : Int) old) ∧ h.IsTupleIter it a i ∧ e ≠ it) where
  mem := by simp
  obj := fun i h st b hb => by
    obtain ⟨⟨old, he⟩, ⟨o, ho, hc, hd⟩, _⟩ := st
    have e' : b = e ∨ b = it := by simpa using hb
    rcases e' with z | z
    · rw [z]; exact ⟨_, he, fun v q => nomatch q⟩
    · rw [z]; exact ⟨o, ho, fun v q => by rw [hd] at q; cases q⟩
  keep := fun i h h' st k => let ⟨⟨old, he⟩, hi, hne⟩ := st; ⟨⟨old, k e (by simp) _ he⟩, hi.at fun o q => k it (by simp) o q, hne⟩
  item := by
    intro X hP hw hK hc i pins s σ H E I hf st hg
    subst hP hw hK
    obtain ⟨⟨old, he⟩, hit, hne⟩ := st
    obtain ⟨xs, x, hq, hx⟩ := hg
    obtain ⟨its, rv, p, hz⟩ := I.tuple hq
    obtain ⟨u, hu, ru⟩ := rv.get hx
    have hel : e < s.heap.objs.size := Heap.lt_size he
    have hil : it < s.heap.objs.size := by obtain ⟨_, q, _⟩ := hit; exact Heap.lt_size q
    have hea : e ≠ a := fun z => by
      obtain ⟨o, ho, hc', _⟩ := p
      rw [← z, he] at ho
      cases ho
      exact absurd hc' (by simp)
    have hia : a ≠ it := fun z => by
      obtain ⟨o, ho, hc', _⟩ := p
      obtain ⟨o', ho', hc'', _⟩ := hit
      rw [z, ho'] at ho
      cases ho
      rw [hc''] at hc'
      exact absurd hc' (by simp)
    have p' : s.heap.IsTuple a its.toArray := p
    have hlt : i < its.toArray.size := by
      have := (List.getElem?_eq_some_iff.mp hu).1
      simpa using this
    refine wpAny_pyNext_enum_itemD (Draws.tuple (A := X.A.in1) (I.ok.hd hc) it a hia its.toArray) he ⟨hit, p'⟩ hlt hne (by simp; exact ⟨hne, hea⟩) fun x' h' tk hx' ho st' hT hsz hk => ?_
    have ex : x' = u := by
      have h1 : its[i]? = some x' := by simpa using hx'
      rw [hu] at h1
      exact (Option.some.inj h1).symm
    subst ex
    refine ⟨_, rfl, wpAny_letOwnedTupleGo_enum (s := { s with heap := h', toks := tk + 1 }) ho fun h'' he' sb => ?_⟩
    have hT2 : h''.get? s.heap.objs.size = some { cls := .type "tuple", data := .seq #[.int i tk, x'] } := (sb.2 _ (Nat.ne_of_gt hel)).trans hT
    have new : ObjOk X.prog X.w (upd H s.heap.objs.size (.tup [.int (i : Nat), x])) h'' s.heap.objs.size (.tup [.int (i : Nat), x]) :=
      ⟨by show 2 ≤ sizeLine; decide, [.int i tk, x'], .cons ⟨_, rfl⟩ (.cons ru .nil), ⟨_, hT2, rfl, _, rfl⟩⟩
    have I1 : Inv X pins σ (upd H s.heap.objs.size (.tup [.int (i : Nat), x])) { s with heap := h'', toks := tk + 1 } :=
      I.turnedNew (ch := [e, it]) (fun b ob hb q => (sb.2 b (fun z => hb (by simp [z]))).trans (hk b ob (fun z => hb (by simp [z])) (fun z => hb (by simp [z])) q)) hf (Nat.le_refl _) new
    refine ⟨.ref s.heap.objs.size, _, I1, rfl, ⟨_, x, rfl, I.hok.fresh (Nat.le_refl _), rfl, fun ys hy => by rw [I.tuple_inj hy hq]; exact hx⟩, ⟨⟨x', ?_⟩, st'.1.at fun o q => (sb.2 it (Ne.symm hne)).trans q, hne⟩, fun b hb => ?_⟩
    · have e1 : ((i + 1 : Nat) : Int) = (i : Int) + 1 := by omega
      rw [e1]; exact he'
    · have hb' : b < s.heap.objs.size := by
        have e' : b = e ∨ b = it := by simpa using hb
        rcases e' with z | z
        · rw [z]; exact hel
        · rw [z]; exact hil
      rw [upd_ne (Nat.ne_of_lt hb')]
      exact (hf b hb).1
  done := by
    intro X hP hw hK hc i pins s σ H E I hf st hg
    subst hP hw hK
    obtain ⟨⟨old, he⟩, hit, hne⟩ := st
    obtain ⟨xs, hq, hx⟩ := hg
    obtain ⟨its, rv, p, hz⟩ := I.tuple hq
    obtain ⟨f0, f1, f2, f3, f4, f5⟩ := hf it (by simp)
    have hl := rv.length
    have p' : s.heap.IsTuple a its.toArray := p
    have hT : s.TypeIs (.ref e) "enumerate" := ⟨_, he, rfl⟩
    unfold pyNext
    refine wpAny_bind (wpAny_attempt (wpAny_callSpecial?_slot (name := Str.ofString "__next__") hT F.slot_enumerate_next
      (wpAny_call_entry F.slot_enumerate_next hT F.entry_enumerate_next ?_ (F.args_enumerate_next_1 _))))
    show wpAny _ _ (field (.ref e) 2 >>= _) _ _ _
    refine wpAny_bind (wpAny_field he rfl (x := .ref it) rfl ?_)
    refine wpAny_bind (wpAny_nextOf_tuple_end (I.ok.hd hc) hit p' (by simp; omega) fun h' x eb hx' => ?_)
    obtain ⟨o, ho, hcc⟩ := hx'
    refine wpAny_bind (wpAny_isInstance (T := "StopIteration") (b := true) ⟨o, ho, hcc⟩ isSubtype_stop ?_)
    exact wpAny_pure ⟨rfl, I.turned (t' := s.toks) (fun b o hb q => eb b o hb q) f0 f1 f3 f4 f5⟩
  self := fun A i s Q E st h => let ⟨⟨_, he⟩, _⟩ := st; wpAny_pyIter_enum he h
def iEnumA (K : PySem.W.Frag) (ta : TA) : TI := fun σ H R => ta σ H fun vs H1 => ∃ a xs, vs = [.ref a] ∧ ((SqL K H1 a xs ∧ R (Ite K a) H1) ∨ (SqT K H1 a xs ∧ R (IteT K a) H1))
theorem pi_enumA {X : Cx} {e : Expr} {ta : TA} {p pos tpos : Pos} {elts : List Expr} {kk : Nat} (hg : Gl X "enumerate") (hm : X.mg "enumerate" = none) (ha : PA X [e] ta) (hs : starEach [e] X.env = [(false, eval e X.env)] := by rfl) :
    PI X (.Tuple elts kk tpos) (.Call (.Name "enumerate" p) [e] [] pos) (iEnumA X.K ta) := by
  refine ⟨fun pins s σ H R I h => ?_⟩
  refine Call_ (ld_blt I hg hm boot_enumerate (PyProof.Rows.callWith_type1 (thn (ha.run pos pins s σ H _ I h) fun us s1 ⟨vs, H1, I1, r1, q1⟩ => ?_) hs rfl))
  obtain ⟨a, xs, ex, hq⟩ := q1
  subst ex
  cases r1 with
  | cons r rr =>
    cases rr
    cases r
    have fin : ∀ (b : Addr), (b = s1.heap.objs.size + 1 ∨ b = s1.heap.objs.size) → s1.heap.objs.size ≤ b := fun b e' => by
      rcases e' with z | z
      · rw [z]; exact Nat.le_add_right _ _
      · rw [z]; exact Nat.le_refl _
    rcases hq with ⟨hq, q⟩ | ⟨hq, q⟩
    · obtain ⟨its, rv, p', hz⟩ := I1.list hq
      refine call_enumerate_list p'.isList fun h' he hit hsz hk => wpAny_pyIter_enum he ?_
      have I2 : Inv X pins σ H1 { s1 with heap := h' } := I1.kept (t' := s1.toks) hk
      refine ⟨s1.heap.objs.size + 1, [s1.heap.objs.size + 1, s1.heap.objs.size], _, _, H1, rfl, I2, turn_enum a (s1.heap.objs.size + 1) s1.heap.objs.size, ⟨⟨.none, he⟩, hit, Nat.succ_ne_self _⟩, fun b hb => ?_, q⟩
      have hle := fin b (by simpa using hb)
      exact I1.fpOk hle (I1.hok.fresh hle)
    · obtain ⟨its, rv, p', hz⟩ := I1.tuple hq
      refine call_enum1_tuple (show s1.heap.IsTuple a its.toArray from p') fun h' he hit hsz hk => wpAny_pyIter_enum he ?_
      have I2 : Inv X pins σ H1 { s1 with heap := h' } := I1.kept (t' := s1.toks) hk
      refine ⟨s1.heap.objs.size + 1, [s1.heap.objs.size + 1, s1.heap.objs.size], _, _, H1, rfl, I2, turn_enumT a (s1.heap.objs.size + 1) s1.heap.objs.size, ⟨⟨.none, he⟩, hit, Nat.succ_ne_self _⟩, fun b hb => ?_, q⟩
      have hle := fin b (by simpa using hb)
      exact I1.fpOk hle (I1.hok.fresh hle)
end L2
namespace DL
open PySem PySem.Spec L2
inductive Fl where
  | er | nx (e : En) | rt (t : T) (e : En) | bk (e : En) | ct (e : En) | ex (x : Str) (e : En)
abbrev FS := En → Fl
abbrev FG := T → En → Fl
def R.bindF {α : Type} (r : R α) (g : α → En → Fl) : Fl := match r with
  | .er => .er
  | .ex x e => .ex x e
  | .ok a e => g a e
@[simp] theorem bindF_ok {α : Type} (a : α) (e : En) (g : α → En → Fl) : R.bindF (.ok a e) g = g a e := rfl
@[simp] theorem bindF_er {α : Type} (g : α → En → Fl) : R.bindF .er g = .er := rfl
@[simp] theorem bindF_ex {α : Type} (x : Str) (e : En) (g : α → En → Fl) : R.bindF (.ex x e) g = .ex x e := rfl
def Fl.seq (r : Fl) (g : FS) : Fl := match r with
  | .nx e => g e
  | r => r
@[simp] theorem seq_nx (e : En) (g : FS) : Fl.seq (.nx e) g = g e := rfl
@[simp] theorem seq_rt (t : T) (e : En) (g : FS) : Fl.seq (.rt t e) g = .rt t e := rfl
@[simp] theorem seq_er (g : FS) : Fl.seq .er g = .er := rfl
@[simp] theorem seq_bk (e : En) (g : FS) : Fl.seq (.bk e) g = .bk e := rfl
@[simp] theorem seq_ct (e : En) (g : FS) : Fl.seq (.ct e) g = .ct e := rfl
@[simp] theorem seq_ex (x : Str) (e : En) (g : FS) : Fl.seq (.ex x e) g = .ex x e := rfl
abbrev Sp0 := St → En → Hp → Prop
def sK (c : Cc) (W : WX) (L : Addr → Prop) (S : Sp0) (N : Addr → Prop) (r : Fl) (D : Ends) : Prop := match r with
  | .er => False
  | .nx e => ∀ σ' H', RE c L σ' H' e → S σ' e H' → D.nx σ' H'
  | .bk e => ∀ σ' H', RE c L σ' H' e → S σ' e H' → D.bk σ' H'
  | .ct e => ∀ σ' H', RE c L σ' H' e → S σ' e H' → D.ct σ' H'
  | .rt t e => ∀ v σ' H', RE c L σ' H' e → S σ' e H' → RepT c L N σ' H' e v t → D.rt v H'
  | .ex x e => ∀ σ' H', RE c L σ' H' e → S σ' e H' → Wx c.mg W x σ' H'
def dS (c : Cc) (W : WX) (f : FS) : TS := fun D σ H => ∃ env L, RE c L σ H env ∧ sK c W L (Stp σ env H) (Nn σ env H) (f env) D
section
variable {c : Cc} {W : WX} {L : Addr → Prop} {σ : St} {H : Hp} {env : En} {D : Ends}
theorem dS.of {f : FS} (r : RE c L σ H env) (h : sK c W L (Stp σ env H) (Nn σ env H) (f env) D) : dS c W f D σ H := ⟨env, L, r, h⟩
theorem sK.bind {α : Type} {r : R α} {g : α → En → Fl} (h : sK c W L (Stp σ env H) (Nn σ env H) (r.bindF g) D) : dK c W L σ H env r fun a e1 H1 => sK c W L (Stp σ env H) (Nn σ env H) (g a e1) D := by
  cases r with
  | er => exact h
  | ex x e => exact fun H' r s => h σ H' r s
  | ok a e => exact fun H' r s => h
theorem sK.imp {S S' : Sp0} {N N' : Addr → Prop} {r : Fl} (h : sK c W L S N r D) (hS : ∀ σ e H, S' σ e H → S σ e H) (hN : ∀ a, N' a → N a) : sK c W L S' N' r D := by
  cases r with
  | er => exact h
  | nx e => exact fun σ' H' r s => h σ' H' r (hS _ _ _ s)
  | bk e => exact fun σ' H' r s => h σ' H' r (hS _ _ _ s)
  | ct e => exact fun σ' H' r s => h σ' H' r (hS _ _ _ s)
  | rt t e => exact fun v σ' H' r s q => h v σ' H' r (hS _ _ _ s) (q.less (fun _ z => z) hN)
  | ex x e => exact fun σ' H' r s => h σ' H' r (hS _ _ _ s)
theorem sK.here {r : Fl} {σ1 : St} {e1 : En} {H1 : Hp} (h : sK c W L (Stp σ env H) (Nn σ env H) r D) (s1 : Stp σ env H σ1 e1 H1) : sK c W L (Stp σ1 e1 H1) (Nn σ1 e1 H1) r D :=
  h.imp (fun _ _ _ s => s1.trans s) fun _ n => s1.back n
end
def sNx : FS := fun env => .nx env
def sSeq (f g : FS) : FS := fun env => (f env).seq g
def sIf (ft : FT) (f g : FS) : FS := fun env => (ft env).bindF fun b e => bif b then f e else g e
def sRet (fa : FE) : FS := fun env => (fa env).bindF fun t e => .rt t e
def sRetN : FS := fun env => .rt (.im .non) env
def sDrop (fa : FE) : FS := fun env => (fa env).bindF fun _ e => .nx e
def sBk : FS := fun env => .bk env
def sCt : FS := fun env => .ct env
def sEr : FS := fun _ => .er
section
variable {X : Cx} {c : Cc} {W : WX} {st : Stmt} {rest a b : List Stmt} {f g : FS} {fa : FE} {ft : FT} {e : Expr} {pos : Pos}
theorem dss_nil : PSs X [] (dS c W sNx) := PSsw pss_nil fun D σ H h => by
  obtain ⟨env, L, r, h⟩ := h
  exact h σ H r .refl
theorem dss_cons (h1 : PS X st (dS c W f)) (h2 : PSs X rest (dS c W g)) : PSs X (st :: rest) (dS c W (sSeq f g)) := PSsw (pss_cons h1 h2) fun D σ H h => by
  obtain ⟨env, L, r, h⟩ := h
  refine dS.of r ?_
  unfold sSeq at h
  cases q : f env with
  | er => rw [q] at h; exact h
  | nx e =>
    rw [q] at h
    exact fun σ' H' r' s' => dS.of r' (h.here s')
  | rt t e => rw [q] at h; exact h
  | bk e => rw [q] at h; exact h
  | ct e => rw [q] at h; exact h
  | ex x e => rw [q] at h; exact h
theorem dss_one (h1 : PS X st (dS c W f)) : PSs X [st] (dS c W f) := pss_one h1
theorem ds_if {t : Expr} (hc : PT X t (dT c W ft)) (ha : PSs X a (dS c W f)) (hb : PSs X b (dS c W g)) : PS X (.If t a b pos) (dS c W (sIf ft f g)) := PSw (ps_if hc ha hb) fun D σ H h => by
  obtain ⟨env, L, r, h⟩ := h
  refine dT.of r (h.bind.mono fun b e1 H1 r1 s1 h1 => ?_)
  cases b with
  | true => rw [if_pos rfl]; exact dS.of r1 (h1.here s1)
  | false => rw [if_neg Bool.false_ne_true]; exact dS.of r1 (h1.here s1)
theorem ds_ret (he : PE X e (dE c W fa)) : PS X (.Return (some e) pos) (dS c W (sRet fa)) := PSw (ps_ret he) fun D σ H h => by
  obtain ⟨env, L, r, h⟩ := h
  exact dE.of r (h.bind.mono fun t e1 H1 r1 s1 h1 v q => h1 v σ H1 r1 s1 q)
theorem ds_expr (he : PE X e (dE c W fa)) (hs : swapsWith e none pos.line X.env = pure false := by rfl) : PS X (.Expr e pos) (dS c W (sDrop fa)) := PSw (ps_expr he hs) fun D σ H h => by
  obtain ⟨env, L, r, h⟩ := h
  exact dE.of r (h.bind.mono fun t e1 H1 r1 s1 h1 v q => h1 σ H1 r1 s1)
end
def StpN (N : Addr → Prop) (σ : St) (env : En) (H : Hp) (σ' : St) (env' : En) (H' : Hp) : Prop := ∀ b, ¬ Nn σ env H b → ¬ N b → H' b = H b ∧ ¬ Nn σ' env' H' b
theorem StpN.after {σ σ1 σ2 : St} {env e1 e2 : En} {H H1 H2 : Hp} (s : Stp σ env H σ1 e1 H1) (n : StpN (Nn σ env H) σ1 e1 H1 σ2 e2 H2) : Stp σ env H σ2 e2 H2 := fun b nb => by
  obtain ⟨q1, q2⟩ := s b nb
  obtain ⟨q3, q4⟩ := n b q2 nb
  exact ⟨q3.trans q1, q4⟩
theorem StpN.of {N : Addr → Prop} {σ σ' : St} {env env' : En} {H H' : Hp} (s : Stp σ env H σ' env' H') : StpN N σ env H σ' env' H' := fun b n _ => s b n
theorem StpN.trans {N : Addr → Prop} {σ σ1 σ2 : St} {env e1 e2 : En} {H H1 H2 : Hp} (a : StpN N σ env H σ1 e1 H1) (b : StpN N σ1 e1 H1 σ2 e2 H2) : StpN N σ env H σ2 e2 H2 := fun x n m => by
  obtain ⟨q1, q2⟩ := a x n m
  obtain ⟨q3, q4⟩ := b x q2 m
  exact ⟨q3.trans q1, q4⟩
def dG (c : Cc) (g : FG) : TG := fun v σ H Q => ∃ env L N t, RE c L σ H env ∧ RepT c L N σ H env v t ∧ match g t env with
  | .nx e => ∀ σ' H', RE c L σ' H' e → StpN N σ env H σ' e H' → Q σ' H'
  | _ => False
def sAsg (fa : FE) (g : FG) : FS := fun env => (fa env).bindF fun t e => match g t e with
  | .nx e => .nx e
  | _ => .er
section
variable {c : Cc} {L : Addr → Prop} {σ : St} {H : Hp} {env : En}
theorem own_set {i : Nat} {v : V} {s : Sl} {b : Addr} (h : ownM (σ.set i (some v)) (env.set i s) b) : (ownM σ env b ∧ ∀ (io : Bool) (ds : List D), True) ∨ (v = .ref b ∧ ∃ (io : Bool) (ds : List D), s = .own io ds) := by
  obtain ⟨j, io, ds, e1, e2⟩ := h
  by_cases q : i = j
  · subst q
    rw [List.getElem?_set] at e1 e2
    simp only [if_true] at e1 e2
    split at e1
    · split at e2
      · cases e1
        cases e2
        exact .inr ⟨rfl, io, ds, rfl⟩
      · cases e2
    · cases e1
  · rw [List.getElem?_set_ne q] at e1 e2
    exact .inl ⟨⟨j, io, ds, e1, e2⟩, fun _ _ => trivial⟩
theorem RE.setIm {i : Nat} {v : V} {d : D} (h : RE c L σ H env) (r : Rep c.K (Av L σ env) H v d) : RE c L (σ.set i (some v)) H (env.set i (.im d)) ∧ Stp σ env H (σ.set i (some v)) (env.set i (.im d)) H := by
  have sub : ∀ b, ownM (σ.set i (some v)) (env.set i (.im d)) b → ownM σ env b := fun b z => by
    rcases own_set z with z | ⟨_, io, ds, z⟩
    · exact z.1
    · cases z
  have av : ∀ b, Av L σ env b → Av L (σ.set i (some v)) (env.set i (.im d)) b := fun b g => ⟨g.1, fun z => g.2 (sub b z)⟩
  have st : Stp σ env H (σ.set i (some v)) (env.set i (.im d)) H := fun b n => ⟨rfl, fun z => n (z.imp (sub b) id)⟩
  have get : ∀ {j : Nat} {s : Sl}, (env.set i (.im d))[j]? = some s → (j = i ∧ s = .im d ∧ i < env.length) ∨ (j ≠ i ∧ env[j]? = some s) := fun {j s} q => by
    by_cases z : i = j
    · subst z
      rw [List.getElem?_set] at q
      simp only [if_true] at q
      split at q
      · rename_i hi
        cases q
        exact .inl ⟨rfl, rfl, hi⟩
      · cases q
    · rw [List.getElem?_set_ne z] at q
      exact .inr ⟨fun y => z y.symm, q⟩
  refine ⟨⟨by rw [List.length_set, List.length_set]; exact h.len, fun j d' q => ?_, fun j io ds q => ?_, fun j k io jo ds es a q1 q2 q3 q4 => ?_, fun b lb => ⟨fun z => (h.ext b lb).1 (sub b z), (h.ext b lb).2⟩, h.fr, h.io⟩, st⟩
  · rcases get q with ⟨rfl, z, hi⟩ | ⟨ne, q⟩
    · cases z
      exact ⟨v, by rw [List.getElem?_set_self (by rw [← h.len]; exact hi)], r.mono (.refl H) fun b xs g e => ⟨av b g, e⟩⟩
    · obtain ⟨v', e1, r'⟩ := h.im j d' q
      exact ⟨v', by rw [List.getElem?_set_ne (Ne.symm ne)]; exact e1, r'.mono (.refl H) fun b xs g e => ⟨av b g, e⟩⟩
  · rcases get q with ⟨rfl, z, hi⟩ | ⟨ne, q⟩
    · cases z
    · obtain ⟨a, xs, e1, e2, r', z⟩ := h.own j io ds q
      exact ⟨a, xs, by rw [List.getElem?_set_ne (Ne.symm ne)]; exact e1, e2, r'.mono (.refl H) fun b xs g e => ⟨av b g, e⟩, z⟩
  · rcases get q1 with ⟨rfl, z, hi⟩ | ⟨ne1, q1⟩
    · cases z
    · rcases get q2 with ⟨rfl, z, hi⟩ | ⟨ne2, q2⟩
      · cases z
      · rw [List.getElem?_set_ne (Ne.symm ne1)] at q3
        rw [List.getElem?_set_ne (Ne.symm ne2)] at q4
        exact h.inj j k io jo ds es a q1 q2 q3 q4
theorem RE.setFr {i : Nat} {a : Addr} {xs : List V} {ds : List D} {N : Addr → Prop} (h : RE c (fun b => L b ∨ b = a) σ H env) (ea : H a = some (.lst xs)) (r : Reps c.K (Av (fun b => L b ∨ b = a) σ env) H xs ds) (nl : ¬ L a) (h0 : c.H0 a = none) (n : N a) :
    RE c L (σ.set i (some (.ref a))) H (env.set i (.own false ds)) ∧ StpN N σ env H (σ.set i (some (.ref a))) (env.set i (.own false ds)) H := by
  have sub : ∀ b, ownM (σ.set i (some (.ref a))) (env.set i (.own false ds)) b → ownM σ env b ∨ b = a := fun b z => by
    rcases own_set z with z | ⟨z, _⟩
    · exact .inl z.1
    · cases z
      exact .inr rfl
  have av : ∀ b, Av (fun b => L b ∨ b = a) σ env b → Av L (σ.set i (some (.ref a))) (env.set i (.own false ds)) b := fun b g => ⟨fun z => g.1 (.inl z), fun z => (sub b z).elim g.2 fun z => g.1 (.inr z)⟩
  have get : ∀ {j : Nat} {s : Sl}, (env.set i (.own false ds))[j]? = some s → (j = i ∧ s = .own false ds ∧ i < env.length) ∨ (j ≠ i ∧ env[j]? = some s) := fun {j s} q => by
    by_cases z : i = j
    · subst z
      rw [List.getElem?_set] at q
      simp only [if_true] at q
      split at q
      · rename_i hi
        cases q
        exact .inl ⟨rfl, rfl, hi⟩
      · cases q
    · rw [List.getElem?_set_ne z] at q
      exact .inr ⟨fun y => z y.symm, q⟩
  have na : ¬ ownM σ env a := (h.ext a (.inr rfl)).1
  refine ⟨⟨by rw [List.length_set, List.length_set]; exact h.len, fun j d' q => ?_, fun j io es q => ?_, fun j k io jo es fs b q1 q2 q3 q4 => ?_, fun b lb => ⟨fun z => (sub b z).elim (h.ext b (.inl lb)).1 fun z => nl (by rw [← z]; exact lb), (h.ext b (.inl lb)).2⟩, h.fr, h.io⟩, fun b nb nN => ⟨rfl, fun z => z.elim (fun z => (sub b z).elim (fun z => nb (.inl z)) fun z => nN (by rw [z]; exact n)) fun z => nb (.inr z)⟩⟩
  · rcases get q with ⟨rfl, z, hi⟩ | ⟨ne, q⟩
    · cases z
    · obtain ⟨v', e1, r'⟩ := h.im j d' q
      exact ⟨v', by rw [List.getElem?_set_ne (Ne.symm ne)]; exact e1, r'.mono (.refl H) fun b xs g e => ⟨av b g, e⟩⟩
  · rcases get q with ⟨rfl, z, hi⟩ | ⟨ne, q⟩
    · cases z
      exact ⟨a, xs, by rw [List.getElem?_set_self (by rw [← h.len]; exact hi)], ea, r.mono (.refl H) (fun b xs g e => ⟨av b g, e⟩), fun _ => h0, fun z => nomatch z⟩
    · obtain ⟨b, ys, e1, e2, r', z⟩ := h.own j io es q
      exact ⟨b, ys, by rw [List.getElem?_set_ne (Ne.symm ne)]; exact e1, e2, r'.mono (.refl H) (fun b xs g e => ⟨av b g, e⟩), z⟩
  · have own : ∀ {j : Nat} {io : Bool} {es : List D}, j ≠ i → env[j]? = some (Sl.own io es) → (σ.set i (some (V.ref a)))[j]? = some (some (V.ref b)) → ownM σ env b ∧ σ[j]? = some (some (V.ref b)) := fun {j io es} ne q z => by
      rw [List.getElem?_set_ne (Ne.symm ne)] at z
      exact ⟨⟨j, io, es, q, z⟩, z⟩
    have at_ : ∀ {j : Nat}, j = i → i < env.length → (σ.set i (some (V.ref a)))[j]? = some (some (V.ref b)) → b = a := fun {j} e hi z => by
      subst e
      rw [List.getElem?_set_self (by rw [← h.len]; exact hi)] at z
      cases z
      rfl
    rcases get q1 with ⟨e1, z1, hi1⟩ | ⟨ne1, q1⟩
    · rcases get q2 with ⟨e2, z2, hi2⟩ | ⟨ne2, q2⟩
      · rw [e1, e2]
      · have := at_ e1 hi1 q3
        subst this
        exact (na (own ne2 q2 q4).1).elim
    · rcases get q2 with ⟨e2, z2, hi2⟩ | ⟨ne2, q2⟩
      · have := at_ e2 hi2 q4
        subst this
        exact (na (own ne1 q1 q3).1).elim
      · exact h.inj j k io jo es fs b q1 q2 (own ne1 q1 q3).2 (own ne2 q2 q4).2
end
def gN (i : Nat) : FG := fun t env => match t with
  | .im d => .nx (env.set i (.im d))
  | .fr ds => .nx (env.set i (.own false ds))
  | .ft cs => .nx (env.set i (.im (.tup (cs.map Cp.d))))
  | .al j => match env[j]? with
    | some (.own false ds) => .nx ((env.set j .no).set i (.own false ds))
    | _ => .er
@[simp] theorem gN_im (i : Nat) (d : D) (env : En) : gN i (.im d) env = .nx (env.set i (.im d)) := rfl
@[simp] theorem gN_fr (i : Nat) (ds : List D) (env : En) : gN i (.fr ds) env = .nx (env.set i (.own false ds)) := rfl
@[simp] theorem gN_ft (i : Nat) (cs : List Cp) (env : En) : gN i (.ft cs) env = .nx (env.set i (.im (.tup (cs.map Cp.d)))) := rfl
section
variable {X : Cx} {c : Cc} {W : WX} {pos p : Pos} {e tg : Expr} {fa : FE} {g : FG}
theorem d_gN {i : Nat} : ∀ v σ H Q, dG c (gN i) v σ H Q → gName i v σ H Q := fun v σ H Q h => by
  obtain ⟨env, L, N, t, r, q, h⟩ := h
  cases t with
  | im d =>
    obtain ⟨q1, q2⟩ := r.setIm (i := i) q
    exact h _ _ q1 (.of q2)
  | ft cs =>
    obtain ⟨q1, q2⟩ := r.setIm (i := i) q.wk
    exact h _ _ q1 (.of q2)
  | fr ds =>
    obtain ⟨a, xs, rfl, e1, rr, n1, n2, n3, re⟩ := q
    obtain ⟨q1, q2⟩ := re.setFr (i := i) (N := N) e1 rr n1 n2 n3
    exact h _ _ q1 q2
  | al j =>
    obtain ⟨⟨io, ds, e1⟩, e2⟩ := q
    simp only [gN, e1] at h
    cases io with
    | true => exact h.elim
    | false =>
      obtain ⟨a, xs, e3, e4, rr, f0, _⟩ := r.own j false ds e1
      rw [e2] at e3
      cases e3
      obtain ⟨hd, sd⟩ := r.drop e1 e2
      have oa : ownM σ env a := ⟨j, false, ds, e1, e2⟩
      have rr' : Reps c.K (Av (fun b => L b ∨ b = a) σ (env.set j .no)) H xs ds := rr.mono (.refl H) fun b ys g e => ⟨⟨fun z => z.elim g.1 fun z => g.2 (by rw [z]; exact oa), fun z => g.2 (own_set_no z).1⟩, e⟩
      obtain ⟨q1, q2⟩ := hd.setFr (i := i) (N := Nn σ env H) e4 rr' (fun z => (r.ext a z).1 oa) (f0 rfl) (.inl oa)
      refine h _ _ q1 (.of fun b nb => ?_)
      obtain ⟨y1, y2⟩ := sd b nb
      obtain ⟨y3, y4⟩ := q2 b y2 nb
      exact ⟨y3.trans y1, y4⟩
theorem PGw {t t' : TG} (h : PG X tg t) (k : ∀ v σ H Q, t' v σ H Q → t v σ H Q) : PG X tg t' := ⟨fun pins s σ H v u Q I r q => h.run pins s σ H v u Q I r (k v σ H Q q)⟩
theorem dg_name {i : Nat} (h : PG X tg (gName i)) : PG X tg (dG c (gN i)) := PGw h d_gN
theorem d_asg : ∀ D σ H, dS c W (sAsg fa g) D σ H → tAsg (dE c W fa) (dG c g) D σ H := fun D σ H h => by
  obtain ⟨env, L, r, h⟩ := h
  refine dE.of r (h.bind.mono fun t e1 H1 r1 s1 h1 v q => ⟨e1, L, Nn σ env H, t, r1, q, ?_⟩)
  cases eg : g t e1 with
  | nx e2 => rw [eg] at h1; exact fun σ' H' r' s' => h1 σ' H' r' (s'.after s1)
  | er => rw [eg] at h1; exact h1
  | rt t e => rw [eg] at h1; exact h1
  | bk e => rw [eg] at h1; exact h1
  | ct e => rw [eg] at h1; exact h1
  | ex x e => rw [eg] at h1; exact h1
theorem ds_asg (he : PE X e (dE c W fa)) (hg : PG X tg (dG c g)) (hs : swapsWithSole [tg] e pos.line X.env = pure false := by rfl) (hw : swappedStores [tg] e X.env = pure none := by rfl)
    (h1 : (assignEach [tg] X.env).map (·.2) = [assign tg X.env] := by rfl) : PS X (.Assign [tg] e pos) (dS c W (sAsg fa g)) := PSw (ps_asg he hg hs hw h1) d_asg
theorem ds_set {i : Nat} {x : Str} {pos' : Pos} (hN : X.N.Nodup) (hi : X.N[i]? = some x) (hx : Loc X.env.scope x) (he : PE X e (dE c W fa)) (hs : swapsWith e (some (.Name x pos')) pos.line X.env = pure false := by rfl) (hf : X.fn x = true ∨ X.env.scope.names.lookup x = some .local := by first | exact .inl rfl | exact .inr rfl | assumption) :
    PS X (.Assign [.Name x pos'] e pos) (dS c W (sAsg fa (gN i))) := PSw (ps_set hN hi hx he hs hf) fun D σ H h => by
  have := d_asg D σ H h
  obtain ⟨env, L, r, q⟩ := this
  exact ⟨env, L, r, q.mono fun t e1 H1 r1 s1 h1 v q => d_gN _ _ _ _ (h1 v q)⟩
end
end DL
namespace DL
open PySem PySem.Spec L2
def cpT (c : Cp) : T := match c.fr, c.d with
  | true, .lst ds => .fr ds
  | _, d => .im d
@[simp] theorem cpT_im (d : D) : cpT ⟨false, d⟩ = .im d := rfl
@[simp] theorem cpT_fr (ds : List D) : cpT ⟨true, .lst ds⟩ = .fr ds := rfl
abbrev FGs := List Cp → En → Fl
def dGs (c : Cc) (g : FGs) : TGs := fun vs σ H Q => ∃ env L N As cs, RE c (Lu L As) σ H env ∧ RepC c.K (Av (Lu L As) σ env) H As vs cs ∧ (∀ a ∈ As, ¬ L a ∧ c.H0 a = none ∧ N a) ∧ match g cs env with
  | .nx e => ∀ σ' H', RE c L σ' H' e → StpN N σ env H σ' e H' → Q σ' H'
  | _ => False
def gsNil : FGs := fun cs env => match cs with
  | [] => .nx env
  | _ => .er
def gsCons (g : FG) (gs : FGs) : FGs := fun cs env => match cs with
  | c :: cs => (g (cpT c) env).seq (gs cs)
  | [] => .er
def cpsOf (t : T) (env : En) : Option (List Cp) := match t with
  | .im (.tup ds) => some (ds.map fun d => ⟨false, d⟩)
  | .ft cs => some cs
  | _ => none
@[simp] theorem cpsOf_tup (ds : List D) (env : En) : cpsOf (.im (.tup ds)) env = some (ds.map fun d => ⟨false, d⟩) := rfl
@[simp] theorem cpsOf_ft (cs : List Cp) (env : En) : cpsOf (.ft cs) env = some cs := rfl
def gT (n : Nat) (gs : FGs) : FG := fun t env => match cpsOf t env with
  | some cs => if cs.length = n then gs cs env else .er
  | none => .er
section
variable {X : Cx} {c : Cc} {W : WX} {pos : Pos} {e : Expr} {es : List Expr} {g : FG} {gs : FGs}
theorem PGsw {t t' : TGs} (h : PGs X es t) (k : ∀ v σ H Q, t' v σ H Q → t v σ H Q) : PGs X es t' := ⟨fun pins s σ H v u Q I r q => h.run pins s σ H v u Q I r (k v σ H Q q)⟩
theorem dgs_nil : PGs X [] (dGs c gsNil) := PGsw pgs_nil fun vs σ H Q h => by
  obtain ⟨env, L, N, As, cs, r, q, n, h⟩ := h
  cases q with
  | nil => exact ⟨rfl, h σ H (r.less fun b z => .inl z) (.of .refl)⟩
  | im r rs => exact h.elim
  | fr a b r rs => exact h.elim
theorem dgs_step {L N Nh : Addr → Prop} {σ : St} {H : Hp} {env : En} {Q : St → Hp → Prop} {As Br : List Addr} {v : V} {vr : List V} {cp : Cp} {cr : List Cp} (r : RE c (Lu L As) σ H env) (qt : RepT c (Lu L Br) Nh σ H env v (cpT cp)) (re : RE c (Lu L Br) σ H env) (rc : RepC c.K (Av (Lu L As) σ env) H Br vr cr)
    (sub : ∀ b ∈ Br, b ∈ As ∧ ¬ Nh b) (hN : ∀ b, Nh b → b ∈ As ∧ N b) (n : ∀ a ∈ As, ¬ L a ∧ c.H0 a = none ∧ N a) (h : match ((g (cpT cp) env).seq (gs cr)) with
      | .nx e => ∀ σ' H', RE c L σ' H' e → StpN N σ env H σ' e H' → Q σ' H'
      | _ => False) : dG c g v σ H fun σ' H' => dGs c gs vr σ' H' Q := by
  refine ⟨env, Lu L Br, Nh, cpT cp, re, qt, ?_⟩
  cases eg : g (cpT cp) env with
  | er => rw [eg] at h; exact h
  | rt t e => rw [eg] at h; exact h
  | bk e => rw [eg] at h; exact h
  | ct e => rw [eg] at h; exact h
  | ex x e => rw [eg] at h; exact h
  | nx e1 =>
    rw [eg] at h
    dsimp only [Fl.seq] at h
    intro σ1 H1 r1 s1
    have key : ∀ b o, H b = some o → ¬ ownM σ env b → ¬ Nh b → H1 b = some o ∧ ¬ ownM σ1 e1 b := fun b o e nb nh => by
      obtain ⟨q1, q2⟩ := s1 b (Nn.not e nb) nh
      exact ⟨q1.trans e, fun z => q2 (.inl z)⟩
    have isL : ∀ b, ownM σ env b ∨ Nh b → ∃ xs, H b = some (.lst xs) := fun b z => by
      rcases z with ⟨i, io, ds, e1, e2⟩ | z
      · obtain ⟨a, xs, e3, e4, _⟩ := r.own i io ds e1
        rw [e2] at e3
        cases e3
        exact ⟨xs, e4⟩
      · exact (r.ext b (.inr (hN b z).1)).2
    have tk : TK H H1 := by
      have nl : ∀ b o, H b = some o → (∀ xs, o ≠ .lst xs) → H1 b = some o := fun b o e nn => by
        refine (key b o e (fun z => ?_) fun z => ?_).1
        · obtain ⟨xs, q⟩ := isL b (.inl z)
          rw [e] at q
          cases q
          exact nn xs rfl
        · obtain ⟨xs, q⟩ := isL b (.inr z)
          rw [e] at q
          cases q
          exact nn xs rfl
      exact ⟨fun b xs e => nl b _ e (fun _ z => nomatch z), fun b o u e => nl b _ e (fun _ z => nomatch z)⟩
    have rc1 : RepC c.K (Av (Lu L Br) σ1 e1) H1 Br vr cr := rc.mono tk (fun b xs gb e => by
      obtain ⟨q1, q2⟩ := key b _ e gb.2 fun z => gb.1 (.inr (hN b z).1)
      exact ⟨⟨fun z => gb.1 (z.imp id fun z => (sub b z).1), q2⟩, q1⟩) fun b hb xs e => (key b _ e (r.ext b (.inr (sub b hb).1)).1 (sub b hb).2).1
    refine ⟨e1, L, N, Br, cr, r1, rc1, fun b hb => n b (sub b hb).1, ?_⟩
    cases eg2 : gs cr e1 with
    | er => rw [eg2] at h; exact h
    | rt t e => rw [eg2] at h; exact h
    | bk e => rw [eg2] at h; exact h
    | ct e => rw [eg2] at h; exact h
    | ex x e => rw [eg2] at h; exact h
    | nx e2 =>
      rw [eg2] at h
      exact fun σ2 H2 r2 s2 => h σ2 H2 r2 (StpN.trans (fun b nb nN => s1 b nb fun z => nN (hN b z).2) s2)
theorem d_gsCons : ∀ vs σ H Q, dGs c (gsCons g gs) vs σ H Q → gCons (dG c g) (dGs c gs) vs σ H Q := fun vs σ H Q h => by
  obtain ⟨env, L, N, As, cs, r, q, n, h⟩ := h
  cases q with
  | nil => exact h.elim
  | im rr rs => exact ⟨_, _, rfl, dgs_step (cp := ⟨false, _⟩) (Br := As) (Nh := fun _ => False) r rr r rs (fun b hb => ⟨hb, id⟩) (fun b z => z.elim) n h⟩
  | fr na ea rr rs =>
    rename_i As a xs ds vs cs
    have key : ∀ b, Lu L (a :: As) b ↔ (Lu L As b ∨ b = a) := fun b => by simp [Lu, or_assoc, or_comm, or_left_comm]
    have r' : RE c (fun b => Lu L As b ∨ b = a) σ H env := r.less fun b z => (key b).mpr z
    have rr' : Reps c.K (Av (fun b => Lu L As b ∨ b = a) σ env) H xs ds := rr.mono (.refl H) fun b ys gb e => ⟨⟨fun z => gb.1 ((key b).mpr z), gb.2⟩, e⟩
    have na' := n a List.mem_cons_self
    exact ⟨_, _, rfl, dgs_step (cp := ⟨true, .lst ds⟩) (Br := As) (Nh := fun b => b = a) r ⟨a, xs, rfl, ea, rr', fun z => z.elim na'.1 na, na'.2.1, rfl, r'⟩ (r.less fun b z => (key b).mpr (.inl z)) rs (fun b hb => ⟨List.mem_cons_of_mem _ hb, fun z => na (by rw [← z]; exact hb)⟩) (fun b z => by rw [z]; exact ⟨List.mem_cons_self, na'.2.2⟩) n h⟩
theorem d_gsNil : ∀ vs σ H Q, dGs c gsNil vs σ H Q → gNil vs σ H Q := fun vs σ H Q h => by
  obtain ⟨env, L, N, As, cs, r, q, n, h⟩ := h
  cases q with
  | nil => exact ⟨rfl, h σ H (r.less fun b z => .inl z) (.of .refl)⟩
  | im r rs => exact h.elim
  | fr a b r rs => exact h.elim
theorem dgs_cons (h1 : PG X e (dG c g)) (h2 : PGs X es (dGs c gs)) (hs : (assignEach (e :: es) X.env).map (·.2) = assign e X.env :: (assignEach es X.env).map (·.2) := by rfl) : PGs X (e :: es) (dGs c (gsCons g gs)) := PGsw (pgs_cons h1 h2 hs) d_gsCons
theorem dg_tup {k : Nat} {n : Nat} (hc : X.calm = true) (h : PGs X es (dGs c gs)) (hn : (assignEach es X.env).length = n := by rfl) (hst : (assignEach es X.env).findIdx? (·.1) = none := by rfl) (hK : c.K = X.K := by rfl) : PG X (.Tuple es k pos) (dG c (gT n gs)) :=
  PGw (pg_tup hc h hn hst) fun v σ H Q h => by
    obtain ⟨env, L, N, t, r, q, h⟩ := h
    unfold gT at h
    cases ec : cpsOf t env with
    | none => rw [ec] at h; exact h.elim
    | some cs =>
      rw [ec] at h
      dsimp only at h
      by_cases hl : cs.length = n
      · rw [if_pos hl] at h
        cases t with
        | al i => cases ec
        | fr ds => cases ec
        | im d =>
          cases d with
          | tup ds =>
            cases ec
            cases (show Rep c.K (Av L σ env) H v (.tup ds) from q) with
            | tup hs rs =>
              rename_i a xs
              rw [hK] at hs
              have conv : ∀ {xs : List V} {ds : List D}, Reps c.K (Av L σ env) H xs ds → RepC c.K (Av (Lu L []) σ env) H [] xs (ds.map fun d => ⟨false, d⟩) := fun {xs ds} r => by
                induction ds generalizing xs with
                | nil => cases r; exact .nil
                | cons d ds ih =>
                  cases r with
                  | cons r rs => exact .im (r.mono (.refl H) fun b ys g e => ⟨⟨fun z => z.elim g.1 (fun z => nomatch z), g.2⟩, e⟩) (ih rs)
              refine ⟨a, xs, rfl, hs, by rw [rs.length, ← hl, List.length_map], env, L, N, [], _, r.less (fun b z => z.elim id (fun z => nomatch z)), conv rs, (fun a z => nomatch z), h⟩
          | non => cases ec
          | bl b => cases ec
          | int b => cases ec
          | str b => cases ec
          | lst b => cases ec
          | fz b => cases ec
          | dct _ _ => cases ec
        | ft cs' =>
          cases ec
          obtain ⟨a, xs, As, rfl, hs, rc, n1, re⟩ := q
          rw [hK] at hs
          have len : ∀ {G : Addr → Prop} {As vs cs}, RepC c.K G H As vs cs → vs.length = cs.length := fun {G As vs cs} r => by
            induction r with
            | nil => rfl
            | im _ _ ih => simp [ih]
            | fr _ _ _ _ ih => simp [ih]
          exact ⟨a, xs, rfl, hs, by rw [len rc, hl], env, L, N, As, _, re, rc, n1, h⟩
      · rw [if_neg hl] at h
        exact h.elim
theorem sK.bind2 {α : Type} {S : Sp0} {N L : Addr → Prop} {σ : St} {H : Hp} {env : En} {D : Ends} {r : R α} {g : α → En → Fl} (h : sK c W L S N (r.bindF g) D) (hS : ∀ σ' e' H', Stp σ env H σ' e' H' → S σ' e' H') : dK c W L σ H env r fun a e1 H1 => sK c W L S N (g a e1) D := by
  cases r with
  | er => exact h
  | ex x e => exact fun H' r s => h σ H' r (hS _ _ _ s)
  | ok a e => exact fun H' r s => h
def sPar (i j : Nat) (fa : FA) : FS := fun env => (fa env).bindF fun ts e => (disp T.ft ts e).bindF fun t e => match t with
  | .ft [c1, c2] => match gsCons (gN i) (gsCons (gN j) gsNil) [c1, c2] e with
    | .nx e => .nx e
    | _ => .er
  | _ => .er
theorem ds_par {i j : Nat} {x y : Str} {a b : Expr} {fa : FA} {px py pt : Pos} {kt k2 pt2} (hc : X.calm = true) (hN : X.N.Nodup) (hi : X.N[i]? = some x) (hj : X.N[j]? = some y) (hij : i ≠ j)
    (hx : X.env.scope.names.lookup x = some .local) (hy : X.env.scope.names.lookup y = some .local) (ha : PA X [a, b] (dA c W fa))
    (hw : swappedStores [.Tuple [.Name x px, .Name y py] kt pt] (.Tuple [a, b] k2 pt2) X.env = pure (some [x, y]) := by rfl)
    (hs : swapsWithSole [.Tuple [.Name x px, .Name y py] kt pt] (.Tuple [a, b] k2 pt2) pos.line X.env = pure false := by rfl) :
    PS X (.Assign [.Tuple [.Name x px, .Name y py] kt pt] (.Tuple [a, b] k2 pt2) pos) (dS c W (sPar i j fa)) := PSw (ps_par hc hN hi hj hij hx hy ha hw hs) fun D σ H h => by
  obtain ⟨env, L, r, h⟩ := h
  refine dA.of r (h.bind.mono fun ts e1 H1 r1 s1 h1 vs As q n r2 => ?_)
  have h2 := h1.bind2 (σ := σ) (H := H1) (env := e1) fun _ _ _ s => s1.trans s
  refine disp_ok (N := Nn σ env H) r2 q (fun a z => n a z) (fun a z => s1.back (.inl z)) h2 fun len cs env' Bs r3 s3 q3 n3 h3 => ?_
  have h4 := h3 H1 r3.bare s3
  -- two components
  have two : ∃ c1 c2 v1 v2, cs = [c1, c2] ∧ vs = [v1, v2] := by
    have len : ∀ {G : Addr → Prop} {As vs cs}, RepC c.K G H1 As vs cs → vs.length = cs.length := fun {G As vs cs} r => by
      induction r with
      | nil => rfl
      | im _ _ ih => simp [ih]
      | fr _ _ _ _ ih => simp [ih]
    have l := len q3
    cases cs with
    | nil => exact h4.elim
    | cons c1 cs =>
      cases cs with
      | nil => exact h4.elim
      | cons c2 cs =>
        cases cs with
        | cons _ _ => exact h4.elim
        | nil =>
          cases vs with
          | nil => simp at l
          | cons v1 vs =>
            cases vs with
            | nil => simp at l
            | cons v2 vs =>
              cases vs with
              | nil => exact ⟨c1, c2, v1, v2, rfl, rfl⟩
              | cons _ _ => simp at l
  obtain ⟨c1, c2, v1, v2, rfl, rfl⟩ := two
  refine ⟨v1, v2, rfl, ?_⟩
  dsimp only at h4
  have final : dGs c (gsCons (gN i) (gsCons (gN j) gsNil)) [v1, v2] σ H1 fun σ' H' => D.nx σ' H' := by
    refine ⟨env', L, Nn σ env H, Bs, [c1, c2], r3, q3, n3, ?_⟩
    cases eg : gsCons (gN i) (gsCons (gN j) gsNil) [c1, c2] env' with
    | nx e2 =>
      rw [eg] at h4
      exact fun σ' H' r' s' => h4 σ' H' r' (s'.after (s1.trans s3))
    | er => rw [eg] at h4; exact h4
    | rt t e => rw [eg] at h4; exact h4
    | bk e => rw [eg] at h4; exact h4
    | ct e => rw [eg] at h4; exact h4
    | ex x e => rw [eg] at h4; exact h4
  -- the two names, one after the other, are the two slots
  obtain ⟨w1, wr, ew, f1⟩ := d_gsCons _ _ _ _ final
  cases ew
  obtain ⟨w2, wr2, ew, f2⟩ := d_gsCons _ _ _ _ (d_gN _ _ _ _ f1)
  cases ew
  exact (d_gsNil _ _ _ _ (d_gN _ _ _ _ f2)).2
end
end DL
namespace DL
open PySem PySem.Spec L2
def sAug (i : Nat) (g : D → D → Option T) (fa : FE) : FS := fun env => match env[i]? with
  | some (.im d) => (fa env).bindF fun t e => (op2 g (.im d) t e).bindF fun t' e2 => match gN i t' e2 with
    | .nx e3 => .nx e3
    | _ => .er
  | _ => .er
def elemD : T → Option D
  | .im d => some d
  | .fr ds => some (.lst ds)
  | .ft cs => some (.tup (cs.map Cp.d))
  | .al _ => none
@[simp] theorem elemD_im (d : D) : elemD (.im d) = some d := rfl
@[simp] theorem elemD_fr (d : List D) : elemD (.fr d) = some (.lst d) := rfl
def gSb (fo fi : FE) : FG := fun t env => match fo env with
  | .ok to e1 => match fi e1 with
    | .ok ti e2 => match to with
      | .al j => match e2[j]?, ti.val e2, elemD t with
        | some (.own b ds), some (.int k), some d => match ixN ds.length k with
          | some m => .nx (e2.set j (.own b (ds.set m d)))
          | none => .er
        | _, _, _ => .er
      | _ => .er
    | _ => .er
  | _ => .er
section
variable {X : Cx} {c : Cc} {W : WX} {pos p : Pos} {e o i : Expr} {es : List Expr} {fa fo fi : FE} {fas : FA}
theorem ds_aug {i : Nat} {x : Str} {op : Operator} {r : R2} {g : D → D → Option T} {pos' : Pos} (hN : X.N.Nodup) (hi : X.N[i]? = some x) (hx : Loc X.env.scope x) (hr : OpR X (inplaceOp op) r) (ho : OpD c r g) (he : PE X e (dE c W fa)) (hf : X.fn x = true ∨ X.env.scope.names.lookup x = some .local := by first | exact .inl rfl | exact .inr rfl | assumption) :
    PS X (.AugAssign (.Name x pos') op e pos) (dS c W (sAug i g fa)) := PSw (ps_aug (ti := r) hN hi hx he hr hf) fun D σ H h => by
  obtain ⟨env, L, re, h⟩ := h
  unfold sAug at h
  cases ei : env[i]? with
  | none => rw [ei] at h; exact h.elim
  | some s =>
    rw [ei] at h
    cases s with
    | no => exact h.elim
    | own b ds => exact h.elim
    | im d =>
      obtain ⟨v, ev, rv⟩ := re.im i d ei
      refine ⟨v, ev, dE.of re (h.bind.mono fun t e1 H1 r1 s1 h1 y q1 => ?_)⟩
      have h2 := h1.bind2 (σ := σ) (H := H1) (env := e1) fun _ _ _ s => s1.trans s
      refine dK_op2 (W := W) (N1 := fun _ => True) (N2 := fun _ => True) (N := Nn σ env H) ho r1 (fun d' e => by cases e; exact Rep.o (re.rep s1 rv)) (fun d e => q1.opr0 r1 e) (fun a n => s1.back n) (h2.mono fun t' e2 H2 r2 s2 h3 z q2 => ?_)
      refine d_gN _ _ _ _ ⟨e2, L, Nn σ env H, t', r2, q2, ?_⟩
      cases eg : gN i t' e2 with
      | nx e3 => rw [eg] at h3; exact fun σ' H' r' s' => h3 σ' H' r' (s'.after (s1.trans s2))
      | er => rw [eg] at h3; exact h3
      | rt t e => rw [eg] at h3; exact h3
      | bk e => rw [eg] at h3; exact h3
      | ct e => rw [eg] at h3; exact h3
      | ex x e => rw [eg] at h3; exact h3
theorem RepT.elem {L N : Addr → Prop} {σ : St} {H : Hp} {env : En} {v : V} {t : T} {d : D} (q : RepT c L N σ H env v t) (e : elemD t = some d) : Rep c.K (Av L σ env) H v d := by
  cases t with
  | al j => cases e
  | im d' => cases e; exact q
  | fr ds => cases e; exact q.wk
  | ft cs => cases e; exact q.wk
theorem dg_sub (ho : PE X o (dE c W fo)) (hi : PE X i (dE c W fi)) (ha : ∀ v, assign (.Subscript o i pos) X.env v = (do
      let ov ← holding [v] (eval o X.env)
      let iv ← holding [v, ov] (eval i X.env)
      standAt pos
      holding [v, ov, iv] (setItem ov iv v)
      release [v, ov, iv] []) := by intro _; rfl) : PG X (.Subscript o i pos) (dG c (gSb fo fi)) := PGw (pg_sub ho hi set_list ha) fun v σ H Q h => by
  obtain ⟨env, L, N, t, re, q, h⟩ := h
  unfold gSb at h
  cases e1 : fo env with
  | er => rw [e1] at h; exact h.elim
  | ex x e => rw [e1] at h; exact h.elim
  | ok to en1 =>
    rw [e1] at h
    dsimp only at h
    cases e2 : fi en1 with
    | er => rw [e2] at h; exact h.elim
    | ex x e => rw [e2] at h; exact h.elim
    | ok ti en2 =>
      rw [e2] at h
      dsimp only at h
      refine dE.of re ?_
      rw [e1]
      intro H1 r1 s1 x1 q1
      refine dE.of r1 ?_
      rw [e2]
      intro H2 r2 s2 x2 q2
      cases to with
      | im d => exact h.elim
      | fr d => exact h.elim
      | ft d => exact h.elim
      | al j =>
        dsimp only at h
        cases ej : en2[j]? with
        | none => rw [ej] at h; exact h.elim
        | some s =>
          cases s with
          | no => rw [ej] at h; exact h.elim
          | im d => rw [ej] at h; exact h.elim
          | own b ds =>
            cases et : ti.val en2 with
            | none => rw [ej, et] at h; exact h.elim
            | some dk =>
              cases ed : elemD t with
              | none => rw [ej, et, ed] at h; cases dk <;> exact h.elim
              | some d =>
                rw [ej, et, ed] at h
                cases dk with
                | int k =>
                  dsimp only at h
                  cases em : ixN ds.length k with
                  | none => rw [em] at h; exact h.elim
                  | some m =>
                    rw [em] at h
                    obtain ⟨a, xs, sj, ea, ra, _⟩ := r2.own j b ds ej
                    obtain ⟨_, sj'⟩ := q1
                    rw [sj] at sj'
                    cases sj'
                    have qv := re.rep (s1.trans s2) (q.elem ed)
                    refine ⟨a, xs, k, m, rfl, (q2.opr0 r2 et).int, ea, by rw [ra.length]; exact em, ?_⟩
                    have kp : ∀ b o, b ≠ a → H2 b = some o → upd H2 a (.lst (xs.set m v)) b = some o := fun b o ne e => by rw [upd_ne ne]; exact e
                    have oa : ownM σ en2 a := ⟨j, b, ds, ej, sj⟩
                    have tk : TK H2 (upd H2 a (.lst (xs.set m v))) := ⟨fun b xs e => kp b _ (fun z => by rw [z, ea] at e; cases e) e, fun b o u e => kp b _ (fun z => by rw [z, ea] at e; cases e) e⟩
                    have rs : Reps c.K (Av L σ en2) (upd H2 a (.lst (xs.set m v))) (xs.set m v) (ds.set m d) := Reps.set (qv.mono tk fun b ys g e => ⟨g, kp b _ (fun z => g.2 (by rw [z]; exact oa)) e⟩) m (ra.mono tk fun b ys g e => ⟨g, kp b _ (fun z => g.2 (by rw [z]; exact oa)) e⟩)
                    obtain ⟨y1, y2⟩ := r2.put ej sj kp upd_same rs
                    exact h _ _ y1 (.of ((s1.trans s2).trans y2))
                | non => exact h.elim
                | bl k => exact h.elim
                | str k => exact h.elim
                | tup k => exact h.elim
                | lst k => exact h.elim
                | fz k => exact h.elim
                | dct _ _ => exact h.elim

def metT (k : List D → List T → En → Option (D × List D × En)) (to : T) (ts : List T) (e : En) : R T := match to with
  | .al j => match e[j]? with
    | some (.own _ ds) => match k ds ts e with
      | some (d, ds', e') => match e'[j]? with
        | some (.own b _) => .ok (.im d) (e'.set j (.own b ds'))
        | _ => .er
      | none => .er
    | _ => .er
  | _ => .er
def eMet (k : List D → List T → En → Option (D × List D × En)) (fo : FE) (fa : FA) : FE := fun env => (fo env).bind fun to e1 => match to with
  | .al j => (fa e1).bind fun ts e2 => metT k (.al j) ts e2
  | _ => .er
def eMet0 (k : List D → List T → En → Option (D × List D × En)) (fo : FE) : FE := fun env => (fo env).bind fun to e1 => match to with
  | .al j => metT k (.al j) [] e1
  | _ => .er
def MetD (c : Cc) (r : V → List V → Hp → VK → Prop) (k : List D → List T → En → Option (D × List D × En)) : Prop := ∀ (L : Addr → Prop) (σ : St) (H : Hp) (env : En) (a : Addr) (xs : List V) (ds : List D) (vs : List V) (As : List Addr) (ts : List T) (d : D) (ds' : List D) (env' : En) (Q : VK) (j : Nat) (b : Bool),
  RE c (Lu L As) σ H env → (∀ b ∈ As, ¬ L b ∧ c.H0 b = none) → RepAs c.K (Av (Lu L As) σ env) σ H env As vs ts → env[j]? = some (.own b ds) → σ[j]? = some (some (.ref a)) → H a = some (.lst xs) → Reps c.K (Av L σ env) H xs ds → k ds ts env = some (d, ds', env') → (∃ b' ds2, env'[j]? = some (Sl.own b' ds2)) →
  (∀ v xs', RE c L σ H env' → Stp σ env H σ env' H → Rep c.K (Av L σ env') H v d → Reps c.K (Av L σ env') H xs' ds' → Q v (upd H a (.lst xs'))) → r (.ref a) vs H Q

theorem met_ok {r : V → List V → Hp → VK → Prop} {k : List D → List T → En → Option (D × List D × En)} (hm : MetD c r k) {L : Addr → Prop} {σ : St} {H H0 H1 H2 : Hp} {env e1 e2 : En} {x : V} {to : T} {vs : List V} {As : List Addr} {ts : List T} {N : Addr → Prop} {Q : VK}
    (s02 : Stp σ env H σ e2 H2) (q1 : RepT c L N σ H1 e1 x to) (r2 : RE c L σ H2 e2) (q : RepAs c.K (Av (Lu L As) σ e2) σ H2 e2 As vs ts) (n : ∀ a ∈ As, ¬ L a ∧ c.H0 a = none ∧ Nn σ e1 H1 a) (r3 : RE c (Lu L As) σ H2 e2)
    (h : dK c W L σ H2 e2 (metT k to ts e2) fun t env' H' => ∀ v, RepT c L (Nn σ env H) σ H' env' v t → Q v H') : r x vs H2 Q := by
  unfold metT at h
  cases to with
  | im d => exact h.elim
  | fr d => exact h.elim
  | ft d => exact h.elim
  | al j =>
    dsimp only at h
    cases ej : e2[j]? with
    | none => rw [ej] at h; exact h.elim
    | some s =>
      cases s with
      | no => rw [ej] at h; exact h.elim
      | im d => rw [ej] at h; exact h.elim
      | own b ds =>
        rw [ej] at h
        dsimp only at h
        cases ek : k ds ts e2 with
        | none => rw [ek] at h; exact h.elim
        | some w =>
          obtain ⟨d, ds', e'⟩ := w
          rw [ek] at h
          dsimp only at h
          cases ej' : e'[j]? with
          | none => rw [ej'] at h; exact h.elim
          | some s' =>
            cases s' with
            | no => rw [ej'] at h; exact h.elim
            | im d => rw [ej'] at h; exact h.elim
            | own b' ds2 =>
              rw [ej'] at h
              obtain ⟨a, xs, sj, ea, ra, _⟩ := r2.own j b ds ej
              obtain ⟨_, sj'⟩ := q1
              rw [sj] at sj'
              cases sj'
              refine hm L σ H2 e2 a xs ds vs As ts d ds' e' Q j b r3 (fun b hb => ⟨(n b hb).1, (n b hb).2.1⟩) q ej sj ea ra ek ⟨b', ds2, ej'⟩ fun v xs' r4 s4 qv qs => ?_
              have kp : ∀ b o, b ≠ a → H2 b = some o → upd H2 a (.lst xs') b = some o := fun b o ne e => by rw [upd_ne ne]; exact e
              have oa : ownM σ e' a := ⟨j, b', ds2, ej', sj⟩
              have tk : TK H2 (upd H2 a (.lst xs')) := ⟨fun b xs e => kp b _ (fun z => by rw [z, ea] at e; cases e) e, fun b o u e => kp b _ (fun z => by rw [z, ea] at e; cases e) e⟩
              obtain ⟨y1, y2⟩ := r4.put ej' sj kp upd_same (qs.mono tk fun b ys g e => ⟨g, kp b _ (fun z => g.2 (by rw [z]; exact oa)) e⟩)
              exact h _ y1 (s4.trans y2) v (r4.rep y2 qv)
theorem RepT.tyL {L N : Addr → Prop} {σ : St} {H : Hp} {env : En} {v : V} {j : Nat} (r : RE c L σ H env) (q : RepT c L N σ H env v (.al j)) : tyV c.K "list" v H := by
  obtain ⟨⟨io, ds, e1⟩, e2⟩ := q
  obtain ⟨a, xs, e3, e4, _⟩ := r.own j io ds e1
  rw [e2] at e3
  cases e3
  exact .inl ⟨rfl, _, .of e4⟩
theorem de_met {r : V → List V → Hp → VK → Prop} {k : List D → List T → En → Option (D × List D × En)} {name : Str} {apos cpos : Pos} {id : String} (hm : MetD c r k) (slot : Slot "list" name id) (hty : typeOf (.builtin id) = pure (.type "method_descriptor")) (hr : MtR X id r) (ho : PE X o (dE c W fo)) (ha : PA X (e :: es) (dA c W fas)) (hK : c.K = X.K := by rfl)
    (hbase : attributeBase o name X.env (eval o X.env) = eval o X.env := by rfl)
    (hfew : ((backTo cpos (starEach (e :: es) X.env)).all (fun x => !x.1) && (backToKw cpos (keywordEach [] X.env)).all (fun x => x.1.isSome)
      && decide ((e :: es).length + ([] : List Keyword).length + (if ([] : List Keyword).isEmpty then 0 else 1) < 30)) = true := by rfl)
    (hline : (apos.endLine == cpos.line) = true := by rfl) (hs : starEach (e :: es) X.env = (false, eval e X.env) :: starEach es X.env := by rfl) (hplain : (backTo cpos (starEach es X.env)).any (·.1) = false := by rfl) :
    PE X (.Call (.Attribute o name apos) (e :: es) [] cpos) (dE c W (eMet k fo fas)) :=
  PEw (pe_bm PySem.F.plainAttrs_list slot hty hr ho ha hbase hfew hline hs hplain) fun σ H Q h => by
    obtain ⟨env, L, re, h⟩ := dE_iff.mp h
    refine dE.of re (h.bind.mono fun to e1 H1 r1 s1 h1 x q1 => ?_)
    cases to with
    | im d => exact h1.elim
    | fr d => exact h1.elim
    | ft d => exact h1.elim
    | al j =>
      refine ⟨by rw [← hK]; exact q1.tyL r1, dA.of r1 (h1.bind.mono fun ts e2 H2 r2 s2 h2 vs As q n r3 => ?_)⟩
      exact met_ok (H0 := H) hm (s1.trans s2) q1 r2 q n r3 h2
def kApp (ds : List D) (ts : List T) (env : En) : Option (D × List D × En) := if ds.length < 1000000 then match mvs ts env with
  | some ([c], e) => some (.non, ds ++ [c.d], e)
  | _ => none else none
def kExt (ds : List D) (ts : List T) (env : En) : Option (D × List D × En) := match vals env ts with
  | some [.lst es] => if ds.length + es.length ≤ 1000000 then some (.non, ds ++ es, env) else none
  | _ => none
theorem m_app : MetD c rAppend kApp := by
  intro L σ H env a xs ds vs As ts d ds' env' Q j b r n q ej sj ea ra ek ow kk
  unfold kApp at ek
  split at ek
  · rename_i hl
    cases em : mvs ts env with
    | none => rw [em] at ek; cases ek
    | some w =>
      obtain ⟨cs, e'⟩ := w
      rw [em] at ek
      obtain ⟨S', Bs, h1, h2, h3, h4, h5, h6, h7⟩ := q.mv As env r (fun b => Iff.rfl) (fun _ z => z) em
      cases cs with
      | nil => cases ek
      | cons cp cs =>
        cases cs with
        | cons _ _ => cases ek
        | nil =>
          cases ek
          have rB : Reps c.K (Av L σ env') H vs [cp.d] := h5.reps (G' := Av L σ env') (fun b g => ⟨fun z => ((h3 b).mp g).1 (.inl z), ((h3 b).mp g).2⟩) fun b hb => ⟨fun z => by
            rcases (h6 b hb).2 with y | y
            · exact (n b y).1 z
            · exact y.2.2.2 z, (h1.ext b (.inr (h6 b hb).1)).1⟩
          cases rB with
          | cons r1 rs =>
            cases rs
            refine ⟨a, xs, _, rfl, rfl, ea, by rw [ra.length]; exact Nat.lt_of_lt_of_le hl (line6 (Nat.le_refl _)), ?_⟩
            exact kk .non _ h1.bare h2 .non ((r.bare.reps h2 ra).append (.cons r1 .nil))
  · cases ek
end
end DL
namespace DL
open PySem PySem.Spec L2
structure Wk where
  its : List D
  chk : Option (Nat × List D)
def Wk.ok (k : Wk) (env : En) : Prop := match k.chk with
  | none => True
  | some (j, ds) => ∃ b, env[j]? = some (Sl.own b ds)
@[simp] theorem wk_ok_none (its : List D) (env : En) : Wk.ok ⟨its, none⟩ env = True := rfl
abbrev FI := En → R Wk
structure Src (c : Cc) (A : (Addr → Prop) → Prop) (S : Sp0) (J : It) (k : Wk) : Prop where
  stop : ∀ L i σ H env, A L → RE c L σ H env → S σ env H → k.ok env → k.its.length ≤ i → J.stop i H
  go : ∀ L i σ H env, A L → RE c L σ H env → S σ env H → k.ok env → i < k.its.length → J.go i H
  yld : ∀ L i σ H env x H' d, A L → RE c L σ H env → S σ env H → k.ok env → k.its[i]? = some d → J.yld i H x H' → (∀ b o, H b = some o → H' b = some o) ∧ Rep c.K (Av L σ env) H' x d
def SubS (σ σ' : St) : Prop := ∀ (j : Nat) (v : V), σ'[j]? = some (some v) → σ[j]? = some (some v)
abbrev Lx (L : Addr → Prop) (H : Hp) (L2 : Addr → Prop) : Prop := ∀ a, L2 a → L a ∨ H a = none
abbrev Sw (k : Wk) (σ : St) (env : En) (H : Hp) : Sp0 := fun σ' e' H' => Stp σ env H σ' e' H' ∧ (k.chk = none ∨ ∀ (j : Nat) (ds : List D), k.chk = some (j, ds) → ∀ v : V, σ'[j]? = some (some v) → σ[j]? = some (some v))
def dI (c : Cc) (W : WX) (f : FI) : TI := fun σ H R => ∃ env L, RE c L σ H env ∧ dK c W L σ H env (f env) fun k e1 H1 => ∀ J, (k.ok e1 ∧ Src c (Lx L H1) (Sw k σ e1 H1) J k) → R J H1
def iT (t : T) (env : En) : R Wk := match t with
  | .im (.tup ds) => .ok ⟨ds, none⟩ env
  | .ft cs => .ok ⟨cs.map Cp.d, none⟩ env
  | _ => .er
def iL (fz : Bool) (t : T) (env : En) : R Wk := match t with
  | .im (.lst ds) => .ok ⟨ds, none⟩ env
  | .im (.fz ds) => .ok ⟨ds, none⟩ env
  | .al j => match env[j]? with
    | some (.own _ ds) => if fz then .ok ⟨ds, none⟩ (env.set j (.im (.lst ds))) else .ok ⟨ds, some (j, ds)⟩ env
    | _ => .er
  | _ => .er
def fiT (fa : FE) : FI := fun env => (fa env).bind iT
def fiL (fz : Bool) (fa : FE) : FI := fun env => (fa env).bind fun t => iL fz t.weak
def rngD (m n : Int) : List D := (List.range (n - m).toNat).map fun (i : Nat) => D.int (m + (i : Int))
def iR1 (ts : List T) (env : En) : R Wk := match vals env ts with
  | some [.int n] => if -(2 ^ 62) ≤ n ∧ n < 2 ^ 62 then .ok ⟨rngD 0 n, none⟩ env else .er
  | _ => .er
def fiR1 (fa : FA) : FI := fun env => (fa env).bind iR1
def iR2 (ts : List T) (env : En) : R Wk := match vals env ts with
  | some [.int m, .int n] => if -(2 ^ 62) ≤ m ∧ m < 2 ^ 62 ∧ -(2 ^ 62) ≤ n ∧ n < 2 ^ 62 then .ok ⟨rngD m n, none⟩ env else .er
  | _ => .er
def fiR2 (fa : FA) : FI := fun env => (fa env).bind iR2
def enumD (ds : List D) : List D := ds.mapIdx fun (i : Nat) d => .tup [.int (i : Int), d]
def onI (f : List D → List D) (r : R Wk) : R Wk := r.bind fun k e => .ok ⟨f k.its, k.chk⟩ e
def iE (fz : Bool) (ts : List T) (env : En) : R Wk := match ts with
  | [.im (.tup ds)] => .ok ⟨enumD ds, none⟩ env
  | [t] => onI enumD (iL fz t.weak env)
  | _ => .er
def fiE (fz : Bool) (fa : FA) : FI := fun env => (fa env).bind (iE fz)
def zipD (xs ys : List D) : List D := xs.zipWith (fun x y => .tup [x, y]) ys
def iZ (fz : Bool) (ts : List T) (env : En) : R Wk := match ts with
  | [.im (.tup xs), .im (.tup ys)] => .ok ⟨zipD xs ys, none⟩ env
  | [t, u] => (iL true u.weak env).bind fun k2 e2 => onI (fun xs => zipD xs k2.its) (iL fz t.weak e2)
  | _ => .er
def fiZ (fz : Bool) (fa : FA) : FI := fun env => (fa env).bind (iZ fz)
theorem Rep.lx {K : PySem.W.Frag} {L L2 : Addr → Prop} {σ : St} {env : En} {H : Hp} {v : V} {d : D} (lx : Lx L H L2) (r : Rep K (Av L σ env) H v d) : Rep K (Av L2 σ env) H v d :=
  r.mono (.refl H) fun a xs g e => ⟨⟨fun z => (lx a z).elim g.1 fun z => (by rw [z] at e; cases e), g.2⟩, e⟩
theorem Reps.lx {K : PySem.W.Frag} {L L2 : Addr → Prop} {σ : St} {env : En} {H : Hp} {v : List V} {d : List D} (lx : Lx L H L2) (r : Reps K (Av L σ env) H v d) : Reps K (Av L2 σ env) H v d :=
  r.mono (.refl H) fun a xs g e => ⟨⟨fun z => (lx a z).elim g.1 fun z => (by rw [z] at e; cases e), g.2⟩, e⟩
theorem RE.freeze {c : Cc} {L : Addr → Prop} {σ : St} {H : Hp} {env : En} {i : Nat} {ds : List D} {io : Bool} (h : RE c L σ H env) (e : env[i]? = some (Sl.own io ds)) : RE c L σ H (env.set i (.im (.lst ds))) ∧ Stp σ env H σ (env.set i (.im (.lst ds))) H := by
  obtain ⟨a, xs, es, ea, ra, _⟩ := h.own i io ds e
  obtain ⟨q1, q2⟩ := h.drop e es
  have hi : i < env.length := (List.getElem?_eq_some_iff.mp e).1
  have oa : ownM σ env a := ⟨i, io, ds, e, es⟩
  have same : σ.set i (some (V.ref a)) = σ := by
    apply List.ext_getElem?
    intro j
    by_cases z : i = j
    · subst z
      rw [List.getElem?_set_self (by rw [← h.len]; exact hi), es]
    · rw [List.getElem?_set_ne z]
  have r1 : Rep c.K (Av L σ (env.set i .no)) H (.ref a) (.lst ds) := .lst ⟨fun z => (h.ext a z).1 oa, (q1.ext a (.inr rfl)).1⟩ ea (ra.mono (.refl H) fun b ys g e => ⟨⟨g.1, fun z => g.2 (own_set_no z).1⟩, e⟩)
  obtain ⟨q3, q4⟩ := (q1.less fun b z => .inl z).setIm (i := i) r1
  rw [same, List.set_set] at q3 q4
  exact ⟨q3, q2.trans q4⟩
section
variable {X : Cx} {c : Cc} {W : WX} {pos p : Pos} {e tg a b : Expr} {fa : FE} {fas : FA}
theorem PIw {t t' : TI} (h : PI X tg e t) (k : ∀ σ H R, t' σ H R → t σ H R) : PI X tg e t' := ⟨fun pins s σ H R I q => h.run pins s σ H R I (k σ H R q)⟩
def RepV (c : Cc) (L : Addr → Prop) (σ : St) (H : Hp) (env : En) (v : V) : T → Prop
  | .im d => Rep c.K (Av L σ env) H v d
  | .al i => σ[i]? = some (some v)
  | _ => False
theorem RepT.v {L N : Addr → Prop} {σ : St} {H : Hp} {env : En} {v : V} {t : T} (h : RepT c L N σ H env v t) : RepV c L σ H env v t.weak := by
  have h := h.wk
  cases t with
  | im d => exact h
  | al i => exact h.2
  | fr ds => exact h
  | ft cs => exact h
theorem RepV.step {L : Addr → Prop} {σ : St} {H H' : Hp} {env env' : En} {v : V} {t : T} (r : RE c L σ H env) (h : RepV c L σ H env v t) (s : Stp σ env H σ env' H') : RepV c L σ H' env' v t := by
  cases t with
  | im d => exact r.rep s h
  | al i => exact h
  | fr ds => exact h
  | ft cs => exact h
theorem RepAs.vs {L : Addr → Prop} {As0 : List Addr} {σ : St} {H : Hp} {env : En} : ∀ {As : List Addr} {vs : List V} {ts : List T}, RepAs c.K (Av (Lu L As0) σ env) σ H env As vs ts → RE c (Lu L As0) σ H env → (∀ a ∈ As, a ∈ As0 ∧ ¬ L a) → vs.length = ts.length ∧ ∀ (i : Nat) (v : V) (t : T), vs[i]? = some v → ts[i]? = some t → RepV c L σ H env v t.weak
  | _, _, _, .nil, _, _ => ⟨rfl, fun i v t (e : ([] : List V)[i]? = some v) => by simp at e⟩
  | _, _, _, .im r rs, h2, n => by
    obtain ⟨q1, q2⟩ := RepAs.vs rs h2 n
    refine ⟨by rw [List.length_cons, List.length_cons, q1], fun i v t e1 e2 => ?_⟩
    cases i with
    | zero =>
      cases e1
      cases e2
      exact r.mono (.refl H) fun a xs g e => ⟨⟨fun z => g.1 (.inl z), g.2⟩, e⟩
    | succ i => exact q2 i v t e1 e2
  | _, _, _, .al o es rs, h2, n => by
    obtain ⟨q1, q2⟩ := RepAs.vs rs h2 n
    refine ⟨by rw [List.length_cons, List.length_cons, q1], fun i v t e1 e2 => ?_⟩
    cases i with
    | zero =>
      cases e1
      cases e2
      exact es
    | succ i => exact q2 i v t e1 e2
  | _, _, _, .fr (a := a) na ea r rs, h2, n => by
    obtain ⟨q1, q2⟩ := RepAs.vs rs h2 fun b z => n b (List.mem_cons_of_mem _ z)
    refine ⟨by rw [List.length_cons, List.length_cons, q1], fun i v t e1 e2 => ?_⟩
    cases i with
    | zero =>
      cases e1
      cases e2
      obtain ⟨m1, m2⟩ := n a List.mem_cons_self
      exact .lst ⟨m2, (h2.ext a (.inr m1)).1⟩ ea (r.mono (.refl H) fun b ys g e => ⟨⟨fun z => g.1 (.inl z), g.2⟩, e⟩)
    | succ i => exact q2 i v t e1 e2
theorem lst_of {fz : Bool} {L : Addr → Prop} {σ1 : St} {H1 : Hp} {env1 env2 : En} {v : V} {t : T} {k : Wk} (r : RE c L σ1 H1 env1) (q : RepV c L σ1 H1 env1 v t) (e : iL fz t env1 = .ok k env2) :
    ∃ a, v = .ref a ∧ RE c L σ1 H1 env2 ∧ Stp σ1 env1 H1 σ1 env2 H1 ∧ k.ok env2 ∧ ∀ L2 σ H env, Lx L H1 L2 → RE c L2 σ H env → Sw k σ1 env2 H1 σ env H → k.ok env → ∃ xs, SqL c.K H a xs ∧ Reps c.K (Av L2 σ env) H xs k.its := by
  have im : ∀ ds, Rep c.K (Av L σ1 env1) H1 v (.lst ds) → ∃ a, v = .ref a ∧ RE c L σ1 H1 env1 ∧ Stp σ1 env1 H1 σ1 env1 H1 ∧ Wk.ok ⟨ds, none⟩ env1 ∧ ∀ L2 σ H env, Lx L H1 L2 → RE c L2 σ H env → Sw ⟨ds, none⟩ σ1 env1 H1 σ env H → Wk.ok ⟨ds, none⟩ env → ∃ xs, SqL c.K H a xs ∧ Reps c.K (Av L2 σ env) H xs ds := fun ds q => by
    have q0 := q
    cases q with
    | lst g ea rs =>
      rename_i a xs
      refine ⟨a, rfl, r, .refl, trivial, fun L2 σ H env lx re s _ => ?_⟩
      cases r.rep s.1 (Rep.lx lx q0) with
      | lst g e2 rs2 => exact ⟨_, .of e2, rs2⟩
  unfold iL at e
  cases t with
  | ft cs => cases e
  | fr ds => cases e
  | im d =>
    cases d with
    | lst ds => cases e; exact im ds q
    | fz ds =>
      cases e
      cases (show Rep c.K (Av L σ1 env1) H1 v (.fz ds) from q) with
      | fz h rs =>
        rename_i a xs
        exact ⟨a, rfl, r, .refl, trivial, fun L2 σ H env lx re s _ => ⟨xs, ((r.tk s.1).fz h).sql, r.reps s.1 (Reps.lx lx rs)⟩⟩
    | non => cases e
    | dct _ _ => cases e
    | bl b => cases e
    | int b => cases e
    | str b => cases e
    | tup b => cases e
  | al j =>
    dsimp only at e
    cases ej : env1[j]? with
    | none => rw [ej] at e; cases e
    | some s =>
      cases s with
      | no => rw [ej] at e; cases e
      | im d => rw [ej] at e; cases e
      | own b ds =>
        rw [ej] at e
        dsimp only at e
        obtain ⟨a, xs, sj, ea, ra, _⟩ := r.own j b ds ej
        have sj' : σ1[j]? = some (some v) := q
        rw [sj] at sj'
        cases sj'
        cases fz with
        | true =>
          cases e
          obtain ⟨f1, f2⟩ := r.freeze ej
          have hj : j < env1.length := (List.getElem?_eq_some_iff.mp ej).1
          refine ⟨a, rfl, f1, f2, trivial, fun L2 σ H env lx re s _ => ?_⟩
          obtain ⟨v', e3, r4⟩ := f1.im j (.lst ds) (List.getElem?_set_self hj)
          rw [sj] at e3
          cases e3
          cases f1.rep s.1 (Rep.lx lx r4) with
          | lst g e2 rs2 => exact ⟨_, .of e2, rs2⟩
        | false =>
          cases e
          refine ⟨a, rfl, r, .refl, ⟨b, ej⟩, fun L2 σ H env lx re s ⟨b', ok⟩ => ?_⟩
          obtain ⟨a2, ys, sj2, ea2, ra2, _⟩ := re.own j b' ds ok
          have sub := s.2.elim (fun z => nomatch z) fun z => z j _ rfl
          have := sub _ sj2
          rw [sj] at this
          cases this
          exact ⟨ys, .of ea2, ra2⟩
theorem src_list {A : (Addr → Prop) → Prop} {S : Sp0} {a : Addr} {k : Wk} (hl : ∀ L σ H env, A L → RE c L σ H env → S σ env H → k.ok env → ∃ xs, SqL c.K H a xs ∧ Reps c.K (Av L σ env) H xs k.its) : Src c A S (Itl c.K a) k := by
  refine ⟨fun L i σ H env al re s k hi => ?_, fun L i σ H env al re s k hi => ?_, fun L i σ H env x H' d al re s k hd hy => ?_⟩
  · obtain ⟨xs, h, rs⟩ := hl L σ H env al re s k
    exact ⟨xs, h, by rw [rs.length]; exact hi⟩
  · obtain ⟨xs, h, rs⟩ := hl L σ H env al re s k
    have hi' : i < xs.length := by rw [rs.length]; exact hi
    exact ⟨xs, xs[i], h, List.getElem?_eq_getElem hi'⟩
  · obtain ⟨rfl, hy⟩ := hy
    obtain ⟨xs, h, rs⟩ := hl L σ H' env al re s k
    obtain ⟨v, ev, rv⟩ := rs.get hd
    have := hy xs h
    rw [ev] at this
    cases this
    exact ⟨fun _ _ e => e, rv⟩
theorem src_tup {A : (Addr → Prop) → Prop} {S : Sp0} {a : Addr} {k : Wk} (hl : ∀ L σ H env, A L → RE c L σ H env → S σ env H → k.ok env → ∃ xs, SqT c.K H a xs ∧ Reps c.K (Av L σ env) H xs k.its) : Src c A S (Itt c.K a) k := by
  refine ⟨fun L i σ H env al re s k hi => ?_, fun L i σ H env al re s k hi => ?_, fun L i σ H env x H' d al re s k hd hy => ?_⟩
  · obtain ⟨xs, h, rs⟩ := hl L σ H env al re s k
    exact ⟨xs, h, by rw [rs.length]; exact hi⟩
  · obtain ⟨xs, h, rs⟩ := hl L σ H env al re s k
    have hi' : i < xs.length := by rw [rs.length]; exact hi
    exact ⟨xs, xs[i], h, List.getElem?_eq_getElem hi'⟩
  · obtain ⟨rfl, hy⟩ := hy
    obtain ⟨xs, h, rs⟩ := hl L σ H' env al re s k
    obtain ⟨v, ev, rv⟩ := rs.get hd
    have := hy xs h
    rw [ev] at this
    cases this
    exact ⟨fun _ _ e => e, rv⟩
theorem pair_new {L : Addr → Prop} {σ : St} {H : Hp} {env : En} {Tt : Addr} {x y : V} {dx dy : D} (re : RE c L σ H env) (n : H Tt = none) (rx : Rep c.K (Av L σ env) H x dx) (ry : Rep c.K (Av L σ env) H y dy) :
    (∀ b o, H b = some o → upd H Tt (.tup [x, y]) b = some o) ∧ Rep c.K (Av L σ env) (upd H Tt (.tup [x, y])) (.ref Tt) (.tup [dx, dy]) := by
  have kp : ∀ b o, H b = some o → upd H Tt (.tup [x, y]) b = some o := fun b o e => by rw [upd_ne (ne_of_none e n)]; exact e
  exact ⟨kp, .tup (.inl (.inl upd_same)) (.cons (re.rep (.grow kp) rx) (.cons (re.rep (.grow kp) ry) .nil))⟩
theorem enumD_get {ds : List D} {i : Nat} {d : D} (h : (enumD ds)[i]? = some d) : ∃ d', ds[i]? = some d' ∧ d = .tup [.int (i : Int), d'] := by
  unfold enumD at h
  rw [List.getElem?_mapIdx] at h
  cases q : ds[i]? with
  | none => rw [q] at h; cases h
  | some d' => rw [q] at h; cases h; exact ⟨d', rfl, rfl⟩
theorem enumD_len (ds : List D) : (enumD ds).length = ds.length := by simp [enumD]
theorem src_enumL {A : (Addr → Prop) → Prop} {S : Sp0} {a : Addr} {k : Wk} (hl : ∀ L σ H env, A L → RE c L σ H env → S σ env H → k.ok env → ∃ xs, SqL c.K H a xs ∧ Reps c.K (Av L σ env) H xs k.its) : Src c A S (Ite c.K a) ⟨enumD k.its, k.chk⟩ := by
  refine ⟨fun L i σ H env al re s k hi => ?_, fun L i σ H env al re s k hi => ?_, fun L i σ H env x H' d al re s k hd hy => ?_⟩
  · obtain ⟨xs, h, rs⟩ := hl L σ H env al re s k
    exact ⟨xs, h, by rw [rs.length, ← enumD_len]; exact hi⟩
  · obtain ⟨xs, h, rs⟩ := hl L σ H env al re s k
    have hi' : i < xs.length := by rw [rs.length, ← enumD_len]; exact hi
    exact ⟨xs, xs[i], h, List.getElem?_eq_getElem hi'⟩
  · obtain ⟨Tt, y, rfl, n, rfl, hy⟩ := hy
    obtain ⟨xs, h, rs⟩ := hl L σ H env al re s k
    obtain ⟨d', e1, rfl⟩ := enumD_get hd
    obtain ⟨v, ev, rv⟩ := rs.get e1
    have := hy xs h
    rw [ev] at this
    cases this
    exact pair_new re n (.int _) rv
theorem src_enumT {A : (Addr → Prop) → Prop} {S : Sp0} {a : Addr} {k : Wk} (hl : ∀ L σ H env, A L → RE c L σ H env → S σ env H → k.ok env → ∃ xs, SqT c.K H a xs ∧ Reps c.K (Av L σ env) H xs k.its) : Src c A S (IteT c.K a) ⟨enumD k.its, k.chk⟩ := by
  refine ⟨fun L i σ H env al re s k hi => ?_, fun L i σ H env al re s k hi => ?_, fun L i σ H env x H' d al re s k hd hy => ?_⟩
  · obtain ⟨xs, h, rs⟩ := hl L σ H env al re s k
    exact ⟨xs, h, by rw [rs.length, ← enumD_len]; exact hi⟩
  · obtain ⟨xs, h, rs⟩ := hl L σ H env al re s k
    have hi' : i < xs.length := by rw [rs.length, ← enumD_len]; exact hi
    exact ⟨xs, xs[i], h, List.getElem?_eq_getElem hi'⟩
  · obtain ⟨Tt, y, rfl, n, rfl, hy⟩ := hy
    obtain ⟨xs, h, rs⟩ := hl L σ H env al re s k
    obtain ⟨d', e1, rfl⟩ := enumD_get hd
    obtain ⟨v, ev, rv⟩ := rs.get e1
    have := hy xs h
    rw [ev] at this
    cases this
    exact pair_new re n (.int _) rv
theorem zipD_get {xs ys : List D} {i : Nat} {d : D} (h : (zipD xs ys)[i]? = some d) : ∃ x y, xs[i]? = some x ∧ ys[i]? = some y ∧ d = .tup [x, y] := by
  unfold zipD at h
  rw [List.getElem?_zipWith] at h
  cases q : xs[i]? with
  | none => rw [q] at h; cases h
  | some x =>
    cases q2 : ys[i]? with
    | none => rw [q, q2] at h; cases h
    | some y => rw [q, q2] at h; cases h; exact ⟨x, y, rfl, rfl, rfl⟩
theorem zipD_len (xs ys : List D) : (zipD xs ys).length = min xs.length ys.length := by simp [zipD]
theorem src_zipL {A : (Addr → Prop) → Prop} {S : Sp0} {a b : Addr} {k : Wk} {es : List D} (hl : ∀ L σ H env, A L → RE c L σ H env → S σ env H → k.ok env → ∃ xs, SqL c.K H a xs ∧ Reps c.K (Av L σ env) H xs k.its) (hb : ∀ L σ H env, A L → RE c L σ H env → S σ env H → ∃ xs, SqL c.K H b xs ∧ Reps c.K (Av L σ env) H xs es) : Src c A S (Itz c.K a b) ⟨zipD k.its es, k.chk⟩ := by
  refine ⟨fun L i σ H env al re s k hi => ?_, fun L i σ H env al re s k hi => ?_, fun L i σ H env x H' d al re s k hd hy => ?_⟩
  · obtain ⟨xs, h, rs⟩ := hl L σ H env al re s k
    obtain ⟨ys, h2, rs2⟩ := hb L σ H env al re s
    refine ⟨xs, ys, h, h2, ?_⟩
    rw [rs.length, rs2.length]
    dsimp only at hi
    rw [zipD_len] at hi
    omega
  · obtain ⟨xs, h, rs⟩ := hl L σ H env al re s k
    obtain ⟨ys, h2, rs2⟩ := hb L σ H env al re s
    dsimp only at hi
    rw [zipD_len] at hi
    have h1' : i < xs.length := by rw [rs.length]; omega
    have h2' : i < ys.length := by rw [rs2.length]; omega
    exact ⟨xs, ys, xs[i], ys[i], h, h2, List.getElem?_eq_getElem h1', List.getElem?_eq_getElem h2'⟩
  · obtain ⟨Tt, y, z, rfl, n, rfl, hy, hz⟩ := hy
    obtain ⟨xs, h, rs⟩ := hl L σ H env al re s k
    obtain ⟨ys, h2, rs2⟩ := hb L σ H env al re s
    obtain ⟨d1, d2, e1, e2, rfl⟩ := zipD_get hd
    obtain ⟨v, ev, rv⟩ := rs.get e1
    obtain ⟨w, ew, rw'⟩ := rs2.get e2
    have q1 := hy xs h
    have q2 := hz ys h2
    rw [ev] at q1
    rw [ew] at q2
    cases q1
    cases q2
    exact pair_new re n rv rw'
theorem src_zipT {A : (Addr → Prop) → Prop} {S : Sp0} {a b : Addr} {ds es : List D} (hl : ∀ L σ H env, A L → RE c L σ H env → S σ env H → ∃ xs, SqT c.K H a xs ∧ Reps c.K (Av L σ env) H xs ds) (hb : ∀ L σ H env, A L → RE c L σ H env → S σ env H → ∃ xs, SqT c.K H b xs ∧ Reps c.K (Av L σ env) H xs es) : Src c A S (RZ.ItzT c.K a b) ⟨zipD ds es, none⟩ := by
  refine ⟨fun L i σ H env al re s k hi => ?_, fun L i σ H env al re s k hi => ?_, fun L i σ H env x H' d al re s k hd hy => ?_⟩
  · obtain ⟨xs, h, rs⟩ := hl L σ H env al re s
    obtain ⟨ys, h2, rs2⟩ := hb L σ H env al re s
    refine ⟨xs, ys, h, h2, ?_⟩
    rw [rs.length, rs2.length]
    dsimp only at hi
    rw [zipD_len] at hi
    omega
  · obtain ⟨xs, h, rs⟩ := hl L σ H env al re s
    obtain ⟨ys, h2, rs2⟩ := hb L σ H env al re s
    dsimp only at hi
    rw [zipD_len] at hi
    have h1' : i < xs.length := by rw [rs.length]; omega
    have h2' : i < ys.length := by rw [rs2.length]; omega
    exact ⟨xs, ys, xs[i], ys[i], h, h2, List.getElem?_eq_getElem h1', List.getElem?_eq_getElem h2'⟩
  · obtain ⟨Tt, y, z, rfl, n, rfl, hy, hz⟩ := hy
    obtain ⟨xs, h, rs⟩ := hl L σ H env al re s
    obtain ⟨ys, h2, rs2⟩ := hb L σ H env al re s
    obtain ⟨d1, d2, e1, e2, rfl⟩ := zipD_get hd
    obtain ⟨v, ev, rv⟩ := rs.get e1
    obtain ⟨w, ew, rw'⟩ := rs2.get e2
    have q1 := hy xs h
    have q2 := hz ys h2
    rw [ev] at q1
    rw [ew] at q2
    cases q1
    cases q2
    exact pair_new re n rv rw'
theorem src_rng {A : (Addr → Prop) → Prop} {S : Sp0} (m n : Int) : Src c A S (Itr m (n - m).toNat) ⟨rngD m n, none⟩ := by
  have len : (rngD m n).length = (n - m).toNat := by simp [rngD]
  refine ⟨fun L i σ H env al re s k hi => ?_, fun L i σ H env al re s k hi => ?_, fun L i σ H env x H' d al re s k hd hy => ?_⟩
  · show (n - m).toNat ≤ i
    rw [← len]; exact hi
  · show i < (n - m).toNat
    rw [← len]; exact hi
  · obtain ⟨rfl, rfl⟩ := hy
    dsimp only [rngD] at hd
    rw [List.getElem?_map] at hd
    cases q : (List.range (n - m).toNat)[i]? with
    | none => rw [q] at hd; cases hd
    | some j =>
      rw [q] at hd
      cases hd
      have : j = i := by
        have q2 := List.getElem?_eq_some_iff.mp q
        obtain ⟨h1, h2⟩ := q2
        simpa using h2.symm
      subst this
      exact ⟨fun _ _ e => e, .int _⟩
theorem di_tup (he : PE X e (dE c W fa)) (hK : c.K = X.K := by rfl) : PI X tg e (dI c W (fiT fa)) := PIw (pi_tup he) fun σ H R h => by
  obtain ⟨env, L, r, h⟩ := h
  refine dE.of r (h.bind.mono fun t e1 H1 r1 s1 h1 v q => ?_)
  rw [← hK]
  cases t with
  | al i => exact h1.elim
  | fr ds => exact h1.elim
  | im d =>
    cases d with
    | tup ds =>
      have q0 : Rep c.K (Av L σ e1) H1 v (.tup ds) := q
      cases (show Rep c.K (Av L σ e1) H1 v (.tup ds) from q) with
      | tup ht rs =>
        rename_i a xs
        exact ⟨a, rfl, ⟨xs, ht⟩, h1 H1 r1 .refl (Itt c.K a) ⟨trivial, src_tup fun L2 σ' H' env' lx re s _ => ⟨xs, (r1.tk s.1).sqt ht, r1.reps s.1 (Reps.lx lx rs)⟩⟩⟩
    | non => exact h1.elim
    | bl b => exact h1.elim
    | int b => exact h1.elim
    | str b => exact h1.elim
    | lst b => exact h1.elim
    | fz b => exact h1.elim
    | dct _ _ => exact h1.elim
  | ft cs =>
    have q : Rep c.K (Av L σ e1) H1 v (.tup (cs.map Cp.d)) := q.wk
    cases q with
    | tup ht rs =>
      rename_i a xs
      exact ⟨a, rfl, ⟨xs, ht⟩, h1 H1 r1 .refl (Itt c.K a) ⟨trivial, src_tup fun L2 σ' H' env' lx re s _ => ⟨xs, (r1.tk s.1).sqt ht, r1.reps s.1 (Reps.lx lx rs)⟩⟩⟩
theorem dI_ok {σ : St} {H : Hp} {L : Addr → Prop} {env : En} {r : R Wk} {P : Wk → En → Hp → Prop} (h : dK c W L σ H env r P) (re : RE c L σ H env) (ok : ∀ cls e, r ≠ .ex cls e) (st : ∀ k e2, r = .ok k e2 → RE c L σ H e2 ∧ Stp σ env H σ e2 H) : ∃ k e2, r = .ok k e2 ∧ P k e2 H := by
  cases r with
  | er => exact h.elim
  | ex cls e => exact (ok cls e rfl).elim
  | ok k e2 => exact ⟨k, e2, rfl, h H (st k e2 rfl).1 (st k e2 rfl).2⟩
theorem iL_ex {fz : Bool} {t : T} {env : En} : ∀ cls e, iL fz t env ≠ .ex cls e := fun cls e z => by
  unfold iL at z
  split at z
  · cases z
  · cases z
  · split at z
    · split at z <;> cases z
    · cases z
  · cases z
theorem di_list (fz : Bool) (he : PE X e (dE c W fa)) (hK : c.K = X.K := by rfl) : PI X tg e (dI c W (fiL fz fa)) := PIw (pi_list he) fun σ H R h => by
  obtain ⟨env, L, r, h⟩ := h
  refine dE.of r (h.bind.mono fun t e1 H1 r1 s1 h1 v q => ?_)
  rw [← hK]
  obtain ⟨k, e2, ek, h1⟩ := dI_ok h1 r1 iL_ex fun k e2 e => by
    obtain ⟨a, _, re, st, _⟩ := lst_of r1 q.v e
    exact ⟨re, st⟩
  obtain ⟨a, rfl, re, st, ok, hl⟩ := lst_of r1 q.v ek
  obtain ⟨xs, hx, _⟩ := hl L σ H1 e2 (fun _ z => .inl z) re ⟨.refl, .inr fun _ _ _ _ e => e⟩ ok
  exact ⟨a, rfl, ⟨xs, hx⟩, h1 (Itl c.K a) ⟨ok, src_list hl⟩⟩
theorem RepO_int {K : PySem.W.Frag} {G : Addr → Prop} {H : Hp} {v : V} {n : Int} (h : RepO K G H v (.int n)) : v = .int n := by
  cases (show Rep K G H v (.int n) from h)
  rfl
theorem di_range1 {fas : FA} (hg : Gl X "range") (hm : X.mg "range" = none) (ha : PA X [a] (dA c W fas)) (hs : starEach [a] X.env = [(false, eval a X.env)] := by rfl) : PI X tg (.Call (.Name "range" p) [a] [] pos) (dI c W (fiR1 fas)) :=
  PIw (pi_range1 hg hm ha hs) fun σ H R h => by
  obtain ⟨env, L, r, h⟩ := h
  refine dA.of r (h.bind.mono fun ts e1 H1 r1 s1 h1 vs As q n r2 => ?_)
  unfold iR1 at h1
  split at h1
  · rename_i m ev
    have qq := q.oprs r1 r2 (fun a z => ⟨z, (n a z).1⟩) ev
    cases qq with
    | cons qa qs =>
      cases qs
      cases RepO_int qa
      by_cases z : -(2 ^ 62) ≤ m ∧ m < 2 ^ 62
      · rw [if_pos z] at h1
        refine ⟨m, rfl, z.1, z.2, ?_⟩
        have := h1 H1 r1 .refl (Itr 0 (m - 0).toNat) ⟨trivial, src_rng 0 m⟩
        rwa [Int.sub_zero] at this
      · rw [if_neg z] at h1
        exact h1.elim
  · exact h1.elim
theorem onI_ok {f : List D → List D} {r : R Wk} {k : Wk} {e : En} (h : onI f r = .ok k e) : ∃ k0, r = .ok k0 e ∧ k = ⟨f k0.its, k0.chk⟩ := by
  cases r with
  | er => cases h
  | ex x e => cases h
  | ok k0 e0 => cases h; exact ⟨k0, rfl, rfl⟩
theorem onI_ex {f : List D → List D} {r : R Wk} (h : ∀ cls e, r ≠ .ex cls e) : ∀ cls e, onI f r ≠ .ex cls e := fun cls e z => by
  cases r with
  | er => cases z
  | ex x e => exact h _ _ rfl
  | ok k0 e0 => cases z
theorem di_enum {fas : FA} {elts : List Expr} {kk : Nat} {tpos : Pos} (fz : Bool) (hg : Gl X "enumerate") (hm : X.mg "enumerate" = none) (ha : PA X [e] (dA c W fas)) (hK : c.K = X.K := by rfl) (hs : starEach [e] X.env = [(false, eval e X.env)] := by rfl) :
    PI X (.Tuple elts kk tpos) (.Call (.Name "enumerate" p) [e] [] pos) (dI c W (fiE fz fas)) :=
  PIw (pi_enumA hg hm ha hs) fun σ H R h => by
  obtain ⟨env, L, r, h⟩ := h
  refine dA.of r (h.bind.mono fun ts e1 H1 r1 s1 h1 vs As q n r2 => ?_)
  rw [← hK]
  obtain ⟨ql, qv⟩ := q.vs r2 fun a z => ⟨z, (n a z).1⟩
  unfold iE at h1
  split at h1
  · rename_i ds
    obtain ⟨v, rfl⟩ : ∃ v, vs = [v] := by
      cases vs with
      | nil => cases ql
      | cons v vs =>
        cases vs with
        | nil => exact ⟨v, rfl⟩
        | cons _ _ => cases ql
    have q : Rep c.K (Av L σ e1) H1 v (.tup ds) := qv 0 v _ rfl rfl
    cases q with
    | tup ht rs =>
      rename_i a xs
      exact ⟨a, xs, rfl, .inr ⟨ht, h1 H1 r1 .refl (IteT c.K a) ⟨trivial, src_enumT (k := ⟨ds, none⟩) fun L2 σ' H' env' lx re s _ => ⟨xs, (r1.tk s.1).sqt ht, r1.reps s.1 (Reps.lx lx rs)⟩⟩⟩⟩
  · rename_i t _
    obtain ⟨v, rfl⟩ : ∃ v, vs = [v] := by
      cases vs with
      | nil => cases ql
      | cons v vs =>
        cases vs with
        | nil => exact ⟨v, rfl⟩
        | cons _ _ => cases ql
    have qw := qv 0 v _ rfl rfl
    obtain ⟨k, e2, ek, h1⟩ := dI_ok h1 r1 (onI_ex iL_ex) fun k e2 e => by
      obtain ⟨k0, e, _⟩ := onI_ok e
      obtain ⟨a, _, re, st, _⟩ := lst_of r1 qw e
      exact ⟨re, st⟩
    obtain ⟨k0, ek0, rfl⟩ := onI_ok ek
    obtain ⟨a, rfl, re, st, ok, hl⟩ := lst_of r1 qw ek0
    have hl : ∀ L2 σ' H' env', Lx L H1 L2 → RE c L2 σ' H' env' → Sw ⟨enumD k0.its, k0.chk⟩ σ e2 H1 σ' env' H' → k0.ok env' → ∃ xs, SqL c.K H' a xs ∧ Reps c.K (Av L2 σ' env') H' xs k0.its := hl
    obtain ⟨xs, hx, _⟩ := hl L σ H1 e2 (fun _ z => .inl z) re ⟨.refl, .inr fun _ _ _ _ e => e⟩ ok
    exact ⟨a, xs, rfl, .inl ⟨hx, h1 (Ite c.K a) ⟨ok, src_enumL hl⟩⟩⟩
  · exact h1.elim
theorem di_zip {fas : FA} {elts : List Expr} {kk : Nat} {tpos : Pos} (fz : Bool) (hg : Gl X "zip") (hm : X.mg "zip" = none) (ha : PA X [a, b] (dA c W fas)) (hK : c.K = X.K := by rfl) (hs : starEach [a, b] X.env = (false, eval a X.env) :: starEach [b] X.env := by rfl) (hpl : (backTo pos (starEach [b] X.env)).any (·.1) = false := by rfl) :
    PI X (.Tuple elts kk tpos) (.Call (.Name "zip" p) [a, b] [] pos) (dI c W (fiZ fz fas)) :=
  PIw (RZ.pi_zipA hg hm ha hs hpl) fun σ H R h => by
  obtain ⟨env, L, r, h⟩ := h
  refine dA.of r (h.bind.mono fun ts e1 H1 r1 s1 h1 vs As q n r2 => ?_)
  rw [← hK]
  obtain ⟨ql, qv⟩ := q.vs r2 fun a z => ⟨z, (n a z).1⟩
  have two : ∀ t u, ts = [t, u] → ∃ v w, vs = [v, w] := fun t u e => by
    subst e
    match vs, ql with
    | [v, w], _ => exact ⟨v, w, rfl⟩
  unfold iZ at h1
  split at h1
  · rename_i ds es
    obtain ⟨v, w, rfl⟩ := two _ _ rfl
    have q : Rep c.K (Av L σ e1) H1 v (.tup ds) := qv 0 v _ rfl rfl
    have q2 : Rep c.K (Av L σ e1) H1 w (.tup es) := qv 1 w _ rfl rfl
    cases q with
    | tup ht rs =>
      rename_i a xs
      cases q2 with
      | tup ht2 rs2 =>
        rename_i b ys
        exact ⟨a, b, xs, ys, rfl, .inr ⟨ht, ht2, h1 H1 r1 .refl (RZ.ItzT c.K a b) ⟨trivial, src_zipT (fun L2 σ' H' env' lx re s => ⟨xs, (r1.tk s.1).sqt ht, r1.reps s.1 (Reps.lx lx rs)⟩) fun L2 σ' H' env' lx re s => ⟨ys, (r1.tk s.1).sqt ht2, r1.reps s.1 (Reps.lx lx rs2)⟩⟩⟩⟩
  · rename_i t u _
    obtain ⟨v, w, rfl⟩ := two _ _ rfl
    have qw := qv 0 v _ rfl rfl
    have qw2 := qv 1 w _ rfl rfl
    cases e2 : iL true u.weak e1 with
    | er => rw [e2] at h1; exact h1.elim
    | ex x e => exact (iL_ex _ _ e2).elim
    | ok k2 e2' =>
      rw [e2, bind_ok] at h1
      obtain ⟨b, rfl, re2, st2, ok2, hl2⟩ := lst_of r1 qw2 e2
      have qx := qw.step r1 st2
      obtain ⟨k, e3, ek, h1⟩ := dI_ok h1 r1 (onI_ex iL_ex) fun k e3 e => by
        obtain ⟨k0, e, _⟩ := onI_ok e
        obtain ⟨a, _, re, st, _⟩ := lst_of re2 qx e
        exact ⟨re, st2.trans st⟩
      obtain ⟨k0, ek0, rfl⟩ := onI_ok ek
      obtain ⟨a, rfl, re, st, ok, hl⟩ := lst_of re2 qx ek0
      have c2 : k2.chk = none := by
        unfold iL at e2
        split at e2
        · cases e2; rfl
        · cases e2; rfl
        · split at e2
          · cases e2; rfl
          · cases e2
        · cases e2
      have hl2 : ∀ L2 σ' H' env', Lx L H1 L2 → RE c L2 σ' H' env' → Sw ⟨zipD k0.its k2.its, k0.chk⟩ σ e3 H1 σ' env' H' → ∃ xs, SqL c.K H' b xs ∧ Reps c.K (Av L2 σ' env') H' xs k2.its := fun L2 σ' H' env' lx re' s => by
        refine hl2 L2 σ' H' env' lx re' ⟨st.trans s.1, .inl c2⟩ ?_
        unfold Wk.ok
        rw [c2]
        trivial
      obtain ⟨xs, hx, _⟩ := hl L σ H1 e3 (fun _ z => .inl z) re ⟨.refl, .inr fun _ _ _ _ e => e⟩ ok
      obtain ⟨ys, hy, _⟩ := hl2 L σ H1 e3 (fun _ z => .inl z) re ⟨.refl, .inr fun _ _ _ _ e => e⟩
      exact ⟨a, b, xs, ys, rfl, .inl ⟨hx, hy, h1 (Itz c.K a b) ⟨ok, src_zipL hl hl2⟩⟩⟩
  · exact h1.elim
end
end DL
namespace DL
open PySem PySem.Spec L2
def loopF (g : FG) (f : FS) : List D → En → Fl
  | [], env => .nx env
  | d :: ds, env => match g (.im d) env with
    | .nx e => match f e with
      | .nx e1 => loopF g f ds e1
      | .ct e1 => loopF g f ds e1
      | .bk e1 => .nx e1
      | .rt t e1 => .rt t e1
      | .ex x e1 => .ex x e1
      | .er => .er
    | _ => .er
def sFor (fi : FI) (g : FG) (f : FS) : FS := fun env => (fi env).bindF fun k e => match k.chk with
  | none => loopF g f k.its e
  | some _ => .er
section
variable {X : Cx} {c : Cc} {W : WX} {pos p : Pos} {iter tg : Expr} {body : List Stmt} {fi : FI} {g : FG} {f : FS}
theorem d_for : ∀ D σ H, dS c W (sFor fi g f) D σ H → tFor (dI c W fi) (dG c g) (dS c W f) D σ H := fun D σ H h => by
  obtain ⟨env, L, re, h⟩ := h
  refine ⟨env, L, re, (sK.bind h).mono fun k e1 H1 r1 s1 h1 J ⟨ok, src⟩ => ?_⟩
  obtain ⟨its, chk⟩ := k
  cases chk with
  | some z => exact h1.elim
  | none =>
    have h1 : sK c W L (Stp σ env H) (Nn σ env H) (loopF g f its e1) D := h1
    have sw : ∀ {σ' env' H'}, Stp σ e1 H1 σ' env' H' → Sw ⟨its, none⟩ σ e1 H1 σ' env' H' := fun s => ⟨s, .inl rfl⟩
    refine ⟨fun i m σ' H' => m = its.length - i ∧ ∃ env', RE c L σ' H' env' ∧ Stp σ e1 H1 σ' env' H' ∧ sK c W L (Stp σ' env' H') (Nn σ' env' H') (loopF g f (its.drop i) env') D, ⟨_, rfl, e1, r1, .refl, h1.here s1⟩, fun i m σ' H' ⟨em, env', r, s, q⟩ => ?_⟩
    by_cases hi : its.length ≤ i
    · refine .inl ⟨src.stop L i σ' H' env' (fun _ z => .inl z) r (sw s) trivial hi, ?_⟩
      rw [List.drop_eq_nil_of_le hi] at q
      exact q σ' H' r .refl
    · have hi : i < its.length := Nat.lt_of_not_le hi
      refine .inr ⟨src.go L i σ' H' env' (fun _ z => .inl z) r (sw s) trivial hi, fun σ2 H2 => ∃ env2, RE c L σ2 H2 env2 ∧ Stp σ e1 H1 σ2 env2 H2 ∧ sK c W L (Stp σ2 env2 H2) (Nn σ2 env2 H2) (loopF g f (its.drop (i + 1)) env2) D, fun σ2 H2 n => ⟨its.length - (i + 1), by omega, rfl, n⟩, fun x H'' y => ?_⟩
      rw [List.drop_eq_getElem_cons hi] at q
      obtain ⟨kp, rx⟩ := src.yld L i σ' H' env' x H'' its[i] (fun _ z => .inl z) r (sw s) trivial (List.getElem?_eq_getElem hi) y
      have r' := r.grow kp
      have s' : Stp σ' env' H' σ' env' H'' := .grow kp
      refine ⟨env', L, Nn σ' env' H'', .im its[i], r', rx, ?_⟩
      have q : sK c W L (Stp σ' env' H'') (Nn σ' env' H'') (loopF g f (its[i] :: its.drop (i + 1)) env') D := q.here s'
      unfold loopF at q
      cases eg : g (.im its[i]) env' with
      | er => rw [eg] at q; exact q.elim
      | rt t e => rw [eg] at q; exact q.elim
      | bk e => rw [eg] at q; exact q.elim
      | ct e => rw [eg] at q; exact q.elim
      | ex x e => rw [eg] at q; exact q.elim
      | nx e2 =>
        rw [eg] at q
        intro σ2 H2 r2 n2
        have s2 : Stp σ' env' H'' σ2 e2 H2 := StpN.after .refl n2
        refine ⟨e2, L, r2, ?_⟩
        dsimp only at q
        have q := q.here s2
        cases ef : f e2 with
        | er => rw [ef] at q; exact q.elim
        | nx e3 => rw [ef] at q; exact fun σ3 H3 r3 s3 => ⟨e3, r3, ((s.trans s').trans s2).trans s3, q.here s3⟩
        | ct e3 => rw [ef] at q; exact fun σ3 H3 r3 s3 => ⟨e3, r3, ((s.trans s').trans s2).trans s3, q.here s3⟩
        | bk e3 => rw [ef] at q; exact q
        | rt t e3 => rw [ef] at q; exact q
        | ex x e3 => rw [ef] at q; exact q
theorem ds_for (hp : PassesOwn (model X.prog X.w) X.A X.env X.xe) (hc : X.calm = true) (hi : PI X tg iter (dI c W fi)) (hg : PG X tg (dG c g)) (hb : PSs X body (dS c W f))
    (hs : ∀ x, foldedSetIterable iter X.env x = pure x := by intro _; rfl) : PS X (.For tg iter body [] pos) (dS c W (sFor fi g f)) := PSw (ps_for hp hc hi hg hb hs) d_for
end
inductive CT where
  | one (i : Nat) | tup (is : List Nat) | nest (is : List Nat) (j : Nat)
def setEach : List Nat → List D → En → En
  | i :: is, d :: ds, env => setEach is ds (env.set i (.im d))
  | _, _, env => env
def envT (t : CT) (d : D) (env : En) : Option En := match t with
  | .one i => some (env.set i (.im d))
  | .tup is => match d with
    | .tup ds => if is.length = ds.length then some (setEach is ds env) else none
    | _ => none
  | .nest is j => match d with
    | .tup [.tup ds, d2] => if is.length = ds.length then some ((setEach is ds env).set j (.im d2)) else none
    | _ => none
def gEach : List Nat → TGs
  | [] => gNil
  | i :: is => gCons (gName i) (gEach is)
def gCT (K : PySem.W.Frag) (t : CT) : TG := match t with
  | .one i => gName i
  | .tup is => gTup K is.length (gEach is)
  | .nest is j => gTup K 2 (gCons (gTup K is.length (gEach is)) (gCons (gName j) gNil))
def CT.ins (t : CT) (vs : List Nat) : Prop := match t with
  | .one i => i ∈ vs
  | .tup is => ∀ i ∈ is, i ∈ vs
  | .nest is j => (∀ i ∈ is, i ∈ vs) ∧ j ∈ vs
def wipeE (env : En) : List Nat → En
  | [] => env
  | v :: vs => (wipeE env vs).set v .no
theorem wipeE_length (env : En) : ∀ vs : List Nat, (wipeE env vs).length = env.length
  | [] => rfl
  | v :: vs => by unfold wipeE; rw [List.length_set, wipeE_length env vs]
theorem wipeE_out {env : En} {i : Nat} : ∀ {vs : List Nat}, i ∉ vs → (wipeE env vs)[i]? = env[i]?
  | [], _ => rfl
  | v :: vs, h => by
    unfold wipeE
    rw [List.getElem?_set_ne (fun z => h (by rw [z]; exact List.mem_cons_self))]
    exact wipeE_out fun z => h (List.mem_cons_of_mem _ z)
theorem wipeE_in {env : En} {i : Nat} {s : Sl} : ∀ {vs : List Nat}, i ∈ vs → (wipeE env vs)[i]? = some s → s = .no
  | v :: vs, h, e => by
    unfold wipeE at e
    by_cases z : v = i
    · subst z
      rw [List.getElem?_set] at e
      simp only [if_true] at e
      split at e
      · cases e; rfl
      · cases e
    · rw [List.getElem?_set_ne z] at e
      exact wipeE_in ((List.mem_cons.mp h).resolve_left fun y => z y.symm) e
theorem wipe_in {σ : St} {i : Nat} : ∀ {vs : List Nat}, i ∈ vs → (wipe σ vs)[i]? = if i < σ.length then some none else none
  | v :: vs, h => by
    unfold wipe
    by_cases z : v = i
    · subst z
      rw [List.getElem?_set, wipe_length]
      simp
    · rw [List.getElem?_set_ne z]
      exact wipe_in ((List.mem_cons.mp h).resolve_left fun y => z y.symm)
theorem wipe_eq {σ σ' : St} {vs : List Nat} (l : σ'.length = σ.length) (o : ∀ j, j ∉ vs → σ'[j]? = σ[j]?) : wipe σ' vs = wipe σ vs := by
  apply List.ext_getElem?
  intro j
  by_cases z : j ∈ vs
  · rw [wipe_in z, wipe_in z, l]
  · rw [RZ_wipe_out z, RZ_wipe_out z, o j z]
where RZ_wipe_out {σ : St} {i : Nat} : ∀ {vs : List Nat}, i ∉ vs → (wipe σ vs)[i]? = σ[i]?
  | [], _ => rfl
  | v :: vs, h => by
    unfold wipe
    rw [List.getElem?_set_ne (fun z => h (by rw [z]; exact List.mem_cons_self))]
    exact RZ_wipe_out fun z => h (List.mem_cons_of_mem _ z)
theorem wipe_out' {σ : St} {i : Nat} {vs : List Nat} (h : i ∉ vs) : (wipe σ vs)[i]? = σ[i]? := wipe_eq.RZ_wipe_out h
theorem RE.sub {c : Cc} {L : Addr → Prop} {σ σ' : St} {H : Hp} {env env' : En} (h : RE c L σ H env) (l : env'.length = σ'.length) (k : ∀ (j : Nat) (s : Sl), env'[j]? = some s → s = .no ∨ (env[j]? = some s ∧ σ'[j]? = σ[j]?)) : RE c L σ' H env' ∧ (∀ a, ownM σ' env' a → ownM σ env a) ∧ Stp σ env H σ' env' H := by
  have ow : ∀ a, ownM σ' env' a → ownM σ env a := fun a ⟨i, io, ds, e1, e2⟩ => by
    rcases k i _ e1 with z | ⟨q1, q2⟩
    · cases z
    · exact ⟨i, io, ds, q1, q2 ▸ e2⟩
  have av : ∀ b, Av L σ env b → Av L σ' env' b := fun b g => ⟨g.1, fun z => g.2 (ow b z)⟩
  refine ⟨⟨l, fun i d e => ?_, fun i io ds e => ?_, fun i j io jo ds es a e1 e2 e3 e4 => ?_, fun a la => ⟨fun z => (h.ext a la).1 (ow a z), (h.ext a la).2⟩, h.fr, h.io⟩, ow, fun b n => ⟨rfl, fun z => n (z.imp (ow b) id)⟩⟩
  · rcases k i _ e with z | ⟨q1, q2⟩
    · cases z
    · obtain ⟨v, e1, r⟩ := h.im i d q1
      exact ⟨v, q2.trans e1, r.mono (.refl H) fun b xs g e => ⟨av b g, e⟩⟩
  · rcases k i _ e with z | ⟨q1, q2⟩
    · cases z
    · obtain ⟨a, xs, e1, e2, r, z⟩ := h.own i io ds q1
      exact ⟨a, xs, q2.trans e1, e2, r.mono (.refl H) (fun b xs g e => ⟨av b g, e⟩), z⟩
  · rcases k i _ e1 with z | ⟨q1, q2⟩
    · cases z
    · rcases k j _ e2 with z | ⟨q3, q4⟩
      · cases z
      · exact h.inj i j io jo ds es a q1 q3 (q2 ▸ e3) (q4 ▸ e4)
theorem RE.wipe {c : Cc} {L : Addr → Prop} {σ : St} {H : Hp} {env : En} (vs : List Nat) (h : RE c L σ H env) : RE c L (wipe σ vs) H (wipeE env vs) ∧ (∀ a, ownM (L2.wipe σ vs) (wipeE env vs) a → ownM σ env a) ∧ Stp σ env H (L2.wipe σ vs) (wipeE env vs) H :=
  h.sub (by rw [wipeE_length, wipe_length, h.len]) fun j s e => by
    by_cases z : j ∈ vs
    · exact .inl (wipeE_in z e)
    · rw [wipeE_out z] at e
      exact .inr ⟨e, wipe_out' z⟩
theorem RE.ext_put {c : Cc} {L : Addr → Prop} {σ : St} {H H' : Hp} {env : En} {a : Addr} {xs' : List V} (h : RE c L σ H env) (la : L a) (kp : ∀ b, b ≠ a → H' b = H b) (ea : H' a = some (.lst xs')) (h0 : c.H0 a = none) : RE c L σ H' env := by
  have tk : TK H H' := by
    obtain ⟨_, ys, e⟩ := h.ext a la
    have ne : ∀ b o, H b = some o → (∀ xs, o ≠ .lst xs) → H' b = some o := fun b o e2 n => by
      rw [kp b fun z => ?_]
      · exact e2
      · rw [z, e] at e2
        cases e2
        exact n _ rfl
    exact ⟨fun b xs e => ne b _ e (fun _ z => nomatch z), fun b o u e => ne b _ e (fun _ z => nomatch z)⟩
  have go : ∀ b xs, Av L σ env b → H b = some (HO.lst xs) → Av L σ env b ∧ H' b = some (HO.lst xs) := fun b xs g e => ⟨g, by rw [kp b fun z => g.1 (by rw [z]; exact la)]; exact e⟩
  refine ⟨h.len, fun i d e => ?_, fun i io ds e => ?_, h.inj, fun b lb => ⟨(h.ext b lb).1, ?_⟩, fun b o n e => ?_, fun b ib => ?_⟩
  · obtain ⟨v, e1, r⟩ := h.im i d e
    exact ⟨v, e1, r.mono tk go⟩
  · obtain ⟨b, xs, e1, e2, r, z⟩ := h.own i io ds e
    refine ⟨b, xs, e1, ?_, r.mono tk go, z⟩
    rw [kp b fun z => (h.ext a la).1 ⟨i, io, ds, e, by rw [← z]; exact e1⟩]
    exact e2
  · by_cases z : b = a
    · exact ⟨_, by rw [z]; exact ea⟩
    · rw [kp b z]
      exact (h.ext b lb).2
  · rw [kp b fun z => by rw [z, h0] at e; cases e]
    exact h.fr b o n e
  · by_cases z : b = a
    · exact ⟨_, by rw [z]; exact ea⟩
    · rw [kp b z]
      exact h.io b ib
theorem RE.setEach {c : Cc} {L : Addr → Prop} {H : Hp} {vs : List Nat} {Q : St → Hp → Prop} : ∀ (is : List Nat) (ds : List D) {σ : St} {env : En} {xs : List V}, RE c L σ H env → Reps c.K (Av L σ env) H xs ds → is.length = ds.length → (∀ i ∈ is, i ∈ vs) →
    (∀ σ2, RE c L σ2 H (setEach is ds env) → Stp σ env H σ2 (DL.setEach is ds env) H → L2.wipe σ2 vs = L2.wipe σ vs → Q σ2 H) → gEach is xs σ H Q
  | [], [], σ, env, xs, r, q, _, _, k => by
    cases q
    exact ⟨rfl, k σ r .refl rfl⟩
  | [], d :: ds, _, _, _, _, _, e, _, _ => by cases e
  | i :: is, [], _, _, _, _, _, e, _, _ => by cases e
  | i :: is, d :: ds, σ, env, xs, r, q, e, n, k => by
    cases q with
    | cons q qs =>
      obtain ⟨q1, q2⟩ := r.setIm (i := i) q
      refine ⟨_, _, rfl, RE.setEach is ds q1 (r.reps q2 qs) (by simpa using e) (fun j z => n j (List.mem_cons_of_mem _ z)) fun σ2 r2 s2 w2 => k σ2 r2 (q2.trans s2) (w2.trans ?_)⟩
      refine wipe_eq (by rw [List.length_set]) fun j z => ?_
      rw [List.getElem?_set_ne]
      intro y
      exact z (y ▸ n i List.mem_cons_self)
theorem gCT_of {c : Cc} {L : Addr → Prop} {H : Hp} {vs : List Nat} {Q : St → Hp → Prop} {σ : St} {env env2 : En} {v : V} {d : D} {t : CT} (r : RE c L σ H env) (q : Rep c.K (Av L σ env) H v d) (e : envT t d env = some env2) (n : t.ins vs)
    (k : ∀ σ2, RE c L σ2 H env2 → Stp σ env H σ2 env2 H → L2.wipe σ2 vs = L2.wipe σ vs → Q σ2 H) : gCT c.K t v σ H Q := by
  cases t with
  | one i =>
    cases e
    obtain ⟨q1, q2⟩ := r.setIm (i := i) q
    refine k _ q1 q2 (wipe_eq (by rw [List.length_set]) fun j z => ?_)
    rw [List.getElem?_set_ne]
    intro y
    exact z (y ▸ n)
  | tup is =>
    cases q with
    | tup ht rs =>
      rename_i a xs ds
      dsimp only [envT] at e
      split at e
      · rename_i hl
        cases e
        exact ⟨a, xs, rfl, ht, by rw [rs.length, hl], RE.setEach is ds r rs hl n k⟩
      · cases e
    | _ => cases e
  | nest is j =>
    dsimp only [envT] at e
    split at e
    · rename_i ds d2
      split at e
      · rename_i hl
        cases e
        cases q with
        | tup ht rs =>
          rename_i a xs
          cases rs with
          | cons q1 rs =>
            cases rs with
            | cons q2 rs =>
              cases rs
              rename_i v1 v2
              obtain ⟨a1, xs1, e1, h1, rs1⟩ : ∃ a1 xs1, v1 = .ref a1 ∧ SqT c.K H a1 xs1 ∧ Reps c.K (Av L σ env) H xs1 ds := by
                cases q1 with
                | tup h1 rs1 => exact ⟨_, _, rfl, h1, rs1⟩
              refine ⟨a, [v1, v2], rfl, ht, rfl, v1, [v2], rfl, a1, xs1, e1, h1, by rw [rs1.length, hl], RE.setEach is ds r rs1 hl n.1 fun σ2 r2 s2 w2 => ⟨v2, [], rfl, rfl, ?_⟩⟩
              obtain ⟨y1, y2⟩ := r2.setIm (i := j) (r.rep s2 q2)
              refine k _ y1 (s2.trans y2) ((wipe_eq (by rw [List.length_set]) fun i z => ?_).trans w2)
              rw [List.getElem?_set_ne]
              intro y
              exact z (y ▸ n.2)
      · cases e
    · cases e
open Classical in
noncomputable def lcL (k : Wk) (vs : List Nat) (t : CT) (ft : FT) (fe : FE) : List D → List D → En → R (List D)
  | [], acc, env => if k.ok env then .ok acc env else .er
  | d :: ds, acc, env => if k.ok env ∧ acc.length < sizeLine then
      match envT t d env with
      | some e1 => match ft e1 with
        | .ok true e2 => match fe e2 with
          | .ok u e3 => match u.weak with
            | .im y => lcL k vs t ft fe ds (acc ++ [y]) (wipeE e3 vs)
            | _ => .er
          | _ => .er
        | .ok false e2 => lcL k vs t ft fe ds acc (wipeE e2 vs)
        | _ => .er
      | none => .er
    else .er
noncomputable def eLc (fi : FI) (vs : List Nat) (t : CT) (ft : FT) (fe : FE) : FE := fun env => (fi env).bind fun k e => (lcL k vs t ft fe k.its [] (wipeE e vs)).bind fun ys e2 => .ok (.fr ys) e2
theorem lcL_ex {k : Wk} {vs : List Nat} {t : CT} {ft : FT} {fe : FE} : ∀ ds acc env x e, lcL k vs t ft fe ds acc env ≠ .ex x e
  | [], acc, env, x, e, z => by
    unfold lcL at z
    split at z <;> cases z
  | d :: ds, acc, env, x, e, z => by
    unfold lcL at z
    split at z
    · split at z
      · split at z
        · split at z
          · split at z
            · exact lcL_ex _ _ _ _ _ z
            · cases z
          · cases z
        · exact lcL_ex _ _ _ _ _ z
        · cases z
      · cases z
    · cases z
abbrev WF : WX := fun _ _ _ _ => False
def tT : FT := fun env => .ok true env
section
variable {X : Cx} {c : Cc} {W : WX} {pos p : Pos} {elt iter tg cnd : Expr} {ifs : List Expr} {fi : FI} {ft : FT} {fe : FE} {t : CT} {vs : List Nat}
theorem PTsw {t t' : TT} (h : PTs X ifs t) (k : ∀ σ H Q, t' σ H Q → t σ H Q) : PTs X ifs t' := ⟨fun pins s σ H Q I q => h.run pins s σ H Q I (k σ H Q q)⟩
theorem dts_nil : PTs X [] (dT c W tT) := PTsw pts_nil fun σ H Q h => by
  obtain ⟨env, L, r, h⟩ := h
  exact h H r .refl
theorem dts_one (h : PT X cnd (dT c W ft)) : PTs X [cnd] (dT c W ft) := pts_one h
theorem d_lc (hv : t.ins vs) : ∀ σ H Q, dE c W (eLc fi vs t ft fe) σ H Q → tLc (dI c W fi) (gCT c.K t) (dT c WF ft) (dE c WF fe) vs σ H Q := fun σ H Q h => by
  obtain ⟨env, L, re, h⟩ := h
  refine ⟨env, L, re, h.bind.mono fun k e1 H1 r1 s1 h1 J ⟨ok, src⟩ => ?_⟩
  intro Dd nD
  cases el : lcL k vs t ft fe k.its [] (wipeE e1 vs) with
  | er => rw [el] at h1; exact h1.elim
  | ex x e => exact (lcL_ex _ _ _ _ _ el).elim
  | ok ys e2 =>
    rw [el] at h1
    have h1 : ∀ H', RE c L σ H' e2 → Stp σ e1 H1 σ e2 H' → ∀ v, RepT c L (Nn σ env H) σ H' e2 v (.fr ys) → Q v H' := h1
    have h0 : c.H0 Dd = none := r1.h0 nD
    have nL : ¬ L Dd := fun z => by
      obtain ⟨_, xs, e⟩ := r1.ext Dd z
      rw [nD] at e
      cases e
    have lx : Lx L H1 (fun b => L b ∨ b = Dd) := fun a z => z.imp id fun z => by rw [z]; exact nD
    have kp0 : ∀ b o, H1 b = some o → upd H1 Dd (.lst []) b = some o := fun b o e => by rw [upd_ne (ne_of_none e nD)]; exact e
    have rm : RE c (fun b => L b ∨ b = Dd) σ (upd H1 Dd (.lst [])) e1 := r1.more kp0 nD upd_same
    obtain ⟨rw0, _, sw0⟩ := rm.wipe vs
    -- the step from the walk's begin
    have sub : SubS σ (wipe σ vs) := fun j v e => (wipe_some e).1
    let Wv : Nat → Hp → Prop := fun i H' => ∃ env' xs acc, RE c (fun b => L b ∨ b = Dd) (wipe σ vs) H' env' ∧ (∀ (j : Nat) (s : Sl), env'[j]? = some s → j ∈ vs → s = .no) ∧ Stp σ e1 H1 (wipe σ vs) env' H' ∧ H' Dd = some (.lst xs) ∧ Reps c.K (Av (fun b => L b ∨ b = Dd) (wipe σ vs) env') H' xs acc ∧ lcL k vs t ft fe (k.its.drop i) acc env' = .ok ys e2
    refine ⟨fun i m H' => m = k.its.length - i ∧ Wv i H', ⟨_, rfl, wipeE e1 vs, [], [], rw0, fun j s e z => wipeE_in z e, (Stp.grow kp0).trans sw0, upd_same, .nil, el⟩, fun i m H' ⟨em, env', xs, acc, r, no, s, ed, rs, q⟩ => ?_⟩
    have sw : Sw k σ e1 H1 (wipe σ vs) env' H' := ⟨s, .inr fun j _ _ v e => sub j v e⟩
    by_cases hi : k.its.length ≤ i
    · rw [List.drop_eq_nil_of_le hi] at q
      unfold lcL at q
      split at q
      · rename_i kok
        obtain ⟨rfl, rfl⟩ : acc = ys ∧ env' = e2 := by
          cases q
          exact ⟨rfl, rfl⟩
        refine .inl ⟨src.stop _ i (wipe σ vs) H' env' lx r sw kok hi, ?_⟩
        obtain ⟨rb, _, sb⟩ := r.sub (σ' := σ) (env' := env') (by rw [r.len, wipe_length]) fun j sl e => by
          by_cases z : j ∈ vs
          · exact .inl (no j sl e z)
          · exact .inr ⟨e, (wipe_out' z).symm⟩
        exact h1 H' (rb.less fun b z => .inl z) (s.trans sb) _ ⟨Dd, xs, rfl, ed, rb.reps .refl (r.reps sb rs), nL, h0, s1.back (.inr nD), rb⟩
      · cases q
    · have hi : i < k.its.length := Nat.lt_of_not_le hi
      rw [List.drop_eq_getElem_cons hi] at q
      unfold lcL at q
      split at q
      · rename_i kok
        obtain ⟨kok, la⟩ := kok
        refine .inr ⟨src.go _ i (wipe σ vs) H' env' lx r sw kok hi, Wv (i + 1), fun H2 n => ⟨k.its.length - (i + 1), by omega, rfl, n⟩, fun x H'' y => ?_⟩
        obtain ⟨kp, rx⟩ := src.yld _ i (wipe σ vs) H' env' x H'' k.its[i] lx r sw kok (List.getElem?_eq_getElem hi) y
        have r' := r.grow kp
        have s' : Stp (wipe σ vs) env' H' (wipe σ vs) env' H'' := .grow kp
        have ed' := kp _ _ ed
        have rs' := r.reps s' rs
        cases ea : envT t k.its[i] env' with
        | none => rw [ea] at q; cases q
        | some e3 =>
          rw [ea] at q
          dsimp only at q
          refine gCT_of r' rx ea hv fun σ2 r2 s2 w2 => ⟨w2.trans (wipe_eq (wipe_length σ vs) fun j z => wipe_out' z), ?_⟩
          have w3 : wipe σ2 vs = wipe σ vs := w2.trans (wipe_eq (wipe_length σ vs) fun j z => wipe_out' z)
          -- the list made is kept through a step
          have keepD : ∀ {σa ea Ha σb eb Hb}, RE c (fun b => L b ∨ b = Dd) σa Ha ea → Stp σa ea Ha σb eb Hb → Ha Dd = some (.lst xs) → Hb Dd = some (.lst xs) := fun ra sa e => by
            rw [(sa Dd (Nn.not e (ra.ext Dd (.inr rfl)).1)).1, e]
          have ed2 := keepD r' s2 ed'
          have rs2 := r'.reps s2 rs'
          refine ⟨e3, _, r2, ?_⟩
          cases et : ft e3 with
          | er => rw [et] at q; cases q
          | ex x e => rw [et] at q; cases q
          | ok b e4 =>
            rw [et] at q
            intro H3 r3 s3
            have ed3 := keepD r2 s3 ed2
            have rs3 := r2.reps s3 rs2
            cases b with
            | false =>
              dsimp only at q
              show Wv (i + 1) H3
              obtain ⟨r4, _, s4⟩ := r3.wipe vs
              rw [w3] at r4 s4
              exact ⟨_, xs, acc, r4, fun j sl e z => wipeE_in z e, (((s.trans s').trans s2).trans s3).trans s4, keepD r3 s4 ed3, r3.reps s4 rs3, q⟩
            | true =>
              dsimp only at q
              show dE c WF fe σ2 H3 fun y H4 => ∃ acc, H4 Dd = some (HO.lst acc) ∧ acc.length < sizeLine ∧ Wv (i + 1) (upd H4 Dd (HO.lst (acc ++ [y])))
              refine ⟨e4, _, r3, ?_⟩
              cases ee : fe e4 with
              | er => rw [ee] at q; cases q
              | ex x e => rw [ee] at q; cases q
              | ok u e5 =>
                rw [ee] at q
                dsimp only at q
                intro H4 r4 s4 v qv
                have qv := qv.wk
                have ed4 := keepD r3 s4 ed3
                have rs4 := r3.reps s4 rs3
                refine ⟨xs, ed4, by rw [rs.length]; exact la, ?_⟩
                cases eu : u.weak with
                | al j => rw [eu] at q; cases q
                | fr ds => rw [eu] at q; cases q
                | ft ds => rw [eu] at q; cases q
                | im dy =>
                  rw [eu] at q qv
                  dsimp only at q
                  have rv : Rep c.K (Av (fun b => L b ∨ b = Dd) σ2 e5) H4 v dy := qv
                  obtain ⟨r5, _, s5⟩ := r4.wipe vs
                  rw [w3] at r5 s5
                  have rv5 := r4.rep s5 rv
                  have rs5 := r4.reps s5 rs4
                  have r6 := r5.ext_put (H' := upd H4 Dd (.lst (xs ++ [v]))) (.inr rfl) (fun b z => upd_ne z) upd_same h0
                  have tk : TK H4 (upd H4 Dd (.lst (xs ++ [v]))) := ⟨fun b zs e => by rw [upd_ne fun z => by rw [z, ed4] at e; cases e]; exact e, fun b o w e => by rw [upd_ne fun z => by rw [z, ed4] at e; cases e]; exact e⟩
                  have go : ∀ b zs, Av (fun b => L b ∨ b = Dd) (wipe σ vs) (wipeE e5 vs) b → H4 b = some (HO.lst zs) → Av (fun b => L b ∨ b = Dd) (wipe σ vs) (wipeE e5 vs) b ∧ upd H4 Dd (.lst (xs ++ [v])) b = some (HO.lst zs) := fun b zs g e => ⟨g, by rw [upd_ne fun z => g.1 (.inr z)]; exact e⟩
                  refine ⟨_, xs ++ [v], acc ++ [dy], r6, fun j sl e z => wipeE_in z e, fun b nb => ?_, upd_same, Reps.append (rs5.mono tk go) (.cons (rv5.mono tk go) .nil), q⟩
                  obtain ⟨z1, z2⟩ := (((((s.trans s').trans s2).trans s3).trans s4).trans s5) b nb
                  have nbD : b ≠ Dd := fun z => nb (.inr (by rw [z]; exact nD))
                  rw [upd_ne nbD]
                  exact ⟨z1, fun z => z2 (z.imp id fun z => by rw [upd_ne nbD] at z; exact z)⟩
      · cases q
theorem de_lc {scope : Scope} {own : List (Str × Nat)} (hc : X.calm = true) (hN : X.N.Nodup) (hi : PI X tg iter (dI c W fi)) (ok : BlkOk X.N X.env.scope scope own)
    (hg : ∀ (s : Shared) (H : Hp) (C : Addr) (cl : List (Str × Addr)) (fp : List Addr), PG (X.blk s H scope (compEnvC scope cl C X.env) fp) tg (gCT X.K t))
    (ht : ∀ (s : Shared) (H : Hp) (C : Addr) (cl : List (Str × Addr)) (fp : List Addr), PTs (X.blk s H scope (compEnvC scope cl C X.env) fp) ifs (dT c WF ft))
    (he : ∀ (s : Shared) (H : Hp) (C : Addr) (cl : List (Str × Addr)) (fp : List Addr), PE (X.blk s H scope (compEnvC scope cl C X.env) fp) elt (dE c WF fe)) (hv : t.ins (own.map (·.2)) := by decide) (hK : c.K = X.K := by rfl)
    (hs : ∀ x, foldedSetIterable iter X.env x = pure x := by intro _; rfl) :
    PE X (.ListComp elt [⟨tg, iter, ifs, 0⟩] scope pos) (dE c W (eLc fi (own.map (·.2)) t ft fe)) :=
  PEw (pe_lc hc hN hi ok hg ht he hs) (by rw [← hK]; exact d_lc hv)
theorem ds_setLc {i : Nat} {y : Str} {py spos : Pos} {scope : Scope} {own : List (Str × Nat)} (hc : X.calm = true) (hN : X.N.Nodup) (hy : X.N[i]? = some y) (hyl : X.env.scope.names.lookup y = some .local)
    (hsw : swapsWith (.ListComp elt [⟨tg, iter, ifs, 0⟩] scope pos) (some (.Name y py)) spos.line X.env = pure true) (hi : PI X tg iter (dI c W fi)) (ok : BlkOk X.N X.env.scope scope own)
    (hg : ∀ (s : Shared) (H : Hp) (C : Addr) (cl : List (Str × Addr)) (fp : List Addr), PG (X.blk s H scope (compEnvC scope cl C X.env) fp) tg (gCT X.K t))
    (ht : ∀ (s : Shared) (H : Hp) (C : Addr) (cl : List (Str × Addr)) (fp : List Addr), PTs (X.blk s H scope (compEnvC scope cl C X.env) fp) ifs (dT c WF ft))
    (he : ∀ (s : Shared) (H : Hp) (C : Addr) (cl : List (Str × Addr)) (fp : List Addr), PE (X.blk s H scope (compEnvC scope cl C X.env) fp) elt (dE c WF fe)) (hv : t.ins (own.map (·.2)) := by decide) (hK : c.K = X.K := by rfl)
    (hs : ∀ x, foldedSetIterable iter X.env x = pure x := by intro _; rfl) :
    PS X (.Assign [.Name y py] (.ListComp elt [⟨tg, iter, ifs, 0⟩] scope pos) spos) (dS c W (sAsg (eLc fi (own.map (·.2)) t ft fe) (gN i))) :=
  PSw (ps_setLc hc hN hy hyl hsw hi ok hg ht he hs) fun D σ H h => by
  have := d_asg D σ H h
  obtain ⟨env, L, r, q⟩ := this
  rw [← hK]
  exact d_lc hv σ H _ ⟨env, L, r, q.mono fun t e1 H1 r1 s1 h1 v q => d_gN _ _ _ _ (h1 v q)⟩
end
end DL
namespace DL
open PySem PySem.Spec L2
def padE (n : Nat) (env : En) : En := env ++ List.replicate (n - env.length) .no
def outE : En → En → Option En
  | [], _ => some []
  | .own true _ :: r, e :: es => match e, outE r es with
    | .own true ds, some o => some (.own true ds :: o)
    | _, _ => none
  | _ :: r, e :: es => (outE r es).map (.no :: ·)
  | _ :: _, [] => none
def finT (env0 : En) (t : T) (env : En) : R T := match t with
  | .al i => match env[i]? with
    | some (.own false ds) => match outE env0 (env.set i .no) with
      | some o => .ok (.fr ds) o
      | none => .er
    | _ => .er
  | t => match outE env0 env with
    | some o => .ok t o
    | none => .er
def finF (env : En) : Fl → R T
  | .nx e => finT env (.im .non) e
  | .rt t e => finT env t e
  | .ex x e => match outE env e with
    | some o => .ex x o
    | none => .er
  | _ => .er
def runD (n p : Nat) (f : FS) : FD := fun env => if env.length = p then finF env (f (padE n env)) else .er
theorem outE_get : ∀ {env0 env out : En}, outE env0 env = some out → out.length = env0.length ∧ ∀ (i : Nat) (s : Sl), out[i]? = some s → s = .no ∨ ∃ ds ds0, s = .own true ds ∧ env[i]? = some (.own true ds) ∧ env0[i]? = some (.own true ds0)
  | [], env, out, h => by
    cases h
    exact ⟨rfl, fun i s e => by simp at e⟩
  | a :: r, [], out, h => by cases a <;> try (rename_i b _; cases b) <;> cases h
                             all_goals cases h
  | a :: r, e :: es, out, h => by
    have no : (outE r es).map (Sl.no :: ·) = some out → out.length = (a :: r).length ∧ ∀ (i : Nat) (s : Sl), out[i]? = some s → s = .no ∨ ∃ ds ds0, s = .own true ds ∧ (e :: es)[i]? = some (.own true ds) ∧ (a :: r)[i]? = some (.own true ds0) := fun h => by
      cases q : outE r es with
      | none => rw [q] at h; cases h
      | some o =>
        rw [q] at h
        cases h
        obtain ⟨q1, q2⟩ := outE_get q
        refine ⟨by rw [List.length_cons, List.length_cons, q1], fun i s e => ?_⟩
        cases i with
        | zero => cases e; exact .inl rfl
        | succ i => exact q2 i s e
    cases a with
    | no => exact no h
    | im d => exact no h
    | own b ds0 =>
      cases b with
      | false => exact no h
      | true =>
        unfold outE at h
        split at h
        · rename_i ds o q
          cases h
          obtain ⟨q1, q2⟩ := outE_get q
          refine ⟨by rw [List.length_cons, List.length_cons, q1], fun i s e => ?_⟩
          cases i with
          | zero => cases e; exact .inr ⟨ds, ds0, rfl, rfl, rfl⟩
          | succ i => exact q2 i s e
        · cases h
section
variable {K : PySem.W.Frag} {mg : Str → Option Value} {H H' : Hp} {vs : List V} {env0 env out : En} {L : Addr → Prop} {σ : St}
theorem RE.pad {c : Cc} {n : Nat} {N : List Str} (h : RE c L (vs.map some) H env) (hn : N.length = n) (hl : env.length = vs.length) : RE c L (L2.start N vs) H (padE n env) := by
  refine (h.sub ?_ fun j s e => ?_).1
  · unfold padE L2.start
    simp [hn, hl]
  · unfold padE at e
    by_cases z : j < env.length
    · rw [List.getElem?_append_left z] at e
      refine .inr ⟨e, ?_⟩
      unfold L2.start
      rw [List.getElem?_append_left (by rw [List.length_map, ← hl]; exact z)]
    · rw [List.getElem?_append_right (Nat.le_of_not_lt z)] at e
      exact .inl (List.eq_of_mem_replicate (List.mem_of_getElem? e))
theorem out_own {c : Cc} (h : RE c L σ H' env) (eo : outE env0 env = some out) {a : Addr} (o : ownM (c.vs.map some) out a) : ownM σ env a := by
  obtain ⟨i, io, ds, e1, e2⟩ := o
  rcases (outE_get eo).2 i _ e1 with z | ⟨ds', ds0, z, e3, e4⟩
  · cases z
  · cases z
    obtain ⟨b, xs, f1, f2, f3, f4, f5⟩ := h.own i true ds e3
    obtain ⟨_, f6⟩ := f5 rfl
    rw [List.getElem?_map, f6] at e2
    cases e2
    exact ⟨i, true, ds, e3, f1⟩
theorem RE.outs {c : Cc} (h : RE c L σ H' env) (eo : outE env0 env = some out) (hl : env0.length = c.vs.length) : RE c L (c.vs.map some) H' out := by
  have av : ∀ b, Av L σ env b → Av L (c.vs.map some) out b := fun b g => ⟨g.1, fun z => g.2 (out_own h eo z)⟩
  refine ⟨by rw [List.length_map, (outE_get eo).1, hl], fun i d e => ?_, fun i io ds e => ?_, fun i j io jo ds es a e1 e2 e3 e4 => ?_, fun a la => ⟨fun z => (h.ext a la).1 (out_own h eo z), (h.ext a la).2⟩, h.fr, h.io⟩
  · rcases (outE_get eo).2 i _ e with z | ⟨ds', ds0, z, e3, e4⟩ <;> cases z
  · rcases (outE_get eo).2 i _ e with z | ⟨ds', ds0, z, e3, e4⟩
    · cases z
    · cases z
      obtain ⟨b, xs, f1, f2, f3, f4, f5⟩ := h.own i true ds e3
      refine ⟨b, xs, ?_, f2, f3.mono (.refl H') (fun b ys g e => ⟨av b g, e⟩), f4, f5⟩
      rw [List.getElem?_map, (f5 rfl).2]
      rfl
  · rcases (outE_get eo).2 i _ e1 with z | ⟨ds', ds0, z, f1, f2⟩
    · cases z
    · cases z
      rcases (outE_get eo).2 j _ e2 with z | ⟨ds'', ds1, z, g1, g2⟩
      · cases z
      · cases z
        obtain ⟨b, xs, p1, p2, p3, p4, p5⟩ := h.own i true ds f1
        obtain ⟨b', xs', q1, q2, q3, q4, q5⟩ := h.own j true es g1
        rw [List.getElem?_map, (p5 rfl).2] at e3
        rw [List.getElem?_map, (q5 rfl).2] at e4
        cases e3
        cases e4
        exact h.inj i j true true ds es a f1 g1 p1 q1
theorem fin_ok {N : Addr → Prop} {v : V} {t t' : T} (h : RE (cc0 K mg H vs env0) L σ H' env) (hl : env0.length = vs.length) (q : RepT (cc0 K mg H vs env0) L N σ H' env v t) (e : finT env0 t env = .ok t' out) :
    RE (cc0 K mg H vs env0) L (vs.map some) H' out ∧ RepT (cc0 K mg H vs env0) L (fun a => H a = none) (vs.map some) H' out v t' := by
  have pl : ∀ {t : T}, (∀ i, t ≠ .al i) → RepT (cc0 K mg H vs env0) L N σ H' env v t → outE env0 env = some out → RE (cc0 K mg H vs env0) L (vs.map some) H' out ∧ RepT (cc0 K mg H vs env0) L (fun a => H a = none) (vs.map some) H' out v t := fun {t} na q eo => by
    refine ⟨h.outs eo hl, ?_⟩
    have av : ∀ (L2 : Addr → Prop) b, Av L2 σ env b → Av L2 (vs.map some) out b := fun L2 b g => ⟨g.1, fun z => g.2 (out_own h eo z)⟩
    cases t with
    | al i => exact (na i rfl).elim
    | im d => exact Rep.mono (.refl H') (fun a xs g e => ⟨av _ a g, e⟩) q
    | fr ds =>
      obtain ⟨a, xs, e, e1, r, n1, n2, n3, re⟩ := q
      exact ⟨a, xs, e, e1, r.mono (.refl H') (fun b ys g e => ⟨av _ b g, e⟩), n1, n2, n2, re.outs eo hl⟩
    | ft cs =>
      obtain ⟨tt, ws, As, e, e1, r, n1, re⟩ := q
      exact ⟨tt, ws, As, e, e1, r.mono (.refl H') (fun b ys g e => ⟨av _ b g, e⟩) (fun _ _ _ e => e), fun a ha => ⟨(n1 a ha).1, (n1 a ha).2.1, (n1 a ha).2.1⟩, re.outs eo hl⟩
  unfold finT at e
  cases t with
  | im d =>
    dsimp only at e
    split at e
    · cases e; exact pl (fun i z => nomatch z) q (by assumption)
    · cases e
  | fr d =>
    dsimp only at e
    split at e
    · cases e; exact pl (fun i z => nomatch z) q (by assumption)
    · cases e
  | ft d =>
    dsimp only at e
    split at e
    · cases e; exact pl (fun i z => nomatch z) q (by assumption)
    · cases e
  | al i =>
    dsimp only at e
    split at e
    · rename_i ds ei
      split at e
      · rename_i o eo
        cases e
        obtain ⟨a, xs, s1, ea, r, f0, _⟩ := h.own i false ds ei
        have sv : σ[i]? = some (some v) := q.2
        rw [sv] at s1
        cases s1
        obtain ⟨q1, q2⟩ := h.drop ei sv
        have oa : ownM σ env a := ⟨i, false, ds, ei, sv⟩
        refine ⟨(q1.less fun b z => .inl z).outs eo hl, a, xs, rfl, ea, ?_, fun z => (h.ext a z).1 oa, f0 rfl, f0 rfl, q1.outs eo hl⟩
        refine r.mono (.refl H') fun b ys g e => ⟨⟨fun z => z.elim g.1 fun z => g.2 (by rw [z]; exact oa), fun z => g.2 (own_set_no (out_own q1 eo z)).1⟩, e⟩
      · cases e
    · cases e
end
theorem Room.le {j k : Nat} {A : Around} (h : Room k A) (hj : j ≤ k) : Room j A := h.mono hj
section
variable {P : Program} {w : World} {K : PySem.W.Frag} {mg : Str → Option Value} {base : Heap}
theorem fn_ok {x qual : Str} {st : Stmt} {f : Addr} {fd : FuncData} {N ps : List Str} {k n p : Nat} {g : FS} (F : Fun K x qual st f fd) (S : FnScope N ps (defScope st)) (hn : N.length = n) (hp : ps.length = p)
    (hb : ∀ (cdv : Value) (A : Around) (outer : List Env) (s : Shared) (H : Hp) (vs : List V) (E : XK) (env0 : En), Room k (A.deeper (PyProof.Rows.envOfC qual (defScope st) s.heap.objs.size f cdv)) →
      PSs (cxOf (L2.CX P w) P w K mg base N qual (defScope st) f cdv A outer s H E) (defBody st) (dS (cc0 K mg H vs env0) (fun cls d _ H => E cls d H) g)) :
    FnOk P w K mg base (L2.CX P w) (k + 1) f fd ps (spD K mg (runD n p g)) := by
  have len : ∀ (vs : List V) (H : Hp) (Q : VK) (E : XK), spD K mg (runD n p g) vs H Q E → vs.length = p := fun vs H Q E ⟨env, L, re, h⟩ => by
    have hl := re.len
    rw [List.length_map] at hl
    unfold runD at h
    by_cases z : env.length = p
    · rw [← hl, z]
    · rw [if_neg z] at h
      exact h.elim
  refine F.okX S (fun vs H Q E h => (len vs H Q E h).trans hp.symm) fun cdv A outer s H vs Q E hr h => ?_
  have hvl := len vs H Q E h
  obtain ⟨env, L, re, h⟩ := h
  have hl : env.length = vs.length := by
    have := re.len
    rwa [List.length_map] at this
  refine ⟨_, hb cdv A outer s H vs E env hr, padE n env, L, re.pad hn hl, ?_⟩
  unfold runD at h
  rw [if_pos (hl.trans hvl)] at h
  have fin : ∀ {t : T} {e : En} {σ' : St} {H' : Hp} {v : V} {N' : Addr → Prop}, (match finT env t e with
      | .er => False
      | .ex x out => ∀ H', RE (cc0 K mg H vs env) L (vs.map some) H' out → ∀ C, mg x = some (.ref C) → E (.ref C) none H'
      | .ok t out => ∀ v H', RE (cc0 K mg H vs env) L (vs.map some) H' out → RepT (cc0 K mg H vs env) L (fun a => H a = none) (vs.map some) H' out v t → Q v H') →
      RE (cc0 K mg H vs env) L σ' H' e → RepT (cc0 K mg H vs env) L N' σ' H' e v t → Q v H' := fun {t e σ' H' v N'} h r q => by
    cases ef : finT env t e with
    | er => rw [ef] at h; exact h.elim
    | ex x o =>
      unfold finT at ef
      split at ef
      · split at ef
        · split at ef <;> cases ef
        · cases ef
      · split at ef <;> cases ef
    | ok t' o =>
      rw [ef] at h
      obtain ⟨z1, z2⟩ := fin_ok r hl q ef
      exact h v H' z1 z2
  cases eg : g (padE n env) with
  | er => rw [eg] at h; exact h.elim
  | bk e => rw [eg] at h; exact h.elim
  | ct e => rw [eg] at h; exact h.elim
  | nx e =>
    rw [eg] at h
    exact fun σ' H' r s => fin (N' := fun _ => True) h r (show RepT _ _ _ _ _ _ _ (.im .non) from .non)
  | rt t e =>
    rw [eg] at h
    exact fun v σ' H' r s q => fin h r q
  | ex x e =>
    rw [eg] at h
    dsimp only [finF] at h
    cases eo : outE env e with
    | none => rw [eo] at h; exact h.elim
    | some o =>
      rw [eo] at h
      exact fun σ' H' r s C hC => h H' (r.outs eo hl) C hC
def spLaw (K : PySem.W.Frag) : Sp := fun vs H Q _ => ∃ (a : Addr) (ns : List Int), vs = [.ref a] ∧ ns.length ≤ 63 ∧ FzAt K H a (ns.map V.int) ∧ ∀ H', Q (.bl true) H'
theorem law_ok {k f : _} {fd : FuncData} {x : Str} {g : FD} (F : FnOk P w K mg base (L2.CX P w) k f fd [x] (spD K mg g)) (h : ∀ ns : List Int, ns.length ≤ 63 → ∃ o, g [.im (.fz (ns.map D.int))] = .ok (.im (.bl true)) o) : FnOk P w K mg base (L2.CX P w) k f fd [x] (spLaw K) :=
  F.imp fun vs H Q E ⟨a, ns, ev, hl, hz, kk⟩ => by
    subst ev
    obtain ⟨o, eg⟩ := h ns hl
    have re : RE (cc0 K mg H [V.ref a] ([D.fz (ns.map D.int)].map Sl.im)) (fun _ => False) ([V.ref a].map some) H ([D.fz (ns.map D.int)].map Sl.im) :=
      RE.enter (.cons (.fz hz (Reps.of_ints ns)) .nil) fun a z => z.elim
    refine ⟨_, _, re, ?_⟩
    show match g [.im (.fz (ns.map D.int))] with
      | .er => False
      | .ex x out => ∀ H', RE (cc0 K mg H [V.ref a] ([D.fz (ns.map D.int)].map Sl.im)) (fun _ => False) ([V.ref a].map some) H' out → ∀ C, mg x = some (.ref C) → E (.ref C) none H'
      | .ok t out => ∀ v H', RE (cc0 K mg H [V.ref a] ([D.fz (ns.map D.int)].map Sl.im)) (fun _ => False) ([V.ref a].map some) H' out → RepT (cc0 K mg H [V.ref a] ([D.fz (ns.map D.int)].map Sl.im)) (fun _ => False) (fun a => H a = none) ([V.ref a].map some) H' out v t → Q v H'
    rw [eg]
    intro v H' _ q
    cases (show Rep _ _ _ v (.bl true) from q)
    exact kk H'
theorem law_hsp {H : Hp} {a : Addr} {ns : List Int} (hl : ns.length ≤ 63) (hO : Only H) (hS : SqL K H a (ns.map V.int)) : spLaw K [.ref a] H (fun v _ => v = .bl true) fun _ _ _ => False := by
  refine ⟨a, ns, rfl, hl, ?_, fun _ => rfl⟩
  rcases hS with (h | ⟨o, h⟩) | h
  · rcases hO a with z | ⟨o, xs, z⟩
    · rw [h] at z; cases z
    · rw [h] at z; cases z
  · exact .inl ⟨o, h⟩
  · exact .inr h
theorem law_cx {H : Hp} {s : Shared} {e : Value} {s' : Shared} (h : L2.CX P w [] H s (fun _ _ _ => False) e s') : False := by
  obtain ⟨_, _, _, _, _, _, _, _, _, _, _, _, z⟩ := h
  exact z
end
end DL
namespace DL
open PySem PySem.Spec L2
def dRep : D → D → Option T
  | .lst xs, .int k => if -(2 ^ 63) ≤ k ∧ k < 2 ^ 63 ∧ xs.length * k.toNat ≤ 1000000 then some (.fr (List.replicate k.toNat xs).flatten) else none
  | _, _ => none
def dRepT : D → D → Option T
  | .tup xs, .int k => if xs ≠ [] ∧ 2 ≤ k ∧ k ≤ 1000 ∧ xs.length ≤ 1000 then some (.im (.tup (List.replicate k.toNat xs).flatten)) else none
  | _, _ => none
def repS (z : Str) (k : Int) : Str := ⟨(List.replicate k.toNat z.cps).foldl (· ++ ·) #[]⟩
theorem repS_len (z : Str) (k : Int) : (repS z k).length = k.toNat * z.length := by
  have key : ∀ (n : Nat) (acc : Array Nat), ((List.replicate n z.cps).foldl (· ++ ·) acc).size = acc.size + n * z.cps.size := fun n => by
    induction n with
    | zero => intro acc; simp
    | succ n ih =>
      intro acc
      rw [List.replicate_succ, List.foldl_cons, ih, Array.size_append, Nat.succ_mul]
      omega
  show ((List.replicate k.toNat z.cps).foldl (· ++ ·) #[]).size = _
  rw [key]
  simp [Str.length]
def dRepS : D → D → Option T
  | .str x, .int k => if 2 ≤ k ∧ k ≤ 1000000 ∧ x.length = 1 then some (.im (.str (repS x k))) else none
  | _, _ => none
def dMulA (x y : D) : Option T := match dMul x y with
  | some t => some t
  | none => match dRep x y with
    | some t => some t
    | none => match dRepT x y with
      | some t => some t
      | none => dRepS x y
section
variable {X : Cx} {c : Cc}
def rRepS : R2 := fun x y H Q => ∃ z k, x = .str z ∧ y = .int k ∧ 2 ≤ k ∧ k ≤ 1000000 ∧ z.length = 1 ∧ Q (.str (repS z k)) H
theorem op_repS : OpR X (binaryOp .Mult) rRepS := by
  intro pins s σ H x y v u Q I rx ry h
  obtain ⟨z, k, rfl, rfl, h1, h2, h3, q⟩ := h
  obtain ⟨t, rfl⟩ := rx
  obtain ⟨t', rfl⟩ := ry
  have c0 : ¬ k < 1 := by omega
  have c1 : (k == 1 || z.length == 0) = false := by
    have : ¬ k = 1 := by omega
    simp [h3, this]
  refine PySem.P.mul_str (by
    have a1 : ¬ k < -(2 ^ 63 : Int) := by omega
    have a2 : ¬ k ≥ 2 ^ 63 := by omega
    rw [decide_eq_false a1, decide_eq_false a2]
    rfl) (fun _ _ z9 => ?_) (fun _ _ => ?_) ?_
  · rw [h3] at z9
    have : (1 : Int) ≤ (2 ^ 63 - 1) / k := by
      refine (Int.le_ediv_iff_mul_le (by omega)).mpr ?_
      omega
    exact absurd z9 (by simpa using Int.not_lt.mpr this)
  · rw [h3, Nat.one_mul]
    exact decide_eq_false (by have := line6 (n := k.toNat) (by omega); omega)
  · rw [if_neg c0, if_neg (by rw [c1]; decide)]
    refine ⟨?_, .str _, H, I.tok _, ⟨_, rfl⟩, q⟩
    have e := repS_len z k
    rw [h3, Nat.mul_one] at e
    exact Nat.le_trans (Nat.le_of_eq e) (line6 (by omega))
theorem d_repS : OpD c rRepS dRepS := by
  intro L σ H env x y dx dy t Q re hx hy e k
  cases dx <;> cases dy <;> simp only [dRepS] at e <;> try (cases e; done)
  split at e
  · rename_i q
    cases e
    exact ⟨_, _, hx.str, hy.int, q.1, q.2.1, q.2.2, k _ H re .refl (.str _)⟩
  · cases e
abbrev rMulA (K : PySem.W.Frag) : R2 := fun x y H Q => rI CMul (fun i j => .int (i * j)) x y H Q ∨ (rRep x y H Q ∨ (rRepT K x y H Q ∨ rRepS x y H Q))
theorem op_mulA : OpR X (binaryOp .Mult) (rMulA X.K) := op_mul.or (op_rep.or (op_repT.or op_repS))
theorem d_rep : OpD c rRep dRep := by
  intro L σ H env x y dx dy t Q re hx hy e k
  cases dx <;> cases dy <;> simp only [dRep] at e <;> try (cases e; done)
  split at e
  · rename_i q
    cases e
    obtain ⟨a, xs, rfl, h1, r1⟩ := hx.lst
    cases hy.int
    refine ⟨a, _, xs, rfl, rfl, h1, q.1, q.2.1, by rw [r1.length]; exact Nat.le_trans q.2.2 (by decide), fun p n => ?_⟩
    obtain ⟨q1, q2, q3⟩ := re.newL (r1.rep _) n
    exact k _ _ q1 q2 q3
  · cases e
theorem d_repT : OpD c (rRepT c.K) dRepT := by
  intro L σ H env x y dx dy t Q re hx hy e k
  cases dx <;> cases dy <;> simp only [dRepT] at e <;> try (cases e; done)
  split at e
  · rename_i q
    cases e
    obtain ⟨a, xs, rfl, h1, r1⟩ := hx.tup
    cases hy.int
    refine ⟨a, _, xs, rfl, rfl, h1, fun z => q.1 ?_, q.2.1, q.2.2.1, by rw [r1.length]; exact q.2.2.2, fun p n => ?_⟩
    · subst z
      cases r1
      rfl
    · have kp : ∀ {zs : HO} b o, H b = some o → upd H p zs b = some o := fun b o e => by rw [upd_ne (ne_of_none e n)]; exact e
      exact k _ _ (re.grow kp) (.grow kp) (.tup (.inl (.inl upd_same)) (re.reps (.grow kp) (r1.rep _)))
  · cases e
theorem d_mulA : OpD c (rMulA c.K) dMulA := d_mul.or (d_rep.or (d_repT.or d_repS))
end
theorem de_gc {X : Cx} {c : Cc} {W : WX} {x : Str} {v : V} {d : D} {pos : Pos} (hg : Gl X x) (h : ∃ u, X.mg x = some u ∧ RelV v u) (k : ∀ G H, Rep c.K G H v d) (hd : (x == ("__debug__" : Str)) = false := by decide) : PE X (.Name x pos) (dE c W (eC d)) := by
  obtain ⟨u, h1, h2⟩ := h
  exact de_c (pe_glob hg h1 h2 (hd := hd)) k
def dEqS : D → D → Option T
  | .str a, .str b => some (.im (.bl (a == b)))
  | _, _ => none
def dNeS : D → D → Option T
  | .str a, .str b => some (.im (.bl (!(a == b))))
  | _, _ => none
def dEqA (x y : D) : Option T := match dEqS x y with
  | some t => some t
  | none => dEq x y
def dNeA (x y : D) : Option T := match dNeS x y with
  | some t => some t
  | none => dNe x y
@[simp] theorem dEqA_ss (a b : Str) : dEqA (.str a) (.str b) = some (.im (.bl (a == b))) := rfl
@[simp] theorem dEqA_ii (a b : Int) : dEqA (.int a) (.int b) = some (.im (.bl (a == b))) := rfl
@[simp] theorem dNeA_ss (a b : Str) : dNeA (.str a) (.str b) = some (.im (.bl (!(a == b)))) := rfl
@[simp] theorem dNeA_ii (a b : Int) : dNeA (.int a) (.int b) = some (.im (.bl (!(a == b)))) := rfl
section
variable {X : Cx} {c : Cc}
abbrev rEqA (K : PySem.W.Frag) : R2 := fun x y H Q => rEq x y H Q ∨ rEqD K x y H Q
abbrev rNeA (K : PySem.W.Frag) : R2 := fun x y H Q => rNe x y H Q ∨ rNeD K x y H Q
theorem op_eqA (hu : X.A.units + 64 < cLine) : OpR X (compareOp .Eq) (rEqA X.K) := op_eq.or (op_eqD hu)
theorem op_neA (hu : X.A.units + 64 < cLine) : OpR X (compareOp .NotEq) (rNeA X.K) := op_ne.or (op_neD hu)
theorem d_eqS : OpD c rEq dEqS := by
  intro L σ H env x y dx dy t Q re hx hy e k
  cases dx <;> cases dy <;> simp only [dEqS] at e <;> try (cases e; done)
  cases e
  cases (show Rep _ _ _ x (.str _) from hx)
  cases (show Rep _ _ _ y (.str _) from hy)
  refine ⟨rfl, ?_⟩
  rw [dec_str]
  exact k _ H re .refl (.bl _)
theorem d_neS : OpD c rNe dNeS := by
  intro L σ H env x y dx dy t Q re hx hy e k
  cases dx <;> cases dy <;> simp only [dNeS] at e <;> try (cases e; done)
  cases e
  cases (show Rep _ _ _ x (.str _) from hx)
  cases (show Rep _ _ _ y (.str _) from hy)
  refine ⟨rfl, ?_⟩
  rw [dec_str]
  exact k _ H re .refl (.bl _)
theorem d_eqA : OpD c (rEqA c.K) dEqA := d_eqS.or d_eq
theorem d_neA : OpD c (rNeA c.K) dNeA := d_neS.or d_ne
end
def dAddI : D → D → Option T
  | .int i, .int j => some (.im (.int (i + j)))
  | _, _ => none
@[simp] theorem dAddI_int (i j : Int) : dAddI (.int i) (.int j) = some (.im (.int (i + j))) := rfl
def GlT (K : PySem.W.Frag) (mg : Str → Option Value) (x : Str) (d : D) : Prop := ∃ u v, mg x = some u ∧ RelV v u ∧ ∀ G H, Rep K G H v d
theorem de_gt {X : Cx} {c : Cc} {W : WX} {x : Str} {d : D} {pos : Pos} (hg : Gl X x) (h : GlT X.K X.mg x d) (hK : c.K = X.K := by rfl) (hd : (x == ("__debug__" : Str)) = false := by decide) : PE X (.Name x pos) (dE c W (eC d)) := by
  obtain ⟨u, v, h1, h2, h3⟩ := h
  exact de_c (pe_glob hg h1 h2 (hd := hd)) fun G H => by rw [hK]; exact h3 G H
structure Cd (K : PySem.W.Frag) (mg : Str → Option Value) (x : Str) (st : Stmt) (ps : List Str) (f : Addr) (fd : FuncData) : Prop where
  F : Fun K x x st f fd
  g : mg x = some (.ref f)
  b : Binds K fd ps []
theorem bo_len : bootBuiltins "len" = some (.builtin "len") := by decide +kernel
theorem bo_sum : bootBuiltins "sum" = some (.builtin "sum") := by decide +kernel
theorem bo_max : bootBuiltins "max" = some (.builtin "max") := by decide +kernel
theorem bo_min : bootBuiltins "min" = some (.builtin "min") := by decide +kernel
theorem bo_all : bootBuiltins "all" = some (.builtin "all") := by decide +kernel
theorem bo_any : bootBuiltins "any" = some (.builtin "any") := by decide +kernel
theorem bo_tuple : bootBuiltins "tuple" = some (.type "tuple") := by decide +kernel
theorem bo_list : bootBuiltins "list" = some (.type "list") := by decide +kernel
theorem bo_int : bootBuiltins "int" = some (.type "int") := by decide +kernel
theorem bo_bool : bootBuiltins "bool" = some (.type "bool") := by decide +kernel
theorem bo_str : bootBuiltins "str" = some (.type "str") := by decide +kernel
end DL
namespace DL
open PySem PySem.Spec L2
@[simp] theorem eVar_s (i : Nat) (env : En) : eVar i env = (match env[i]? with
  | some (.im d) => .ok (.im d) env
  | some (.own _ _) => .ok (.al i) env
  | _ => .er) := rfl
@[simp] theorem eC_s (d : D) (env : En) : eC d env = (.ok (.im d) env) := rfl
@[simp] theorem eOp_s (g : D → D → Option T) (fa fb : FE) (env : En) : eOp g fa fb env = ((fa env).bind fun ta e1 => (fb e1).bind fun tb e2 => op2 g ta tb e2) := rfl
@[simp] theorem eUn_s (g : D → Option T) (fa : FE) (env : En) : eUn g fa env = ((fa env).bind fun ta e1 => op1 g ta e1) := rfl
@[simp] theorem aNil_s  (env : En) : aNil  env = (.ok [] env) := rfl
@[simp] theorem aCons_s (fa : FE) (fr : FA) (env : En) : aCons fa fr env = ((fa env).bind fun t e1 => (fr e1).bind fun ts e2 => consT t ts e2) := rfl
@[simp] theorem eB_s (g : List D → Option T) (fa : FA) (env : En) : eB g fa env = ((fa env).bind fun ts e1 => opL g ts e1) := rfl
@[simp] theorem eTup_s (fa : FA) (env : En) : eTup fa env = ((fa env).bind fun ts e1 => disp mkTup ts e1) := rfl
@[simp] theorem eLst_s (fa : FA) (env : En) : eLst fa env = ((fa env).bind fun ts e1 => disp (fun cs => .fr (cs.map Cp.d)) ts e1) := rfl
@[simp] theorem eIsi_s (Ty : String) (fa : FE) (env : En) : eIsi Ty fa env = ((fa env).bind fun t e => op1 (fun d => (isTy Ty d).map fun b => .im (.bl b)) t e) := rfl
@[simp] theorem tV_s (fa : FE) (env : En) : tV fa env = ((fa env).bind fun t e => toB t e) := rfl
@[simp] theorem tAn_s (fa fb : FT) (env : En) : tAn fa fb env = ((fa env).bind fun b e => bif b then fb e else .ok false e) := rfl
@[simp] theorem tOr'_s (fa fb : FT) (env : En) : tOr' fa fb env = ((fa env).bind fun b e => bif b then .ok true e else fb e) := rfl
@[simp] theorem tNo_s (fa : FT) (env : En) : tNo fa env = ((fa env).bind fun b e => .ok (!b) e) := rfl
@[simp] theorem eAn_s (fa fb : FE) (env : En) : eAn fa fb env = ((fa env).bind fun t e => (toB t e).bind fun b e => bif b then fb e else .ok (.im (.bl false)) e) := rfl
@[simp] theorem eOr_s (fa fb : FE) (env : En) : eOr fa fb env = ((fa env).bind fun t e => (toB t e).bind fun b e => bif b then .ok (.im (.bl true)) e else fb e) := rfl
@[simp] theorem eNo_s (fa : FE) (env : En) : eNo fa env = ((fa env).bind fun t e => (toB t e).bind fun b e => .ok (.im (.bl (!b))) e) := rfl
@[simp] theorem eIf_s (fc : FT) (fa fb : FE) (env : En) : eIf fc fa fb env = ((fc env).bind fun b e => bif b then fa e else fb e) := rfl
@[simp] theorem eCh_s (g g' : D → D → Option T) (fa fb fc : FE) (env : En) : eCh g g' fa fb fc env = ((fa env).bind fun ta e1 => (fb e1).bind fun tb e2 => (op2 g ta tb e2).bind fun t e2 => (toB t e2).bind fun b e2 => bif b then (fc e2).bind fun tc e3 => op2 g' tb tc e3 else .ok (.im (.bl false)) e2) := rfl
@[simp] theorem tNp_s  (env : En) : tNp  env = (.ok none env) := rfl
@[simp] theorem tPa_s (fa : FE) (env : En) : tPa fa env = ((fa env).bind toI) := rfl
@[simp] theorem eSl_s (fa : FE) (fl fh : En → R (Option Int)) (env : En) : eSl fa fl fh env = ((fa env).bind fun t e1 => (fl e1).bind fun lo e2 => (fh e2).bind fun hi e3 => slT t lo hi e3) := rfl
@[simp] theorem eCall_s (g : FD) (fa : FA) (env : En) : eCall g fa env = ((fa env).bind fun ts e1 => callT g ts e1) := rfl
@[simp] theorem eCallI_s (k : Nat) (g : FD) (fa : FA) (env : En) : eCallI k g fa env = ((fa env).bind fun ts e1 => callI k g ts e1) := rfl
@[simp] theorem sNx_s  (env : En) : sNx  env = (.nx env) := rfl
@[simp] theorem sSeq_s (f g : FS) (env : En) : sSeq f g env = ((f env).seq g) := rfl
@[simp] theorem sIf_s (ft : FT) (f g : FS) (env : En) : sIf ft f g env = ((ft env).bindF fun b e => bif b then f e else g e) := rfl
@[simp] theorem sRet_s (fa : FE) (env : En) : sRet fa env = ((fa env).bindF fun t e => .rt t e) := rfl
@[simp] theorem sRetN_s  (env : En) : sRetN  env = (.rt (.im .non) env) := rfl
@[simp] theorem sDrop_s (fa : FE) (env : En) : sDrop fa env = ((fa env).bindF fun _ e => .nx e) := rfl
@[simp] theorem sBk_s  (env : En) : sBk  env = (.bk env) := rfl
@[simp] theorem sCt_s  (env : En) : sCt  env = (.ct env) := rfl
@[simp] theorem sAsg_s (fa : FE) (g : FG) (env : En) : sAsg fa g env = ((fa env).bindF fun t e => match g t e with
  | .nx e => .nx e
  | _ => .er) := rfl
@[simp] theorem gN_s (i : Nat) (t : T) (env : En) : gN i t env = (match t with
  | .im d => .nx (env.set i (.im d))
  | .fr ds => .nx (env.set i (.own false ds))
  | .ft cs => .nx (env.set i (.im (.tup (cs.map Cp.d))))
  | .al j => match env[j]? with
    | some (.own false ds) => .nx ((env.set j .no).set i (.own false ds))
    | _ => .er) := rfl
@[simp] theorem gsNil_s  (cs : List Cp) (env : En) : gsNil  cs env = (match cs with
  | [] => .nx env
  | _ => .er) := rfl
@[simp] theorem gsCons_s (g : FG) (gs : FGs) (cs : List Cp) (env : En) : gsCons g gs cs env = (match cs with
  | c :: cs => (g (cpT c) env).seq (gs cs)
  | [] => .er) := rfl
@[simp] theorem gT_s (n : Nat) (gs : FGs) (t : T) (env : En) : gT n gs t env = (match cpsOf t env with
  | some cs => if cs.length = n then gs cs env else .er
  | none => .er) := rfl
@[simp] theorem sPar_s (i j : Nat) (fa : FA) (env : En) : sPar i j fa env = ((fa env).bindF fun ts e => (disp T.ft ts e).bindF fun t e => match t with
  | .ft [c1, c2] => match gsCons (gN i) (gsCons (gN j) gsNil) [c1, c2] e with
    | .nx e => .nx e
    | _ => .er
  | _ => .er) := rfl
@[simp] theorem sAug_s (i : Nat) (g : D → D → Option T) (fa : FE) (env : En) : sAug i g fa env = (match env[i]? with
  | some (.im d) => (fa env).bindF fun t e => (op2 g (.im d) t e).bindF fun t' e2 => match gN i t' e2 with
    | .nx e3 => .nx e3
    | _ => .er
  | _ => .er) := rfl
@[simp] theorem gSb_s (fo fi : FE) (t : T) (env : En) : gSb fo fi t env = (match fo env with
  | .ok to e1 => match fi e1 with
    | .ok ti e2 => match to with
      | .al j => match e2[j]?, ti.val e2, elemD t with
        | some (.own b ds), some (.int k), some d => match ixN ds.length k with
          | some m => .nx (e2.set j (.own b (ds.set m d)))
          | none => .er
        | _, _, _ => .er
      | _ => .er
    | _ => .er
  | _ => .er) := rfl
@[simp] theorem eMet_s (k : List D → List T → En → Option (D × List D × En)) (fo : FE) (fa : FA) (env : En) : eMet k fo fa env = ((fo env).bind fun to e1 => match to with
  | .al j => (fa e1).bind fun ts e2 => metT k (.al j) ts e2
  | _ => .er) := rfl
@[simp] theorem eMet0_s (k : List D → List T → En → Option (D × List D × En)) (fo : FE) (env : En) : eMet0 k fo env = ((fo env).bind fun to e1 => match to with
  | .al j => metT k (.al j) [] e1
  | _ => .er) := rfl
@[simp] theorem fiT_s (fa : FE) (env : En) : fiT fa env = ((fa env).bind iT) := rfl
@[simp] theorem fiL_s (fz : Bool) (fa : FE) (env : En) : fiL fz fa env = ((fa env).bind fun t => iL fz t.weak) := rfl
@[simp] theorem fiR1_s (fa : FA) (env : En) : fiR1 fa env = ((fa env).bind iR1) := rfl
@[simp] theorem fiR2_s (fa : FA) (env : En) : fiR2 fa env = ((fa env).bind iR2) := rfl
@[simp] theorem fiE_s (fz : Bool) (fa : FA) (env : En) : fiE fz fa env = ((fa env).bind (iE fz)) := rfl
@[simp] theorem fiZ_s (fz : Bool) (fa : FA) (env : En) : fiZ fz fa env = ((fa env).bind (iZ fz)) := rfl
theorem sFor_s (fi : FI) (g : FG) (f : FS) (env : En) : sFor fi g f env = ((fi env).bindF fun k e => match k.chk with
  | none => loopF g f k.its e
  | some _ => .er) := rfl
theorem eLc_s (fi : FI) (vs : List Nat) (t : CT) (ft : FT) (fe : FE) (env : En) : eLc fi vs t ft fe env = ((fi env).bind fun k e => (lcL k vs t ft fe k.its [] (wipeE e vs)).bind fun ys e2 => .ok (.fr ys) e2) := rfl
@[simp] theorem tT_s  (env : En) : tT  env = (.ok true env) := rfl

section
variable {α β : Type}
@[simp] theorem c_ok (b : Bool) (x y : α) (e : En) : (bif b then R.ok x e else R.ok y e) = R.ok (bif b then x else y) e := by cases b <;> rfl
@[simp] theorem c_im (b : Bool) (x y : D) : (bif b then T.im x else T.im y) = T.im (bif b then x else y) := by cases b <;> rfl
@[simp] theorem c_bl (b x y : Bool) : (bif b then D.bl x else D.bl y) = D.bl (bif b then x else y) := by cases b <;> rfl
@[simp] theorem c_int (b : Bool) (x y : Int) : (bif b then D.int x else D.int y) = D.int (bif b then x else y) := by cases b <;> rfl
@[simp] theorem c_rt (b : Bool) (x y : T) (e : En) : (bif b then Fl.rt x e else Fl.rt y e) = Fl.rt (bif b then x else y) e := by cases b <;> rfl
@[simp] theorem c_nx (b : Bool) (e : En) : (bif b then Fl.nx e else Fl.nx e) = Fl.nx e := by cases b <;> rfl
@[simp] theorem c_bind (b : Bool) (x y : R α) (g : α → En → R β) : R.bind (bif b then x else y) g = bif b then R.bind x g else R.bind y g := by cases b <;> rfl
@[simp] theorem c_bindF (b : Bool) (x y : R α) (g : α → En → Fl) : R.bindF (bif b then x else y) g = bif b then R.bindF x g else R.bindF y g := by cases b <;> rfl
@[simp] theorem c_seq (b : Bool) (x y : Fl) (g : FS) : Fl.seq (bif b then x else y) g = bif b then Fl.seq x g else Fl.seq y g := by cases b <;> rfl
@[simp] theorem c_fin (b : Bool) (x y : Fl) (e : En) : finF e (bif b then x else y) = bif b then finF e x else finF e y := by cases b <;> rfl
end
@[simp] theorem finF_nx (env e : En) : finF env (.nx e) = finT env (.im .non) e := rfl
@[simp] theorem finF_rt (env e : En) (t : T) : finF env (.rt t e) = finT env t e := rfl
@[simp] theorem finF_ex (env e : En) (x : Str) : finF env (.ex x e) = match outE env e with
    | some o => .ex x o
    | none => .er := rfl
@[simp] theorem shp_int (i : Int) : shp (.int i) = true := rfl
@[simp] theorem shp_bl (i : Bool) : shp (.bl i) = true := rfl
@[simp] theorem shp_non : shp .non = true := rfl

theorem lc_map {k : Wk} {vs : List Nat} {t : CT} {fe : FE} {h : D → D} {env : En} (ok : k.ok env) : ∀ (ds acc : List D), acc.length + ds.length ≤ sizeLine →
    (∀ d ∈ ds, ∃ e1 u e3, envT t d env = some e1 ∧ fe e1 = .ok u e3 ∧ u.weak = .im (h d) ∧ wipeE e3 vs = env) → lcL k vs t tT fe ds acc env = .ok (acc ++ ds.map h) env
  | [], acc, _, _ => by
    unfold lcL
    rw [if_pos ok, List.map_nil, List.append_nil]
  | d :: ds, acc, hl, hd => by
    obtain ⟨e1, u, e3, q1, q2, q3, q4⟩ := hd d List.mem_cons_self
    unfold lcL
    rw [List.length_cons] at hl
    rw [if_pos ⟨ok, by omega⟩, q1]
    simp only [tT, q2, q3, q4]
    rw [lc_map ok ds (acc ++ [h d]) (by rw [List.length_append]; simp; omega) fun x z => hd x (List.mem_cons_of_mem _ z)]
    simp
theorem lc_filter {k : Wk} {vs : List Nat} {t : CT} {ft : FT} {fe : FE} {p : D → Bool} {h : D → D} {env : En} (ok : k.ok env) : ∀ (ds acc : List D), acc.length + ds.length ≤ sizeLine →
    (∀ d ∈ ds, ∃ e1 e2, envT t d env = some e1 ∧ ft e1 = .ok (p d) e2 ∧ wipeE e2 vs = env ∧ (p d = true → ∃ u e3, fe e2 = .ok u e3 ∧ u.weak = .im (h d) ∧ wipeE e3 vs = env)) → lcL k vs t ft fe ds acc env = .ok (acc ++ (ds.filter p).map h) env
  | [], acc, _, _ => by
    unfold lcL
    rw [if_pos ok, List.filter_nil, List.map_nil, List.append_nil]
  | d :: ds, acc, hl, hd => by
    obtain ⟨e1, e2, q1, q2, q3, q4⟩ := hd d List.mem_cons_self
    unfold lcL
    rw [List.length_cons] at hl
    rw [if_pos ⟨ok, by omega⟩, q1]
    have hd' := fun x (z : x ∈ ds) => hd x (List.mem_cons_of_mem _ z)
    cases hp : p d with
    | false =>
      rw [hp] at q2
      simp only [q2, q3]
      rw [lc_filter ok ds acc (by omega) hd', List.filter_cons_of_neg (by simp [hp])]
    | true =>
      rw [hp] at q2
      obtain ⟨u, e3, r1, r2, r3⟩ := q4 hp
      simp only [q2, r1, r2, r3]
      rw [lc_filter ok ds (acc ++ [h d]) (by rw [List.length_append]; simp; omega) hd', List.filter_cons_of_pos hp]
      simp
theorem lc_some {k : Wk} {vs : List Nat} {t : CT} {fe : FE} {Pd : D → D → Prop} {E : Nat → En} (ok : ∀ j, k.ok (E j)) : ∀ (ds acc : List D) (j : Nat), acc.length + ds.length ≤ sizeLine →
    (∀ d ∈ ds, ∀ i, i < j + ds.length → ∃ e1 u e3 y, envT t d (E i) = some e1 ∧ fe e1 = .ok u e3 ∧ u.weak = .im y ∧ Pd d y ∧ wipeE e3 vs = E (i + 1)) → ∃ ys, lcL k vs t tT fe ds acc (E j) = .ok (acc ++ ys) (E (j + ds.length)) ∧ ys.length = ds.length ∧ ∀ (i : Nat) (d : D), ds[i]? = some d → ∃ y, ys[i]? = some y ∧ Pd d y
  | [], acc, j, _, _ => by
    refine ⟨[], ?_, rfl, fun i d e => by simp at e⟩
    unfold lcL
    rw [if_pos (ok j), List.append_nil]
    rfl
  | d :: ds, acc, j, hl, hd => by
    rw [List.length_cons] at hl
    obtain ⟨e1, u, e3, y, q1, q2, q3, q4, q5⟩ := hd d List.mem_cons_self j (by rw [List.length_cons]; omega)
    obtain ⟨ys, r1, r2, r3⟩ := lc_some ok ds (acc ++ [y]) (j + 1) (by rw [List.length_append]; simp; omega) fun x z i hi => hd x (List.mem_cons_of_mem _ z) i (by rw [List.length_cons]; omega)
    refine ⟨y :: ys, ?_, by rw [List.length_cons, List.length_cons, r2], fun i x e => ?_⟩
    · unfold lcL
      rw [if_pos ⟨ok j, by omega⟩, q1]
      simp only [tT, q2, q3, q5]
      rw [r1, List.length_cons, List.append_assoc, show j + 1 + ds.length = j + (ds.length + 1) by omega]
      rfl
    · cases i with
      | zero => cases e; exact ⟨y, rfl, q4⟩
      | succ i => exact r3 i x e
theorem eLc_of {fi : FI} {vs : List Nat} {t : CT} {ft : FT} {fe : FE} {env e e2 : En} {k : Wk} {ys : List D} (h1 : fi env = .ok k e) (h2 : lcL k vs t ft fe k.its [] (wipeE e vs) = .ok ys e2) : eLc fi vs t ft fe env = .ok (.fr ys) e2 := by
  rw [eLc_s, h1, bind_ok, h2]
  rfl
theorem loop_all {g : FG} {f : FS} {I : Nat → En → Prop} {ds : List D} {env : En} (h0 : I 0 env) (step : ∀ (i : Nat) (d : D) e, ds[i]? = some d → I i e → ∃ e1 e2, g (.im d) e = .nx e1 ∧ (f e1 = .nx e2 ∨ f e1 = .ct e2) ∧ I (i + 1) e2) : ∃ e, loopF g f ds env = .nx e ∧ I ds.length e := by
  have key : ∀ (rs : List D) (i : Nat) (e : En), ds.drop i = rs → I i e → ∃ e', loopF g f rs e = .nx e' ∧ I (i + rs.length) e' := by
    intro rs
    induction rs with
    | nil => exact fun i e _ h => ⟨e, rfl, h⟩
    | cons d rs ih =>
      intro i e hd h
      have hi : ds[i]? = some d := by
        have := List.getElem?_drop (xs := ds) (i := i) (j := 0)
        rw [hd] at this
        simpa using this.symm
      obtain ⟨e1, e2, q1, q2, q3⟩ := step i d e hi h
      have hd' : ds.drop (i + 1) = rs := by
        rw [← List.drop_drop, hd]
        rfl
      obtain ⟨e', r1, r2⟩ := ih (i + 1) e2 hd' q3
      refine ⟨e', ?_, by rw [List.length_cons, show i + (rs.length + 1) = i + 1 + rs.length by omega]; exact r2⟩
      unfold loopF
      rcases q2 with q2 | q2 <;> simp only [q1, q2] <;> exact r1
  obtain ⟨e, q1, q2⟩ := key ds 0 env (by simp) h0
  exact ⟨e, q1, by simpa using q2⟩
@[simp high] theorem dAll_map (p : D → Bool) (ds : List D) : dAll [.lst (ds.map fun d => .bl (p d))] = some (.im (.bl (ds.all p))) := by
  rw [dAll_lst, show (ds.map fun d => D.bl (p d)) = (ds.map p).map D.bl by rw [List.map_map]; rfl, blsOf_map]
  simp [List.all_map, Function.comp_def]
@[simp high] theorem dAny_map (p : D → Bool) (ds : List D) : dAny [.lst (ds.map fun d => .bl (p d))] = some (.im (.bl (ds.any p))) := by
  rw [dAny_lst, show (ds.map fun d => D.bl (p d)) = (ds.map p).map D.bl by rw [List.map_map]; rfl, blsOf_map]
  simp [List.any_map, Function.comp_def]
end DL
namespace DL
open PySem PySem.Spec L2 PyProof.Rows
theorem tuple_mul1 (l : Addr) (items : Array Value) (n : Nat) (dd : Option Addr) (sl : Array (Option Value)) (x : Int) (u : Tok) (hx : x = 1) :
    Meets (Builtin.«tuple.__mul__» ⟨[.ref l, .int x u], []⟩) (fun _ R s => s.heap.get? l = some { cls := .type "tuple", dict := dd, data := .seq items n, slots := sl } ∧ R (.ok (.ret (.ref l))) s) :=
  .of_wp fun prog w A R s h => by
    obtain ⟨hp, g, d, tk, os⟩ := s
    obtain ⟨hl, h⟩ := h
    have f1 := AutoSeq1.idx_int
    have c0 : (decide (x < -(2 ^ 63)) || decide (x ≥ 2 ^ 63)) = false := by subst hx; decide
    have c1 : (items.isEmpty || x == 1) = true := by subst hx; simp
    wp_walk using wpAny_loadPart' hl
    exact ⟨_, rfl, h⟩
theorem tuple_mul0 (l : Addr) (items : Array Value) (n : Nat) (dd : Option Addr) (sl : Array (Option Value)) (x : Int) (u : Tok) (hx : x = 0) (hi : items.isEmpty = false) :
    Meets (Builtin.«tuple.__mul__» ⟨[.ref l, .int x u], []⟩) (fun _ R s => s.heap.get? l = some { cls := .type "tuple", dict := dd, data := .seq items n, slots := sl } ∧
      R (.ok (.ret (Value.ref s.heap.objs.size))) { s with heap := s.heap.push { cls := Value.type "tuple", data := Data.seq #[] }, toks := s.toks }) :=
  .of_wp fun prog w A R s h => by
    obtain ⟨hp, g, d, tk, os⟩ := s
    obtain ⟨hl, h⟩ := h
    have f1 := AutoSeq1.idx_int
    have c0 : (decide (x < -(2 ^ 63)) || decide (x ≥ 2 ^ 63)) = false := by subst hx; decide
    have c1 : (items.isEmpty || x == 1) = false := by subst hx; rw [hi]; rfl
    have c2 : (decide (x ≤ 0) || items.isEmpty) = true := by subst hx; rfl
    wp_walk using wpAny_loadPart' hl
    repeat (first
      | (refine wpAny_ite_false (decide_eq_false (by rw [c0]; exact Bool.false_ne_true)) ?_; wp_walk using wpAny_loadPart' hl)
      | (refine wpAny_ite_false (decide_eq_false (by rw [c1]; exact Bool.false_ne_true)) ?_; wp_walk using wpAny_loadPart' hl)
      | (refine wpAny_ite_true (decide_eq_true (by rw [c2])) ?_; wp_walk using wpAny_loadPart' hl))
    exact ⟨_, rfl, h⟩
def rRep1 (K : PySem.W.Frag) : R2 := fun x y H Q => ∃ l xs, x = .ref l ∧ y = .int 1 ∧ SqT K H l xs ∧ Q (.ref l) H
def rRep0 (K : PySem.W.Frag) : R2 := fun x y H Q => ∃ l xs, x = .ref l ∧ y = .int 0 ∧ SqT K H l xs ∧ xs ≠ [] ∧ ∀ p, H p = none → Q (.ref p) (upd H p (.tup []))
section
variable {X : Cx} {c : Cc}
theorem op_rep1 : OpR X (binaryOp .Mult) (rRep1 X.K) := by
  intro pins s σ H x y v u Q I rx ry h
  obtain ⟨l, xs, rfl, rfl, hT, q⟩ := h
  cases rx
  obtain ⟨t, rfl⟩ := ry
  obtain ⟨its, r, ⟨⟨cls, dd, data, sl⟩, ho, hc, n, hd⟩, hs⟩ := I.tuple hT
  simp only at hc hd
  subst hc hd
  refine wpAny_binaryOp_repeat_ref (T := "tuple") (U := "int") (by decide) ⟨_, ho, rfl⟩ (fun s' => typeIs_int s' 1 t) noFill_tuple_mul F.fills_int_mul F.slot_int_rmul repeat_tuple F.slot_int_index.lookup
    (call_meets F.slot_int_rmul (typeIs_int s 1 t) F.entry_int_rmul (F.args_int_rmul_2 _ _) (int_rmul_tuple 1 t l its.toArray n dd sl)
      ⟨ho, rfl, ⟨_, ho, rfl⟩, call_meets F.slot_tuple_mul ⟨_, ho, rfl⟩ F.entry_tuple_mul (F.args_tuple_mul_2 _ _) (tuple_mul1 l its.toArray n dd sl 1 t rfl) ⟨ho, ?_⟩⟩)
  exact ⟨.ref l, H, I, rfl, q⟩
theorem op_rep0 : OpR X (binaryOp .Mult) (rRep0 X.K) := by
  intro pins s σ H x y v u Q I rx ry h
  obtain ⟨l, xs, rfl, rfl, hT, hne, q⟩ := h
  cases rx
  obtain ⟨t, rfl⟩ := ry
  obtain ⟨its, r, ⟨⟨cls, dd, data, sl⟩, ho, hc, n, hd⟩, hs⟩ := I.tuple hT
  simp only at hc hd
  subst hc hd
  have hi : its.toArray.isEmpty = false := by
    cases its with
    | nil =>
      cases r
      exact (hne rfl).elim
    | cons a b => rfl
  refine wpAny_binaryOp_repeat_ref (T := "tuple") (U := "int") (by decide) ⟨_, ho, rfl⟩ (fun s' => typeIs_int s' 0 t) noFill_tuple_mul F.fills_int_mul F.slot_int_rmul repeat_tuple F.slot_int_index.lookup
    (call_meets F.slot_int_rmul (typeIs_int s 0 t) F.entry_int_rmul (F.args_int_rmul_2 _ _) (int_rmul_tuple 0 t l its.toArray n dd sl)
      ⟨ho, rfl, ⟨_, ho, rfl⟩, call_meets F.slot_tuple_mul ⟨_, ho, rfl⟩ F.entry_tuple_mul (F.args_tuple_mul_2 _ _) (tuple_mul0 l its.toArray n dd sl 0 t rfl hi) ⟨ho, ?_⟩⟩)
  refine ⟨.ref s.heap.objs.size, _, I.laid (t' := s.toks) (o := .tup []) (fun b ob q => Heap.get?_push_of_some _ q) (Nat.le_refl _) ?_, rfl, q _ (I.hok.fresh (Nat.le_refl _))⟩
  exact ⟨Nat.zero_le _, _, .nil, IsTup.new _ _⟩
def dRep1 : D → D → Option T
  | .tup xs, .int k => if k = 1 then some (.im (.tup xs)) else none
  | _, _ => none
def dRep0 : D → D → Option T
  | .tup xs, .int k => if xs ≠ [] ∧ k = 0 then some (.im (.tup [])) else none
  | _, _ => none
theorem d_rep1 : OpD c (rRep1 c.K) dRep1 := by
  intro L σ H env x y dx dy t Q re hx hy e k
  cases dx <;> cases dy <;> simp only [dRep1] at e <;> try (cases e; done)
  split at e
  · rename_i q
    cases e
    obtain ⟨a, xs, rfl, h1, r1⟩ := hx.tup
    cases hy.int
    subst q
    exact ⟨a, xs, rfl, rfl, h1, k _ H re .refl (.tup h1 r1)⟩
  · cases e
theorem d_rep0 : OpD c (rRep0 c.K) dRep0 := by
  intro L σ H env x y dx dy t Q re hx hy e k
  cases dx <;> cases dy <;> simp only [dRep0] at e <;> try (cases e; done)
  split at e
  · rename_i q
    cases e
    obtain ⟨a, xs, rfl, h1, r1⟩ := hx.tup
    cases hy.int
    obtain ⟨q1, rfl⟩ := q
    refine ⟨a, xs, rfl, rfl, h1, fun z => q1 ?_, fun p n => ?_⟩
    · subst z
      cases r1
      rfl
    · have kp : ∀ {zs : HO} b o, H b = some o → upd H p zs b = some o := fun b o e => by rw [upd_ne (ne_of_none e n)]; exact e
      exact k _ _ (re.grow kp) (.grow kp) (.tup (.inl (.inl upd_same)) .nil)
  · cases e
abbrev rMulT (K : PySem.W.Frag) : R2 := fun x y H Q => rMulA K x y H Q ∨ (rRep1 K x y H Q ∨ rRep0 K x y H Q)
def dMulT (x y : D) : Option T := match dMulA x y with
  | some t => some t
  | none => match dRep1 x y with
    | some t => some t
    | none => dRep0 x y
theorem op_mulT : OpR X (binaryOp .Mult) (rMulT X.K) := op_mulA.or (op_rep1.or op_rep0)
theorem d_mulT : OpD c (rMulT c.K) dMulT := d_mulA.or (d_rep1.or d_rep0)
end
end DL
namespace DL
open PySem PySem.Spec L2
section
variable {X : Cx} {c : Cc}
end
def rMaxT (K : PySem.W.Frag) : List V → Hp → VK → Prop := fun vs H Q => ∃ (a : Addr) (n : Int) (ns : List Int), vs = [V.ref a] ∧ SqT K H a ((n :: ns).map V.int) ∧ Q (.int (ns.foldl max n)) H
def rMinT (K : PySem.W.Frag) : List V → Hp → VK → Prop := fun vs H Q => ∃ (a : Addr) (n : Int) (ns : List Int), vs = [V.ref a] ∧ SqT K H a ((n :: ns).map V.int) ∧ Q (.int (ns.foldl min n)) H
theorem fold_max_mem : ∀ (ns : List Int) (n : Int), ns.foldl max n ∈ n :: ns
  | [], n => by simp
  | m :: ns, n => by
    rw [List.foldl_cons]
    have := fold_max_mem ns (max n m)
    rcases List.mem_cons.mp this with e | e
    · rw [e]
      by_cases h : n ≤ m
      · rw [Int.max_eq_right h]; simp
      · rw [Int.max_eq_left (by omega)]; simp
    · exact List.mem_cons_of_mem _ (List.mem_cons_of_mem _ e)
theorem fold_max_le : ∀ (ns : List Int) (n y : Int), y ∈ n :: ns → y ≤ ns.foldl max n
  | [], n, y, h => by simp at h; subst h; exact Int.le_refl _
  | m :: ns, n, y, h => by
    rw [List.foldl_cons]
    rcases List.mem_cons.mp h with e | h
    · have := fold_max_le ns (max n m) (max n m) List.mem_cons_self
      omega
    · rcases List.mem_cons.mp h with e | h
      · have := fold_max_le ns (max n m) (max n m) List.mem_cons_self
        omega
      · exact fold_max_le ns (max n m) y (List.mem_cons_of_mem _ h)
theorem fold_min_mem : ∀ (ns : List Int) (n : Int), ns.foldl min n ∈ n :: ns
  | [], n => by simp
  | m :: ns, n => by
    rw [List.foldl_cons]
    have := fold_min_mem ns (min n m)
    rcases List.mem_cons.mp this with e | e
    · rw [e]
      by_cases h : n ≤ m
      · rw [Int.min_eq_left h]; simp
      · rw [Int.min_eq_right (by omega)]; simp
    · exact List.mem_cons_of_mem _ (List.mem_cons_of_mem _ e)
theorem fold_min_le : ∀ (ns : List Int) (n y : Int), y ∈ n :: ns → ns.foldl min n ≤ y
  | [], n, y, h => by simp at h; subst h; exact Int.le_refl _
  | m :: ns, n, y, h => by
    rw [List.foldl_cons]
    rcases List.mem_cons.mp h with e | h
    · have := fold_min_le ns (min n m) (min n m) List.mem_cons_self
      omega
    · rcases List.mem_cons.mp h with e | h
      · have := fold_min_le ns (min n m) (min n m) List.mem_cons_self
        omega
      · exact fold_min_le ns (min n m) y (List.mem_cons_of_mem _ h)
theorem fold_max_eq {ns : List Int} {n m : Int} (h1 : m ∈ n :: ns) (h2 : ∀ y, y ∈ n :: ns → y ≤ m) : m = ns.foldl max n := by
  have a := fold_max_le ns n m h1
  have b := h2 _ (fold_max_mem ns n)
  omega
theorem fold_min_eq {ns : List Int} {n m : Int} (h1 : m ∈ n :: ns) (h2 : ∀ y, y ∈ n :: ns → m ≤ y) : m = ns.foldl min n := by
  have a := fold_min_le ns n m h1
  have b := h2 _ (fold_min_mem ns n)
  omega
theorem foldMaxD : ∀ (ns : List Int) (n : Int), PySem.W.maxD (.int n) (ns.map .int) = .int (ns.foldl max n)
  | [], n => rfl
  | m :: ns, n => by
    have := foldMaxD ns (max n m)
    unfold PySem.W.maxD at this ⊢
    rw [List.map_cons, List.foldl_cons, List.foldl_cons, ← this]
    congr 1
    rw [PySem.W.dataLt_int]
    by_cases h : n < m
    · rw [if_pos (by simpa using h), Int.max_eq_right (by omega)]
    · rw [if_neg (by simpa using h), Int.max_eq_left (by omega)]
theorem foldMinD : ∀ (ns : List Int) (n : Int), PySem.W.minD (.int n) (ns.map .int) = .int (ns.foldl min n)
  | [], n => rfl
  | m :: ns, n => by
    have := foldMinD ns (min n m)
    unfold PySem.W.minD at this ⊢
    rw [List.map_cons, List.foldl_cons, List.foldl_cons, ← this]
    congr 1
    rw [PySem.W.dataLt_int]
    by_cases h : m < n
    · rw [if_pos (by simpa using h), Int.min_eq_right (by omega)]
    · rw [if_neg (by simpa using h), Int.min_eq_left (by omega)]
theorem dp_ints (K : PySem.W.Frag) (H : Hp) : ∀ ns : List Int, DpAll K H (ns.map V.int) (ns.map PyData.int)
  | [] => .nil
  | n :: ns => .cons (.int n) (dp_ints K H ns)
theorem alike_ints (ns : List Int) : PySem.W.AlikeAll (ns.map PyData.int) := by
  refine ⟨fun x hx y hy => ?_, fun x hx => ?_⟩
  · obtain ⟨i, _, rfl⟩ := List.mem_map.mp hx
    obtain ⟨j, _, rfl⟩ := List.mem_map.mp hy
    rfl
  · obtain ⟨i, _, rfl⟩ := List.mem_map.mp hx
    exact fun z => nomatch z
theorem depth_ints (ns : List Int) : PyData.depthAll (ns.map PyData.int) = 0 := PySem.W.depth_ints ns
section
variable {X : Cx} {c : Cc}
theorem cr_maxT (hc : X.calm = true) (hu : X.A.units + 64 < cLine) : CallR X (.builtin "max") (rMaxT X.K) := by
  intro pins s σ H vs us Q I r h
  obtain ⟨a, n, ns, rfl, hs, q⟩ := h
  obtain ⟨its, rv, ht, _⟩ := I.tuple hs
  rw [Vals.ref1 r]
  obtain ⟨as, rs⟩ := Dp.readsAll I _ _ _ (dp_ints X.K H (n :: ns)) rv
  have rs' : ReadsAll s.heap its (PyData.int n :: ns.map PyData.int) as := rs
  refine PySem.W.max_tuple_data (I.ok.hd hc) ht rs' (alike_ints (n :: ns)) (by have := depth_ints (n :: ns); rw [List.map_cons] at this; rw [this]; omega) fun i v h' tk bs hv rd hk => ?_
  rw [foldMaxD] at rd
  cases rd
  exact ⟨.int _, H, I.kept hk, ⟨_, rfl⟩, q⟩
theorem cr_minT (hc : X.calm = true) (hu : X.A.units + 64 < cLine) : CallR X (.builtin "min") (rMinT X.K) := by
  intro pins s σ H vs us Q I r h
  obtain ⟨a, n, ns, rfl, hs, q⟩ := h
  obtain ⟨its, rv, ht, _⟩ := I.tuple hs
  rw [Vals.ref1 r]
  obtain ⟨as, rs⟩ := Dp.readsAll I _ _ _ (dp_ints X.K H (n :: ns)) rv
  have rs' : ReadsAll s.heap its (PyData.int n :: ns.map PyData.int) as := rs
  refine PySem.W.min_tuple_data (I.ok.hd hc) ht rs' (alike_ints (n :: ns)) (by have := depth_ints (n :: ns); rw [List.map_cons] at this; rw [this]; omega) fun i v h' tk bs hv rd hk => ?_
  rw [foldMinD] at rd
  cases rd
  exact ⟨.int _, H, I.kept hk, ⟨_, rfl⟩, q⟩
abbrev rMaxA (K : PySem.W.Frag) : List V → Hp → VK → Prop := fun xs H Q => rMax K xs H Q ∨ rMaxT K xs H Q
abbrev rMinA (K : PySem.W.Frag) : List V → Hp → VK → Prop := fun xs H Q => rMin K xs H Q ∨ rMinT K xs H Q
theorem call_maxA (hc : X.calm = true) (hu : X.A.units + 64 < cLine) : CallR X (.builtin "max") (rMaxA X.K) := (cr_max hc).or (cr_maxT hc hu)
theorem call_minA (hc : X.calm = true) (hu : X.A.units + 64 < cLine) : CallR X (.builtin "min") (rMinA X.K) := (cr_min hc).or (cr_minT hc hu)
def best (f : Int → Int → Int) : List Int → Option D
  | [] => none
  | n :: ns => some (.int (ns.foldl f n))
def dMax1 : List D → Option T
  | [d] => match items d with
    | some ds => ((intsOf ds).bind (best max)).map .im
    | none => none
  | _ => none
def dMin1 : List D → Option T
  | [d] => match items d with
    | some ds => ((intsOf ds).bind (best min)).map .im
    | none => none
  | _ => none
theorem dMax1_tup (n : Int) (ns : List Int) : dMax1 [.tup ((n :: ns).map D.int)] = some (.im (.int (ns.foldl max n))) := by
  show ((intsOf ((n :: ns).map D.int)).bind (best max)).map T.im = _
  rw [intsOf_map]
  rfl
theorem dMin1_lst (n : Int) (ns : List Int) : dMin1 [.lst ((n :: ns).map D.int)] = some (.im (.int (ns.foldl min n))) := by
  show ((intsOf ((n :: ns).map D.int)).bind (best min)).map T.im = _
  rw [intsOf_map]
  rfl
theorem d_max1 : CallD c (rMaxA c.K) dMax1 := by
  intro L σ H env xs ds t Q re hx e k
  unfold dMax1 at e
  split at e
  · rename_i d
    obtain ⟨v, rfl, r⟩ := hx.one
    cases q : items d with
    | none => rw [q] at e; cases e
    | some es =>
      rw [q] at e
      obtain ⟨b, e1, rfl⟩ := Option.map_eq_some_iff.mp e
      obtain ⟨ns, e2, e3⟩ := Option.bind_eq_some_iff.mp e1
      obtain ⟨a, ys, rfl, h, rs⟩ := r.seq q
      rw [intsOf_is e2] at rs
      rw [rs.ints] at h
      cases ns with
      | nil => cases e3
      | cons n ns =>
        cases e3
        rcases h with h | h
        · exact .inl ⟨a, n :: ns, rfl, h, by simp, fun m h1 h2 => by rw [fold_max_eq h1 h2]; exact k _ H re .refl (.int _)⟩
        · exact .inr ⟨a, n, ns, rfl, h, k _ H re .refl (.int _)⟩
  · cases e
theorem d_min1 : CallD c (rMinA c.K) dMin1 := by
  intro L σ H env xs ds t Q re hx e k
  unfold dMin1 at e
  split at e
  · rename_i d
    obtain ⟨v, rfl, r⟩ := hx.one
    cases q : items d with
    | none => rw [q] at e; cases e
    | some es =>
      rw [q] at e
      obtain ⟨b, e1, rfl⟩ := Option.map_eq_some_iff.mp e
      obtain ⟨ns, e2, e3⟩ := Option.bind_eq_some_iff.mp e1
      obtain ⟨a, ys, rfl, h, rs⟩ := r.seq q
      rw [intsOf_is e2] at rs
      rw [rs.ints] at h
      cases ns with
      | nil => cases e3
      | cons n ns =>
        cases e3
        rcases h with h | h
        · exact .inl ⟨a, n :: ns, rfl, h, by simp, fun m h1 h2 => by rw [fold_min_eq h1 h2]; exact k _ H re .refl (.int _)⟩
        · exact .inr ⟨a, n, ns, rfl, h, k _ H re .refl (.int _)⟩
  · cases e
end
end DL
namespace DL
open PySem PySem.Spec L2
section
variable {X : Cx} {c : Cc} {W : WX} {pos : Pos} {cnd : Expr} {body : List Stmt} {ft : FT} {f : FS}
end
def iV (t : T) (env : En) : R Wk := match t with
  | .im (.tup ds) => .ok ⟨ds.reverse, none⟩ env
  | .ft cs => .ok ⟨(cs.map Cp.d).reverse, none⟩ env
  | _ => .er
def fiV (fa : FE) : FI := fun env => (fa env).bind iV
theorem src_revT {c : Cc} {A : (Addr → Prop) → Prop} {S : Sp0} {a : Addr} {ds : List D} (hl : ∀ L σ H env, A L → RE c L σ H env → S σ env H → ∃ xs, SqT c.K H a xs ∧ Reps c.K (Av L σ env) H xs ds) : Src c A S (RT.ItvT c.K a ds.length) ⟨ds.reverse, none⟩ := by
  refine ⟨fun L i σ H env al re s k hi => ?_, fun L i σ H env al re s k hi => ?_, fun L i σ H env x H' d al re s k hd hy => ?_⟩
  · dsimp only at hi
    rw [List.length_reverse] at hi
    exact hi
  · dsimp only at hi
    rw [List.length_reverse] at hi
    obtain ⟨xs, h, rs⟩ := hl L σ H env al re s
    have hi' : ds.length - 1 - i < xs.length := by rw [rs.length]; omega
    exact ⟨hi, xs, xs[ds.length - 1 - i], h, List.getElem?_eq_getElem hi'⟩
  · obtain ⟨rfl, hy⟩ := hy
    dsimp only at hd
    have hi : i < ds.length := by
      have := (List.getElem?_eq_some_iff.mp hd).1
      rwa [List.length_reverse] at this
    rw [List.getElem?_reverse hi] at hd
    obtain ⟨xs, h, rs⟩ := hl L σ H' env al re s
    obtain ⟨v, ev, rv⟩ := rs.get hd
    have := hy xs h
    rw [ev] at this
    cases this
    exact ⟨fun _ _ e => e, rv⟩
section
variable {X : Cx} {c : Cc} {W : WX} {pos p : Pos} {e tg a b : Expr} {fa : FE} {fas : FA}
theorem di_rev (hg : Gl X "reversed") (hm : X.mg "reversed" = none) (he : PE X e (dE c W fa)) (hK : c.K = X.K := by rfl) (hs : starEach [e] X.env = (false, eval e X.env) :: starEach [] X.env := by rfl) : PI X tg (.Call (.Name "reversed" p) [e] [] pos) (dI c W (fiV fa)) := PIw (RT.pi_revA hg hm he hs) fun σ H R h => by
  obtain ⟨env, L, r, h⟩ := h
  refine dE.of r (h.bind.mono fun t e1 H1 r1 s1 h1 v q => ?_)
  rw [← hK]
  have key : ∀ ds : List D, Rep c.K (Av L σ e1) H1 v (.tup ds) → (∀ J, (Wk.ok ⟨ds.reverse, none⟩ e1 ∧ Src c (Lx L H1) (Sw ⟨ds.reverse, none⟩ σ e1 H1) J ⟨ds.reverse, none⟩) → R J H1) → ∃ (a : Addr) (xs : List V), v = .ref a ∧ ((SqL c.K H1 a xs ∧ R (Itv c.K a xs.length) H1) ∨ (SqT c.K H1 a xs ∧ R (RT.ItvT c.K a xs.length) H1)) := fun ds q h1 => by
    cases q with
    | tup ht rs =>
      rename_i a xs
      refine ⟨a, xs, rfl, .inr ⟨ht, ?_⟩⟩
      rw [rs.length]
      exact h1 _ ⟨trivial, src_revT fun L2 σ' H' env' lx re s => ⟨xs, (r1.tk s.1).sqt ht, r1.reps s.1 (Reps.lx lx rs)⟩⟩
  cases t with
  | al i => exact h1.elim
  | fr ds => exact h1.elim
  | im d =>
    cases d with
    | tup ds => exact key ds q (h1 H1 r1 .refl)
    | non => exact h1.elim
    | bl b => exact h1.elim
    | int b => exact h1.elim
    | str b => exact h1.elim
    | lst b => exact h1.elim
    | fz b => exact h1.elim
    | dct _ _ => exact h1.elim
  | ft cs => exact key (cs.map Cp.d) q.wk (h1 H1 r1 .refl)
end
end DL
namespace DL
open PySem PySem.Spec L2
section
variable {X : Cx} {c : Cc}
end
section
variable {X : Cx} {c : Cc} {W : WX} {a : Expr} {fa : FE} {p p2 q pos : Pos}
end
def rCountD (K : PySem.W.Frag) : V → List V → Hp → VK → Prop := fun x xs H Q => ∃ (a : Addr) (ys : List V) (y : V) (d : PyData) (ds : List PyData), x = V.ref a ∧ xs = [y] ∧ SqL K H a ys ∧ DpAll K H ys ds ∧ Dp K H y d ∧
  PyData.plainAll ds = true ∧ d.plain = true ∧ d.depth ≤ 60 ∧ Q (.int ((ds.countP fun z => PyData.eqv z d : Nat) : Int)) H
theorem mt_countD {X : Cx} (hu : X.A.units + 65 < cLine) : MtR X "list.count" (rCountD X.K) := by
  intro pins s σ H x xs v us Q I rx rxs h
  obtain ⟨a, ys, y, d, ds, rfl, rfl, hl, hys, hy, pl, pd, hd, q⟩ := h
  cases rx
  cases rxs with
  | cons ry rt =>
    cases rt
    obtain ⟨bs, r1⟩ := Dp.reads I d y _ hy ry
    obtain ⟨its, rv, hl', hz⟩ := I.list hl
    obtain ⟨as, r2⟩ := Dp.readsAll I _ _ _ hys rv
    refine PySem.SeqAt.count_list_data hl'.isList r2 r1 pl pd ?_ ⟨.int _, H, I.tok _, ⟨_, rfl⟩, q⟩
    have : min (PyData.depthAll ds) d.depth ≤ d.depth := Nat.min_le_right _ _
    omega
end DL
namespace DL
open PySem PySem.Spec PyProof PyProof.Rows L2
def rvN (n : Nat) : Option Int → Nat
  | none => n
  | some i => (max (-1) (min (if i < 0 then i + (n : Int) else i) ((n : Int) - 1)) + 1).toNat
section
variable {prog : Program} {w : World} {A : Around} {E : Value → Shared → Prop} {s : Shared}
end
def rvV {α : Type} (xs : List α) (o : Option Int) : List α := (xs.take (rvN xs.length o)).reverse
section
variable {X : Cx} {e : Expr} {te : TE} {lo : Option Expr} {tl : TO} {k : Nat} {p1 p2 p3 pos : Pos}
end
def dRv (d : D) (o : Option Int) : Option T := match d with
  | .tup ds => some (.im (.tup (rvV ds o)))
  | .lst ds => some (.fr (rvV ds o))
  | _ => none
def rvT (t : T) (o : Option Int) (env : En) : R T := match t.val env with
  | some d => R.opt (dRv d o) env
  | none => .er
@[simp] theorem dRv_tup (ds : List D) (o : Option Int) : dRv (.tup ds) o = some (.im (.tup (rvV ds o))) := rfl
@[simp] theorem dRv_lst (ds : List D) (o : Option Int) : dRv (.lst ds) o = some (.fr (rvV ds o)) := rfl
def eRv (fa : FE) (fl : En → R (Option Int)) : FE := fun env => (fa env).bind fun t e1 => (fl e1).bind fun o e2 => rvT t o e2
@[simp] theorem eRv_s (fa : FE) (fl : En → R (Option Int)) (env : En) : eRv fa fl env = (fa env).bind fun t e1 => (fl e1).bind fun o e2 => rvT t o e2 := rfl
section
variable {X : Cx} {c : Cc} {W : WX} {a : Expr} {fa : FE} {fl : En → R (Option Int)} {lo : Option Expr} {k : Nat} {p1 p2 p3 pos : Pos}
theorem Reps.rv {K : PySem.W.Frag} {G : Addr → Prop} {H : Hp} {xs : List V} {ds : List D} (r : Reps K G H xs ds) (o : Option Int) : Reps K G H (rvV xs o) (rvV ds o) := by
  unfold rvV
  rw [r.length]
  exact (r.take _).reverse
end
end DL
namespace DL
open PySem PySem.Spec PyProof PyProof.Rows PySem.W L2
section
variable {prog : Program} {w : World} {A : Around} {E : Value → Shared → Prop} {s : Shared}
end
end DL
namespace DL
open PySem PySem.Spec PyProof.Rows L2
def ExcK (K : PySem.W.Frag) (mg : Str → Option Value) (x : Str) : Prop := ∃ C : Addr, mg x = some (.ref C) ∧ PySem.W.excIn K C [.type "ValueError", .type "Exception", .type "BaseException", .type "object"] "ValueError.__new__" = true ∧
  PySem.W.keepIn K (.ref C) = true ∧ PySem.W.subIn K (.ref C) (.type "BaseException") = some true ∧ PySem.W.typeIn K (.ref C) = some (.type "type")
def sRz (x : Str) : FS := fun env => .ex x env
@[simp] theorem sRz_s (x : Str) (env : En) : sRz x env = .ex x env := rfl
section
variable {X : Cx} {c : Cc} {W : WX}
theorem ds_raise {x m : Str} {j : Nat} {p p2 pos pos' : Pos} (hc : X.calm = true) (tk : Takes X W) (xk : ExcK X.K X.mg x) (hg : Gl X x) (hM : c.mg = X.mg := by rfl) (hdb : (x == ("__debug__" : Str)) = false := by decide) :
    PS X (.Raise (some (.Call (.Name x p) [.Constant (.str m) j p2] [] pos)) none pos') (dS c W (sRz x)) := by
  obtain ⟨C, gC, eC, kC, bC, tC⟩ := xk
  refine PSw (ps_raise hc tk (pmk_own PySem.F.excBase_ValueError eC gC kC (raises_own bC tC) hg hdb)) fun D σ H h => ?_
  obtain ⟨env, L, r, h⟩ := h
  exact h σ H r .refl C (by rw [hM]; exact gC)
end
open L2H in
structure FnX (P : Program) (w : World) (K : PySem.W.Frag) (mg : Str → Option Value) (base : Heap) (CX : CXT) (k : Nat) (f : Addr) (fd : FuncData) (ps : List Str) (sp : Addr × Obj → Sp) : Prop where
  len : ∀ p vs H Q E, sp p vs H Q E → vs.length = ps.length
  run : ∀ (A : Around) (outer : List Env) (s : Shared) (H : Hp) (args : Args) (us : List Value) (vs : List V) (Q : VK) (E : XK) (p : Addr × Obj), RoomH k A → PinOk outer H s p → Env0 P w K mg base A outer s H → BindsTo s fd args (ps.zip us) → Vals vs us → sp p vs H Q E →
    codeAny (model P w) A (.call (.ref f) args) (CR CX outer P w H s Q E) s
open L2H in
theorem fn_ofX {CX : CXT} {P : Program} {w : World} {K : PySem.W.Frag} {mg : Str → Option Value} {base : Heap} {k : Nat} {f : Addr} {name qual : Str} {params : Arguments} {body : List Stmt} {scope : Scope} {dV kV doc pm cdv ct oc : Value} {an od : Option Addr}
    {osl : Array (Option Value)} {N ps : List Str} {sp : Addr × Obj → Sp} (lk : K.lookup f = some ⟨oc, od, .func (PySem.W.fnOf name qual params body scope dV kV doc pm an cdv ct), osl⟩) (hcd : PySem.W.codeIn K cdv qual = true) (S : FnScope N ps scope)
    (len : ∀ p vs H Q E, sp p vs H Q E → vs.length = ps.length)
    (hbody : ∀ (A : Around) (outer : List Env) (s : Shared) (H : Hp) (vs : List V) (Q : VK) (E : XK) (p : Addr × Obj), RoomH k (A.deeper (envOfC qual scope s.heap.objs.size f cdv)) → sp p vs H Q E →
      ∃ t, PSs (cxH CX P w K mg base N qual scope f cdv A outer s H E p) body t ∧ t { nx := fun _ H' => Q .non H', rt := Q } (L2.start N vs) H) :
    FnX P w K mg base CX (k + 1) f (PySem.W.fnOf name qual params body scope dV kV doc pm an cdv ct) ps sp := by
  refine ⟨len, fun A outer s H args us vs Q E p hr hpin e0 hb r hsp => ?_⟩
  have hl := len _ _ _ _ _ hsp
  have KX : K.In s.heap := e0.mod.kin.keeps fun b o e => (e0.bs b o e).1
  have lim : s.heap.NoLimit := e0.mod.nolimit.keeps fun b o e => (e0.bs b o e).1
  have hkind : ∀ y ∈ ps.zip us, scope.names.lookup y.1 = some .local ∨ (scope.names.lookup y.1 = some .cell ∧ ((cellsFrom (s.heap.objs.size + 1) scope.names []).lookup y.1).isSome = true) := fun ⟨n, v⟩ hy => by
    rcases S.par n (List.of_mem_zip hy).1 with q | q
    · exact .inl q
    · exact .inr ⟨q, PySem.W.cellsFrom_some _ _ _ (.inl q)⟩
  refine codeAny_call_function hr.depth (KX _ _ lk) rfl S.co S.gen rfl (PySem.W.codeRec_of KX hcd) (hb _ _ _ _ ?_)
  refine wpAny_newFunctionEnv_cells S.kind hkind fun env he s1 x => ?_
  subst he
  refine ⟨lim.keeps x.toInCall.keep, codeAny_func ?_⟩
  obtain ⟨t, ht, hq⟩ := hbody A outer s H vs Q E p (hr.deeper _) hsp
  have I : Inv (cxH CX P w K mg base N qual scope f cdv A outer s H E p) [] (L2.start N vs) H s1 := inv_startH S hpin e0 hl r x
  refine wpAny_mono (ht.run [] s1 (L2.start N vs) H _ I hq) (fun fl s' hs => ?_) fun e s' hs => hs
  have fin : ∀ {σ' : L2.St} {H' : Hp} {v : V} {u : Value}, Inv (cxH CX P w K mg base N qual scope f cdv A outer s H E p) [] σ' H' s' → RelV v u → Q v H' → CE outer P w H s Q u s' :=
    fun {σ' H' v u} J rv q => ⟨v, H', J.os, J.bare, J.base, J.hok, rv, q⟩
  cases fl with
  | ret u =>
    obtain ⟨v, σ', H', J, rv, q⟩ := hs
    exact fin J rv q
  | next =>
    obtain ⟨σ', H', J, q⟩ := hs
    exact fin (v := V.non) (u := Value.none) J rfl q
  | brk =>
    obtain ⟨_, _, _, q⟩ := hs
    exact False.elim q
  | cont =>
    obtain ⟨_, _, _, q⟩ := hs
    exact False.elim q
section
variable {X : Cx} {CX : CXT} {k : Nat} {f C : Addr} {fd : FuncData} {ps : List Str} {sp : Addr × Obj → Sp} {E : L2.St → XK} {x m : Str} {q pos apos : Pos} {e o : Expr} {es : List Expr} {ta : TE} {t : TA}
open L2H in
theorem run_fnX {pins : List (Addr × Obj)} {σ : L2.St} {H : Hp} {s : Shared} {Q : VK} {us : List Value} {vs : List V} {p : Addr × Obj} (F : FnX X.prog X.w X.K X.mg X.base CX k f fd ps sp) (hr : RoomH k X.A) (hp : p ∈ X.pn) (hb : Binds X.K fd ps []) (hx : PassesAt CX X σ (E σ))
    (I : Inv X pins σ H s) (r : Vals vs us) (h : sp p vs H Q (E σ)) : wpAny (model X.prog X.w) X.A (call (.ref f) us) (EP X pins σ Q) X.xe s := by
  have hl : us.length = ps.length := by rw [← r.length]; exact F.len _ _ _ _ _ h
  have b := hb s us I.kIn (by rw [List.append_nil]; exact hl)
  rw [List.append_nil] at b
  have P1 := I.pin p (List.mem_append_left _ hp)
  have hpin : PinOk X.stack H s p := ⟨P1.1, P1.2.1, fun hm => (List.mem_cons.mp (I.stkSub p.1 hm)).elim P1.2.2.1 P1.2.2.2.1, P1.2.2.2.2⟩
  refine wpAny_call (codeAny_mono (F.run X.A X.stack s H ⟨us, []⟩ us vs Q (E σ) p hr hpin I.env0 b r h) fun r s' hq => ?_)
  cases r with
  | error e => exact hx pins H s e s' I hq
  | ok fl =>
    cases fl with
    | ret u => exact I.after hq
    | next => exact False.elim hq
    | brk => exact False.elim hq
    | cont => exact False.elim hq
open L2H in
theorem pe_callX {p : Addr × Obj} (F : FnX X.prog X.w X.K X.mg X.base CX k f fd ps sp) (hr : RoomH k X.A) (hp : p ∈ X.pn) (hg : Gl X x) (hm : X.mg x = some (.ref f)) (hk : PySem.W.keepIn X.K (.ref f) = true) (hb : Binds X.K fd ps []) (hx : ∀ σ, PassesAt CX X σ (E σ))
    (ha : PA X (e :: es) t) (hdb : (x == ("__debug__" : Str)) = false := by decide) (he : starEach (e :: es) X.env = (false, eval e X.env) :: starEach es X.env := by rfl) (hpl : (backTo pos (starEach es X.env)).any (·.1) = false := by rfl) :
    PE X (.Call (.Name x q) (e :: es) [] pos) (tCallS (sp p) E t) := by
  refine ⟨fun pins s σ H Q I h => ?_⟩
  refine wpAny_Call_Name_kw (ld_glob I hg hm ?_ hdb)
  refine PySem.W.callWith_K (h₀ := X.base) I.ok.mod.kin hk (thn (ha.run pos pins s σ H _ I h) fun us s1 ⟨vs, H1, I1, r, q⟩ => ⟨I1.kIn, ?_⟩) he hpl
  exact run_fnX F hr hp hb (hx σ) I1 r q
end
theorem call_isX {X : Cx} {a D : Addr} {oe : Obj} (hp : (a, oe) ∈ X.pn) (C : ExcC X.K D) (hz : Zc (.ref D) none oe) (hf : ∃ vs, oe.data = .fields vs) : CallR X (.builtin "isinstance") (rIsE X.K D a) := by
  intro pins s σ H xs us Q I r h
  obtain ⟨c, cv, b, rfl, hcv, e, q⟩ := h
  cases r with
  | cons rx rr =>
    cases rr with
    | cons rt rr =>
      cases rr
      cases rx
      have ec := hcv _ rt
      subst ec
      obtain ⟨hget, _⟩ := I.pin (a, oe) (List.mem_append.mpr (.inl hp))
      obtain ⟨vs, hv⟩ := hf
      have J : PySem.W.InstAt s.heap a oe D none := by
        obtain ⟨oc, od, oda, osl⟩ := oe
        obtain ⟨h1, h2⟩ := hz
        dsimp only at h1 h2 hv
        subst h1 h2 hv
        exact ⟨hget, rfl, rfl, trivial⟩
      exact PySem.W.kia_one (PySem.W.handS_kitx_exc C.hg C.hk C.hs C.hd C.ha C.hn C.ht C.hm) I.kIn J e (fun z => nomatch z) fun tk => ⟨.bl b, H, I.kept (t' := tk) fun _ _ z => z, rfl, q⟩
end DL
namespace DL
open PySem PySem.Spec PyProof.Rows L2
def xn : List Str := ["InvalidShop", "InvalidBasket", "InvalidActs", "InvalidAct", "InvalidOffers", "InvalidKinds", "InvalidNumber", "Different", "NoFault", "NotThere", "NothingToUndo", "ParseError"]
structure XF (K : PySem.W.Frag) (P C : Addr) : Prop where
  cd : ∃ cd, PySem.W.clsIn K C = some cd ∧ cd.mro = [.ref C, .ref P, .type "ValueError", .type "Exception", .type "BaseException", .type "object"]
  ty : PySem.W.typeIn K (.ref C) = some (.type "type")
  hg : PySem.W.findIn K (.ref C) "__getattribute__" = some (some (.builtin "BaseException.__getattribute__"))
  hk : PySem.W.findIn K (.ref C) "__getattr__" = some none
  hd : PySem.W.hasDictIn K C = true
  ha : PySem.W.findIn K (.ref C) "__class__" = some (some (.builtin "object.__class__"))
inductive XFs (K : PySem.W.Frag) (mg : Str → Option Value) (P : Addr) : List Str → List Addr → Prop
  | nil : XFs K mg P [] []
  | cons {x C xs cs} (g : mg x = some (.ref C)) (f : XF K P C) (r : XFs K mg P xs cs) : XFs K mg P (x :: xs) (C :: cs)
theorem XFs.get {K : PySem.W.Frag} {mg : Str → Option Value} {P : Addr} : ∀ {xs : List Str} {cs : List Addr}, XFs K mg P xs cs → ∀ {j : Nat} {x : Str}, xs[j]? = some x → ∃ C, cs[j]? = some C ∧ mg x = some (.ref C) ∧ XF K P C
  | _, _, .nil, j, x, h => by simp at h
  | _, _, .cons g f r, 0, x, h => by simp at h; subst h; exact ⟨_, rfl, g, f⟩
  | _, _, .cons g f r, j + 1, x, h => by simpa using XFs.get r (by simpa using h)
structure Exn (K : PySem.W.Frag) (mg : Str → Option Value) (P : Addr) (cs : List Addr) : Prop where
  xs : XFs K mg P xn cs
  nd : (P :: cs).Nodup
  gP : mg "PriceError" = some (.ref P)
  bP : PySem.W.subIn K (.ref P) (.type "BaseException") = some true
  iP : PySem.W.isClsIn K P = true
  tP : PySem.W.typeIn K (.ref P) = some (.type "type")
  hn : PySem.W.specialIn K (.builtin "object.__class__") "__get__" = some (some (.builtin "getset_descriptor.__get__"))
  ht : PySem.W.takesIn K (.builtin "object.__class__") = some true
section
variable {K : PySem.W.Frag} {mg : Str → Option Value} {P C : Addr} {cs : List Addr}
theorem XFs.len : ∀ {xs : List Str} {cs : List Addr}, XFs K mg P xs cs → cs.length = xs.length
  | _, _, .nil => rfl
  | _, _, .cons _ _ r => congrArg (· + 1) (XFs.len r)
theorem XFs.at : ∀ {xs : List Str} {cs : List Addr}, XFs K mg P xs cs → ∀ {j : Nat} {C : Addr}, cs[j]? = some C → XF K P C
  | _, _, .nil, j, C, h => by simp at h
  | _, _, .cons _ f r, 0, C, h => by simp at h; subst h; exact f
  | _, _, .cons _ f r, j + 1, C, h => XFs.at r (by simpa using h)
theorem Exn.len (x : Exn K mg P cs) : cs.length = 12 := x.xs.len
theorem Exn.at (x : Exn K mg P cs) {j : Nat} {C : Addr} (h : cs[j]? = some C) : XF K P C := x.xs.at h
theorem XF.sub (f : XF K P C) (b : Value) : PySem.W.subIn K (.ref C) b = some ([Value.ref C, .ref P, .type "ValueError", .type "Exception", .type "BaseException", .type "object"].contains b) := by
  obtain ⟨cd, h1, h2⟩ := f.cd
  show PySem.W.mroIn K C b = _
  unfold PySem.W.mroIn
  rw [h1, Option.bind_some, h2]
  rfl
theorem XF.is (f : XF K P C) : PySem.W.isClsIn K C = true := by
  obtain ⟨cd, h1, h2⟩ := f.cd
  unfold PySem.W.isClsIn
  rw [h1]
  rfl
theorem Exn.excC (x : Exn K mg P cs) (f : XF K P C) : ExcC K C := ⟨f.hg, f.hk, by rw [f.sub]; rfl, f.hd, f.ha, x.hn, x.ht, by
  have := f.sub (.type "object")
  exact this.trans rfl⟩
theorem kitCls_ref {t : Value} {D : Addr} {b : Bool} (h1 : PySem.W.isClsIn K D = true) (h2 : PySem.W.typeIn K (.ref D) = some (.type "type")) (h3 : PySem.W.subIn K t (.ref D) = some b) : PySem.W.kitCls K t (.ref D) = some b := by
  show (if ((PySem.W.clsIn K D).isSome && PySem.W.typeIn K (.ref D) == some (.type "type")) = true then PySem.W.subIn K t (.ref D) else none) = some b
  have e1 : (PySem.W.clsIn K D).isSome = true := h1
  rw [e1, h2, if_pos (by rfl)]
  exact h3
theorem Exn.kit (x : Exn K mg P cs) {i j : Nat} {C D : Addr} (hi : cs[i]? = some C) (hj : cs[j]? = some D) (fC : XF K P C) (fD : XF K P D) : PySem.W.kitOne K (.ref C) (.ref D) = some (decide (i = j)) := by
  have hil := (List.getElem?_eq_some_iff.mp hi).1
  have hjl := (List.getElem?_eq_some_iff.mp hj).1
  have nd := x.nd
  rw [List.nodup_cons] at nd
  have np : (Value.ref P == Value.ref D) = false := Bool.eq_false_iff.mpr fun q => by
    have e := Value.ref.inj (beq_iff_eq.mp q)
    exact nd.1 (by rw [e]; exact List.mem_of_getElem? hj)
  unfold PySem.W.kitOne
  by_cases e : i = j
  · subst e
    rw [hi] at hj
    cases hj
    rw [if_pos (beq_self_eq_true _), decide_eq_true rfl]
  · have nc : (Value.ref C == Value.ref D) = false := Bool.eq_false_iff.mpr fun q => by
      have e' := Value.ref.inj (beq_iff_eq.mp q)
      subst e'
      exact e ((List.getElem?_inj hil nd.2).mp (hi.trans hj.symm))
    rw [if_neg (by rw [nc]; exact Bool.false_ne_true), decide_eq_false e]
    refine kitCls_ref fD.is fD.ty ?_
    rw [fC.sub]
    have n1 : (Value.ref D == Value.ref C) = false := by rw [BEq.comm]; exact nc
    have n2 : (Value.ref D == Value.ref P) = false := by rw [BEq.comm]; exact np
    simp only [List.contains_cons, n1, n2, Bool.false_or]
    rfl
theorem Exn.kitV (x : Exn K mg P cs) (fC : XF K P C) : PySem.W.kitOne K (.ref C) (.type "ValueError") = some true := by
  unfold PySem.W.kitOne
  have e : (Value.ref C == Value.type "ValueError") = false := rfl
  rw [e, if_neg Bool.false_ne_true]
  show (if PySem.W.kitMeta "ValueError" = true then PySem.W.subIn K (.ref C) (.type "ValueError") else none) = some true
  have m : PySem.W.kitMeta "ValueError" = true := by decide +kernel
  rw [if_pos m, fC.sub]
  have n1 : (Value.type "ValueError" == Value.ref C) = false := rfl
  have n2 : (Value.type "ValueError" == Value.ref P) = false := rfl
  simp only [List.contains_cons, n1, n2, Bool.false_or]
  rfl
theorem Exn.exm (x : Exn K mg P cs) (fC : XF K P C) : PySem.W.exmOne K (.ref C) (.ref P) = some true := by
  unfold PySem.W.exmOne
  rw [x.bP, if_pos (by rfl)]
  refine kitCls_ref x.iP x.tP ?_
  rw [fC.sub]
  simp
end
end DL
namespace DL
open PySem PySem.Spec PyProof.Rows L2
def spWhich (cs : List Addr) (p : Addr × Obj) : Sp := fun vs H Q E => vs = [.ref p.1] ∧ ∃ (C : Addr) (j : Nat), cs[j]? = some C ∧ Zc (.ref C) none p.2 ∧ (∃ vs, p.2.data = .fields vs) ∧
  ∀ t H', (∀ b o, H b = some o → H' b = some o) → H t = none → H' t = some (.tup [.str "raised", .int (j : Nat)]) → Q (.ref t) H'
theorem spWhich_len {cs : List Addr} : ∀ p vs H Q E, spWhich cs p vs H Q E → vs.length = ["_law_e"].length := fun p vs H Q E h => by
  rw [h.1]
  rfl
def tryE (i : Nat) (x : Str) (e : En) : Fl := if i < e.length then (match xn.idxOf? x with
  | some j => .rt (.im (.tup [.str "raised", .int (j : Nat)])) e
  | none => .er) else .er
def sTry (i : Nat) (f : FS) : FS := fun env => match f env with
  | .ex x e => tryE i x e
  | r => r
def tSuite (cs : List Addr) (i : Nat) : Addr → Value → Option Addr → TS := fun a cls d D σ H => ∃ (C : Addr) (j : Nat), cls = .ref C ∧ d = none ∧ cs[j]? = some C ∧ σ[i]? = some (some (.ref a)) ∧
  ∀ t H', (∀ b o, H b = some o → H' b = some o) → H t = none → H' t = some (.tup [.str "raised", .int (j : Nat)]) → D.rt (.ref t) H'
theorem xn_get {x : Str} {j : Nat} (h : xn.idxOf? x = some j) : xn[j]? = some x := by
  rw [List.idxOf?, List.findIdx?_eq_some_iff_getElem] at h
  obtain ⟨h1, h2, _⟩ := h
  rw [List.getElem?_eq_getElem h1]
  exact congrArg some (beq_iff_eq.mp h2)
section
variable {X : Cx} {c : Cc} {Wout : WX} {n : Str} {i k : Nat} {body : List Stmt} {np pos pos' q1 q2 q3 q4 : Pos} {f : FS} {P a : Addr} {cs : List Addr} {fd : FuncData}
theorem ds_try (FW : FnX X.prog X.w X.K X.mg X.base (L2.CX X.prog X.w) k a fd ["_law_e"] (spWhich cs)) (hr : L2H.RoomH k X.A) (hg : Gl X "_law_which") (hm : X.mg "_law_which" = some (.ref a)) (hk : PySem.W.keepIn X.K (.ref a) = true) (hb : Binds X.K fd ["_law_e"] [])
    (xs : Exn X.K X.mg P cs) (hgP : Gl X "PriceError") (hs : X.stack = X.env :: X.outer) (hf : X.env.frame = some X.env.locals) (hN : X.N.Nodup) (hi : X.N[i]? = some n) (hln : X.env.kindOf n = some .local) (hv : Vis X.env.scope n) (hd1 : (n == ("__debug__" : Str)) = false) (hd2 : (n == ("__classdict__" : Str)) = false)
    (tk : Takes X Wout) (hM : c.mg = X.mg)
    (hbd : ∀ (W : WX) (pn : List (Addr × Obj)) (xe : Value → Shared → Prop), Takes (X.tr pn xe) W → PassesOwn (model X.prog X.w) X.A X.env xe → PSs (X.tr pn xe) body (dS c W f)) :
    PS X (.Try body [.ExceptHandler (some (.Name "PriceError" np)) (some n) [.Return (some (.Call (.Name "_law_which" q1) [.Name n q2] [] q3)) q4] pos'] [] [] pos) (dS c Wout (sTry i f)) := by
  refine PSw (ps_try_as (c := .ref P) (tb := fun W => dS c W f) (ts := tSuite cs i) hs hf hN hi hln ⟨hgP, by decide, .inl xs.gP⟩ tk hbd (fun a' oe cls d pn hz hfd => ?_)) fun D σ H h => ?_
  · refine PSsw (pss_one (ps_ret (pe_callX (X := X.suite a' ((a', oe) :: pn)) (p := (a', oe)) (E := fun _ _ _ _ => False) FW ⟨hr.dp, hr.un⟩ List.mem_cons_self hg hm hk hb (fun σ pins H s e s' I cx => ?_) (pa_cons (pe_var hi hv hd1 hd2) pa_nil)))) fun D σ H h => ?_
    · obtain ⟨_, _, _, _, _, _, _, _, _, _, _, _, z⟩ := cx
      exact z.elim
    · obtain ⟨C, j, rfl, rfl, hj, hσ, q⟩ := h
      exact ⟨_, hσ, rfl, C, j, hj, hz, hfd, q⟩
  · obtain ⟨env, L, r, h⟩ := h
    refine dS.of r ?_
    unfold sTry at h
    cases e : f env with
    | er => rw [e] at h; exact h
    | nx e' => rw [e] at h; exact h
    | bk e' => rw [e] at h; exact h
    | ct e' => rw [e] at h; exact h
    | rt t e' => rw [e] at h; exact h
    | ex x e' =>
      rw [e] at h
      dsimp only [tryE] at h
      by_cases hl0 : i < e'.length
      case neg => rw [if_neg hl0] at h; exact h.elim
      rw [if_pos hl0] at h
      cases ej : xn.idxOf? x with
      | none => rw [ej] at h; exact h.elim
      | some j =>
        rw [ej] at h
        dsimp only at h
        intro σ' H' re st C hC
        obtain ⟨C', hc', g', f'⟩ := xs.xs.get (xn_get ej)
        rw [hM] at hC
        have eC : C' = C := by
          rw [g'] at hC
          exact Value.ref.inj (Option.some.inj hC)
        subst eC
        refine ⟨true, xs.exm f', fun _ a na => ⟨C', j, rfl, rfl, hc', ?_, fun t H'' kp nt et => ?_⟩, fun z => nomatch z⟩
        · exact List.getElem?_set_self (by rw [← re.len]; exact hl0)
        · exact h (.ref t) σ' H'' (re.grow kp) (st.trans (.grow kp)) (.tup (xs := [.str "raised", .int (j : Nat)]) (.inl (.inl et)) (.cons (.str _) (.cons (.int _) .nil)))
end
end DL
namespace DL
open PySem PySem.Spec L2
theorem bo_isinstance : bootBuiltins "isinstance" = some (.builtin "isinstance") := by decide +kernel
theorem bo_ValueError : bootBuiltins "ValueError" = some (.type "ValueError") := by decide +kernel
section
variable {K : PySem.W.Frag} {a C D1 D2 D3 : Addr} {b b1 b2 b3 : Bool} {σ : St} {H : Hp}
abbrev tI (K : PySem.W.Frag) (C a : Addr) (v : V) : TE := tCB (rIsE K C a) (tCons (tVar 0) (tCons (tC v) tNil))
theorem rd_is {Q : VK} {v : V} {u : Value} (h0 : σ[0]? = some (some (.ref a))) (hv : ∀ w, RelV v w → w = u) (hk : PySem.W.kitOne K (.ref C) u = some b) (q : Q (.bl b) H) : tI K C a v σ H Q :=
  ⟨_, h0, _, u, b, rfl, hv, hk, q⟩
theorem rel_me {D : Addr} : RelV (.ref D) (.ref D) := rfl
theorem rel_ref {D : Addr} : ∀ w, RelV (.ref D) w → w = .ref D := fun w h => h
theorem rd_list3 {Q : VK} (h0 : σ[0]? = some (some (.ref a))) (k1 : PySem.W.kitOne K (.ref C) (.ref D1) = some b1) (k2 : PySem.W.kitOne K (.ref C) (.ref D2) = some b2) (k3 : PySem.W.kitOne K (.ref C) (.ref D3) = some b3)
    (q : ∀ p, H p = none → Q (.ref p) (upd H p (.lst ([b1, b2, b3].map V.bl)))) : tLst (tCons (tI K C a (.ref D1)) (tCons (tI K C a (.ref D2)) (tCons (tI K C a (.ref D3)) tNil))) σ H Q :=
  rd_is h0 rel_ref k1 (rd_is h0 rel_ref k2 (rd_is h0 rel_ref k3 ⟨by show (3 : Nat) ≤ sizeLine; decide, q⟩))
theorem rd_ext3 {Q : VK} {l : Addr} {bs : List Bool} (h0 : σ[0]? = some (some (.ref a))) (h1 : σ[1]? = some (some (.ref l))) (hl : H l = some (.lst (bs.map V.bl))) (hb : bs.length ≤ 100) (k1 : PySem.W.kitOne K (.ref C) (.ref D1) = some b1) (k2 : PySem.W.kitOne K (.ref C) (.ref D2) = some b2) (k3 : PySem.W.kitOne K (.ref C) (.ref D3) = some b3)
    (q : ∀ H', (∀ b o, b ≠ l → H b = some o → H' b = some o) → H' l = some (.lst ((bs ++ [b1, b2, b3]).map V.bl)) → Q .non H') :
    tBM K "list" rExtend (tVar 1) (tCons (tLst (tCons (tI K C a (.ref D1)) (tCons (tI K C a (.ref D2)) (tCons (tI K C a (.ref D3)) tNil)))) tNil) σ H Q := by
  refine ⟨V.ref l, h1, Or.inl ⟨rfl, _, SqL.of hl⟩, rd_list3 h0 k1 k2 k3 fun p np => ?_⟩
  have ne : l ≠ p := ne_of_none hl np
  refine ⟨l, p, _, _, rfl, rfl, by rw [upd_ne ne]; exact hl, upd_same, ?_, ?_⟩
  · rw [List.length_map, List.length_map]
    refine Nat.le_trans (show bs.length + 3 ≤ 103 from Nat.add_le_add_right hb 3) (line6 (by decide))
  · rw [← List.map_append]
    refine q _ (fun b o nb e => ?_) upd_same
    rw [upd_ne nb, upd_ne (ne_of_none e np)]
    exact e
theorem reps_bls {G : Addr → Prop} : ∀ bs : List Bool, Reps K G H (bs.map V.bl) (bs.map D.bl)
  | [] => .nil
  | b :: bs => .cons (.bl b) (reps_bls bs)
theorem plain_bls : ∀ bs : List Bool, PyData.plainAll (toPs (bs.map D.bl)) = true
  | [] => rfl
  | b :: bs => plain_bls bs
theorem rd_count {Q : VK} {l : Addr} {bs : List Bool} (h1 : σ[1]? = some (some (.ref l))) (hl : H l = some (.lst (bs.map V.bl))) (q : Q (.int (bs.countP id : Nat)) H) :
    tBM K "list" (rCountD K) (tVar 1) (tCons (tC (.bl true)) tNil) σ H Q := by
  refine ⟨V.ref l, h1, Or.inl ⟨rfl, _, SqL.of hl⟩, l, bs.map V.bl, .bl true, .bool true, toPs (bs.map D.bl), rfl, rfl, .of hl, Reps.dp (G := fun _ => True) (reps_bls bs) (plain_bls bs), .bl true, plain_bls bs, rfl, by decide, ?_⟩
  have e : (toPs (bs.map D.bl)).countP (fun z => PyData.eqv z (.bool true)) = bs.countP id := by
    rw [toPs_map, List.map_map, List.countP_map]
    refine List.countP_congr fun b _ => ?_
    cases b <;> decide
  rw [e]
  exact q
theorem rd_index {Q : VK} {l : Addr} {bs : List Bool} {j : Nat} (h1 : σ[1]? = some (some (.ref l))) (hl : H l = some (.lst (bs.map V.bl))) (hs : SeqAt.shaped (.list (toPs (bs.map D.bl))) = true) (hj : bs[j]? = some true) (hm : ∀ m, m < j → bs[m]? = some true → False) (q : Q (.int (j : Nat)) H) :
    tBM K "list" (rIndexD K) (tVar 1) (tCons (tC (.bl true)) tNil) σ H Q := by
  refine ⟨V.ref l, h1, Or.inl ⟨rfl, _, SqL.of hl⟩, l, .bl true, .bool true, toPs (bs.map D.bl), j, .bool true, rfl, rfl, .lst (.of hl) (Reps.dp (G := fun _ => True) (reps_bls bs) (plain_bls bs)), .bl true, hs, by decide, ?_, by decide, fun m z' hm' hz => ?_, q⟩
  · rw [toPs_map, List.map_map, List.getElem?_map, hj]
    rfl
  · rw [toPs_map, List.map_map, List.getElem?_map] at hz
    obtain ⟨b, e1, rfl⟩ := Option.map_eq_some_iff.mp hz
    cases b with
    | true => exact (hm m hm' e1).elim
    | false => decide
end
def wbs (j : Nat) : List Bool := [decide (j = 0), decide (j = 1), decide (j = 2), decide (j = 3), decide (j = 4), decide (j = 5), decide (j = 6), decide (j = 7), decide (j = 8), decide (j = 9), decide (j = 10), decide (j = 11)]
theorem wbs_ok {j : Nat} (h : j < 12) : (wbs j).countP id = 1 ∧ SeqAt.shaped (.list (toPs ((wbs j).map D.bl))) = true ∧ (wbs j)[j]? = some true ∧ ∀ m, m < j → (wbs j)[m]? = some true → False := by
  have : ∀ j : Fin 12, (wbs j.1).countP id = 1 ∧ SeqAt.shaped (.list (toPs ((wbs j.1).map D.bl))) = true ∧ (wbs j.1)[j.1]? = some true ∧ ∀ m : Fin 12, m.1 < j.1 → (wbs j.1)[m.1]? = some true → False := by decide +kernel
  obtain ⟨h1, h2, h3, h4⟩ := this ⟨j, h⟩
  exact ⟨h1, h2, h3, fun m hm e => h4 ⟨m, Nat.lt_trans hm h⟩ hm e⟩
section
variable {K : PySem.W.Frag} {a C c0 c1 c2 c3 c4 c5 c6 c7 c8 c9 c10 c11 : Addr} {j : Nat} {H : Hp}
theorem rd_asg {te : TE} {r : TS} {D : Ends} {σ : L2.St} {i : Nat} (h : te σ H fun x H1 => r D (σ.set i (some x)) H1) : tSeq (tAsg te (gName i)) r D σ H := h
theorem rd_drop {te : TE} {r : TS} {D : Ends} {σ : L2.St} (h : te σ H fun _ H1 => r D σ H1) : tSeq (tDrop te) r D σ H := h
theorem rd_if2 {tc : TE} {t2 : TT} {u r : TS} {D : Ends} {σ : L2.St} (h : tc σ H fun x H1 => scal x (.int 1) = true ∧ ∃ k, V.bl (!decide (x = .int 1)) = .bl k ∧ (if k = true then (if true = true then u { D with nx := r D } σ H1 else r D σ H1) else t2 σ H1 fun c H2 => if (!c) = true then u { D with nx := r D } σ H2 else r D σ H2)) :
    tSeq (tIfS (tOr (tTest (tOp rNe tc (tC (V.int 1)))) (tNot t2)) u tNext) r D σ H := h
theorem rd_ret2 {ti : TE} {D : Ends} {σ : L2.St} {x : Str} (h : ti σ H fun y H1 => (2 : Nat) ≤ sizeLine ∧ ∀ p, H1 p = none → D.rt (.ref p) (upd H1 p (.tup [.str x, y]))) : tRet (tTup (tCons (tC (V.str x)) (tCons ti tNil))) D σ H := h
theorem which_reading {D : Ends} {u : TS} (hlen : j < 12)
    (k0 : PySem.W.kitOne K (.ref C) (.ref c0) = some (decide (j = 0))) (k1 : PySem.W.kitOne K (.ref C) (.ref c1) = some (decide (j = 1))) (k2 : PySem.W.kitOne K (.ref C) (.ref c2) = some (decide (j = 2)))
    (k3 : PySem.W.kitOne K (.ref C) (.ref c3) = some (decide (j = 3))) (k4 : PySem.W.kitOne K (.ref C) (.ref c4) = some (decide (j = 4))) (k5 : PySem.W.kitOne K (.ref C) (.ref c5) = some (decide (j = 5)))
    (k6 : PySem.W.kitOne K (.ref C) (.ref c6) = some (decide (j = 6))) (k7 : PySem.W.kitOne K (.ref C) (.ref c7) = some (decide (j = 7))) (k8 : PySem.W.kitOne K (.ref C) (.ref c8) = some (decide (j = 8)))
    (k9 : PySem.W.kitOne K (.ref C) (.ref c9) = some (decide (j = 9))) (k10 : PySem.W.kitOne K (.ref C) (.ref c10) = some (decide (j = 10))) (k11 : PySem.W.kitOne K (.ref C) (.ref c11) = some (decide (j = 11)))
    (kV : PySem.W.kitOne K (.ref C) (.type "ValueError") = some true)
    (q : ∀ t H', (∀ b o, H b = some o → H' b = some o) → H t = none → H' t = some (.tup [.str "raised", .int (j : Nat)]) → D.rt (.ref t) H') :
    tSeq (tAsg (tLst (tCons (tI K C a (.ref c0)) (tCons (tI K C a (.ref c1)) (tCons (tI K C a (.ref c2)) tNil)))) (gName 1))
      (tSeq (tDrop (tBM K "list" rExtend (tVar 1) (tCons (tLst (tCons (tI K C a (.ref c3)) (tCons (tI K C a (.ref c4)) (tCons (tI K C a (.ref c5)) tNil)))) tNil)))
      (tSeq (tDrop (tBM K "list" rExtend (tVar 1) (tCons (tLst (tCons (tI K C a (.ref c6)) (tCons (tI K C a (.ref c7)) (tCons (tI K C a (.ref c8)) tNil)))) tNil)))
      (tSeq (tDrop (tBM K "list" rExtend (tVar 1) (tCons (tLst (tCons (tI K C a (.ref c9)) (tCons (tI K C a (.ref c10)) (tCons (tI K C a (.ref c11)) tNil)))) tNil)))
      (tSeq (tIfS (tOr (tTest (tOp rNe (tBM K "list" (rCountD K) (tVar 1) (tCons (tC (V.bl true)) tNil)) (tC (V.int 1)))) (tNot (tB (tI K C a (V.ty "ValueError"))))) u tNext)
        (tRet (tTup (tCons (tC (V.str "raised")) (tCons (tBM K "list" (rIndexD K) (tVar 1) (tCons (tC (V.bl true)) tNil)) tNil))))))))
      D (L2.start ["_law_e", "_law_own"] [V.ref a]) H := by
  refine rd_asg (rd_list3 (σ := [some (.ref a), none]) (H := H) (a := a) rfl k0 k1 k2 fun l nl => ?_)
  refine rd_drop (rd_ext3 (σ := [some (.ref a), some (.ref l)]) (a := a) (l := l) (bs := [decide (j = 0), decide (j = 1), decide (j = 2)]) rfl rfl upd_same (by show (3 : Nat) ≤ 100; decide) k3 k4 k5 fun H1 kp1 e1 => ?_)
  refine rd_drop (rd_ext3 (σ := [some (.ref a), some (.ref l)]) (a := a) (l := l) rfl rfl e1 (by show (6 : Nat) ≤ 100; decide) k6 k7 k8 fun H2 kp2 e2 => ?_)
  refine rd_drop (rd_ext3 (σ := [some (.ref a), some (.ref l)]) (a := a) (l := l) rfl rfl e2 (by show (9 : Nat) ≤ 100; decide) k9 k10 k11 fun H3 kp3 e3 => ?_)
  obtain ⟨w1, w2, w3, w4⟩ := wbs_ok hlen
  have kp : ∀ b o, H b = some o → H3 b = some o := fun b o e => by
    have nb : b ≠ l := ne_of_none e nl
    exact kp3 b o nb (kp2 b o nb (kp1 b o nb (by rw [upd_ne nb]; exact e)))
  have cnt : ∀ Q : VK, Q (.int 1) H3 → tBM K "list" (rCountD K) (tVar 1) (tCons (tC (V.bl true)) tNil) [some (.ref a), some (.ref l)] H3 Q := fun Q h =>
    rd_count (σ := [some (.ref a), some (.ref l)]) (l := l) (bs := wbs j) rfl e3 (by rw [w1]; exact h)
  refine rd_if2 (cnt _ ⟨rfl, _, rfl, ?_⟩)
  show if false = true then _ else _
  rw [if_neg Bool.false_ne_true]
  refine rd_is (σ := [some (.ref a), some (.ref l)]) (a := a) (b := true) rfl (fun w h => h) kV ?_
  refine ⟨true, rfl, ?_⟩
  show if false = true then _ else _
  rw [if_neg Bool.false_ne_true]
  refine rd_ret2 ?_
  refine rd_index (σ := [some (.ref a), some (.ref l)]) (l := l) (bs := wbs j) (j := j) rfl e3 w2 w3 w4 ?_
  refine ⟨by show (2 : Nat) ≤ sizeLine; decide, fun t nt => ?_⟩
  refine q t _ (fun b o e => ?_) ?_ upd_same
  · rw [upd_ne (ne_of_none (kp b o e) nt)]; exact kp b o e
  · cases e : H t with
    | none => rfl
    | some o => rw [kp t o e] at nt; cases nt
end
end DL
namespace DL
open PySem PySem.Spec L2
section
variable {X : Cx} {c : Cc} {W : WX} {j : Nat} {st : Stmt} {rest a b : List Stmt} {f g : FS} {fa : FE} {ft : FT} {e : Expr} {pos : Pos}
theorem d_gT {n : Nat} {gs : FGs} {K : PySem.W.Frag} (hK : c.K = K) : ∀ v σ H Q, dG c (gT n gs) v σ H Q → gTup K n (dGs c gs) v σ H Q := fun v σ H Q h => by
  subst hK
  obtain ⟨env, L, N, t, r, q, h⟩ := h
  unfold gT at h
  cases ec : cpsOf t env with
  | none => rw [ec] at h; exact h.elim
  | some cs =>
    rw [ec] at h
    dsimp only at h
    by_cases hl : cs.length = n
    · rw [if_pos hl] at h
      cases t with
      | al i => cases ec
      | fr ds => cases ec
      | im d =>
        cases d with
        | tup ds =>
          cases ec
          cases (show Rep c.K (Av L σ env) H v (.tup ds) from q) with
          | tup hs rs =>
            rename_i a xs
            have conv : ∀ {xs : List V} {ds : List D}, Reps c.K (Av L σ env) H xs ds → RepC c.K (Av (Lu L []) σ env) H [] xs (ds.map fun d => ⟨false, d⟩) := fun {xs ds} r => by
              induction ds generalizing xs with
              | nil => cases r; exact .nil
              | cons d ds ih =>
                cases r with
                | cons r rs => exact .im (r.mono (.refl H) fun b ys g e => ⟨⟨fun z => z.elim g.1 (fun z => nomatch z), g.2⟩, e⟩) (ih rs)
            refine ⟨a, xs, rfl, hs, by rw [rs.length, ← hl, List.length_map], env, L, N, [], _, r.less (fun b z => z.elim id (fun z => nomatch z)), conv rs, (fun a z => nomatch z), h⟩
        | non => cases ec
        | bl b => cases ec
        | int b => cases ec
        | str b => cases ec
        | lst b => cases ec
        | fz b => cases ec
        | dct _ _ => cases ec
      | ft cs' =>
        cases ec
        obtain ⟨a, xs, As, rfl, hs, rc, n1, re⟩ := q
        have len : ∀ {G : Addr → Prop} {As vs cs}, RepC c.K G H As vs cs → vs.length = cs.length := fun {G As vs cs} r => by
          induction r with
          | nil => rfl
          | im _ _ ih => simp [ih]
          | fr _ _ _ _ ih => simp [ih]
        exact ⟨a, xs, rfl, hs, by rw [len rc, hl], env, L, N, As, _, re, rc, n1, h⟩
    · rw [if_neg hl] at h
      exact h.elim
end
section
variable {X : Cx} {c : Cc} {W : WX} {j : Nat} {pos p : Pos} {iter tg : Expr} {body : List Stmt} {fi : FI} {g : FG} {f : FS}
end
end DL
namespace DL
open PySem PySem.Spec L2
def strT (t : T) (k : Str → R T) : R T := match t with
  | .im (.str a) => k a
  | _ => .er
@[simp] theorem strT_s (a : Str) (k : Str → R T) : strT (.im (.str a)) k = k a := rfl
section
variable {X : Cx} {c : Cc} {W : WX} {pos : Pos} {fa fb : FE} {r : V → List V → Hp → VK → Prop}
end
def strsOf : List D → Option (List Str)
  | [] => some []
  | .str i :: ds => (strsOf ds).map (i :: ·)
  | _ => none
@[simp] theorem strsOf_map : ∀ ns : List Str, strsOf (ns.map D.str) = some ns
  | [] => rfl
  | n :: ns => by rw [List.map_cons]; unfold strsOf; rw [strsOf_map ns]; rfl
section
variable {X : Cx} {c : Cc} {W : WX} {pos apos : Pos} {o e : Expr} {fa fb : FE}
end
end DL
namespace DL
open PySem PySem.Spec L2 TL
end DL
namespace DL
open PySem PySem.Spec L2 PyProof.Rows
inductive FnsD (X : Cx) : List Expr → List V → List FD → Prop
  | nil : FnsD X [] [] []
  | cons {k : Nat} {f : Addr} {fd : FuncData} {ps : List Str} {x : Str} {p : Pos} {g : FD} {es : List Expr} {vs : List V} {gs : List FD} (F : FnOk X.prog X.w X.K X.mg X.base (L2.CX X.prog X.w) k f fd ps (spD X.K X.mg g)) (hr : Room k X.A) (hg : Gl X x) (hm : X.mg x = some (.ref f)) (hk : PySem.W.keepIn X.K (.ref f) = true) (hb : Binds X.K fd ps []) (r : FnsD X es vs gs)
    (hd : (x == ("__debug__" : Str)) = false := by decide) (hs : starEach (.Name x p :: es) X.env = (false, eval (.Name x p) X.env) :: starEach es X.env := by rfl) : FnsD X (.Name x p :: es) (.ref f :: vs) (g :: gs)
section
variable {X : Cx} {c : Cc} {W : WX} {pos p tp sp : Pos} {e b : Expr} {es ar : List Expr} {vs : List V} {gs : List FD} {fi : FE} {fa : FA} {x1 : Nat}
theorem FnsD.len : ∀ {es vs gs}, FnsD X es vs gs → vs.length = gs.length
  | _, _, _, .nil => rfl
  | _, _, _, .cons _ _ _ _ _ _ r _ _ => by simp [r.len]
def FnAt (X : Cx) (f : Addr) (g : FD) : Prop := ∃ (k : Nat) (fd : FuncData) (ps : List Str), FnOk X.prog X.w X.K X.mg X.base (L2.CX X.prog X.w) k f fd ps (spD X.K X.mg g) ∧ Room k X.A ∧ PySem.W.keepIn X.K (.ref f) = true ∧ Binds X.K fd ps []
theorem FnsD.get : ∀ {es vs gs}, FnsD X es vs gs → ∀ {n : Nat} {g : FD}, gs[n]? = some g → ∃ f, vs[n]? = some (.ref f) ∧ FnAt X f g
  | _, _, _, .nil, n, g, h => by simp at h
  | _, _, _, .cons F hr hg hm hk hb r hd hs, 0, g, h => by
    cases h
    exact ⟨_, rfl, _, _, _, F, hr, hk, hb⟩
  | _, _, _, .cons F hr hg hm hk hb r hd hs, n + 1, g, h => r.get (n := n) h
end
section
variable {X : Cx} {CX : CXT} {c : Cc} {W : WX} {pos p : Pos} {x : Str} {e : Expr} {es : List Expr} {fa : FA} {g : FD} {k : Nat} {f C : Addr} {fd : FuncData} {ps : List Str} {sp : Sp} {E : L2.St → XK} {t : TA}
end
end DL
namespace DL
open PySem PySem.Spec L2 PyProof.Rows CwR
section
variable {X : Cx} {c : Cc} {W : WX} {pos apos p c0 c1 : Pos} {o e f : Expr} {es : List Expr} {fa fb fe : FE} {fs fr : FA} {te : TE} {t t' : TA} {x : Str} {j k : Nat} {y z : Str}
end
end DL
namespace DL
open PySem PySem.Spec L2 PyProof.Rows
abbrev Ke := List (List Int × Addr × V)
abbrev KeV := List (List Int × Addr × Value)
abbrev Sames : Ke → KeV → Prop := Paired fun x y => x.1 = y.1 ∧ x.2.1 = y.2.1 ∧ RelV x.2.2 y.2.2
abbrev kdT (P : Program) (w : World) : HeapKind P w (List Int) := tupleKind (intKind P w)
theorem Sames.keys : ∀ {kvs : Ke} {ys : KeV}, Sames kvs ys → kvs.map (·.1) = ys.map (·.1)
  | _, _, .nil => rfl
  | _, _, .cons r t => by rw [List.map_cons, List.map_cons, r.1, Sames.keys t]
theorem Sames.snoc : ∀ {kvs : Ke} {ys : KeV}, Sames kvs ys → ∀ {k : List Int} {b : Addr} {v : V} {u : Value}, RelV v u → Sames (kvs ++ [(k, b, v)]) (ys ++ [(k, b, u)])
  | _, _, .nil, _, _, _, _, r => .cons ⟨rfl, rfl, r⟩ .nil
  | _, _, .cons q t, _, _, _, _, r => .cons q (Sames.snoc t r)
theorem Sames.mem : ∀ {kvs : Ke} {ys : KeV}, Sames kvs ys → ∀ y ∈ ys, ∃ x ∈ kvs, x.1 = y.1 ∧ x.2.1 = y.2.1
  | _, _, .nil, y, h => by cases h
  | _, _, .cons (a := a) (b := b) q t, y, h => by
    rcases List.mem_cons.mp h with rfl | h
    · exact ⟨a, List.mem_cons_self, q.1, q.2.1⟩
    · obtain ⟨x, hx, e⟩ := Sames.mem t y h
      exact ⟨x, List.mem_cons_of_mem _ hx, e⟩
theorem Sames.get {kvs : Ke} {ys : KeV} (h : Sames kvs ys) {i : Nat} {k : List Int} {b : Addr} {v : V} (e : kvs[i]? = some (k, b, v)) : ∃ u, ys[i]? = some (k, b, u) ∧ RelV v u := by
  obtain ⟨⟨k', b', u⟩, e1, e2, e3, e4⟩ := paired_get h e
  cases e2
  cases e3
  exact ⟨u, e1, e4⟩
def dcM (a : Addr) (kvs : Ke) : HO := .ext fun h => ∃ o, h.get? a = some o ∧ DcObj a o kvs
theorem dcM_ok {P : Program} {w : World} {H : Hp} {h : Heap} {a : Addr} {o : Obj} {kvs : Ke} (e : h.get? a = some o) (d : DcObj a o kvs) : ObjOk P w H h a (dcM a kvs) :=
  ⟨⟨o, e, d⟩, ⟨o, e⟩, fun h1 h2 x k => let ⟨o, q, d⟩ := x; ⟨o, k o q, d⟩⟩
section
variable {X : Cx} {pins : List (Addr × Obj)} {σ : L2.St} {H : Hp} {s : Shared} {a : Addr} {o : Obj} {kvs : Ke}
abbrev KeyT (K : PySem.W.Frag) (H : Hp) (kvs : Ke) : Prop := ∀ x ∈ kvs, SqT K H x.2.1 (x.1.map V.int)
theorem DcObj.dict (I : Inv X pins σ H s) (d : DcObj a o kvs) (e : s.heap.get? a = some o) (hq : KeyT X.K H kvs) : ∃ ys, Sames kvs ys ∧ s.heap.DictOfH (kdT X.prog X.w) a ys ∧ ys.length ≤ sizeLine := by
  obtain ⟨es, ep, ys, hd, hs, he⟩ := d.dat
  have hs : Sames kvs ys := hs
  refine ⟨ys, hs, ⟨o, es, ep, e, d.ex, hd, he, fun y hy => ?_, by rw [← hs.keys]; exact d.nd⟩, by rw [← Paired.length hs]; exact d.len⟩
  obtain ⟨x, hx, e1, e2⟩ := hs.mem y hy
  rw [← e1, ← e2]
  exact I.isT (hq x hx)
theorem DcObj.of {P : Program} {w : World} {h : Heap} {ys : KeV} (hm : h.DictOfH (kdT P w) a ys) (hs : Sames kvs ys) (sm : (a == sysModules) = false) (hl : kvs.length ≤ sizeLine) : ∃ o, h.get? a = some o ∧ DcObj a o kvs := by
  obtain ⟨o, es, ep, e, ex, hd, he, _, nd⟩ := hm
  exact ⟨o, e, sm, hl, ex, by rw [hs.keys]; exact nd, es, ep, ys, hd, hs, he⟩
theorem dcM_new (I : Inv X pins σ H s) : ObjOk X.prog X.w (upd H s.heap.objs.size (dcM s.heap.objs.size [])) (s.heap.push { cls := .type "dict", data := .dict #[] }) s.heap.objs.size (dcM s.heap.objs.size []) := by
  obtain ⟨o, e, d⟩ := DcObj.of (kvs := []) (Heap.DictOfH.new (knd := kdT X.prog X.w) s.heap) .nil (by
    have z := I.big
    exact beq_eq_false_iff_ne.mpr (Nat.ne_of_gt z)) (Nat.zero_le _)
  exact dcM_ok e d
theorem dcM_set {E : Value → Shared → Prop} {k : List Int} {b : Addr} {v : V} {u : Value} {Q : Unit → Shared → Prop} (I : Inv X pins σ H s) (ha : H a = some (dcM a kvs)) (hq : KeyT X.K H kvs) (hb : SqT X.K H b (k.map V.int)) (hn : k ∉ kvs.map (·.1)) (hz : kvs.length < sizeLine) (hu : X.A.units < cLine) (rv : RelV v u)
    (h : ∀ s', Inv X pins σ (upd H a (dcM a (kvs ++ [(k, b, v)]))) s' → Q () s') : wpAny (model X.prog X.w) X.A (dictSet a (.ref b) u) Q E s := by
  obtain ⟨⟨o, e, d⟩, _, _⟩ := (show ObjOk X.prog X.w H s.heap a (dcM a kvs) from I.hok a _ ha)
  obtain ⟨ys, hs, hm, hl⟩ := d.dict I e hq
  have hno : atKey ys k = none := by
    unfold atKey
    rw [Option.map_eq_none_iff, List.find?_eq_none]
    intro x hx z
    apply hn
    rw [hs.keys]
    exact List.mem_map.mpr ⟨x, hx, by simpa using z⟩
  refine wpAny_dictSet_heap (knd := kdT X.prog X.w) (k := k) hu (I.isT hb) hm (fun h' hm' sb => ?_) hl
  rw [storedH_new hno] at hm'
  obtain ⟨o', e', d'⟩ := DcObj.of hm' (hs.snoc rv) d.sm (by rw [List.length_append]; exact hz)
  exact h _ (d_write I (by rw [ha]; trivial) sb ⟨o', e'⟩ (dcM_ok e' d'))
theorem dcM_lock (I : Inv X pins σ H s) (ha : H a = some (dcM a kvs)) : ∃ o, DcObj a o kvs ∧ Inv X pins σ (upd H a (.frz o (dcM a kvs))) s := by
  obtain ⟨od, I'⟩ := I.lock ha trivial
  obtain ⟨e1, ⟨o, e2, d⟩, _, _⟩ := (show ObjOk X.prog X.w (upd H a (.frz od (dcM a kvs))) s.heap a (.frz od (dcM a kvs)) from I'.hok a _ upd_same)
  rw [e1] at e2
  cases e2
  exact ⟨od, d, I'⟩
theorem dc_at {u : HO} (I : Inv X pins σ H s) (ha : H a = some (.frz o u)) : s.heap.get? a = some o := (show ObjOk X.prog X.w H s.heap a (.frz o u) from I.hok a _ ha).1
theorem dc_get {E : Value → Shared → Prop} {u : HO} {k : List Int} {q b : Addr} {v : V} {Q : Value → Shared → Prop} (I : Inv X pins σ H s) (ha : H a = some (.frz o u)) (d : DcObj a o kvs) (hq : KeyT X.K H kvs) (hm : (k, q, v) ∈ kvs) (hb : SqT X.K H b (k.map V.int)) (hu : X.A.units + 1 < cLine)
    (h : ∀ w' s', Inv X pins σ H s' → RelV v w' → Q w' s') : wpAny (model X.prog X.w) X.A (getItem (.ref a) (.ref b)) Q E s := by
  obtain ⟨ys, hs, hd, hl⟩ := d.dict I (dc_at I ha) hq
  obtain ⟨i, hi⟩ := List.getElem?_of_mem hm
  obtain ⟨w', hw, r⟩ := hs.get hi
  have nd : (ys.map (·.1)).Nodup := by rw [← hs.keys]; exact d.nd
  have hp : atKey ys k = some (q, w') := by
    have key : ∀ (zs : KeV) (i : Nat), (zs.map (·.1)).Nodup → zs[i]? = some (k, q, w') → atKey zs k = some (q, w') := fun zs => by
      induction zs with
      | nil => intro i _ e; simp at e
      | cons z zs ih =>
        intro i n e
        rw [List.map_cons, List.nodup_cons] at n
        cases i with
        | zero =>
          rw [List.getElem?_cons_zero] at e
          cases e
          simp [atKey]
        | succ i =>
          rw [List.getElem?_cons_succ] at e
          have ne : ¬ z.1 = k := fun z' => n.1 (z' ▸ List.mem_map.mpr ⟨_, List.mem_of_getElem? e, rfl⟩)
          have q := ih i n.2 e
          unfold atKey at q ⊢
          rw [List.find?_cons, decide_eq_false ne]
          exact q
    exact key ys i nd hw
  refine wpAny_getItem_heap (knd := kdT X.prog X.w) (k := k) (tupleKind_room_in1 hu) (I.isT hb) hd hp ?_
  exact h w' _ (I.kept (t' := s.toks + (kdT X.prog X.w).draws k) fun b o e => e) r
end
end DL
namespace DL
open PySem PySem.Spec L2 PyProof.Rows
section
variable {X : Cx} {pos : Pos} {kx vx a b e : Expr} {tk tv ta tb te : TE}
def lockT (p : Addr) (kvs : Ke) (H : Hp) (Q : VK) : Prop := ∀ o, DcObj p o kvs → Q (.ref p) (upd H p (.frz o (dcM p kvs)))
def tDisp1 (K : PySem.W.Frag) (tk tv : TE) : TE := fun σ H Q => ∀ p, H p = none → tk σ (upd H p (dcM p [])) fun x H1 => tv σ H1 fun y H2 => H2 p = some (dcM p []) ∧ ∃ (c : Addr) (k : List Int), x = .ref c ∧ SqT K H2 c (k.map V.int) ∧ lockT p [(k, c, y)] H2 Q
theorem pe_disp1 (hu : X.A.units < cLine) (hk : PE X kx tk) (hv : PE X vx tv) : PE X (.Dict [some kx] [vx] pos) (tDisp1 X.K tk tv) := by
  refine ⟨fun pins s σ H Q I q => ?_⟩
  have new := dcM_new I
  have I1 := I.laid (a := s.heap.objs.size) (t' := s.toks) (fun _ _ z => Heap.get?_push_of_some _ z) (Nat.le_refl _) new
  have q := q _ (I.hok.fresh (Nat.le_refl s.heap.objs.size))
  have hsh := zip_pairTrees [some kx] [vx] X.env pos rfl rfl
  rw [arm_eval_Dict, hsh, dictDisplay_pairs (pairTrees [some kx] [vx] X.env pos) (by simp [pairTrees]) (by simp [pairTrees])]
  refine wpAny_bind (wpAny_standAt (wpAny_bind (wpAny_subDictH (knd := kdT X.prog X.w) (Q := fun d s' => wpAny (model X.prog X.w) X.A (pure (Value.ref d)) (EP X pins σ Q) X.xe s') hu (by show (1 : Nat) ≤ 15; decide) ?_)))
  refine pairTrees_cons_walk (thn (hk.run pins _ σ _ _ I1 q) fun u s1 ⟨x, H1, I2, rx, q1⟩ => thn (hv.run pins s1 σ H1 _ I2 q1) fun y s2 ⟨vy, H2, I3, ry, e2, c, k, ex, hc, q2⟩ => ?_)
  subst ex
  obtain rfl : u = Value.ref c := rx
  obtain ⟨⟨o, eo, d⟩, _, _⟩ := (show ObjOk X.prog X.w H2 s2.heap _ (dcM _ []) from I3.hok _ _ e2)
  obtain ⟨ys, hs, hm, hl⟩ := d.dict I3 eo (fun x hx => by cases hx)
  cases hs
  refine pairTrees_nil_walk ⟨[(k, c, y)], ⟨rfl, rfl, I3.isT hc, trivial⟩, hm, fun h' tk hm' sb => wpAny_pure ?_⟩
  obtain ⟨o', e', d'⟩ := DcObj.of (kvs := [(k, c, vy)]) hm' (.cons ⟨rfl, rfl, ry⟩ .nil) d.sm (by show (1 : Nat) ≤ sizeLine; rw [sizeLine_eq]; decide)
  have I4 := d_write (t' := tk) I3 (by rw [e2]; trivial) sb ⟨o', e'⟩ (dcM_ok e' d')
  obtain ⟨od, dd, I5⟩ := dcM_lock I4 upd_same
  rw [upd_upd] at I5
  exact ⟨.ref s.heap.objs.size, _, I5, rfl, q2 od dd⟩
def DcAt (K : PySem.W.Frag) (H : Hp) (a : Addr) (o : Obj) (kvs : Ke) : Prop := (∃ u, H a = some (.frz o u)) ∧ DcObj a o kvs ∧ KeyT K H kvs
def tDIx (K : PySem.W.Frag) (ta tb : TE) : TE := fun σ H Q => ta σ H fun x H1 => tb σ H1 fun y H2 => ∃ a o kvs k q b v, x = .ref a ∧ y = .ref b ∧ DcAt K H2 a o kvs ∧ (k, q, v) ∈ kvs ∧ SqT K H2 b (k.map V.int) ∧ Q v H2
theorem pe_dix (hu : X.A.units + 1 < cLine) (ha : PE X a ta) (hb : PE X b tb) (hs : NoSl b) : PE X (.Subscript a b pos) (tDIx X.K ta tb) := by
  refine ⟨fun pins s σ H Q I h => ?_⟩
  refine subD_of PySem.F.slot_dict_getitem.lookup hs (thn (ha.run pins s σ H _ I h) fun u s1 ⟨x, H1, I1, rx, q1⟩ => thn (hb.run pins s1 σ H1 _ I1 q1) fun w2 s2 ⟨y, H2, I2, ry, p, o, kvs, k, q, c, v, ex, ey, ⟨⟨u2, hp⟩, dd, hq⟩, hm, hc, q2⟩ => ?_)
  subst ex ey
  obtain rfl : u = Value.ref p := rx
  obtain rfl : w2 = Value.ref c := ry
  exact ⟨⟨o, dc_at I2 hp, dd.ex.1⟩, dc_get I2 hp dd hq hm hc hu fun w' s3 I3 rw' => ⟨v, H2, I3, rw', q2⟩⟩
end
def ItD (K : PySem.W.Frag) (d : Addr) (o : Obj) (kvs : Ke) : It :=
  ⟨fun i H => DcAt K H d o kvs ∧ i < kvs.length, fun i H x H' => ∃ T k q v, kvs[i]? = some (k, q, v) ∧ x = .ref T ∧ H T = none ∧ H' = upd H T (.tup [.ref q, v]), fun i H => DcAt K H d o kvs ∧ kvs.length ≤ i⟩
section
variable {P : Program} {w : World} {K : PySem.W.Frag} {d : Addr} {o : Obj} {kvs : Ke}
theorem dc_raw {X : Cx} {pins : List (Addr × Obj)} {σ : L2.St} {H : Hp} {s : Shared} {es : Array DictEntry} {ep : Nat} (I : Inv X pins σ H s) (h : DcAt X.K H d o kvs) (hod : o.data = .dict es ep) :
    s.heap.DictRaw d es ep ∧ es.size = kvs.length ∧ ∀ (i : Nat) (hi : i < es.size) (k : List Int) (q : Addr) (v : V), kvs[i]? = some (k, q, v) → es[i].key = .ref q ∧ RelV v es[i].val := by
  obtain ⟨⟨u, hd⟩, dd, hq⟩ := h
  obtain ⟨es', ep', ys, hd', hs, he⟩ := dd.dat
  have hs : Sames kvs ys := hs
  obtain ⟨rfl, rfl⟩ := dict_ep hd' hod
  have l1 : es.size = ys.length := by rw [← Array.length_toList, he, List.length_map]
  refine ⟨⟨o, dc_at I hd, dd.ex, hod⟩, by rw [l1, Paired.length hs], fun i hi k q v e => ?_⟩
  obtain ⟨y, hy, r⟩ := hs.get e
  have z : es[i]? = some (entT (k, q, y)) := by rw [← Array.getElem?_toList, he, List.getElem?_map, hy]; rfl
  rw [Array.getElem?_eq_getElem hi] at z
  rw [Option.some.inj z]
  exact ⟨rfl, r⟩
theorem turn_itD {elts : List Expr} {kk : Nat} {tpos : Pos} {es : Array DictEntry} {ep : Nat} (it : Addr) (hod : o.data = .dict es ep) : Turn P w K (.Tuple elts kk tpos) (ItD K d o kvs) [it] it (fun i h => ∃ ok ov, IsItemIter h it d i es.size ep ok ov) where
  mem := List.mem_singleton.mpr rfl
  obj := fun i h ⟨ok, ov, e⟩ b hb => by
    rw [List.mem_singleton.mp hb]
    exact ⟨_, e, fun v z => nomatch z⟩
  keep := fun i h h' ⟨ok, ov, e⟩ k => ⟨ok, ov, k it (List.mem_singleton.mpr rfl) _ e⟩
  item := by
    intro X hP hw hK hc i pins s σ H E I hf st hg
    subst hP hw hK
    obtain ⟨hd, hi⟩ := hg
    obtain ⟨raw, sz, ent⟩ := dc_raw I hd hod
    obtain ⟨ok, ov, he⟩ := st
    have hi' : i < es.size := by omega
    obtain ⟨k, q, v⟩ := id kvs[i]
    have hx : kvs[i]? = some kvs[i] := List.getElem?_eq_getElem hi
    obtain ⟨ek, rv⟩ := ent i hi' kvs[i].1 kvs[i].2.1 kvs[i].2.2 hx
    have hlt : it < s.heap.objs.size := Heap.lt_size he
    refine wpAny_pyNext_items_item_raw he raw hi' fun h1 ho hT hz hk => ⟨_, rfl, wpAny_letOwnedTupleGo_items (s := { s with heap := h1 }) ho fun h2 he2 sb => ?_⟩
    have T2 : h2.get? s.heap.objs.size = some { cls := .type "tuple", data := .seq #[es[i].key, es[i].val] } := (sb.2 _ (Nat.ne_of_gt hlt)).trans hT
    have rel : Vals [V.ref kvs[i].2.1, kvs[i].2.2] [es[i].key, es[i].val] := .cons (show es[i].key = Value.ref _ from ek) (.cons rv .nil)
    have ok2 : ObjOk X.prog X.w (upd H s.heap.objs.size (.tup [.ref kvs[i].2.1, kvs[i].2.2])) h2 s.heap.objs.size (.tup [.ref kvs[i].2.1, kvs[i].2.2]) := ⟨by show (2 : Nat) ≤ sizeLine; rw [sizeLine_eq]; decide, _, rel, _, T2, rfl, _, rfl⟩
    have far : ∀ c u, c ∉ [it] → s.heap.get? c = some u → h2.get? c = some u := fun c u hb e => (sb.2 c (by simpa using hb)).trans (hk c u (by simpa using hb) e)
    refine ⟨.ref s.heap.objs.size, _, I.turnedNew (t' := s.toks) (ch := [it]) far hf (Nat.le_refl _) ok2, rfl, ⟨_, kvs[i].1, kvs[i].2.1, kvs[i].2.2, hx, rfl, I.hok.fresh (Nat.le_refl _), rfl⟩, ⟨_, _, he2⟩, fun b hb => ?_⟩
    rw [List.mem_singleton.mp hb, upd_ne (Nat.ne_of_lt hlt)]
    exact (hf it (List.mem_singleton.mpr rfl)).1
  done := by
    intro X hP hw hK hc i pins s σ H E I hf st hg
    subst hP hw hK
    obtain ⟨f0, f1, f2, f3, f4, f5⟩ := hf it (List.mem_singleton.mpr rfl)
    obtain ⟨raw, sz, _⟩ := dc_raw I hg.1 hod
    obtain ⟨ok, ov, he⟩ := st
    exact wpAny_pyNext_items_end_raw (I.ok.hd hc) he raw (by have := hg.2; omega) fun h' eb => ⟨rfl, I.turned (t' := s.toks) (fun b ob hb e => eb b ob hb e) f0 f1 f3 f4 f5⟩
  self := fun A i s Q E ⟨_, _, e⟩ h => PySem.W.kcp_self e h
end
section
variable {X : Cx} {e : Expr} {te : TE} {apos cpos pos : Pos}
def iItD (K : PySem.W.Frag) (te : TE) : TI := fun σ H R => te σ H fun x H1 => ∃ d o kvs, x = .ref d ∧ DcAt K H1 d o kvs ∧ R (ItD K d o kvs) H1
theorem dc_ty {pins : List (Addr × Obj)} {σ : L2.St} {H : Hp} {s : Shared} {d : Addr} {o : Obj} {kvs : Ke} (I : Inv X pins σ H s) (h : DcAt X.K H d o kvs) : s.TypeIs (.ref d) "dict" ∧ ∀ a, Value.ref d = .ref a → ∃ ob, s.heap.get? a = some ob ∧ ob.dict = none := by
  obtain ⟨⟨u, hd⟩, dd, _⟩ := h
  refine ⟨⟨o, dc_at I hd, dd.ex.1⟩, fun a z => ?_⟩
  cases z
  exact ⟨o, dc_at I hd, dd.ex.2.1⟩
theorem pi_itD {elts : List Expr} {kk : Nat} {tpos : Pos} (he : PE X e te) (hbase : attributeBase e "items" X.env (eval e X.env) = eval e X.env := by rfl) (hline : (apos.endLine == cpos.line) = true := by rfl) :
    PI X (.Tuple elts kk tpos) (.Call (.Attribute e "items" apos) [] [] cpos) (iItD X.K te) := by
  refine ⟨fun pins s σ H R I h => ?_⟩
  refine wpAny_Call_method (T := "dict") (id := "dict.items") hbase rfl hline PySem.F.plainAttrs_dict PySem.F.slot_dict_items PySem.F.type_dict_items (thn (he.run pins s σ H _ I h) fun u s1 ⟨x, H1, I1, rx, d, o, kvs, ex, hd, q⟩ => ?_)
  subst ex
  obtain rfl : u = Value.ref d := rx
  obtain ⟨es, ep, _, hod, _⟩ := hd.2.1.dat
  obtain ⟨raw, sz, _⟩ := dc_raw I1 hd hod
  refine ⟨(dc_ty I1 hd).1, (dc_ty I1 hd).2, ?_⟩
  have I2 : Inv X pins σ H1 { s1 with heap := s1.heap.push { cls := .type "dict_items", data := .fields #[.ref d] } } := I1.kept (t' := s1.toks) fun b ob q => Heap.get?_push_of_some _ q
  show wpAny _ _ (callWith cpos (.builtin "dict.items") [.ref d] [] []) _ X.xe s1
  refine method_meetsIn PySem.F.slot_dict_items PySem.F.entry_dict_items rfl (PySem.evalArgs_none ⟨rfl, (dc_ty I1 hd).1, PySem.F.args_dict_items_1 _, _, meets_dict_items_raw d hd.2.1.sm, ⟨⟨es, ep, raw⟩, ?_⟩⟩)
  refine wpAny_pyIter_items_raw (d := d) (es := es) (ep := ep) ⟨_, Heap.get?_push_size _ rfl, rfl, rfl⟩ (raw.at fun o z => Heap.get?_push_of_some _ z) (pi_one (tk := s1.toks) I2 _ (turn_itD _ hod) ⟨.none, .none, ?_⟩ q)
  exact Heap.get?_push_size _ rfl
theorem foldl_max_le : ∀ (ns : List Int) (n : Int), n ≤ ns.foldl max n ∧ ∀ y ∈ ns, y ≤ ns.foldl max n
  | [], n => ⟨Int.le_refl _, fun y h => by cases h⟩
  | m :: ns, n => by
    obtain ⟨h1, h2⟩ := foldl_max_le ns (max n m)
    rw [List.foldl_cons]
    refine ⟨by omega, fun y hy => ?_⟩
    rcases List.mem_cons.mp hy with rfl | hy
    · omega
    · exact h2 y hy
theorem foldl_max_mem : ∀ (ns : List Int) (n : Int), ns.foldl max n ∈ n :: ns
  | [], n => List.mem_singleton.mpr rfl
  | m :: ns, n => by
    rw [List.foldl_cons]
    rcases List.mem_cons.mp (foldl_max_mem ns (max n m)) with h | h
    · rw [h]
      rcases Int.le_total n m with z | z
      · rw [Int.max_eq_right z]; exact List.mem_cons_of_mem _ List.mem_cons_self
      · rw [Int.max_eq_left z]; exact List.mem_cons_self
    · exact List.mem_cons_of_mem _ (List.mem_cons_of_mem _ h)
theorem foldl_max_is {n : Int} {ns : List Int} {m : Int} (hm : m ∈ n :: ns) (hx : ∀ y ∈ n :: ns, y ≤ m) : m = ns.foldl max n := by
  have h1 := hx _ (foldl_max_mem ns n)
  have h2 : m ≤ ns.foldl max n := by
    rcases List.mem_cons.mp hm with rfl | hm
    · exact (foldl_max_le ns m).1
    · exact (foldl_max_le ns n).2 m hm
  omega
def tDVl (K : PySem.W.Frag) (te : TE) : TE := fun σ H Q => te σ H fun x H1 => ∃ d o kvs, x = .ref d ∧ DcAt K H1 d o kvs ∧ ∀ p, H1 p = none → Q (.ref p) (upd H1 p (viewO "dict_values" p d))
theorem pe_dvl (he : PE X e te) (hbase : attributeBase e "values" X.env (eval e X.env) = eval e X.env := by rfl) (hline : (apos.endLine == cpos.line) = true := by rfl) : PE X (.Call (.Attribute e "values" apos) [] [] cpos) (tDVl X.K te) := by
  refine ⟨fun pins s σ H Q I h => ?_⟩
  refine wpAny_Call_method (T := "dict") (id := "dict.values") hbase rfl hline PySem.F.plainAttrs_dict PySem.F.slot_dict_values PySem.F.type_dict_values (thn (he.run pins s σ H _ I h) fun u s1 ⟨x, H1, I1, rx, d, o, kvs, ex, hd, q⟩ => ?_)
  subst ex
  obtain rfl : u = Value.ref d := rx
  obtain ⟨es, ep, _, hod, _⟩ := hd.2.1.dat
  obtain ⟨raw, sz, _⟩ := dc_raw I1 hd hod
  refine ⟨(dc_ty I1 hd).1, (dc_ty I1 hd).2, ?_⟩
  show wpAny _ _ (callWith cpos (.builtin "dict.values") [.ref d] [] []) _ X.xe s1
  refine method_meetsIn PySem.F.slot_dict_values PySem.F.entry_dict_values rfl (PySem.evalArgs_none ⟨rfl, (dc_ty I1 hd).1, PySem.F.args_dict_values_1 _, _, meets_dict_values_raw d hd.2.1.sm, ⟨⟨es, ep, raw⟩, ?_⟩⟩)
  exact ⟨.ref s1.heap.objs.size, _, I1.laid (t' := s1.toks) (fun b ob q => Heap.get?_push_of_some _ q) (Nat.le_refl _) (viewO_ok (Heap.get?_push_size _ rfl)), rfl, q _ (I1.hok.fresh (Nat.le_refl _))⟩
def rDMax (K : PySem.W.Frag) : List V → Hp → VK → Prop := fun xs H Q => ∃ p d o kvs n ns, xs = [.ref p] ∧ H p = some (viewO "dict_values" p d) ∧ DcAt K H d o kvs ∧ kvs.map (·.2.2) = (n :: ns).map V.int ∧ Q (.int (ns.foldl max n)) H
theorem cr_dmax (hc : X.calm = true) : CallR X (.builtin "max") (rDMax X.K) := by
  intro pins s σ H xs us Q I rx h
  obtain ⟨p, d, o, kvs, n, ns, rfl, hp, hd, hns, q⟩ := h
  rw [Vals.ref1 rx]
  obtain ⟨es, ep, _, hod, _⟩ := hd.2.1.dat
  obtain ⟨raw, sz, ent⟩ := dc_raw I hd hod
  have hv : s.heap.get? p = some (DSub.viewOb "dict_values" d) := (show ObjOk X.prog X.w H s.heap p (viewO "dict_values" p d) from I.hok p _ hp).1
  have len : kvs.length = (n :: ns).length := by simpa using congrArg List.length hns
  have val : ∀ (i : Nat) (hi : i < es.size), ∃ t, es[i].val = .int ((n :: ns).getD i 0) t := fun i hi => by
    have hx : kvs[i]? = some kvs[i] := List.getElem?_eq_getElem (by omega)
    obtain ⟨_, r⟩ := ent i hi kvs[i].1 kvs[i].2.1 kvs[i].2.2 hx
    have z := congrArg (fun l => l[i]?) hns
    simp only [List.getElem?_map, hx, Option.map_some] at z
    cases hy : (n :: ns)[i]? with
    | none => rw [hy] at z; cases z
    | some m =>
      rw [hy] at z
      rw [Option.some.inj z] at r
      rw [List.getD_eq_getElem?_getD, hy]
      exact r
  have hdl : d < s.heap.objs.size := let ⟨_, z, _⟩ := raw; Heap.lt_size z
  refine call_max_walk ?_
  refine wpAny_pyIter_values_raw (d := d) (es := es) (ep := ep) ⟨_, hv, rfl, rfl⟩ raw ?_
  refine ⟨s.heap.objs.size, [s.heap.objs.size, d], [s.heap.objs.size], es.size, fun i v => ∃ t, v = .int ((n :: ns).getD i 0) t, _, fun i j => decide ((n :: ns).getD i 0 > (n :: ns).getD j 0), rfl, (Walks.rawValues (show X.A.in1.handled = none from I.ok.hd hc) s.heap.objs.size d (Nat.ne_of_lt hdl) es ep).mono_item (fun i v hi ⟨hi', z⟩ => z ▸ val i hi'), ⟨⟨_, Heap.get?_push_size _ rfl, rfl, rfl⟩, raw.at fun o z => Heap.get?_push_of_some _ z⟩, fun b hb => ?_, by rw [sz, len]; exact Nat.succ_pos _, CmpOf.ints_gt (fun i => (n :: ns).getD i 0) (fun i v z => z), fun v h' tk hv' hk => ?_⟩
  · show b < (s.heap.push _).objs.size
    rw [size_push']
    rcases List.mem_cons.mp hb with z | z
    · rw [z]; exact Nat.lt_succ_self _
    · rw [List.mem_singleton.mp z]; exact Nat.lt_succ_of_lt hdl
  · obtain ⟨t, rfl⟩ := hv'
    obtain ⟨m1, m2⟩ := argBest_gt (fun i => (n :: ns).getD i 0) (es.size - 1)
    have kp : ∀ b ob, s.heap.get? b = some ob → h'.get? b = some ob := fun b ob z => hk b ob (fun y => by rw [List.mem_singleton.mp y] at z; exact absurd (Heap.lt_size z) (Nat.lt_irrefl _)) (Heap.get?_push_of_some _ z)
    refine ⟨.int _, H, I.kept (t' := tk) kp, ⟨t, rfl⟩, ?_⟩
    have m1 : argBest (fun i j => decide ((n :: ns).getD i 0 > (n :: ns).getD j 0)) (es.size - 1) ≤ es.size - 1 := m1
    have lt : argBest (fun i j => decide ((n :: ns).getD i 0 > (n :: ns).getD j 0)) (es.size - 1) < (n :: ns).length := by
      have : 0 < (n :: ns).length := Nat.succ_pos _
      omega
    have fin : (n :: ns).getD (argBest (fun i j => decide ((n :: ns).getD i 0 > (n :: ns).getD j 0)) (es.size - 1)) 0 = ns.foldl max n := foldl_max_is (PySem.getD_mem lt) fun y hy => ?_
    · rw [fin]
      exact q
    · obtain ⟨j, hj⟩ := List.getElem?_of_mem hy
      have hj2 := (List.getElem?_eq_some_iff.mp hj).1
      have := m2 j (by omega)
      rw [List.getD_eq_getElem?_getD, hj] at this
      exact this
end
end DL
namespace DL
open PySem PySem.Spec L2 PyProof.Rows
def addK (K : PySem.W.Frag) (D : Addr) (y z : V) (H : Hp) (Nx : Hp → Prop) : Prop :=
  ∃ kvs k c, y = V.ref c ∧ H D = some (dcM D kvs) ∧ KeyT K H kvs ∧ SqT K H c (k.map V.int) ∧ k ∉ kvs.map (·.1) ∧ kvs.length < sizeLine ∧ Nx (upd H D (dcM D (kvs ++ [(k, c, z)])))
def endK (D : Addr) (H : Hp) (Q : VK) : Prop := ∃ kvs, H D = some (dcM D kvs) ∧ lockT D kvs H Q
abbrev Lp (J : It) (W : Nat → Nat → Hp → Prop) (Sp : (Hp → Prop) → V → Hp → Prop) (Fin : Hp → Prop) : Prop := ∀ i m H, W i m H →
  (J.stop i H ∧ Fin H) ∨ (J.go i H ∧ ∃ Nx : Hp → Prop, (∀ H', Nx H' → ∃ m', m' < m ∧ W (i + 1) m' H') ∧ ∀ x H', J.yld i H x H' → Sp Nx x H')
def tLoop (J : It) (H0 : Hp) (Sp : (Hp → Prop) → V → Hp → Prop) (Fin : Hp → Prop) : Prop := ∃ W : Nat → Nat → Hp → Prop, (∃ m, W 0 m H0) ∧ Lp J W Sp Fin
def LS (Y : Cx) (pins : List (Addr × Obj)) (σ : L2.St) (fp : List Addr) (tn : Nat → Heap → Prop) (W : Nat → Nat → Hp → Prop) (n : Nat) (s : Shared) : Prop :=
  ∃ i H, Inv Y pins σ H s ∧ tn i s.heap ∧ (∀ b ∈ fp, H b = none) ∧ W i n H
section
variable {Y : Cx} {pins : List (Addr × Obj)} {σ : L2.St} {fp : List Addr} {tn : Nat → Heap → Prop} {W : Nat → Nat → Hp → Prop} {J : It} {Sp : (Hp → Prop) → V → Hp → Prop} {Fin : Hp → Prop} {tg : Expr} {it : Addr} {n : Nat} {s : Shared}
def Gone (Y : Cx) (σ : L2.St) (fp : List Addr) (Sp : (Hp → Prop) → V → Hp → Prop) (u : Value) (nxt : Shared → Prop) (s2 : Shared) : Prop :=
  ∃ (x : V) (H' : Hp) (Nx : Hp → Prop) (ps : List (Addr × Obj)), Inv Y ps σ H' s2 ∧ RelV x u ∧ Sp Nx x H' ∧
    ∀ (σ' : L2.St) (s' : Shared) (H'' : Hp), Inv Y ps σ' H'' s' → σ.length = σ'.length → (∀ (j : Nat) v, σ[j]? = some (some v) → σ'[j]? = some (some v)) → Nx H'' → nxt s'
theorem turn_gen (hc : Y.calm = true) (T : Turn Y.prog Y.w Y.K tg J fp it tn) (st : ∀ H s, Inv Y pins σ H s → (∀ b ∈ fp, H b = none) → ∀ b ∈ fp, FpOk Y pins H b) (loop : Lp J W Sp Fin) (L : LS Y pins σ fp tn W n s) :
    wpAny (model Y.prog Y.w) Y.A (pyNext (.ref it)) (fun r s1 => match r with
      | none => ∃ H, Inv Y pins σ H s1 ∧ Fin H
      | some u => wpAny (model Y.prog Y.w) Y.A (letOwnedTupleGo tg (.ref it) u) (fun _ s2 => Gone Y σ fp Sp u (fun s' => ∃ m, m < n ∧ LS Y pins σ fp tn W m s') s2) (fun _ _ => False) s1) (fun _ _ => False) s := by
  obtain ⟨i, H, I, hn, f0, w⟩ := L
  rcases loop i n H w with ⟨stop, fin⟩ | ⟨go, Nx, hNx, step⟩
  · refine thnF (T.done Y rfl rfl rfl hc i pins s σ H (fun _ _ => False) I (st H s I f0) hn stop) fun r s1 ⟨hr, I1⟩ => ?_
    subst hr
    exact ⟨H, I1, fin⟩
  · refine thnF (T.item Y rfl rfl rfl hc i pins s σ H (fun _ _ => False) I (st H s I f0) hn go) fun r s1 ⟨u, hr, h1⟩ => ?_
    subst hr
    refine thnF h1 fun _ s2 ⟨x, H', I2, rx, y, hn2, f2⟩ => ?_
    refine ⟨x, H', Nx, _, I2.pinned (st H' s2 I2 f2) (T.obj _ _ hn2), rx, step x H' y, fun σ' s' H'' I3 hl hw nx => ?_⟩
    obtain ⟨m, lt, w'⟩ := hNx H'' nx
    have pin : ∀ b ∈ fp, ∀ o, s2.heap.get? b = some o → s'.heap.get? b = some o ∧ H'' b = none := fun b hb o e => by
      have z := I3.pin (b, o) (List.mem_append_right _ (List.mem_append_right _ (mem_pinsAt hb e)))
      exact ⟨z.1, z.2.1⟩
    refine ⟨m, lt, i + 1, H'', I3.unpinned.weak hl hw, T.keep _ _ _ hn2 fun b hb o e => (pin b hb o e).1, fun b hb => ?_, w'⟩
    obtain ⟨o, e, _⟩ := T.obj _ _ hn2 b hb
    exact (pin b hb o e).2
end
section
variable {X : Cx} {tg iter kx vx : Expr} {ifs : List Expr} {rest : List Comprehension} {scope : Scope} {own : List (Str × Nat)} {pos pos' : Pos} {wi : TI}
abbrev blkX (X : Cx) (scope : Scope) (cl : List (Str × Addr)) (s3 : Shared) (H3 : Hp) (fp : List Addr) : Cx := X.blk s3 H3 scope (compEnvC scope cl s3.heap.objs.size X.env) fp
theorem blk_stat {s3 : Shared} {H3 : Hp} {ce : Env} {fp : List Addr} {σ : L2.St} (H : Hp) (s : Shared) (I : Inv (X.blk s3 H3 scope ce fp) [] σ H s) (f : ∀ b ∈ fp, H b = none) : ∀ b ∈ fp, FpOk (X.blk s3 H3 scope ce fp) [] H b := fun b hb => by
  refine ⟨f b hb, (I.ok.exf b hb).1, I.ok.exfs b hb, .inl hb, fun x c e => (I.ok.exf b hb).2 x c e, fun p hp => ?_⟩
  cases (show p ∈ ([] : List (Addr × Obj)) ++ [] from hp)
theorem dc_in {pins : List (Addr × Obj)} {s : Shared} {σ : L2.St} {H : Hp} {B : It → Addr → Hp → Prop} {F : Addr → Hp → Prop} {use : Option (Value → Sem Unit)} {Qf : Value → Shared → Prop} (hN : X.N.Nodup) (I : Inv X pins σ H s) (hi : PI X tg iter wi) (ok : BlkOk X.N X.env.scope scope own) (hs : ∀ x, foldedSetIterable iter X.env x = pure x)
    (h : wi σ H fun J H1 => ∀ D, H1 D = none → B J D (upd H1 D (dcM D [])))
    (loop : ∀ (cl : List (Str × Addr)) (s3 s4 : Shared) (H3 : Hp) (fp : List Addr) (it D : Addr) (J : It) (tn : Nat → Heap → Prop), B J D H3 → Inv (blkX X scope cl s3 H3 fp) [] (wipe σ (own.map (·.2))) H3 s4 → Turn X.prog X.w X.K tg J fp it tn → tn 0 s4.heap → (∀ b ∈ fp, H3 b = none) →
      codeAny (model X.prog X.w) X.A (.compLoop (.DictComp kx vx (⟨tg, iter, ifs, 0⟩ :: rest) scope pos) 0 (.ref it) (.ref D) (compEnvC scope cl s3.heap.objs.size X.env)) (fun r s' => r = .ok .next ∧ ∃ H', Inv (blkX X scope cl s3 H3 fp) [] (wipe σ (own.map (·.2))) H' s' ∧ F D H') s4)
    (fin : ∀ (D C : Addr) (s' : Shared) (m : _) (H' : Hp), Inv X pins σ H' s' → F D H' → s'.heap.Ns C m → FpOk X pins H' C → compPost (model X.prog X.w) X.A X.xe use Qf (.ref D) C (.ok .next) s') :
    wpAny (model X.prog X.w) X.A (comprehension (.DictComp kx vx (⟨tg, iter, ifs, 0⟩ :: rest) scope pos) scope X.env pos' newDict false (eval iter X.env) use) Qf X.xe s := by
  have free : ∀ y ∈ scope.names, y.2 = .free → ∃ c, X.env.cells.lookup y.1 = some c := fun y hy e => (ok.free y hy e).elim (fun k => I.ok.has _ (.inl k)) fun k => I.ok.has _ (.inr k)
  refine wpAny_comprehension_free rfl hs (closure_ok free) ok.kind (fun y hy e => (ok.uniq y hy).trans (by rw [e])) (thn (hi.run pins s σ H _ I h) fun xv s1 h1 => thn h1 fun itv s2 ⟨it, fp, tn, J, H2, eit, I2, T, hn2, f2, q⟩ => ?_)
  subst eit
  refine wpAny_newObj_type (newEnv_comp ?_)
  obtain ⟨D, hD⟩ : ∃ D, D = s2.heap.objs.size := ⟨_, rfl⟩
  have I3 : Inv X pins σ (upd H2 D (dcM D [])) { s2 with heap := s2.heap.push { cls := .type "dict", data := .dict #[] } } := by
    rw [hD]
    exact I2.laid (t' := s2.toks) (fun b o e => Heap.get?_push_of_some _ e) (Nat.le_refl _) (dcM_new I2)
  have q := q D (I2.hok.fresh (Nat.le_of_eq hD.symm))
  rw [← hD]
  have low : ∀ b ∈ fp, b < s2.heap.objs.size := fun b hb => let ⟨_, e, _⟩ := T.obj _ _ hn2 b hb; Heap.lt_size e
  generalize hs3 : ({ s2 with heap := s2.heap.push { cls := .type "dict", data := .dict #[] } } : Shared) = s3 at I3 ⊢
  have h3 : s3.heap = s2.heap.push { cls := .type "dict", data := .dict #[] } := by rw [← hs3]
  have f3 : ∀ b ∈ fp, FpOk X pins (upd H2 D (dcM D [])) b ∧ b < s3.heap.objs.size := fun b hb => by
    have lt := low b hb
    refine ⟨⟨?_, (f2 b hb).2⟩, ?_⟩
    · rw [upd_ne (by rw [hD]; exact Nat.ne_of_lt lt)]
      exact (f2 b hb).1
    · rw [h3, Heap.size_push]
      exact Nat.lt_succ_of_lt lt
  have I4 := block_start I3 ok hN f3
  have hn4 : tn 0 (pushCells (s3.heap.push { cls := .type "dict", data := .dict #[] }) scope.names) := T.keep _ _ _ hn2 fun b _ o e => pushCells_keeps _ _ _ _ (Heap.get?_push_of_some _ (by rw [h3]; exact Heap.get?_push_of_some _ e))
  have lp := loop _ s3 _ _ fp it D J tn q I4 T hn4 fun b hb => (f3 b hb).1.1
  have post := codeAny_mono (R' := compPost (model X.prog X.w) X.A X.xe use Qf (.ref D) s3.heap.objs.size) lp fun r s' ⟨er, H', I', hf⟩ => by
    subst er
    have back : Inv X pins σ H' s' := I3.call' (ch := fp) I'.os I'.base I'.hok I'.bare fun b hb => ⟨(f3 b hb).1.2.2.2.1, (f3 b hb).1.2.1, (f3 b hb).1.2.2.2.2.1, (f3 b hb).1.2.2.2.2.2⟩
    obtain ⟨m, hm, _⟩ := I'.loc
    exact fin D s3.heap.objs.size s' m H' back hf hm (I3.fpOk (Nat.le_refl _) I'.free)
  exact codeAny_compStart_dict post (T.self X.A 0 _ _ _ hn4 post)
end
end DL
namespace DL
open PySem PySem.Spec L2 PyProof.Rows
section
variable {X : Cx} {tg iter kx vx tg1 iter1 : Expr} {ifs ifs1 : List Expr} {scope : Scope} {own : List (Str × Nat)} {vs1 : List Nat} {pos pos' spos : Pos} {wi wi1 : TI} {g g1 : TG} {tt tt1 : TT} {tk tv : TE}
abbrev InB (X : Cx) (scope : Scope) (p : Cx → Prop) : Prop := ∀ (s : Shared) (H : Hp) (C : Addr) (cl : List (Str × Addr)) (fp : List Addr), p (X.blk s H scope (compEnvC scope cl C X.env) fp)
def spK (K : PySem.W.Frag) (D : Addr) (tk tv : TE) (σ : L2.St) (Nx : Hp → Prop) (H : Hp) : Prop := tk σ H fun y H4 => tv σ H4 fun z H5 => addK K D y z H5 Nx
def spI (K : PySem.W.Frag) (D : Addr) (g : TG) (tt : TT) (tk tv : TE) (vs : List Nat) (σ : L2.St) (Nx : Hp → Prop) (x : V) (H : Hp) : Prop :=
  g x (wipe σ vs) H fun σ2 H2 => wipe σ2 vs = wipe σ vs ∧ tt σ2 H2 fun b H3 => if b = true then spK K D tk tv σ2 Nx H3 else Nx H3
def tDcI (K : PySem.W.Frag) (wi : TI) (g : TG) (tt : TT) (tk tv : TE) (vs : List Nat) : TE := fun σ H Q => wi σ H fun J H1 => ∀ D, H1 D = none → tLoop J (upd H1 D (dcM D [])) (spI K D g tt tk tv vs σ) fun H => endK D H Q
def tDcII (K : PySem.W.Frag) (wi : TI) (g : TG) (tt : TT) (wi1 : TI) (g1 : TG) (tt1 : TT) (tk tv : TE) (vs vs1 : List Nat) : TE := fun σ H Q => wi σ H fun J H1 => ∀ D, H1 D = none → tLoop J (upd H1 D (dcM D [])) (fun Nx x H' =>
  g x (wipe σ vs) H' fun σ2 H2 => wipe σ2 vs = wipe σ vs ∧ tt σ2 H2 fun b H3 => if b = true then wi1 σ2 H3 fun J1 H4 => tLoop J1 H4 (spI K D g1 tt1 tk tv vs1 σ2) Nx else Nx H3) fun H => endK D H Q
theorem wipe_keep {σ σ8 : L2.St} {vs : List Nat} (e : wipe σ8 vs = wipe σ vs) : (wipe σ vs).length = σ8.length ∧ ∀ (j : Nat) v, (wipe σ vs)[j]? = some (some v) → σ8[j]? = some (some v) :=
  ⟨by rw [← e, wipe_length], fun j v h => by rw [← e] at h; exact (wipe_some h).1⟩
theorem add_run {Y : Cx} {ps : List (Addr × Obj)} {σ : L2.St} {H : Hp} {s : Shared} {D : Addr} {y z : V} {u r : Value} {Nx : Hp → Prop} {E : Value → Shared → Prop} {Q : Unit → Shared → Prop} (hu : Y.A.units < cLine) (I : Inv Y ps σ H s) (ry : RelV y u) (rz : RelV z r) (h : addK Y.K D y z H Nx)
    (k : ∀ s' H', Inv Y ps σ H' s' → Nx H' → Q () s') : wpAny (model Y.prog Y.w) Y.A (dictSet D u r) Q E s := by
  obtain ⟨kvs, kk, c, ey, hD, hq, hc, hn, hz, nx⟩ := h
  subst ey
  obtain rfl : u = Value.ref c := ry
  exact dcM_set I hD hq hc hn hz hu rz fun s' I' => k s' _ I' nx
theorem loopI (hc : X.calm = true) (hu : X.A.units < cLine) {σ : L2.St} (hg : InB X scope fun Y => PG Y tg g) (ht : InB X scope fun Y => PTs Y ifs tt) (hk : InB X scope fun Y => PE Y kx tk) (hv : InB X scope fun Y => PE Y vx tv) {F : Addr → Hp → Prop}
    (cl : List (Str × Addr)) (s3 s4 : Shared) (H3 : Hp) (fp : List Addr) (it D : Addr) (J : It) (tn : Nat → Heap → Prop) (lp : tLoop J H3 (spI X.K D g tt tk tv (own.map (·.2)) σ) (F D)) (I : Inv (blkX X scope cl s3 H3 fp) [] (wipe σ (own.map (·.2))) H3 s4) (T : Turn X.prog X.w X.K tg J fp it tn) (hn : tn 0 s4.heap) (f : ∀ b ∈ fp, H3 b = none) :
    codeAny (model X.prog X.w) X.A (.compLoop (.DictComp kx vx [⟨tg, iter, ifs, 0⟩] scope pos) 0 (.ref it) (.ref D) (compEnvC scope cl s3.heap.objs.size X.env)) (fun r s' => r = .ok .next ∧ ∃ H', Inv (blkX X scope cl s3 H3 fp) [] (wipe σ (own.map (·.2))) H' s' ∧ F D H') s4 := by
  obtain ⟨W, ⟨m0, w0⟩, loop⟩ := lp
  refine compLoop_anyD (LS (blkX X scope cl s3 H3 fp) [] (wipe σ (own.map (·.2))) fp tn W) (fun n s L => ?_) m0 ⟨0, H3, I, hn, f, w0⟩
  refine thnF (turn_gen (Y := blkX X scope cl s3 H3 fp) hc T blk_stat loop L) fun r s1 h1 => ?_
  cases r with
  | none =>
    obtain ⟨H, I1, fin⟩ := h1
    exact ⟨rfl, H, I1, fin⟩
  | some u =>
    refine thnF h1 fun _ s2 ⟨x, H', Nx, ps, I2, rx, sp, back⟩ => ?_
    refine thnF ((hg s3 H3 s3.heap.objs.size cl fp).run _ s2 _ H' x u _ I2 rx sp) fun _ s5 ⟨σ5, H5, I5, w5, q5⟩ => ?_
    obtain ⟨hl, hw⟩ := wipe_keep w5
    refine thnF ((ht s3 H3 s3.heap.objs.size cl fp).run _ s5 σ5 H5 _ I5 q5) fun b s6 ⟨H6, I6, q6⟩ => ?_
    cases b with
    | false => exact back σ5 s6 H6 I6 hl hw q6
    | true =>
      refine thnF ((hk s3 H3 s3.heap.objs.size cl fp).run _ s6 σ5 H6 _ I6 q6) fun uk s7 ⟨y, H7, I7, ry, q7⟩ => ?_
      refine thnF ((hv s3 H3 s3.heap.objs.size cl fp).run _ s7 σ5 H7 _ I7 q7) fun uv s8 ⟨z, H8, I8, rz, q8⟩ => ?_
      exact add_run (Y := blkX X scope cl s3 H3 fp) hu I8 ry rz q8 fun s' H' I' nx => back σ5 s' H' I' hl hw nx

section
variable {prog : Program} {w : World} {A : Around} {R : Result → Shared → Prop} {s : Shared} {t0 i0 t1 i1 : Expr} {ifs0 : List Expr} {it : Value} {D : Addr} {env : Env}
abbrev DC2 (kx vx t0 i0 : Expr) (ifs0 : List Expr) (t1 i1 : Expr) (ifs1 : List Expr) (scope : Scope) (pos : Pos) : Expr := .DictComp kx vx [⟨t0, i0, ifs0, 0⟩, ⟨t1, i1, ifs1, 0⟩] scope pos
theorem dturn_out (kx vx : Expr) : compTurn (DC2 kx vx t0 i0 ifs0 t1 i1 ifs1 scope pos) 0 it (.ref D) env = (do
    standAt i0.pos; match ← pyNext it with
      | none => pure (.done .next)
      | some item => letOwnedTupleGo t0 it item; assign t0 env item; let mut good := true
                     for test in ifs0 do if good then good ← isTrue test env (eval test env)
                     if good then
                       let src ← eval i1 env; standAt i1.pos; let src ← foldedSetIterable i1 env src
                       let _ ← runOwn (.compStart (DC2 kx vx t0 i0 ifs0 t1 i1 ifs1 scope pos) 1 (← holding [src] (pyIter src)) (.ref D) env) env
                     again (.compLoop (DC2 kx vx t0 i0 ifs0 t1 i1 ifs1 scope pos) 0 it (.ref D) env)) := by rfl
theorem dturn_in (kx vx : Expr) : compTurn (DC2 kx vx t0 i0 ifs0 t1 i1 ifs1 scope pos) 1 it (.ref D) env = (do
    standAt i1.pos; match ← pyNext it with
      | none => pure (.done .next)
      | some item => letOwnedTupleGo t1 it item; assign t1 env item; let mut good := true
                     for test in ifs1 do if good then good ← isTrue test env (eval test env)
                     if good then
                       (do let key ← eval kx env; let val ← holding [key] (eval vx env)
                           standAt { kx.pos with endLine := vx.pos.endLine, endCol := vx.pos.endCol }; holding [key, val] (dictSet D key val))
                     again (.compLoop (DC2 kx vx t0 i0 ifs0 t1 i1 ifs1 scope pos) 1 it (.ref D) env)) := by rfl
abbrev wayT (M : Model) (A : Around) (tg : Expr) (ifs : List Expr) (it v : Value) (env : Env) (Q : Bool → Shared → Prop) (s : Shared) : Prop :=
  wpAny M A (letOwnedTupleGo tg it v) (fun _ s1 => wpAny M A (assign tg env v) (fun _ s2 => wpAny M A (forIn ifs true fun c r => if r = true then do let ok ← isTrue c env (eval c env); pure (ForInStep.yield ok) else pure (ForInStep.yield r)) Q (fun _ _ => False) s2) (fun _ _ => False) s1) (fun _ _ => False) s
theorem dloop_out (hs : ∀ x, foldedSetIterable i1 env x = pure x) (I : Nat → Shared → Prop)
    (turn : ∀ n s, I n s → wpAny (model prog w) A (pyNext it) (fun r s1 => match r with
      | none => R (.ok .next) s1
      | some v => wayT (model prog w) A t0 ifs0 it v env (fun ok s3 => if ok = true then wpAny (model prog w) A (eval i1 env) (fun x s4 => wpAny (model prog w) A (pyIter x) (fun it1 s5 =>
          codeAny (model prog w) A (.compStart (DC2 kx vx t0 i0 ifs0 t1 i1 ifs1 scope pos) 1 it1 (.ref D) env) (fun r s' => (∃ f, r = .ok f) ∧ ∃ m, m < n ∧ I m s') s5) (fun _ _ => False) s4) (fun _ _ => False) s3 else ∃ m, m < n ∧ I m s3) s1) (fun _ _ => False) s)
    (n : Nat) (h : I n s) : codeAny (model prog w) A (.compLoop (DC2 kx vx t0 i0 ifs0 t1 i1 ifs1 scope pos) 0 it (.ref D) env) R s := by
  refine codeAny_loop rfl I (fun n s hI => ?_) n h
  show wpAny _ A ((compTurn (DC2 kx vx t0 i0 ifs0 t1 i1 ifs1 scope pos) 0 it (.ref D) env).onRaise fun x => do noteFrame x env; theTreesLotGoes x) _ _ s
  refine wpAny_noted ?_
  rw [dturn_out]
  refine wpAny_bind (wpAny_standAt (wpAny_bind (thnF (turn n s hI) fun r s1 h1 => ?_)))
  cases r with
  | none => exact wpAny_pure h1
  | some v =>
    refine wpAny_bind (thnF h1 fun _ s2 h2 => wpAny_bind (thnF h2 fun _ s3 h3 => wpAny_bind (thnF h3 fun ok s4 h4 => ?_)))
    cases ok with
    | false => exact wpAny_pure ⟨rfl, h4⟩
    | true =>
      refine wpAny_bind (thnF h4 fun x s5 h5 => wpAny_bind (wpAny_standAt (wpAny_bind (wpAny_of_eq (hs x) (wpAny_bind (wpAny_holding (thnF h5 fun it1 s6 h6 => ?_)))))))
      refine wpAny_bind (wpAny_runOwn ?_)
      rw [Around.mark_none]
      refine codeAny_mono h6 fun r s' ⟨⟨f, e⟩, hr⟩ => ?_
      subst e
      first
        | exact wpAny_pure ⟨rfl, hr⟩
        | exact wpAny_bind (wpAny_pure (wpAny_pure ⟨rfl, hr⟩))
theorem dloop_in (I : Nat → Shared → Prop)
    (turn : ∀ n s, I n s → wpAny (model prog w) A (pyNext it) (fun r s1 => match r with
      | none => R (.ok .next) s1
      | some v => wayT (model prog w) A t1 ifs1 it v env (fun ok s3 => if ok = true then wpAny (model prog w) A (eval kx env) (fun y s4 => wpAny (model prog w) A (eval vx env) (fun z s5 =>
          wpAny (model prog w) A (dictSet D y z) (fun _ s' => ∃ m, m < n ∧ I m s') (fun _ _ => False) s5) (fun _ _ => False) s4) (fun _ _ => False) s3 else ∃ m, m < n ∧ I m s3) s1) (fun _ _ => False) s)
    (n : Nat) (h : I n s) : codeAny (model prog w) A (.compLoop (DC2 kx vx t0 i0 ifs0 t1 i1 ifs1 scope pos) 1 it (.ref D) env) R s := by
  refine codeAny_loop rfl I (fun n s hI => ?_) n h
  show wpAny _ A ((compTurn (DC2 kx vx t0 i0 ifs0 t1 i1 ifs1 scope pos) 1 it (.ref D) env).onRaise fun x => do noteFrame x env; theTreesLotGoes x) _ _ s
  refine wpAny_noted ?_
  rw [dturn_in]
  refine wpAny_bind (wpAny_standAt (wpAny_bind (thnF (turn n s hI) fun r s1 h1 => ?_)))
  cases r with
  | none => exact wpAny_pure h1
  | some v =>
    refine wpAny_bind (thnF h1 fun _ s2 h2 => wpAny_bind (thnF h2 fun _ s3 h3 => wpAny_bind (thnF h3 fun ok s4 h4 => ?_)))
    cases ok with
    | false => exact wpAny_pure ⟨rfl, h4⟩
    | true =>
      exact wpAny_bind (wpAny_bind (thnF h4 fun y s5 h5 => wpAny_bind (wpAny_holding (thnF h5 fun z s6 h6 => wpAny_bind (wpAny_standAt (wpAny_holding (thnF h6 fun _ s7 h7 => wpAny_pure ⟨rfl, h7⟩)))))))
theorem dstart_in (h0 : codeAny (model prog w) A (.compLoop (DC2 kx vx t0 i0 ifs0 t1 i1 ifs1 scope pos) 1 it (.ref D) env) R s)
    (h : wpAny (model prog w) A (pyIter it) (fun it' s' => codeAny (model prog w) A (.compLoop (DC2 kx vx t0 i0 ifs0 t1 i1 ifs1 scope pos) 1 it' (.ref D) env) R s') (notedBy (model prog w) A env fun x s' => R (.error x) s') s) :
    codeAny (model prog w) A (.compStart (DC2 kx vx t0 i0 ifs0 t1 i1 ifs1 scope pos) 1 it (.ref D) env) R s := by
  refine codeAny_of_tree ?_
  show wpAny _ _ ((compStart (DC2 kx vx t0 i0 ifs0 t1 i1 ifs1 scope pos) 1 it (.ref D) env).onRaise fun x => do noteFrame x env; standAt theWindowsPlace) _ _ s
  refine wpAny_notedAt ?_
  unfold compStart
  show wpAny _ _ (ask >>= _) _ _ s
  refine wpAny_bind (wpAny_askSetting (wpAny_ite ?_))
  split
  · first
      | exact wpAny_bind (wpAny_pure (wpAny_pure ⟨rfl, h0⟩))
      | exact wpAny_pure ⟨rfl, h0⟩
  · first
      | exact wpAny_bind (wpAny_rule (wpAny_bind (wpAny_standAt (wpAny_bind (thn h fun it' s' h' => wpAny_pure ⟨rfl, h'⟩)))))
      | (refine wpAny_bind (wpAny_rule ?_); show wpAny _ _ (standAt i1.pos >>= _) _ _ s; exact wpAny_bind (wpAny_standAt (wpAny_bind (thn h fun it' s' h' => wpAny_pure ⟨rfl, h'⟩))))
end
end
end DL
namespace DL
open PySem PySem.Spec L2 PyProof.Rows
section
variable {X : Cx} {tg iter kx vx tg1 iter1 : Expr} {ifs ifs1 : List Expr} {scope : Scope} {own : List (Str × Nat)} {vs1 : List Nat} {pos pos' spos : Pos} {wi wi1 : TI} {g g1 : TG} {tt tt1 : TT} {tk tv : TE}
theorem loopII (hc : X.calm = true) (hu : X.A.units < cLine) {σ : L2.St} (hv1 : ∀ i ∈ vs1, i ∈ own.map (·.2)) (hg : InB X scope fun Y => PG Y tg g) (ht : InB X scope fun Y => PTs Y ifs tt) (hi1 : InB X scope fun Y => PI Y tg1 iter1 wi1) (hg1 : InB X scope fun Y => PG Y tg1 g1) (ht1 : InB X scope fun Y => PTs Y ifs1 tt1)
    (hk : InB X scope fun Y => PE Y kx tk) (hv : InB X scope fun Y => PE Y vx tv) (hs1 : ∀ env x, foldedSetIterable iter1 env x = pure x) {F : Addr → Hp → Prop}
    (cl : List (Str × Addr)) (s3 s4 : Shared) (H3 : Hp) (fp : List Addr) (it D : Addr) (J : It) (tn : Nat → Heap → Prop)
    (lp : tLoop J H3 (fun Nx x H' => g x (wipe σ (own.map (·.2))) H' fun σ2 H2 => wipe σ2 (own.map (·.2)) = wipe σ (own.map (·.2)) ∧ tt σ2 H2 fun b H3 => if b = true then wi1 σ2 H3 fun J1 H4 => tLoop J1 H4 (spI X.K D g1 tt1 tk tv vs1 σ2) Nx else Nx H3) (F D))
    (I : Inv (blkX X scope cl s3 H3 fp) [] (wipe σ (own.map (·.2))) H3 s4) (T : Turn X.prog X.w X.K tg J fp it tn) (hn : tn 0 s4.heap) (f : ∀ b ∈ fp, H3 b = none) :
    codeAny (model X.prog X.w) X.A (.compLoop (DC2 kx vx tg iter ifs tg1 iter1 ifs1 scope pos) 0 (.ref it) (.ref D) (compEnvC scope cl s3.heap.objs.size X.env)) (fun r s' => r = .ok .next ∧ ∃ H', Inv (blkX X scope cl s3 H3 fp) [] (wipe σ (own.map (·.2))) H' s' ∧ F D H') s4 := by
  obtain ⟨W, ⟨m0, w0⟩, loop⟩ := lp
  refine dloop_out (hs1 _) (LS (blkX X scope cl s3 H3 fp) [] (wipe σ (own.map (·.2))) fp tn W) (fun n s L => ?_) m0 ⟨0, H3, I, hn, f, w0⟩
  refine thnF (turn_gen (Y := blkX X scope cl s3 H3 fp) hc T blk_stat loop L) fun r s1 h1 => ?_
  cases r with
  | none =>
    obtain ⟨H, I1, fin⟩ := h1
    exact ⟨rfl, H, I1, fin⟩
  | some u =>
    refine thnF h1 fun _ s2 ⟨x, H', Nx, ps, I2, rx, sp, back⟩ => ?_
    refine thnF ((hg s3 H3 s3.heap.objs.size cl fp).run _ s2 _ H' x u _ I2 rx sp) fun _ s5 ⟨σ5, H5, I5, w5, q5⟩ => ?_
    obtain ⟨hl, hw⟩ := wipe_keep w5
    refine thnF ((ht s3 H3 s3.heap.objs.size cl fp).run _ s5 σ5 H5 _ I5 q5) fun b s6 ⟨H6, I6, q6⟩ => ?_
    cases b with
    | false => exact back σ5 s6 H6 I6 hl hw q6
    | true =>
      refine thnF ((hi1 s3 H3 s3.heap.objs.size cl fp).run _ s6 σ5 H6 _ I6 q6) fun x1 s7 h7 => thnF h7 fun itv s8 ⟨it1, fp1, tn1, J1, H8, e8, I8, T1, hn8, f8, W1, ⟨m1, w1⟩, loop1⟩ => ?_
      subst e8
      have keep1 : ∀ (j : Nat) v, (wipe σ (own.map (·.2)))[j]? = some (some v) → (wipe σ5 vs1)[j]? = some (some v) := fun j v e => by
        rw [← w5] at e
        obtain ⟨e1, e2⟩ := wipe_some e
        rw [L2.wipe_out fun z => e2 (hv1 j z)]
        exact e1
      have inner : codeAny (model X.prog X.w) X.A (.compLoop (DC2 kx vx tg iter ifs tg1 iter1 ifs1 scope pos) 1 (.ref it1) (.ref D) (compEnvC scope cl s3.heap.objs.size X.env)) (fun r s' => (∃ f, r = .ok f) ∧ ∃ m, m < n ∧ LS (blkX X scope cl s3 H3 fp) [] (wipe σ (own.map (·.2))) fp tn W m s') s8 := by
        refine dloop_in (LS (blkX X scope cl s3 H3 fp) ps (wipe σ5 vs1) fp1 tn1 W1) (fun k s9 L9 => ?_) m1 ⟨0, H8, I8.weak (wipe_length _ _) (fun j v e => (wipe_some e).1), hn8, fun b hb => (f8 b hb).1, w1⟩
        refine thnF (turn_gen (Y := blkX X scope cl s3 H3 fp) hc T1 (fun H s _ z b hb => ⟨z b hb, (f8 b hb).2⟩) loop1 L9) fun r s10 h10 => ?_
        cases r with
        | none =>
          obtain ⟨H10, I10, nx⟩ := h10
          exact ⟨⟨_, rfl⟩, back _ s10 H10 I10 (hl.trans (wipe_length σ5 vs1).symm) keep1 nx⟩
        | some u1 =>
          refine thnF h10 fun _ s11 ⟨y, H11, Nx1, ps1, I11, ry, sp1, back1⟩ => ?_
          refine thnF ((hg1 s3 H3 s3.heap.objs.size cl fp).run _ s11 _ H11 y u1 _ I11 ry sp1) fun _ s12 ⟨σ12, H12, I12, w12, q12⟩ => ?_
          obtain ⟨hl1, hw1⟩ := wipe_keep w12
          refine thnF ((ht1 s3 H3 s3.heap.objs.size cl fp).run _ s12 σ12 H12 _ I12 q12) fun b1 s13 ⟨H13, I13, q13⟩ => ?_
          cases b1 with
          | false => exact back1 σ12 s13 H13 I13 hl1 hw1 q13
          | true =>
            refine thnF ((hk s3 H3 s3.heap.objs.size cl fp).run _ s13 σ12 H13 _ I13 q13) fun uk s14 ⟨yk, H14, I14, rk, q14⟩ => ?_
            refine thnF ((hv s3 H3 s3.heap.objs.size cl fp).run _ s14 σ12 H14 _ I14 q14) fun uv s15 ⟨yv, H15, I15, rv, q15⟩ => ?_
            exact add_run (Y := blkX X scope cl s3 H3 fp) hu I15 rk rv q15 fun s' H' I' nx => back1 σ12 s' H' I' hl1 hw1 nx
      exact dstart_in inner (T1.self X.A 0 _ _ _ hn8 inner)
def bI (K : PySem.W.Frag) (g : TG) (tt : TT) (tk tv : TE) (vs : List Nat) (σ : L2.St) (Q : VK) (J : It) (D : Addr) (H0 : Hp) : Prop := tLoop J H0 (spI K D g tt tk tv vs σ) fun H => endK D H Q
def bII (K : PySem.W.Frag) (g : TG) (tt : TT) (wi1 : TI) (g1 : TG) (tt1 : TT) (tk tv : TE) (vs vs1 : List Nat) (σ : L2.St) (Q : VK) (J : It) (D : Addr) (H0 : Hp) : Prop := tLoop J H0 (fun Nx x H' =>
  g x (wipe σ vs) H' fun σ2 H2 => wipe σ2 vs = wipe σ vs ∧ tt σ2 H2 fun b H3 => if b = true then wi1 σ2 H3 fun J1 H4 => tLoop J1 H4 (spI K D g1 tt1 tk tv vs1 σ2) Nx else Nx H3) fun H => endK D H Q
theorem dc_fin {pins : List (Addr × Obj)} {σ : L2.St} {Q : VK} (D C : Addr) (s' : Shared) (m : _) (H' : Hp) (I : Inv X pins σ H' s') (h : endK D H' Q) (hm : s'.heap.Ns C m) (f : FpOk X pins H' C) : compPost (model X.prog X.w) X.A X.xe none (EP X pins σ Q) (.ref D) C (.ok .next) s' := by
  obtain ⟨kvs, hD, q⟩ := h
  obtain ⟨o, d, I'⟩ := dcM_lock I hD
  obtain ⟨f0, f1, f2, f3, f4, f5⟩ := f
  have ne : C ≠ D := fun z => by rw [z, hD] at f0; cases f0
  refine ⟨m, hm, fun h2 sb => ⟨.ref D, _, I'.turned (t' := s'.toks) (fun b o hb e => (sb.2 b hb).trans e) (by rw [upd_ne ne]; exact f0) f1 f3 f4 f5, rfl, q o d⟩⟩
theorem dc_use {pins : List (Addr × Obj)} {σ : L2.St} {Dn : Ends} {i : Nat} {y : Str} {py : Pos} (hN : X.N.Nodup) (hy : X.N[i]? = some y) (hyl : X.env.scope.names.lookup y = some .local) (D C : Addr) (s' : Shared) (m : _) (H' : Hp) (I : Inv X pins σ H' s') (h : endK D H' fun x H1 => gName i x σ H1 Dn.nx) (hm : s'.heap.Ns C m) (f : FpOk X pins H' C) :
    compPost (model X.prog X.w) X.A X.xe (some (assign (.Name y py) X.env)) (fun _ s' => SP X pins Dn .next s') (.ref D) C (.ok .next) s' := by
  obtain ⟨kvs, hD, q⟩ := h
  obtain ⟨o, d, I'⟩ := dcM_lock I hD
  obtain ⟨f0, f1, f2, f3, f4, f5⟩ := f
  have ne : C ≠ D := fun z => by rw [z, hD] at f0; cases f0
  show wpAny _ _ (assign (.Name y py) X.env (.ref D)) _ _ _
  refine wpAny_assign_Name (store_ok2 (v := V.ref D) I' hN hy (.inl hyl) rfl (fun s2 I2 ⟨a, sb, ha⟩ => ?_) (.inr hyl))
  have na : C ≠ a := ha.elim (fun z => by rw [z]; exact f1) fun z e => f4 y a z e.symm
  exact ⟨m, hm.sameBut sb na, fun h3 sb3 => ⟨_, _, I2.turned (t' := s2.toks) (fun b o hb e => (sb3.2 b hb).trans e) (by rw [upd_ne ne]; exact f0) f1 f3 f4 f5, q o d⟩⟩
section
variable (hc : X.calm = true) (hu : X.A.units < cLine) (hN : X.N.Nodup) (hi : PI X tg iter wi) (ok : BlkOk X.N X.env.scope scope own) (hg : InB X scope fun Y => PG Y tg g) (ht : InB X scope fun Y => PTs Y ifs tt)
include hc hu hN hi ok hg ht
theorem pe_dcI (hk : InB X scope fun Y => PE Y kx tk) (hv : InB X scope fun Y => PE Y vx tv) (hs : ∀ x, foldedSetIterable iter X.env x = pure x := by intro _; rfl) : PE X (.DictComp kx vx [⟨tg, iter, ifs, 0⟩] scope pos) (tDcI X.K wi g tt tk tv (own.map (·.2))) := by
  refine ⟨fun pins s σ H Q I h => ?_⟩
  rw [arm_eval_DictComp]
  exact dc_in (B := bI X.K g tt tk tv (List.map (fun x : Str × Nat => x.2) own) σ Q) (F := fun D H => endK D H Q) hN I hi ok hs h (fun cl s3 s4 H3 fp it D J tn => loopI hc hu hg ht hk hv (F := fun D H => endK D H Q) cl s3 s4 H3 fp it D J tn) dc_fin
variable {i : Nat} {y : Str} {py : Pos} (hy : X.N[i]? = some y) (hyl : X.env.scope.names.lookup y = some .local)
include hy hyl
theorem ps_setDcII (hsw : swapsWith (DC2 kx vx tg iter ifs tg1 iter1 ifs1 scope pos) (some (.Name y py)) spos.line X.env = pure true) (hv1 : ∀ i ∈ vs1, i ∈ own.map (·.2)) (hi1 : InB X scope fun Y => PI Y tg1 iter1 wi1) (hg1 : InB X scope fun Y => PG Y tg1 g1) (ht1 : InB X scope fun Y => PTs Y ifs1 tt1) (hk : InB X scope fun Y => PE Y kx tk) (hv : InB X scope fun Y => PE Y vx tv) (hs : ∀ x, foldedSetIterable iter X.env x = pure x := by intro _; rfl) (hs1 : ∀ env x, foldedSetIterable iter1 env x = pure x := by intro _ _; rfl) :
    PS X (.Assign [.Name y py] (DC2 kx vx tg iter ifs tg1 iter1 ifs1 scope pos) spos) (tAsg (tDcII X.K wi g tt wi1 g1 tt1 tk tv (own.map (·.2)) vs1) (gName i)) := by
  refine ⟨fun pins s σ H Dn I h => ?_⟩
  rw [exec_Assign_Name_used _ _ _ _ hsw]
  refine wpAny_bind (wpAny_standAt (wpAny_bind ?_))
  show wpAny _ X.A (do let _ ← comprehension (DC2 kx vx tg iter ifs tg1 iter1 ifs1 scope pos) scope X.env (firstIterPos [⟨tg, iter, ifs, 0⟩, ⟨tg1, iter1, ifs1, 0⟩] pos) newDict false (eval iter X.env) (some (assign (.Name y py) X.env))) _ _ s
  refine wpAny_bind (thn (dc_in (B := bII X.K g tt wi1 g1 tt1 tk tv (List.map (fun x : Str × Nat => x.2) own) vs1 σ fun x H1 => gName i x σ H1 Dn.nx) (F := fun D H => endK D H fun x H1 => gName i x σ H1 Dn.nx) (Qf := fun _ s' => SP X pins Dn .next s') hN I hi ok hs h (fun cl s3 s4 H3 fp it D J tn => loopII hc hu hv1 hg ht hi1 hg1 ht1 hk hv hs1 (F := fun D H => endK D H fun x H1 => gName i x σ H1 Dn.nx) cl s3 s4 H3 fp it D J tn) (dc_use hN hy hyl)) fun _ s' hq => wpAny_pure (wpAny_pure hq))
end
end
end DL
namespace DL
open PySem PySem.Spec L2
section
variable {c : Cc} {L Z : Addr → Prop} {σ σ' : L2.St} {H H' : Hp} {env env' : En}
abbrev ZOk (L : Addr → Prop) (H : Hp) (Z : Addr → Prop) : Prop := ∀ b, Z b → L b ∨ ∃ φ, H b = some (.ext φ)
theorem RE.zn (re : RE c L σ H env) (hz : ZOk L H Z) {b : Addr} (h : Z b) : ¬ ownM σ env b := by
  intro ow
  rcases hz b h with l | ⟨φ, e⟩
  · exact (re.ext b l).1 ow
  · obtain ⟨i, io, ds, e1, e2⟩ := ow
    obtain ⟨a, xs, e3, e4, _⟩ := re.own i io ds e1
    rw [e2] at e3
    cases e3
    rw [e] at e4
    cases e4
theorem RE.tkZ (re : RE c L σ H env) (hz : ZOk L H Z) (s : StpN Z σ env H σ' env' H') : TK H H' := by
  have key : ∀ b o, H b = some o → (∀ xs, o ≠ .lst xs) → (∀ φ, o ≠ .ext φ) → H' b = some o := fun b o e n1 n2 => by
    have no : ¬ ownM σ env b := fun ⟨i, io, ds, e1, e2⟩ => by
      obtain ⟨a, xs, e3, e4, _⟩ := re.own i io ds e1
      rw [e2] at e3
      cases e3
      rw [e] at e4
      cases e4
      exact n1 _ rfl
    have nz : ¬ Z b := fun z => by
      rcases hz b z with l | ⟨φ, e'⟩
      · obtain ⟨xs, e'⟩ := (re.ext b l).2
        rw [e] at e'
        cases e'
        exact n1 _ rfl
      · rw [e] at e'
        cases e'
        exact n2 _ rfl
    rw [(s b (Nn.not e no) nz).1, e]
  exact ⟨fun b xs e => key b _ e (fun _ z => nomatch z) (fun _ z => nomatch z), fun b o u e => key b _ e (fun _ z => nomatch z) (fun _ z => nomatch z)⟩
theorem RE.mvZ (re : RE c L σ H env) (hz : ZOk L H Z) (s : StpN Z σ env H σ' env' H') {L' : Addr → Prop} (l : ∀ a, L a → L' a) : ∀ a xs, Av L' σ env a → H a = some (.lst xs) → Av L' σ' env' a ∧ H' a = some (.lst xs) := fun a xs g e => by
  have nz : ¬ Z a := fun z => by
    rcases hz a z with l' | ⟨φ, e'⟩
    · exact g.1 (l a l')
    · rw [e] at e'; cases e'
  obtain ⟨e1, n1⟩ := s a (Nn.not e g.2) nz
  exact ⟨⟨g.1, fun z => n1 (.inl z)⟩, e1.trans e⟩
theorem RE.repZ (re : RE c L σ H env) (hz : ZOk L H Z) (s : StpN Z σ env H σ' env' H') {v : V} {d : D} (r : Rep c.K (Av L σ env) H v d) : Rep c.K (Av L σ' env') H' v d := r.mono (re.tkZ hz s) (re.mvZ hz s fun _ h => h)
abbrev SwZ (Z : Addr → Prop) (k : Wk) (σ : L2.St) (env : En) (H : Hp) : Sp0 := fun σ' e' H' => StpN Z σ env H σ' e' H' ∧ (k.chk = none ∨ ∀ (j : Nat) (ds : List D), k.chk = some (j, ds) → ∀ v : V, σ'[j]? = some (some v) → σ[j]? = some (some v))
def dI2 (c : Cc) (W : WX) (f : FI) : TI := fun σ H R => ∃ env L Z, RE c L σ H env ∧ ZOk L H Z ∧ dK c W L σ H env (f env) fun k e1 H1 => ∀ J, (k.ok e1 ∧ Src c (fun L2 => L2 = L) (SwZ Z k σ e1 H1) J k) → R J H1
theorem ZOk.step (hz : ZOk L H Z) (re : RE c L σ H env) (s : Stp σ env H σ env' H') : ZOk L H' Z := fun b zb => by
  rcases hz b zb with l | ⟨φ, e⟩
  · exact .inl l
  · refine .inr ⟨φ, ?_⟩
    rw [(s b (Nn.not e (re.zn hz zb))).1, e]
theorem lst_ofZ {σ1 : L2.St} {H1 : Hp} {env1 env2 : En} {v : V} {t : T} {k : Wk} (r : RE c L σ1 H1 env1) (hz : ZOk L H1 Z) (q : RepV c L σ1 H1 env1 v t) (e : iL false t env1 = .ok k env2) :
    ∃ a, v = .ref a ∧ env2 = env1 ∧ k.ok env1 ∧ ∀ L2 σ H env, L2 = L → RE c L2 σ H env → SwZ Z k σ1 env1 H1 σ env H → k.ok env → ∃ xs, SqL c.K H a xs ∧ Reps c.K (Av L2 σ env) H xs k.its := by
  unfold iL at e
  cases t with
  | ft cs => cases e
  | fr ds => cases e
  | im d =>
    cases d with
    | lst ds =>
      cases e
      have q : Rep c.K (Av L σ1 env1) H1 v (.lst ds) := q
      obtain ⟨a, rfl⟩ : ∃ a, v = .ref a := by cases q; exact ⟨_, rfl⟩
      refine ⟨a, rfl, rfl, trivial, fun L2 σ H env el re s _ => ?_⟩
      subst el
      cases r.repZ hz s.1 q with
      | lst g e2 rs => exact ⟨_, .of e2, rs⟩
    | fz ds =>
      cases e
      have q : Rep c.K (Av L σ1 env1) H1 v (.fz ds) := q
      obtain ⟨a, rfl⟩ : ∃ a, v = .ref a := by cases q; exact ⟨_, rfl⟩
      refine ⟨a, rfl, rfl, trivial, fun L2 σ H env el re s _ => ?_⟩
      subst el
      cases r.repZ hz s.1 q with
      | fz h rs => exact ⟨_, h.sql, rs⟩
    | non => cases e
    | dct _ _ => cases e
    | bl b => cases e
    | int b => cases e
    | str b => cases e
    | tup b => cases e
  | al j =>
    dsimp only at e
    split at e
    · rename_i b ds ej
      cases e
      obtain ⟨a, xs, sj, _⟩ := r.own j b ds ej
      have sj' : σ1[j]? = some (some v) := q
      rw [sj] at sj'
      cases sj'
      refine ⟨a, rfl, rfl, ⟨b, ej⟩, fun L2 σ H env el re s ⟨b', ok⟩ => ?_⟩
      obtain ⟨a2, ys, sj2, ea2, ra2, _⟩ := re.own j b' ds ok
      have := s.2.elim (fun z => nomatch z) (fun z => z j _ rfl) _ sj2
      rw [sj] at this
      cases this
      exact ⟨ys, .of ea2, ra2⟩
    · cases e
end
section
variable {X : Cx} {c : Cc} {W : WX} {e tg : Expr} {fa : FE} {fas : FA} {p pos : Pos}
theorem di2_list (he : PE X e (dE c W fa)) (hK : c.K = X.K := by rfl) : PI X tg e (dI2 c W (fiL false fa)) := PIw (pi_list he) fun σ H R ⟨env, L, Z, r, hz, h⟩ => by
  refine dE.of r (h.bind.mono fun t e1 H1 r1 s1 h1 v q => ?_)
  rw [← hK]
  cases ek : iL false t.weak e1 with
  | er => rw [ek] at h1; exact h1.elim
  | ex x y => exact (iL_ex _ _ ek).elim
  | ok k e2 =>
    rw [ek] at h1
    obtain ⟨a, rfl, rfl, ok, hl⟩ := lst_ofZ r1 (hz.step r s1) q.v ek
    obtain ⟨xs, hx, _⟩ := hl L σ H1 e2 rfl r1 ⟨StpN.of .refl, .inr fun _ _ _ _ z => z⟩ ok
    exact ⟨a, rfl, ⟨xs, hx⟩, h1 H1 r1 .refl (Itl c.K a) ⟨ok, src_list hl⟩⟩
theorem di2_enum {elts : List Expr} {kk : Nat} {tpos : Pos} (hg : Gl X "enumerate") (hm : X.mg "enumerate" = none) (ha : PA X [e] (dA c W fas)) (hK : c.K = X.K := by rfl) (hs : starEach [e] X.env = [(false, eval e X.env)] := by rfl) :
    PI X (.Tuple elts kk tpos) (.Call (.Name "enumerate" p) [e] [] pos) (dI2 c W (fiE false fas)) :=
  PIw (pi_enumA hg hm ha hs) fun σ H R ⟨env, L, Z, r, hz, h⟩ => by
  refine dA.of r (h.bind.mono fun ts e1 H1 r1 s1 h1 vs As q n r2 => ?_)
  rw [← hK]
  obtain ⟨ql, qv⟩ := q.vs r2 fun a z => ⟨z, (n a z).1⟩
  have hz1 := hz.step r s1
  have one : ∀ {t : T}, ts = [t] → ∃ v, vs = [v] ∧ RepV c L σ H1 e1 v t.weak := fun {t} et => by
    subst et
    match vs, ql with
    | [v], _ => exact ⟨v, rfl, qv 0 v _ rfl rfl⟩
  unfold iE at h1
  split at h1
  · rename_i ds
    obtain ⟨v, rfl, qq⟩ := one rfl
    have qq : Rep c.K (Av L σ e1) H1 v (.tup ds) := qq
    obtain ⟨a, rfl⟩ : ∃ a, v = .ref a := by cases qq; exact ⟨_, rfl⟩
    have hl : ∀ L2 σ' H' env', L2 = L → RE c L2 σ' H' env' → SwZ Z ⟨enumD ds, none⟩ σ e1 H1 σ' env' H' → Wk.ok ⟨ds, none⟩ env' → ∃ xs, SqT c.K H' a xs ∧ Reps c.K (Av L2 σ' env') H' xs ds := fun L2 σ' H' env' el re s _ => by
      subst el
      cases r1.repZ hz1 s.1 qq with
      | tup ht rs => exact ⟨_, ht, rs⟩
    obtain ⟨xs, ht, _⟩ := hl L σ H1 e1 rfl r1 ⟨StpN.of .refl, .inl rfl⟩ trivial
    exact ⟨a, xs, rfl, .inr ⟨ht, h1 H1 r1 .refl (IteT c.K a) ⟨trivial, src_enumT (k := ⟨ds, none⟩) hl⟩⟩⟩
  · rename_i t _
    obtain ⟨v, rfl, qq⟩ := one rfl
    cases ek : iL false t.weak e1 with
    | er => rw [ek] at h1; exact h1.elim
    | ex x y => exact (iL_ex _ _ ek).elim
    | ok k e2 =>
      rw [ek] at h1
      obtain ⟨a, rfl, rfl, ok, hl⟩ := lst_ofZ r1 hz1 qq ek
      have hl : ∀ L2 σ' H' env', L2 = L → RE c L2 σ' H' env' → SwZ Z ⟨enumD k.its, k.chk⟩ σ e2 H1 σ' env' H' → k.ok env' → ∃ xs, SqL c.K H' a xs ∧ Reps c.K (Av L2 σ' env') H' xs k.its := hl
      obtain ⟨xs, hx, _⟩ := hl L σ H1 e2 rfl r1 ⟨StpN.of .refl, .inr fun _ _ _ _ z => z⟩ ok
      exact ⟨a, xs, rfl, .inl ⟨hx, h1 H1 r1 .refl (Ite c.K a) ⟨ok, src_enumL hl⟩⟩⟩
  · exact h1.elim
end
end DL
namespace DL
open PySem PySem.Spec L2
open Classical in
noncomputable def cpL {α : Type} (k : Wk) (vs : List Nat) (t : CT) (ft : FT) (body : α → En → R α) : List D → α → En → R α
  | [], acc, env => if k.ok env then .ok acc env else .er
  | d :: ds, acc, env => if k.ok env then
      match envT t d env with
      | some e1 => match ft e1 with
        | .ok true e2 => match body acc e2 with
          | .ok acc2 e3 => cpL k vs t ft body ds acc2 (wipeE e3 vs)
          | _ => .er
        | .ok false e2 => cpL k vs t ft body ds acc (wipeE e2 vs)
        | _ => .er
      | none => .er
    else .er
section
variable {X : Cx} {c : Cc} {W : WX} {α : Type} {L : Addr → Prop} {AR : α → L2.St → En → Hp → Prop} {SB : Sp0} {ft : FT} {t : CT} {vs : List Nat} {body : α → En → R α} {k : Wk} {J : It} {σw : L2.St}
theorem wipe_wipe (σ : L2.St) (vs : List Nat) : wipe (wipe σ vs) vs = wipe σ vs := wipe_eq (wipe_length σ vs) fun j z => wipe_out' z
theorem cp_loop {A : (Addr → Prop) → Prop} {S : Sp0} {ys : α} {e2 : En} {Fin : Hp → Prop} {bodyT : (Hp → Prop) → L2.St → Hp → Prop} (hv : t.ins vs) (src : Src c A S J k) (hA : A L) (hS : ∀ σ' env' H', SB σ' env' H' → SubS σw σ' → S σ' env' H')
    (stab : ∀ acc σ env H σ' env' H', RE c L σ H env → Stp σ env H σ' env' H' → AR acc σ env H → AR acc σ' env' H')
    (step : ∀ σ env H σ' env' H', SB σ env H → Stp σ env H σ' env' H' → SB σ' env' H')
    (hb : ∀ Nx σ2 H e4 acc acc' e5, RE c L σ2 H e4 → SB σ2 e4 H → AR acc σ2 e4 H → body acc e4 = .ok acc' e5 → (∀ H', RE c L σ2 H' e5 → SB σ2 e5 H' → AR acc' σ2 e5 H' → Nx H') → bodyT Nx σ2 H)
    {H0 : Hp} {env0 : En} {acc0 : α} (r0 : RE c L (wipe σw vs) H0 env0) (n0 : ∀ (j : Nat) (s : Sl), env0[j]? = some s → j ∈ vs → s = .no) (sb0 : SB (wipe σw vs) env0 H0) (ar0 : AR acc0 (wipe σw vs) env0 H0) (q0 : cpL k vs t ft body k.its acc0 env0 = .ok ys e2)
    (fin : ∀ H', RE c L (wipe σw vs) H' e2 → (∀ (j : Nat) (s : Sl), e2[j]? = some s → j ∈ vs → s = .no) → SB (wipe σw vs) e2 H' → AR ys (wipe σw vs) e2 H' → Fin H') :
    tLoop J H0 (fun Nx x H' => gCT c.K t x (wipe σw vs) H' fun σ2 H2 => wipe σ2 vs = wipe σw vs ∧ dT c WF ft σ2 H2 fun b H3 => if b = true then bodyT Nx σ2 H3 else Nx H3) Fin := by
  have sub : SubS σw (wipe σw vs) := fun j v e => (wipe_some e).1
  let Wv : Nat → Hp → Prop := fun i H' => ∃ env' acc, RE c L (wipe σw vs) H' env' ∧ (∀ (j : Nat) (s : Sl), env'[j]? = some s → j ∈ vs → s = .no) ∧ SB (wipe σw vs) env' H' ∧ AR acc (wipe σw vs) env' H' ∧ cpL k vs t ft body (k.its.drop i) acc env' = .ok ys e2
  refine ⟨fun i m H' => m = k.its.length - i ∧ Wv i H', ⟨_, rfl, env0, acc0, r0, n0, sb0, ar0, q0⟩, fun i m H' ⟨em, env', acc, r, no, sb, ar, q⟩ => ?_⟩
  have sw := hS _ _ _ sb sub
  by_cases hi : k.its.length ≤ i
  · rw [List.drop_eq_nil_of_le hi] at q
    unfold cpL at q
    split at q
    · rename_i kok
      cases q
      exact .inl ⟨src.stop _ i (wipe σw vs) H' _ hA r sw kok hi, fin H' r no sb ar⟩
    · cases q
  · have hi : i < k.its.length := Nat.lt_of_not_le hi
    rw [List.drop_eq_getElem_cons hi] at q
    unfold cpL at q
    split at q
    · rename_i kok
      refine .inr ⟨src.go _ i (wipe σw vs) H' env' hA r sw kok hi, Wv (i + 1), fun H2 n => ⟨k.its.length - (i + 1), by omega, rfl, n⟩, fun x H'' y => ?_⟩
      obtain ⟨kp, rx⟩ := src.yld _ i (wipe σw vs) H' env' x H'' k.its[i] hA r sw kok (List.getElem?_eq_getElem hi) y
      have r' := r.grow kp
      have s' : Stp (wipe σw vs) env' H' (wipe σw vs) env' H'' := .grow kp
      cases ea : envT t k.its[i] env' with
      | none => rw [ea] at q; cases q
      | some e3 =>
        rw [ea] at q
        dsimp only at q
        refine gCT_of r' rx ea hv fun σ2 r2 s2 w2 => ⟨w2.trans (wipe_wipe σw vs), ?_⟩
        have w3 : wipe σ2 vs = wipe σw vs := w2.trans (wipe_wipe σw vs)
        have st2 := s'.trans s2
        refine ⟨e3, _, r2, ?_⟩
        cases et : ft e3 with
        | er => rw [et] at q; cases q
        | ex x e => rw [et] at q; cases q
        | ok b e4 =>
          rw [et] at q
          intro H3 r3 s3
          have st3 := st2.trans s3
          have ar3 := stab _ _ _ _ _ _ _ r st3 ar
          have sb3 := step _ _ _ _ _ _ sb st3
          cases b with
          | false =>
            dsimp only at q
            show Wv (i + 1) H3
            obtain ⟨r4, _, s4⟩ := r3.wipe vs
            rw [w3] at r4 s4
            exact ⟨_, acc, r4, fun j sl e z => wipeE_in z e, step _ _ _ _ _ _ sb3 s4, stab _ _ _ _ _ _ _ r3 s4 ar3, q⟩
          | true =>
            dsimp only at q
            cases eb : body acc e4 with
            | er => rw [eb] at q; cases q
            | ex x e => rw [eb] at q; cases q
            | ok acc' e5 =>
              rw [eb] at q
              dsimp only at q
              refine hb (Wv (i + 1)) σ2 H3 e4 acc acc' e5 r3 sb3 ar3 eb fun H4 r4 sb4 ar4 => ?_
              obtain ⟨r5, _, s5⟩ := r4.wipe vs
              rw [w3] at r5 s5
              exact ⟨_, acc', r5, fun j sl e z => wipeE_in z e, step _ _ _ _ _ _ sb4 s5, stab _ _ _ _ _ _ _ r4 s5 ar4, q⟩
    · cases q
theorem cpL_ex : ∀ (ds : List D) (acc : α) (env : En) (x : Str) (e : En), cpL k vs t ft body ds acc env ≠ .ex x e
  | [], acc, env, x, e, z => by
    unfold cpL at z
    split at z <;> cases z
  | d :: ds, acc, env, x, e, z => by
    unfold cpL at z
    split at z
    · split at z
      · split at z
        · split at z
          · exact cpL_ex _ _ _ _ _ z
          · cases z
        · exact cpL_ex _ _ _ _ _ z
        · cases z
      · cases z
    · cases z
theorem RE.unwipe {σ : L2.St} {H : Hp} {env : En} (r : RE c L (L2.wipe σ vs) H env) (no : ∀ (j : Nat) (s : Sl), env[j]? = some s → j ∈ vs → s = .no) : RE c L σ H env ∧ Stp (L2.wipe σ vs) env H σ env H := by
  obtain ⟨rb, _, sb⟩ := r.sub (σ' := σ) (env' := env) (by rw [r.len, wipe_length]) fun j sl e => by
    by_cases z : j ∈ vs
    · exact .inl (no j sl e z)
    · exact .inr ⟨e, (wipe_out' z).symm⟩
  exact ⟨rb, sb⟩
noncomputable def body2 (fi1 : FI) (vs1 : List Nat) (t1 : CT) (ft1 : FT) (body : α → En → R α) (acc : α) (e : En) : R α := match fi1 e with
  | .ok k1 e1 => cpL k1 vs1 t1 ft1 body k1.its acc (wipeE e1 vs1)
  | _ => .er
theorem body2_ok {fi1 : FI} {vs1 : List Nat} {t1 : CT} {ft1 : FT} {wi1 : TI} {Z : Addr → Prop} {bodyT : (Hp → Prop) → L2.St → Hp → Prop} (hw : ∀ σ H R, dI2 c WF fi1 σ H R → wi1 σ H R) (hv1 : t1.ins vs1)
    (stab : ∀ acc σ env H σ' env' H', RE c L σ H env → Stp σ env H σ' env' H' → AR acc σ env H → AR acc σ' env' H')
    (hz : ∀ acc σ env H, RE c L σ H env → AR acc σ env H → ZOk L H Z)
    (step : ∀ σ env H σ' env' H', SB σ env H → Stp σ env H σ' env' H' → SB σ' env' H')
    (hb : ∀ (SB' : Sp0) Nx σ2 H e4 acc acc' e5, (∀ σ env H σ' env' H', SB' σ env H → Stp σ env H σ' env' H' → SB' σ' env' H') → (∀ σ env H σ' env' H', SB' σ env H → StpN Z σ env H σ' env' H' → SB σ' env' H' → SB' σ' env' H') → (∀ σ env H, SB' σ env H → SB σ env H) → RE c L σ2 H e4 → SB' σ2 e4 H → AR acc σ2 e4 H → body acc e4 = .ok acc' e5 → (∀ H', RE c L σ2 H' e5 → SB' σ2 e5 H' → AR acc' σ2 e5 H' → Nx H') → bodyT Nx σ2 H) :
    ∀ Nx σ2 H e4 acc acc' e5, RE c L σ2 H e4 → SB σ2 e4 H → AR acc σ2 e4 H → body2 fi1 vs1 t1 ft1 body acc e4 = .ok acc' e5 → (∀ H' σ3, RE c L σ3 H' e5 → SB σ3 e5 H' → AR acc' σ3 e5 H' → σ3 = wipe σ2 vs1 → (∀ (j : Nat) (s : Sl), e5[j]? = some s → j ∈ vs1 → s = .no) → Nx H') →
      wi1 σ2 H fun J1 H4 => tLoop J1 H4 (fun Nx1 x H' => gCT c.K t1 x (wipe σ2 vs1) H' fun σ3 H5 => wipe σ3 vs1 = wipe σ2 vs1 ∧ dT c WF ft1 σ3 H5 fun b H6 => if b = true then bodyT Nx1 σ3 H6 else Nx1 H6) Nx := fun Nx σ2 H e4 acc acc' e5 r sb ar q nx => by
  unfold body2 at q
  cases ei : fi1 e4 with
  | er => rw [ei] at q; cases q
  | ex x e => rw [ei] at q; cases q
  | ok k1 e1 =>
    rw [ei] at q
    dsimp only at q
    refine hw σ2 H _ ⟨e4, L, Z, r, hz _ _ _ _ r ar, ?_⟩
    rw [ei]
    intro H1 r1 s1 J ⟨ok, src⟩
    have sb1 := step _ _ _ _ _ _ sb s1
    have ar1 := stab _ _ _ _ _ _ _ r s1 ar
    obtain ⟨rw0, _, sw0⟩ := r1.wipe vs1
    refine cp_loop (AR := AR) (SB := fun σ' env' H' => SB σ' env' H' ∧ StpN Z σ2 e1 H1 σ' env' H') (σw := σ2) (A := fun L2 => L2 = L) hv1 src rfl (fun σ' env' H' z w => ⟨z.2, .inr fun j _ _ v e => w j v e⟩) stab (fun _ _ _ _ _ _ z w => ⟨step _ _ _ _ _ _ z.1 w, z.2.trans (StpN.of w)⟩) (fun Nx σ3 H e6 acc acc' e7 r3 sb3 ar3 eb nx3 => ?_)
      rw0 (fun j s e z => wipeE_in z e) ⟨step _ _ _ _ _ _ sb1 sw0, StpN.of sw0⟩ (stab _ _ _ _ _ _ _ r1 sw0 ar1) q fun H' r' no sb' ar' => nx H' _ r' sb'.1 ar' rfl no
    exact hb (fun σ' env' H' => SB σ' env' H' ∧ StpN Z σ2 e1 H1 σ' env' H') Nx σ3 H e6 acc acc' e7 (fun _ _ _ _ _ _ z w => ⟨step _ _ _ _ _ _ z.1 w, z.2.trans (StpN.of w)⟩) (fun _ _ _ _ _ _ z w sb => ⟨sb, z.2.trans w⟩) (fun _ _ _ z => z.1) r3 sb3 ar3 eb nx3
end
end DL
namespace DL
open PySem PySem.Spec L2
def dcOf (m : List (List Int × D)) : D := .dct (m.map fun p => .tup (p.1.map .int)) (m.map (·.2))
noncomputable def bodyL (fe : FE) (acc : List D) (e : En) : R (List D) := if acc.length < 1000000 then match fe e with
  | .ok u e1 => match u.weak with
    | .im y => .ok (acc ++ [y]) e1
    | _ => .er
  | _ => .er
  else .er
noncomputable def bodyD (fk fv : FE) (acc : List (List Int × D)) (e : En) : R (List (List Int × D)) := match fk e with
  | .ok (.im (.tup ds)) e1 => match intsOf ds with
    | some ns => match fv e1 with
      | .ok (.im y) e2 => if ns ∉ acc.map (·.1) ∧ acc.length < 1000000 then .ok (acc ++ [(ns, y)]) e2 else .er
      | _ => .er
    | none => .er
  | _ => .er
noncomputable def eLc2 (fi : FI) (vs : List Nat) (t : CT) (ft : FT) (fi1 : FI) (vs1 : List Nat) (t1 : CT) (ft1 : FT) (fe : FE) : FE := fun env => (fi env).bind fun k e => (cpL k vs t ft (body2 fi1 vs1 t1 ft1 (bodyL fe)) k.its [] (wipeE e vs)).bind fun ys e2 => .ok (.fr ys) e2
noncomputable def eDc (fi : FI) (vs : List Nat) (t : CT) (ft : FT) (fk fv : FE) : FE := fun env => (fi env).bind fun k e => (cpL k vs t ft (bodyD fk fv) k.its [] (wipeE e vs)).bind fun m e2 => .ok (.im (dcOf m)) e2
noncomputable def eDc2 (fi : FI) (vs : List Nat) (t : CT) (ft : FT) (fi1 : FI) (vs1 : List Nat) (t1 : CT) (ft1 : FT) (fk fv : FE) : FE := fun env => (fi env).bind fun k e => (cpL k vs t ft (body2 fi1 vs1 t1 ft1 (bodyD fk fv)) k.its [] (wipeE e vs)).bind fun m e2 => .ok (.im (dcOf m)) e2
section
variable {c : Cc} {W : WX} {L : Addr → Prop} {σ : L2.St} {H : Hp} {env : En} {Dd : Addr}
theorem RE.xput {φ : Heap → Prop} {o : HO} (h : RE c L σ H env) (e : H Dd = some (.ext φ)) (h0 : c.H0 Dd = none) : RE c L σ (upd H Dd o) env ∧ TK H (upd H Dd o) ∧ ∀ b xs, H b = some (.lst xs) → upd H Dd o b = some (.lst xs) := by
  have ne : ∀ {b o'}, H b = some o' → (∀ ψ, o' ≠ .ext ψ) → b ≠ Dd := fun {b o'} q n z => by
    rw [z, e] at q
    cases q
    exact n _ rfl
  have kl : ∀ b xs, H b = some (.lst xs) → upd H Dd o b = some (.lst xs) := fun b xs q => by rw [upd_ne (ne q fun _ z => nomatch z)]; exact q
  have tk : TK H (upd H Dd o) := ⟨fun b xs q => by rw [upd_ne (ne q fun _ z => nomatch z)]; exact q, fun b o' u q => by rw [upd_ne (ne q fun _ z => nomatch z)]; exact q⟩
  refine ⟨⟨h.len, fun i d q => ?_, fun i io ds q => ?_, h.inj, fun a la => ?_, fun b o' n q => ?_, fun a ia => ?_⟩, tk, kl⟩
  · obtain ⟨v, e1, r⟩ := h.im i d q
    exact ⟨v, e1, r.mono tk fun a xs g e => ⟨g, kl a xs e⟩⟩
  · obtain ⟨a, xs, e1, e2, r, z⟩ := h.own i io ds q
    exact ⟨a, xs, e1, kl a xs e2, r.mono tk fun a xs g e => ⟨g, kl a xs e⟩, z⟩
  · obtain ⟨n, xs, e1⟩ := h.ext a la
    exact ⟨n, xs, kl a xs e1⟩
  · have := h.fr b o' n q
    rw [upd_ne fun z => by rw [z, h0] at q; cases q]
    exact this
  · obtain ⟨xs, e1⟩ := h.io a ia
    exact ⟨xs, kl a xs e1⟩
theorem RE.noX {φ : Heap → Prop} (h : RE c L σ H env) (e : H Dd = some (.ext φ)) : ¬ Nn σ env H Dd := Nn.not e fun ⟨i, io, ds, e1, e2⟩ => by
  obtain ⟨a, xs, e3, e4, _⟩ := h.own i io ds e1
  rw [e2] at e3
  cases e3
  rw [e] at e4
  cases e4
def ARd (c : Cc) (L : Addr → Prop) (Dd : Addr) (m : List (List Int × D)) (σ : L2.St) (env : En) (H : Hp) : Prop := ∃ kvs : Ke, H Dd = some (dcM Dd kvs) ∧ KeyT c.K H kvs ∧ kvs.map (·.1) = m.map (·.1) ∧ Reps c.K (Av L σ env) H (kvs.map (·.2.2)) (m.map (·.2))
def ARl (c : Cc) (L : Addr → Prop) (Dd : Addr) (acc : List D) (σ : L2.St) (env : En) (H : Hp) : Prop := ∃ xs, H Dd = some (.lst xs) ∧ Reps c.K (Av L σ env) H xs acc
theorem ARd.stab (m : List (List Int × D)) (σ : L2.St) (env : En) (H : Hp) (σ' : L2.St) (env' : En) (H' : Hp) (r : RE c L σ H env) (s : Stp σ env H σ' env' H') (h : ARd c L Dd m σ env H) : ARd c L Dd m σ' env' H' := by
  obtain ⟨kvs, e, hq, hk, rs⟩ := h
  refine ⟨kvs, ?_, fun x hx => (r.tk s).sqt (hq x hx), hk, r.reps s rs⟩
  rw [(s Dd (r.noX e)).1, e]
theorem ARl.stab (l : L Dd) (acc : List D) (σ : L2.St) (env : En) (H : Hp) (σ' : L2.St) (env' : En) (H' : Hp) (r : RE c L σ H env) (s : Stp σ env H σ' env' H') (h : ARl c L Dd acc σ env H) : ARl c L Dd acc σ' env' H' := by
  obtain ⟨xs, e, rs⟩ := h
  refine ⟨xs, ?_, r.reps s rs⟩
  rw [(s Dd (Nn.not e (r.ext Dd l).1)).1, e]
variable {SB' : Sp0} {fe fk fv : FE}
theorem stpn_put {o : HO} (n : ¬ Nn σ env H Dd) : StpN (· = Dd) σ env H σ env (upd H Dd o) := fun b nb nz => by
  have nz : b ≠ Dd := nz
  rw [upd_ne nz]
  exact ⟨rfl, fun z => nb (z.imp id fun z => by rw [upd_ne nz] at z; exact z)⟩
theorem bodyL_ok (l : L Dd) (h0 : c.H0 Dd = none) {Nx : Hp → Prop} {σ2 : L2.St} {H : Hp} {e4 e5 : En} {acc acc' : List D} (st : ∀ σ env H σ' env' H', SB' σ env H → Stp σ env H σ' env' H' → SB' σ' env' H') (stn : ∀ σ env H o, ¬ Nn σ env H Dd → SB' σ env H → SB' σ env (upd H Dd o))
    (r : RE c L σ2 H e4) (sb : SB' σ2 e4 H) (ar : ARl c L Dd acc σ2 e4 H) (q : bodyL fe acc e4 = .ok acc' e5) (nx : ∀ H', RE c L σ2 H' e5 → SB' σ2 e5 H' → ARl c L Dd acc' σ2 e5 H' → Nx H') :
    dE c WF fe σ2 H fun y H4 => ∃ acc, H4 Dd = some (.lst acc) ∧ acc.length < sizeLine ∧ Nx (upd H4 Dd (.lst (acc ++ [y]))) := by
  unfold bodyL at q
  split at q
  · rename_i la
    refine ⟨e4, L, r, ?_⟩
    cases ee : fe e4 with
    | er => rw [ee] at q; cases q
    | ex x e => rw [ee] at q; cases q
    | ok u e5' =>
      rw [ee] at q
      dsimp only at q
      intro H4 r4 s4 v qv
      have qv := qv.wk
      cases eu : u.weak with
      | al j => rw [eu] at q; cases q
      | fr ds => rw [eu] at q; cases q
      | ft ds => rw [eu] at q; cases q
      | im dy =>
        rw [eu] at q qv
        cases q
        have rv : Rep c.K (Av L σ2 e5) H4 v dy := qv
        obtain ⟨xs, ed, rs⟩ := ARl.stab l _ _ _ _ _ _ _ r s4 ar
        have nD : ¬ Nn σ2 e5 H4 Dd := Nn.not ed (r4.ext Dd l).1
        refine ⟨xs, ed, ?_, nx _ (r4.ext_put l (fun b z => upd_ne z) upd_same h0) (stn _ _ _ _ nD (st _ _ _ _ _ _ sb s4)) ⟨_, upd_same, ?_⟩⟩
        · have := rs.length
          exact Nat.lt_of_lt_of_le (by rw [this]; exact la) (line6 (Nat.le_refl _))
        · have tk : TK H4 (upd H4 Dd (.lst (xs ++ [v]))) := ⟨fun b zs e => by rw [upd_ne fun z => by rw [z, ed] at e; cases e]; exact e, fun b o w e => by rw [upd_ne fun z => by rw [z, ed] at e; cases e]; exact e⟩
          have go : ∀ b zs, Av L σ2 e5 b → H4 b = some (HO.lst zs) → Av L σ2 e5 b ∧ upd H4 Dd (.lst (xs ++ [v])) b = some (HO.lst zs) := fun b zs g e => ⟨g, by rw [upd_ne fun z => g.1 (by rw [z]; exact l)]; exact e⟩
          exact Reps.append (rs.mono tk go) (.cons (rv.mono tk go) .nil)
  · cases q
theorem intsOf_rep {K : PySem.W.Frag} {G : Addr → Prop} {v : V} {ds : List D} {ns : List Int} (h : Rep K G H v (.tup ds)) (e : intsOf ds = some ns) : ∃ a, v = .ref a ∧ SqT K H a (ns.map V.int) := by
  rw [intsOf_is e] at h
  cases h with
  | tup ht rs =>
    rename_i a xs
    exact ⟨a, rfl, by rw [← rs.ints]; exact ht⟩
theorem bodyD_ok (h0 : c.H0 Dd = none) {Nx : Hp → Prop} {σ2 : L2.St} {H : Hp} {e4 e5 : En} {acc acc' : List (List Int × D)} (st : ∀ σ env H σ' env' H', SB' σ env H → Stp σ env H σ' env' H' → SB' σ' env' H') (stn : ∀ σ env H o, ¬ Nn σ env H Dd → SB' σ env H → SB' σ env (upd H Dd o))
    (r : RE c L σ2 H e4) (sb : SB' σ2 e4 H) (ar : ARd c L Dd acc σ2 e4 H) (q : bodyD fk fv acc e4 = .ok acc' e5) (nx : ∀ H', RE c L σ2 H' e5 → SB' σ2 e5 H' → ARd c L Dd acc' σ2 e5 H' → Nx H') :
    spK c.K Dd (dE c WF fk) (dE c WF fv) σ2 Nx H := by
  unfold bodyD at q
  split at q
  · rename_i ds e6 ek
    split at q
    · rename_i ns ei
      split at q
      · rename_i y e7 ev
        split at q
        · rename_i cnd
          cases q
          refine ⟨e4, L, r, ?_⟩
          rw [ek]
          intro H1 r1 s1 v qk
          refine ⟨e6, L, r1, ?_⟩
          rw [ev]
          intro H2 r2 s2 z qv
          have qk : Rep c.K (Av L σ2 e6) H1 v (.tup ds) := qk
          have qv : Rep c.K (Av L σ2 e5) H2 z y := qv
          obtain ⟨a, rfl, hs⟩ := intsOf_rep (r1.rep s2 qk) ei
          obtain ⟨kvs, ed, hq, hk, rs⟩ := ARd.stab _ _ _ _ _ _ _ r (s1.trans s2) ar
          have hl : kvs.length = acc.length := by simpa using congrArg List.length hk
          have nD := r2.noX ed
          obtain ⟨r3, tk, kl⟩ := r2.xput (o := dcM Dd (kvs ++ [(ns, a, z)])) ed h0
          refine ⟨kvs, ns, a, rfl, ed, hq, hs, by rw [hk]; exact cnd.1, ?_, nx _ r3 (stn _ _ _ _ nD (st _ _ _ _ _ _ sb (s1.trans s2))) ⟨_, upd_same, fun x hx => ?_, by rw [List.map_append, List.map_append, hk]; rfl, ?_⟩⟩
          · exact Nat.lt_of_lt_of_le (by rw [hl]; exact cnd.2) (line6 (Nat.le_refl _))
          · rcases List.mem_append.mp hx with hx | hx
            · exact tk.sqt (hq x hx)
            · rw [List.mem_singleton.mp hx]
              exact tk.sqt hs
          · rw [List.map_append, List.map_append]
            exact Reps.append (rs.mono tk fun a xs g e => ⟨g, kl a xs e⟩) (.cons (qv.mono tk fun a xs g e => ⟨g, kl a xs e⟩) .nil)
        · cases q
      · cases q
    · cases q
  · cases q
theorem lock_ok {Q : VK} {σ0 : L2.St} {env0 : En} {H0 : Hp} {m : List (List Int × D)} (h0 : c.H0 Dd = none) (nD : H0 Dd = none) (r : RE c L σ H env) (s : Stp σ0 env0 H0 σ env H) (ar : ARd c L Dd m σ env H)
    (h : ∀ H', RE c L σ H' env → Stp σ0 env0 H0 σ env H' → Rep c.K (Av L σ env) H' (.ref Dd) (dcOf m) → Q (.ref Dd) H') : endK Dd H Q := by
  obtain ⟨kvs, ed, hq, hk, rs⟩ := ar
  refine ⟨kvs, ed, fun o d => ?_⟩
  obtain ⟨r3, tk, kl⟩ := r.xput (o := .frz o (dcM Dd kvs)) ed h0
  refine h _ r3 (fun b nb => ?_) (.dct upd_same d (fun x hx => tk.sqt (hq x hx)) ?_ (rs.mono tk fun a xs g e => ⟨g, kl a xs e⟩))
  · have nz : b ≠ Dd := fun z => nb (.inr (by rw [z]; exact nD))
    obtain ⟨e1, n1⟩ := s b nb
    rw [upd_ne nz]
    exact ⟨e1, fun z => n1 (z.imp id fun z => by rw [upd_ne nz] at z; exact z)⟩
  · have := congrArg (List.map fun k : List Int => D.tup (k.map .int)) hk
    simpa [List.map_map, Function.comp_def] using this.symm
end
end DL
namespace DL
open PySem PySem.Spec L2
section
variable {X : Cx} {c : Cc} {W : WX} {fi fi1 : FI} {vs vs1 : List Nat} {t t1 : CT} {ft ft1 : FT} {fe fk fv fa fb : FE}
theorem stn_stp {σ0 : L2.St} {env0 : En} {H0 : Hp} {Dd : Addr} (nD : H0 Dd = none) : ∀ σ env H (o : HO), ¬ Nn σ env H Dd → Stp σ0 env0 H0 σ env H → Stp σ0 env0 H0 σ env (upd H Dd o) := fun σ env H o n s b nb => by
  have nz : b ≠ Dd := fun z => nb (.inr (by rw [z]; exact nD))
  obtain ⟨e1, n1⟩ := s b nb
  rw [upd_ne nz]
  exact ⟨e1, fun z => n1 (z.imp id fun z => by rw [upd_ne nz] at z; exact z)⟩
theorem grow_to {σ : L2.St} {env : En} {H : Hp} {Dd : Addr} {o : HO} (nD : H Dd = none) : ∀ b q, H b = some q → upd H Dd o b = some q := fun b q e => by rw [upd_ne (ne_of_none e nD)]; exact e
theorem d_dc (hv : t.ins vs) : ∀ σ H Q, dE c W (eDc fi vs t ft fk fv) σ H Q → tDcI c.K (dI c W fi) (gCT c.K t) (dT c WF ft) (dE c WF fk) (dE c WF fv) vs σ H Q := fun σ H Q ⟨env, L, re, h⟩ => by
  refine ⟨env, L, re, h.bind.mono fun k e1 H1 r1 s1 h1 J ⟨ok, src⟩ Dd nD => ?_⟩
  cases el : cpL k vs t ft (bodyD fk fv) k.its [] (wipeE e1 vs) with
  | er => rw [el] at h1; exact h1.elim
  | ex x e => exact (cpL_ex _ _ _ _ _ el).elim
  | ok m e2 =>
    rw [el] at h1
    have h1 : ∀ H', RE c L σ H' e2 → Stp σ e1 H1 σ e2 H' → ∀ v, RepT c L (Nn σ env H) σ H' e2 v (.im (dcOf m)) → Q v H' := h1
    have h0 : c.H0 Dd = none := r1.h0 nD
    obtain ⟨rw0, _, sw0⟩ := r1.wipe vs
    have rg := rw0.grow (grow_to (σ := σ) (env := e1) (o := dcM Dd []) nD)
    have sb0 : Stp σ e1 H1 (wipe σ vs) (wipeE e1 vs) (upd H1 Dd (dcM Dd [])) := sw0.trans (.grow (grow_to (σ := σ) (env := e1) nD))
    refine cp_loop (L := L) (AR := ARd c L Dd) (SB := Stp σ e1 H1) (σw := σ) hv src (fun a z => .inl z) (fun σ' env' H' z w => ⟨z, .inr fun j _ _ v e => w j v e⟩) ARd.stab (fun _ _ _ _ _ _ z w => z.trans w)
      (fun Nx σ2 H e4 acc acc' e5 r sb ar q nx => bodyD_ok (SB' := Stp σ e1 H1) h0 (fun _ _ _ _ _ _ z w => z.trans w) (stn_stp nD) r sb ar q nx) rg (fun j s e z => wipeE_in z e) sb0 ⟨[], upd_same, (fun x hx => by cases hx), rfl, .nil⟩ el fun H' r' no sb ar => ?_
    obtain ⟨ru, su⟩ := r'.unwipe no
    exact lock_ok h0 nD ru (sb.trans su) (ARd.stab _ _ _ _ _ _ _ r' su ar) fun H3 r3 s3 rp => h1 H3 r3 s3 _ rp
theorem d_dc2 (hv : t.ins vs) (hv1 : t1.ins vs1) : ∀ σ H Q, dE c W (eDc2 fi vs t ft fi1 vs1 t1 ft1 fk fv) σ H Q → tDcII c.K (dI c W fi) (gCT c.K t) (dT c WF ft) (dI2 c WF fi1) (gCT c.K t1) (dT c WF ft1) (dE c WF fk) (dE c WF fv) vs vs1 σ H Q := fun σ H Q ⟨env, L, re, h⟩ => by
  refine ⟨env, L, re, h.bind.mono fun k e1 H1 r1 s1 h1 J ⟨ok, src⟩ Dd nD => ?_⟩
  cases el : cpL k vs t ft (body2 fi1 vs1 t1 ft1 (bodyD fk fv)) k.its [] (wipeE e1 vs) with
  | er => rw [el] at h1; exact h1.elim
  | ex x e => exact (cpL_ex _ _ _ _ _ el).elim
  | ok m e2 =>
    rw [el] at h1
    have h1 : ∀ H', RE c L σ H' e2 → Stp σ e1 H1 σ e2 H' → ∀ v, RepT c L (Nn σ env H) σ H' e2 v (.im (dcOf m)) → Q v H' := h1
    have h0 : c.H0 Dd = none := r1.h0 nD
    obtain ⟨rw0, _, sw0⟩ := r1.wipe vs
    have rg := rw0.grow (grow_to (σ := σ) (env := e1) (o := dcM Dd []) nD)
    have sb0 : Stp σ e1 H1 (wipe σ vs) (wipeE e1 vs) (upd H1 Dd (dcM Dd [])) := sw0.trans (.grow (grow_to (σ := σ) (env := e1) nD))
    refine cp_loop (L := L) (AR := ARd c L Dd) (SB := Stp σ e1 H1) (σw := σ) hv src (fun a z => .inl z) (fun σ' env' H' z w => ⟨z, .inr fun j _ _ v e => w j v e⟩) ARd.stab (fun _ _ _ _ _ _ z w => z.trans w)
      (fun Nx σ2 H e4 acc acc' e5 r sb ar q nx => body2_ok (Z := (· = Dd)) (AR := ARd c L Dd) (SB := Stp σ e1 H1) (bodyT := fun Nx σ H => spK c.K Dd (dE c WF fk) (dE c WF fv) σ Nx H) (fun _ _ _ z => z) hv1 ARd.stab (fun acc σ env H r ar b z => ?_) (fun _ _ _ _ _ _ z w => z.trans w)
        (fun SB' Nx σ2 H e4 acc acc' e5 st stz sbi r sb ar q nx => bodyD_ok (SB' := SB') h0 st (fun σ env H o n s => stz _ _ _ _ _ _ s (stpn_put n) (stn_stp nD _ _ _ _ n (sbi _ _ _ s))) r sb ar q nx) Nx σ2 H e4 acc acc' e5 r sb ar q fun H' σ3 r3 sb3 ar3 e3 no3 => ?_)
      rg (fun j s e z => wipeE_in z e) sb0 ⟨[], upd_same, (fun x hx => by cases hx), rfl, .nil⟩ el fun H' r' no sb ar => ?_
    · obtain ⟨kvs, e, _⟩ := ar
      have z : b = Dd := z
      rw [z]
      exact .inr ⟨_, e⟩
    · subst e3
      obtain ⟨ru, su⟩ := r3.unwipe no3
      exact nx H' ru (sb3.trans su) (ARd.stab _ _ _ _ _ _ _ r3 su ar3)
    · obtain ⟨ru, su⟩ := r'.unwipe no
      exact lock_ok h0 nD ru (sb.trans su) (ARd.stab _ _ _ _ _ _ _ r' su ar) fun H3 r3 s3 rp => h1 H3 r3 s3 _ rp
theorem d_lc2 (hv : t.ins vs) (hv1 : t1.ins vs1) : ∀ σ H Q, dE c W (eLc2 fi vs t ft fi1 vs1 t1 ft1 fe) σ H Q → tLc2 (dI c W fi) (gCT c.K t) (dT c WF ft) (dI2 c WF fi1) (gCT c.K t1) (dT c WF ft1) (dE c WF fe) vs vs1 σ H Q := fun σ H Q ⟨env, L, re, h⟩ => by
  refine ⟨env, L, re, h.bind.mono fun k e1 H1 r1 s1 h1 J ⟨ok, src⟩ Dd nD => ?_⟩
  cases el : cpL k vs t ft (body2 fi1 vs1 t1 ft1 (bodyL fe)) k.its [] (wipeE e1 vs) with
  | er => rw [el] at h1; exact h1.elim
  | ex x e => exact (cpL_ex _ _ _ _ _ el).elim
  | ok m e2 =>
    rw [el] at h1
    have h1 : ∀ H', RE c L σ H' e2 → Stp σ e1 H1 σ e2 H' → ∀ v, RepT c L (Nn σ env H) σ H' e2 v (.fr m) → Q v H' := h1
    have h0 : c.H0 Dd = none := r1.h0 nD
    have nL : ¬ L Dd := fun z => by
      obtain ⟨_, xs, e⟩ := r1.ext Dd z
      rw [nD] at e
      cases e
    have rm : RE c (fun b => L b ∨ b = Dd) σ (upd H1 Dd (.lst [])) e1 := r1.more (grow_to (σ := σ) (env := e1) nD) nD upd_same
    obtain ⟨rw0, _, sw0⟩ := rm.wipe vs
    have sb0 : Stp σ e1 H1 (wipe σ vs) (wipeE e1 vs) (upd H1 Dd (.lst [])) := (Stp.grow (grow_to (σ := σ) (env := e1) nD)).trans sw0
    have lp := cp_loop (L := fun b => L b ∨ b = Dd) (AR := ARl c (fun b => L b ∨ b = Dd) Dd) (SB := Stp σ e1 H1) (σw := σ) (Fin := fun H => Q (.ref Dd) H) hv src (fun a z => z.imp id fun z => by rw [z]; exact nD) (fun σ' env' H' z w => ⟨z, .inr fun j _ _ v e => w j v e⟩) (ARl.stab (.inr rfl)) (fun _ _ _ _ _ _ z w => z.trans w)
      (fun Nx σ2 H e4 acc acc' e5 r sb ar q nx => body2_ok (Z := (· = Dd)) (AR := ARl c (fun b => L b ∨ b = Dd) Dd) (SB := Stp σ e1 H1) (bodyT := fun Nx σ H => dE c WF fe σ H fun y H4 => ∃ acc, H4 Dd = some (.lst acc) ∧ acc.length < sizeLine ∧ Nx (upd H4 Dd (.lst (acc ++ [y])))) (fun _ _ _ z => z) hv1 (ARl.stab (.inr rfl)) (fun acc σ env H r ar b z => .inl (.inr z)) (fun _ _ _ _ _ _ z w => z.trans w)
        (fun SB' Nx σ2 H e4 acc acc' e5 st stz sbi r sb ar q nx => bodyL_ok (SB' := SB') (.inr rfl) h0 st (fun σ env H o n s => stz _ _ _ _ _ _ s (stpn_put n) (stn_stp nD _ _ _ _ n (sbi _ _ _ s))) r sb ar q nx) Nx σ2 H e4 acc acc' e5 r sb ar q fun H' σ3 r3 sb3 ar3 e3 no3 => by
          subst e3
          obtain ⟨ru, su⟩ := r3.unwipe no3
          exact nx H' ru (sb3.trans su) (ARl.stab (.inr rfl) _ _ _ _ _ _ _ r3 su ar3))
      rw0 (fun j s e z => wipeE_in z e) sb0 ⟨[], upd_same, .nil⟩ el fun H' r' no sb ar => by
        obtain ⟨ru, su⟩ := r'.unwipe no
        obtain ⟨xs, ed, rs⟩ := ARl.stab (.inr rfl) _ _ _ _ _ _ _ r' su ar
        exact h1 H' (ru.less fun b z => .inl z) (sb.trans su) _ ⟨Dd, xs, rfl, ed, rs, nL, h0, s1.back (.inr nD), ru⟩
    exact lp
end
end DL
namespace DL
open PySem PySem.Spec L2
section
variable {X : Cx} {c : Cc} {W : WX} {fi fi1 : FI} {vs vs1 : List Nat} {t t1 : CT} {ft ft1 : FT} {fe fk fv fa fb : FE} {pos spos apos cpos p : Pos} {elt kx vx iter iter1 tg tg1 a b e : Expr} {ifs ifs1 : List Expr} {scope : Scope} {own : List (Str × Nat)}
theorem de_lc2 (hc : X.calm = true) (hN : X.N.Nodup) (hi : PI X tg iter (dI c W fi)) (ok : BlkOk X.N X.env.scope scope own) (hg : InB X scope fun Y => PG Y tg (gCT X.K t)) (ht : InB X scope fun Y => PTs Y ifs (dT c WF ft))
    (hi1 : InB X scope fun Y => PI Y tg1 iter1 (dI2 c WF fi1)) (hg1 : InB X scope fun Y => PG Y tg1 (gCT X.K t1)) (ht1 : InB X scope fun Y => PTs Y ifs1 (dT c WF ft1)) (he : InB X scope fun Y => PE Y elt (dE c WF fe)) (hv : t.ins (own.map (·.2)) := by decide) (hv1 : t1.ins vs1 := by decide) (hvs : ∀ i ∈ vs1, i ∈ own.map (·.2) := by decide) (hK : c.K = X.K := by rfl)
    (hs : ∀ x, foldedSetIterable iter X.env x = pure x := by intro _; rfl) (hs1 : ∀ env x, foldedSetIterable iter1 env x = pure x := by intro _ _; rfl) :
    PE X (.ListComp elt [⟨tg, iter, ifs, 0⟩, ⟨tg1, iter1, ifs1, 0⟩] scope pos) (dE c W (eLc2 fi (own.map (·.2)) t ft fi1 vs1 t1 ft1 fe)) :=
  PEw (pe_lc2 hc hN hi ok hvs hg ht hi1 hg1 ht1 he hs hs1) (by rw [← hK]; exact d_lc2 hv hv1)
theorem de_dcI (hc : X.calm = true) (hu : X.A.units < cLine) (hN : X.N.Nodup) (hi : PI X tg iter (dI c W fi)) (ok : BlkOk X.N X.env.scope scope own) (hg : InB X scope fun Y => PG Y tg (gCT X.K t)) (ht : InB X scope fun Y => PTs Y ifs (dT c WF ft))
    (hk : InB X scope fun Y => PE Y kx (dE c WF fk)) (hx : InB X scope fun Y => PE Y vx (dE c WF fv)) (hv : t.ins (own.map (·.2)) := by decide) (hK : c.K = X.K := by rfl) (hs : ∀ x, foldedSetIterable iter X.env x = pure x := by intro _; rfl) :
    PE X (.DictComp kx vx [⟨tg, iter, ifs, 0⟩] scope pos) (dE c W (eDc fi (own.map (·.2)) t ft fk fv)) :=
  PEw (pe_dcI hc hu hN hi ok hg ht hk hx hs) (by rw [← hK]; exact d_dc hv)
theorem d_into {f : FE} {i : Nat} {te : TE} {K : PySem.W.Frag} (hK : c.K = K) (k : ∀ σ H Q, dE c W f σ H Q → te σ H Q) : ∀ D σ H, dS c W (sAsg f (gN i)) D σ H → tAsg te (gName i) D σ H := fun D σ H h => by
  obtain ⟨env, L, r, q⟩ := d_asg D σ H h
  exact k σ H _ ⟨env, L, r, q.mono fun t e1 H1 r1 s1 h1 v q => d_gN _ _ _ _ (h1 v q)⟩
theorem ds_setDcII {i : Nat} {y : Str} {py : Pos} (hc : X.calm = true) (hu : X.A.units < cLine) (hN : X.N.Nodup) (hy : X.N[i]? = some y) (hyl : X.env.scope.names.lookup y = some .local) (hsw : swapsWith (DC2 kx vx tg iter ifs tg1 iter1 ifs1 scope pos) (some (.Name y py)) spos.line X.env = pure true)
    (hi : PI X tg iter (dI c W fi)) (ok : BlkOk X.N X.env.scope scope own) (hg : InB X scope fun Y => PG Y tg (gCT X.K t)) (ht : InB X scope fun Y => PTs Y ifs (dT c WF ft))
    (hi1 : InB X scope fun Y => PI Y tg1 iter1 (dI2 c WF fi1)) (hg1 : InB X scope fun Y => PG Y tg1 (gCT X.K t1)) (ht1 : InB X scope fun Y => PTs Y ifs1 (dT c WF ft1)) (hk : InB X scope fun Y => PE Y kx (dE c WF fk)) (hx : InB X scope fun Y => PE Y vx (dE c WF fv)) (hv : t.ins (own.map (·.2)) := by decide) (hv1 : t1.ins vs1 := by decide) (hvs : ∀ i ∈ vs1, i ∈ own.map (·.2) := by decide) (hK : c.K = X.K := by rfl)
    (hs : ∀ x, foldedSetIterable iter X.env x = pure x := by intro _; rfl) (hs1 : ∀ env x, foldedSetIterable iter1 env x = pure x := by intro _ _; rfl) :
    PS X (.Assign [.Name y py] (DC2 kx vx tg iter ifs tg1 iter1 ifs1 scope pos) spos) (dS c W (sAsg (eDc2 fi (own.map (·.2)) t ft fi1 vs1 t1 ft1 fk fv) (gN i))) :=
  PSw (ps_setDcII hc hu hN hi ok hg ht hy hyl hsw hvs hi1 hg1 ht1 hk hx hs hs1) (d_into hK (by rw [← hK]; exact d_dc2 hv hv1))
def eDisp1 (fk fv : FE) : FE := fun env => (fk env).bind fun tk e1 => (fv e1).bind fun tv e2 => match tk, tv with
  | .im (.tup ds), .im y => match intsOf ds with
    | some ns => .ok (.im (dcOf [(ns, y)])) e2
    | none => .er
  | _, _ => .er
theorem de_disp1 (hu : X.A.units < cLine) (hk : PE X kx (dE c W fk)) (hx : PE X vx (dE c W fv)) (hK : c.K = X.K := by rfl) : PE X (.Dict [some kx] [vx] pos) (dE c W (eDisp1 fk fv)) := PEw (pe_disp1 hu hk hx) fun σ H Q ⟨env, L, re, h⟩ => by
  intro Dd nD
  rw [← hK]
  have h0 : c.H0 Dd = none := re.h0 nD
  have kp := grow_to (σ := σ) (env := env) (o := dcM Dd []) nD
  have rg := re.grow kp
  have sg : Stp σ env H σ env (upd H Dd (dcM Dd [])) := .grow kp
  unfold eDisp1 at h
  cases ek : fk env with
  | er => rw [ek] at h; exact h.elim
  | ex x e =>
    rw [ek] at h
    have h : ∀ H', RE c L σ H' e → Stp σ env H σ e H' → Wx c.mg W x σ H' := h
    refine ⟨env, L, rg, ?_⟩
    rw [ek]
    exact fun H1 r1 s1 => h H1 r1 (sg.trans s1)
  | ok tk e1 =>
    rw [ek] at h
    dsimp only [bind_ok] at h
    refine ⟨env, L, rg, ?_⟩
    rw [ek]
    intro H1 r1 s1 x q1
    cases ev : fv e1 with
    | er => rw [ev] at h; exact h.elim
    | ex x e =>
      rw [ev] at h
      have h : ∀ H', RE c L σ H' e → Stp σ env H σ e H' → Wx c.mg W x σ H' := h
      refine ⟨e1, L, r1, ?_⟩
      rw [ev]
      exact fun H2 r2 s2 => h H2 r2 ((sg.trans s1).trans s2)
    | ok tv e2 =>
      rw [ev] at h
      dsimp only [bind_ok] at h
      refine ⟨e1, L, r1, ?_⟩
      rw [ev]
      intro H2 r2 s2 y q2
      split at h
      · rename_i ds y'
        split at h
        · rename_i ns ei
          have h : ∀ H', RE c L σ H' e2 → Stp σ env H σ e2 H' → ∀ v, RepT c L (Nn σ env H) σ H' e2 v (.im (dcOf [(ns, y')])) → Q v H' := h
          have q1 : Rep c.K (Av L σ e1) H1 x (.tup ds) := q1
          have q2 : Rep c.K (Av L σ e2) H2 y y' := q2
          obtain ⟨a, rfl, hs⟩ := intsOf_rep (r1.rep s2 q1) ei
          have ed : H2 Dd = some (dcM Dd []) := by rw [((s1.trans s2) Dd (rg.noX upd_same)).1, upd_same]
          refine ⟨ed, a, ns, rfl, hs, fun o d => ?_⟩
          obtain ⟨r3, tk, kl⟩ := r2.xput (o := .frz o (dcM Dd [(ns, a, y)])) ed h0
          refine h _ r3 (stn_stp nD σ e2 H2 _ (r2.noX ed) ((sg.trans s1).trans s2)) _ (.dct upd_same d (fun x hx => ?_) rfl (.cons (q2.mono tk fun a xs g e => ⟨g, kl a xs e⟩) .nil))
          rw [List.mem_singleton.mp hx]
          exact tk.sqt hs
        · exact h.elim
      · exact h.elim
def getK : List D → List D → List Int → Option D
  | .tup ds :: ks, v :: vs, ns => if intsOf ds = some ns then some v else getK ks vs ns
  | _, _, _ => none
def dDIx : D → D → Option T
  | .dct ks vs, .tup ds => match intsOf ds with
    | some ns => (getK ks vs ns).map T.im
    | none => none
  | _, _ => none
theorem getK_of : ∀ (m : List (List Int × D)) (ns : List Int), getK (m.map fun p => .tup (p.1.map .int)) (m.map (·.2)) ns = (m.find? fun p => decide (p.1 = ns)).map (·.2)
  | [], _ => rfl
  | p :: m, ns => by
    rw [List.map_cons, List.map_cons, getK, intsOf_map, List.find?_cons, getK_of m ns]
    by_cases e : p.1 = ns
    · rw [if_pos (by rw [e]), decide_eq_true e]
      rfl
    · rw [if_neg (fun z => e (Option.some.inj z)), decide_eq_false e]
theorem getK_at {ns : List Int} {v : D} {K : PySem.W.Frag} {G : Addr → Prop} {H : Hp} : ∀ {kvs : Ke} {vs : List D}, Reps K G H (kvs.map (·.2.2)) vs → getK (kvs.map fun x => .tup (x.1.map .int)) vs ns = some v → ∃ q w, (ns, q, w) ∈ kvs ∧ Rep K G H w v
  | [], _, _, h => by cases h
  | x :: kvs, vs, r, h => by
    rw [List.map_cons] at r
    cases r with
    | cons r rs =>
      rw [List.map_cons, getK, intsOf_map] at h
      by_cases e : x.1 = ns
      · rw [if_pos (by rw [e])] at h
        cases h
        exact ⟨x.2.1, x.2.2, by rw [← e]; exact List.mem_cons_self, r⟩
      · rw [if_neg (fun z => e (Option.some.inj z))] at h
        obtain ⟨q, w, m, r'⟩ := getK_at rs h
        exact ⟨q, w, List.mem_cons_of_mem _ m, r'⟩
def eDIx (fa fb : FE) : FE := fun env => (fa env).bind fun ta e1 => (fb e1).bind fun tb e2 => match ta with
  | .im d => match tb.val e2 with
    | some k => R.opt (dDIx d k) e2
    | none => .er
  | _ => .er
theorem de_dix (hu : X.A.units + 1 < cLine) (ha : PE X a (dE c W fa)) (hb : PE X b (dE c W fb)) (hs : NoSl b) (hK : c.K = X.K := by rfl) : PE X (.Subscript a b pos) (dE c W (eDIx fa fb)) := PEw (pe_dix hu ha hb hs) fun σ H Q ⟨env, L, re, h⟩ => by
  refine dE.of re (h.bind.mono fun ta e1 H1 r1 s1 h1 x q1 => ?_)
  refine dE.of r1 (h1.bind.mono fun tb e2 H2 r2 s2 h2 y q2 => ?_)
  rw [← hK]
  cases ta with
  | al i => exact h2.elim
  | fr ds => exact h2.elim
  | ft cs => exact h2.elim
  | im d =>
    dsimp only at h2
    cases ev : tb.val e2 with
    | none => rw [ev] at h2; exact h2.elim
    | some k =>
      rw [ev] at h2
      dsimp only at h2
      unfold dDIx at h2
      split at h2
      · rename_i ks vs ds
        split at h2
        · rename_i ns ei
          cases eg : getK ks vs ns with
          | none => rw [eg] at h2; exact h2.elim
          | some v =>
            rw [eg] at h2
            have q1 : Rep c.K (Av L σ e2) H2 x (.dct ks vs) := r1.rep s2 q1
            obtain ⟨b2, ys, rfl, hb2, rb2⟩ := (q2.opr0 r2 ev).tup
            rw [intsOf_is ei] at rb2
            rw [rb2.ints] at hb2
            cases q1 with
            | dct hh ho hq hk rs =>
              rename_i a2 o u kvs
              subst hk
              obtain ⟨q, w, hm, rw'⟩ := getK_at rs eg
              exact ⟨a2, o, kvs, ns, q, b2, w, rfl, rfl, ⟨⟨u, hh⟩, ho, hq⟩, hm, hb2, h2 H2 r2 .refl _ rw'⟩
        · exact h2.elim
      · exact h2.elim
def pairsD (ks vs : List D) : List D := ks.zipWith (fun k v => .tup [k, v]) vs
def iDi (t : T) (env : En) : R Wk := match t with
  | .im (.dct ks vs) => .ok ⟨pairsD ks vs, none⟩ env
  | _ => .er
def fiDi (fa : FE) : FI := fun env => (fa env).bind iDi
theorem src_dct {A : (Addr → Prop) → Prop} {S : Sp0} {d : Addr} {o : Obj} {kvs : Ke} {vs : List D} (hl : ∀ L σ H env, A L → RE c L σ H env → S σ env H → DcAt c.K H d o kvs ∧ Reps c.K (Av L σ env) H (kvs.map (·.2.2)) vs) : Src c A S (ItD c.K d o kvs) ⟨pairsD (kvs.map fun x => .tup (x.1.map .int)) vs, none⟩ := by
  have len : ∀ {L σ H env}, Reps c.K (Av L σ env) H (kvs.map (·.2.2)) vs → (pairsD (kvs.map fun x => .tup (x.1.map .int)) vs).length = kvs.length := fun r => by
    have := r.length
    simp [pairsD] at this ⊢
    omega
  refine ⟨fun L i σ H env al re s k hi => ?_, fun L i σ H env al re s k hi => ?_, fun L i σ H env x H' d' al re s k hd hy => ?_⟩
  · obtain ⟨h, rs⟩ := hl L σ H env al re s
    exact ⟨h, by rw [← len rs]; exact hi⟩
  · obtain ⟨h, rs⟩ := hl L σ H env al re s
    exact ⟨h, by rw [← len rs]; exact hi⟩
  · obtain ⟨h, rs⟩ := hl L σ H env al re s
    obtain ⟨Tt, kk, q, v, ek, rfl, n, rfl⟩ := hy
    have hd : (pairsD (kvs.map fun x => .tup (x.1.map .int)) vs)[i]? = some d' := hd
    unfold pairsD at hd
    rw [List.getElem?_zipWith] at hd
    simp only [List.getElem?_map, ek, Option.map_some] at hd
    cases ev : vs[i]? with
    | none => rw [ev] at hd; cases hd
    | some dv =>
      rw [ev] at hd
      cases hd
      obtain ⟨w, ew, rv⟩ := rs.get ev
      rw [List.getElem?_map, ek] at ew
      cases ew
      exact pair_new re n (.tup (h.2.2 _ (List.mem_of_getElem? ek)) (Reps.of_ints kk)) rv
theorem di_itD {elts : List Expr} {kk : Nat} {tpos : Pos} (he : PE X e (dE c W fe)) (hK : c.K = X.K := by rfl) (hbase : attributeBase e "items" X.env (eval e X.env) = eval e X.env := by rfl) (hline : (apos.endLine == cpos.line) = true := by rfl) :
    PI X (.Tuple elts kk tpos) (.Call (.Attribute e "items" apos) [] [] cpos) (dI c W (fiDi fe)) := PIw (pi_itD he hbase hline) fun σ H R ⟨env, L, r, h⟩ => by
  refine dE.of r (h.bind.mono fun t e1 H1 r1 s1 h1 v q => ?_)
  rw [← hK]
  unfold iDi at h1
  split at h1
  · rename_i ks vs
    have q : Rep c.K (Av L σ e1) H1 v (.dct ks vs) := q
    have q0 := q
    cases q with
    | dct hh ho hq hk rs =>
      rename_i a o u kvs
      refine ⟨a, o, kvs, rfl, ⟨⟨u, hh⟩, ho, hq⟩, h1 H1 r1 .refl (ItD c.K a o kvs) ⟨trivial, ?_⟩⟩
      rw [hk]
      exact src_dct fun L2 σ' H' env' lx re s => ⟨⟨⟨u, (r1.tk s.1).frz _ _ _ hh⟩, ho, fun x hx => (r1.tk s.1).sqt (hq x hx)⟩, r1.reps s.1 (Reps.lx lx rs)⟩
  · exact h1.elim
def eDMax (fe : FE) : FE := fun env => (fe env).bind fun t e1 => match t with
  | .im (.dct _ vs) => match intsOf vs with
    | some (n :: ns) => .ok (.im (.int (ns.foldl max n))) e1
    | _ => .er
  | _ => .er
theorem de_dmax (hg : Gl X "max") (hm : X.mg "max" = none) (he : PE X e (dE c W fe)) (hK : c.K = X.K := by rfl) (hc : X.calm = true := by rfl) (hbase : attributeBase e "values" X.env (eval e X.env) = eval e X.env := by rfl) (hline : (apos.endLine == cpos.line) = true := by rfl)
    (h1 : starEach [.Call (.Attribute e "values" apos) [] [] cpos] X.env = (false, eval (.Call (.Attribute e "values" apos) [] [] cpos) X.env) :: starEach [] X.env := by rfl) (hpl : (backTo pos (starEach [] X.env)).any (·.1) = false := by rfl) :
    PE X (.Call (.Name "max" p) [.Call (.Attribute e "values" apos) [] [] cpos] [] pos) (dE c W (eDMax fe)) :=
  PEw (pe_callB (cr_dmax hc) hg hm (by decide +kernel) (pa_cons (pe_dvl he hbase hline) pa_nil h1) (by decide) (by decide) h1 hpl) fun σ H Q ⟨env, L, r, h⟩ => by
  show tDVl X.K (dE c W fe) σ H fun x H1 => rDMax X.K [x] H1 Q
  refine dE.of r (h.bind.mono fun t e1 H1 r1 s1 h2 v q => ?_)
  rw [← hK]
  split at h2
  · rename_i ks vs
    split at h2
    · rename_i n ns ei
      have q : Rep c.K (Av L σ e1) H1 v (.dct ks vs) := q
      cases q with
      | dct hh ho hq hk rs =>
        rename_i a o u kvs
        refine ⟨a, o, kvs, rfl, ⟨⟨u, hh⟩, ho, hq⟩, fun p np => ?_⟩
        have kp := grow_to (σ := σ) (env := e1) (o := viewO "dict_values" p a) np
        rw [intsOf_is ei] at rs
        refine ⟨p, a, o, kvs, n, ns, rfl, upd_same, ⟨⟨u, kp _ _ hh⟩, ho, fun x hx => (r1.tk (.grow kp)).sqt (hq x hx)⟩, rs.ints, h2 _ (r1.grow kp) (.grow kp) _ (.int _)⟩
    · exact h2.elim
  · exact h2.elim
theorem u0 {A : Around} {k : Nat} (h : Room k A) : A.units < cLine := by have := h.un; omega
theorem u1 {A : Around} {k : Nat} (h : Room k A) : A.units + 1 < cLine := by have := h.un; omega
end
end DL
namespace DL
open PySem PySem.Spec L2
@[simp] theorem eDisp1_s (fk fv : FE) (env : En) : eDisp1 fk fv env = ((fk env).bind fun tk e1 => (fv e1).bind fun tv e2 => match tk, tv with
  | .im (.tup ds), .im y => match intsOf ds with
    | some ns => .ok (.im (dcOf [(ns, y)])) e2
    | none => .er
  | _, _ => .er) := rfl
@[simp] theorem eDIx_s (fa fb : FE) (env : En) : eDIx fa fb env = ((fa env).bind fun ta e1 => (fb e1).bind fun tb e2 => match ta with
  | .im d => match tb.val e2 with
    | some k => R.opt (dDIx d k) e2
    | none => .er
  | _ => .er) := rfl
@[simp] theorem fiDi_s (fa : FE) (env : En) : fiDi fa env = ((fa env).bind iDi) := rfl
@[simp] theorem iDi_s (ks vs : List D) (env : En) : iDi (.im (.dct ks vs)) env = .ok ⟨pairsD ks vs, none⟩ env := rfl
@[simp] theorem eDMax_s (fe : FE) (env : En) : eDMax fe env = ((fe env).bind fun t e1 => match t with
  | .im (.dct _ vs) => match intsOf vs with
    | some (n :: ns) => .ok (.im (.int (ns.foldl max n))) e1
    | _ => .er
  | _ => .er) := rfl
theorem eLc2_s (fi : FI) (vs : List Nat) (t : CT) (ft : FT) (fi1 : FI) (vs1 : List Nat) (t1 : CT) (ft1 : FT) (fe : FE) (env : En) : eLc2 fi vs t ft fi1 vs1 t1 ft1 fe env = ((fi env).bind fun k e => (cpL k vs t ft (body2 fi1 vs1 t1 ft1 (bodyL fe)) k.its [] (wipeE e vs)).bind fun ys e2 => .ok (.fr ys) e2) := rfl
theorem eDc_s (fi : FI) (vs : List Nat) (t : CT) (ft : FT) (fk fv : FE) (env : En) : eDc fi vs t ft fk fv env = ((fi env).bind fun k e => (cpL k vs t ft (bodyD fk fv) k.its [] (wipeE e vs)).bind fun m e2 => .ok (.im (dcOf m)) e2) := rfl
theorem eDc2_s (fi : FI) (vs : List Nat) (t : CT) (ft : FT) (fi1 : FI) (vs1 : List Nat) (t1 : CT) (ft1 : FT) (fk fv : FE) (env : En) : eDc2 fi vs t ft fi1 vs1 t1 ft1 fk fv env = ((fi env).bind fun k e => (cpL k vs t ft (body2 fi1 vs1 t1 ft1 (bodyD fk fv)) k.its [] (wipeE e vs)).bind fun m e2 => .ok (.im (dcOf m)) e2) := rfl
end DL
namespace DL
open PySem PySem.Spec L2
section
variable {X : Cx} {c : Cc} {W : WX} {e tg elt a b : Expr} {te : TE} {fe : FE} {fas : FA} {ft : FT} {t : CT} {pos p pc px spos rpos : Pos} {ifs : List Expr} {scope : Scope} {own : List (Str × Nat)} {x : Str} {i : Nat}
def iRgO (te : TE) : TI := fun σ H R => te σ H fun x H1 => ∃ a i j, x = .ref a ∧ H1 a = some (.rng i j) ∧ (-(2 ^ 62) ≤ i ∧ i < 2 ^ 62 ∧ -(2 ^ 62) ≤ j ∧ j < 2 ^ 62) ∧ R (Itr i (j - i).toNat) H1
theorem pi_rgO (he : PE X e te) : PI X tg e (iRgO te) := by
  refine ⟨fun pins s σ H R I h => thn (he.run pins s σ H _ I h) fun u s1 ⟨x, H1, I1, rx, a, i, j, ex, ha, ⟨b1, b2, b3, b4⟩, q⟩ => ?_⟩
  subst ex
  obtain rfl : u = Value.ref a := rx
  obtain ⟨t, v, w, ho⟩ := (show ObjOk X.prog X.w H1 s1.heap a (.rng i j) from I1.hok a _ ha)
  refine wpAny_pyIter_range (t := t) (u := v) (v := w) ho (small_one b1 b2 b3 b4) ?_
  have I2 : Inv X pins σ H1 { s1 with heap := s1.heap.push { cls := .type "range_iterator", data := .fields #[rawInt i, rawInt (Builtin.Range.rangeSize i j 1), rawInt 1] } } := I1.kept (t' := s1.toks) fun b o e => Heap.get?_push_of_some _ e
  refine ⟨s1.heap.objs.size, [s1.heap.objs.size], _, _, H1, rfl, I2, turn_range _ i (j - i).toNat, ?_, fun b hb => ?_, q⟩
  · have e1 : i + ((0 : Nat) : Int) * 1 = i := by simp
    have e2 : (((j - i).toNat : Nat) : Int) - ((0 : Nat) : Int) = Builtin.Range.rangeSize i j 1 := by rw [rangeSize_one]; split <;> omega
    show IsRangeIter _ _ (i + ((0 : Nat) : Int) * 1) ((((j - i).toNat : Nat) : Int) - ((0 : Nat) : Int)) 1
    rw [e1, e2]
    exact Heap.get?_push_size _ rfl
  · rw [List.mem_singleton.mp hb]
    exact I1.fpOk (Nat.le_refl _) (I1.hok.fresh (Nat.le_refl _))
theorem bo_range : bootBuiltins "range" = some (.type "range") := by decide +kernel
noncomputable def sRngC (i : Nat) (fas : FA) (vs : List Nat) (t : CT) (ft : FT) (fe : FE) : FS := fun env => (fas env).bindF fun ts e => match vals e ts with
  | some [.int a, .int b] => if (-(2 ^ 62) ≤ a ∧ a < 2 ^ 62 ∧ -(2 ^ 62) ≤ b ∧ b < 2 ^ 62) ∧ i < e.length then (eLc (fun e => .ok ⟨rngD a b, none⟩ e) vs t ft fe (e.set i .no)).bindF fun t e => .rt t e else .er
  | _ => .er
theorem dss_rngC (hc : X.calm = true) (hN : X.N.Nodup) (hxi : X.N[i]? = some x) (hx : Loc X.env.scope x) (hg : Gl X "range") (hm : X.mg "range" = none) (ha : PA X [a, b] (dA c W fas)) (hv : PE X (.Name x px) (tVar i)) (ok : BlkOk X.N X.env.scope scope own) (htg : InB X scope fun Y => PG Y tg (gCT X.K t)) (htt : InB X scope fun Y => PTs Y ifs (dT c WF ft))
    (he : InB X scope fun Y => PE Y elt (dE c WF fe)) (hins : t.ins (own.map (·.2)) := by decide) (hK : c.K = X.K := by rfl) (hs : ∀ z, foldedSetIterable (.Name x px) X.env z = pure z := by intro _; rfl)
    (hsa : starEach [a, b] X.env = (false, eval a X.env) :: starEach [b] X.env := by rfl) (hpl : (backTo pc (starEach [b] X.env)).any (·.1) = false := by rfl) (hf : X.fn x = true ∨ X.env.scope.names.lookup x = some .local := by first | exact .inl rfl | exact .inr rfl) {px2 : Pos} (hsw : swapsWith (.Call (.Name "range" p) [a, b] [] pc) (some (.Name x px2)) spos.line X.env = pure false := by rfl) :
    PSs X [.Assign [.Name x px2] (.Call (.Name "range" p) [a, b] [] pc) spos, .Return (some (.ListComp elt [⟨tg, .Name x px, ifs, 0⟩] scope pos)) rpos] (dS c W (sRngC i fas (own.map (·.2)) t ft fe)) :=
  PSsw (pss_cons (ps_set hN hxi hx (pe_callTy cr_range2 hg hm bo_range ha (by decide) (by decide) hsa hpl) hsw hf) (pss_one (ps_ret (pe_lc hc hN (pi_rgO hv) ok htg htt he hs)))) fun D σ H ⟨env, L, r, h⟩ => by
  show tCB (fun vs H Q => ∃ i j, vs = [V.int i, V.int j] ∧ ∀ (p : Addr), H p = none → Q (V.ref p) (upd H p (HO.rng i j))) (dA c W fas) σ H fun v H1 => gName i v σ H1 fun σ1 H2 => tLc (iRgO (tVar i)) (gCT X.K t) (dT c WF ft) (dE c WF fe) (own.map (·.2)) σ1 H2 D.rt
  refine dA.of r (h.bind.mono fun ts e1 H1 r1 s1 h1 vs As q n r2 => ?_)
  cases ev : vals e1 ts with
  | none => rw [ev] at h1; exact h1.elim
  | some ds =>
    rw [ev] at h1
    have ro := q.oprs r2.bare r2 (fun a z => ⟨z, (n a z).1⟩) ev
    split at h1
    · rename_i i1 j1 e3
      cases e3
      split at h1
      · rename_i bnd
        obtain ⟨bnd, il⟩ := bnd
        cases ro with
        | cons q1 ro =>
          cases ro with
          | cons q2 ro =>
            cases ro
            refine ⟨i1, j1, by rw [RepO_int q1, RepO_int q2], fun p np => ?_⟩
            have kp := grow_to (σ := σ) (env := e1) (o := HO.rng i1 j1) np
            have rg := r1.grow kp
            obtain ⟨rs, _, ss⟩ := rg.sub (σ' := σ.set i (some (V.ref p))) (env' := e1.set i .no) (by rw [List.length_set, List.length_set]; exact rg.len) fun j s e => by
              by_cases z : i = j
              · subst z
                simp [List.getElem?_set] at e
                exact .inl e.2.symm
              · rw [List.getElem?_set_ne z] at e
                exact .inr ⟨e, by rw [List.getElem?_set_ne z]⟩
            have st := s1.trans ((Stp.grow kp).trans ss)
            have h2 : dE c W (eLc (fun e => .ok ⟨rngD i1 j1, none⟩ e) (own.map (·.2)) t ft fe) (σ.set i (some (V.ref p))) (upd H1 p (HO.rng i1 j1)) D.rt := by
              refine ⟨e1.set i .no, L, rs, ?_⟩
              cases el : eLc (fun e => .ok ⟨rngD i1 j1, none⟩ e) (own.map (·.2)) t ft fe (e1.set i .no) with
              | er => rw [el] at h1; exact h1.elim
              | ex y e =>
                rw [el] at h1
                have h1 : ∀ σ' H', RE c L σ' H' e → Stp σ env H σ' e H' → Wx c.mg W y σ' H' := h1
                exact fun H' r' s' => h1 _ H' r' (st.trans s')
              | ok t2 e =>
                rw [el] at h1
                have h1 : ∀ v σ' H', RE c L σ' H' e → Stp σ env H σ' e H' → RepT c L (Nn σ env H) σ' H' e v t2 → D.rt v H' := h1
                exact fun H' r' s' v q' => h1 v _ H' r' (st.trans s') (q'.less (fun _ z => z) fun a z => st.back z)
            have h3 := d_lc (c := c) (W := W) hins _ _ _ h2
            rw [← hK]
            obtain ⟨e3, L3, r3, h3⟩ := h3
            exact ⟨.ref p, by rw [List.getElem?_set_self (by rw [← r1.len]; exact il)], p, i1, j1, rfl, upd_same, bnd, h3 _ r3 .refl (Itr i1 (j1 - i1).toNat) ⟨trivial, src_rng i1 j1⟩⟩
      · exact h1.elim
    · exact h1.elim
end
end DL
namespace DL
open PySem PySem.Spec L2
section
variable {X : Cx} {c : Cc} {pos : Pos} {es : List Expr} {gs : FGs}
def gTA (n : Nat) (gs : FGs) : FG := fun t env => match t with
  | .im (.lst ds) => if ds.length = n then gs (ds.map fun d => ⟨false, d⟩) env else .er
  | t => gT n gs t env
@[simp] theorem gTA_lst (n : Nat) (gs : FGs) (ds : List D) (env : En) : gTA n gs (.im (.lst ds)) env = if ds.length = n then gs (ds.map fun d => ⟨false, d⟩) env else .er := rfl
@[simp] theorem gTA_tup (n : Nat) (gs : FGs) (ds : List D) (env : En) : gTA n gs (.im (.tup ds)) env = gT n gs (.im (.tup ds)) env := rfl
theorem pg_or {tg : Expr} {t u : TG} (h : PG X tg t) (k : PG X tg u) : PG X tg fun v σ H Q => t v σ H Q ∨ u v σ H Q := ⟨fun pins s σ H v w Q I r q => q.elim (h.run pins s σ H v w Q I r) (k.run pins s σ H v w Q I r)⟩
theorem dg_any {k n : Nat} (hc : X.calm = true) (h : PGs X es (dGs c gs)) (hn : (assignEach es X.env).length = n := by rfl) (hst : (assignEach es X.env).findIdx? (·.1) = none := by rfl) (hK : c.K = X.K := by rfl) : PG X (.Tuple es k pos) (dG c (gTA n gs)) :=
  PGw (pg_or (pg_tup hc h hn hst) (pg_unl hc h hn hst)) fun v σ H Q ⟨env, L, N, t, r, q, h⟩ => by
    have key : (∃ ds, t = .im (.lst ds)) ∨ gTA n gs t env = gT n gs t env := by
      unfold gTA
      split
      · exact .inl ⟨_, rfl⟩
      · exact .inr rfl
    rcases key with ⟨ds, rfl⟩ | e
    · refine .inr ?_
      rw [gTA_lst] at h
      by_cases hl : ds.length = n
      · rw [if_pos hl] at h
        have q : Rep c.K (Av L σ env) H v (.lst ds) := q
        cases q with
        | lst g ea rs =>
          rename_i a xs
          have conv : ∀ {xs : List V} {ds : List D}, Reps c.K (Av L σ env) H xs ds → RepC c.K (Av (Lu L []) σ env) H [] xs (ds.map fun d => ⟨false, d⟩) := fun {xs ds} r => by
            induction ds generalizing xs with
            | nil => cases r; exact .nil
            | cons d ds ih =>
              cases r with
              | cons r rs => exact .im (r.mono (.refl H) fun b ys g e => ⟨⟨fun z => z.elim g.1 (fun z => nomatch z), g.2⟩, e⟩) (ih rs)
          exact ⟨_, _, rfl, .of ea, by rw [rs.length, hl], env, L, N, [], _, r.less (fun b z => z.elim id (fun z => nomatch z)), conv rs, (fun a z => nomatch z), h⟩
      · rw [if_neg hl] at h
        exact h.elim
    · rw [e] at h
      exact .inl (d_gT hK v σ H Q ⟨env, L, N, t, r, q, h⟩)
end
end DL
namespace DL
open PySem PySem.Spec L2
section
open PySem.W PyProof.Rows PySem.SeqAt
variable {prog : Program} {w : World} {A : Around} {E : Value → Shared → Prop} {s : Shared}
section
variable {M : Model}
end
end
def relabelS (scope sc : Scope) : Scope :=
  { scope with names := scope.names.map fun (n, k) => if (k == .free && sc.kind == .function && sc.names.lookup n == some .cell) then (n, .cell) else (n, k) }
theorem relabel_is (scope : Scope) (env : Env) : relabel scope env = relabelS scope env.scope := rfl
end DL
namespace DL
open PySem PySem.Spec L2
section
variable {X : Cx} {c : Cc} {W : WX} {pos p kp np : Pos} {e : Expr} {fa : FA}
end
end DL
namespace DL
open PySem PySem.Spec L2
section
open PySem.W PyProof.Rows
def ItA (c : Bool) (h : Heap) (it l : Addr) (k : Nat) : Prop := if c = true then h.IsListIter it l k else h.IsTupleIter it l k
def SqA (c : Bool) (h : Heap) (l : Addr) (xs : Array Value) : Prop := if c = true then h.IsList l xs else h.IsTuple l xs
theorem ItA.ext {c : Bool} {h g : Heap} {it l x : Addr} {k : Nat} (i : ItA c h it l k) (e : Heap.ExtBut x h g) (n : it ≠ x) : ItA c g it l k := by
  cases c
  · exact Heap.IsTupleIter.extBut (show h.IsTupleIter it l k from i) e n
  · exact Heap.IsListIter.extBut (show h.IsListIter it l k from i) e n
theorem ItA.at {c : Bool} {h g : Heap} {it l : Addr} {k : Nat} (i : ItA c h it l k) (e : ∀ o, h.get? it = some o → g.get? it = some o) : ItA c g it l k := by
  cases c
  · exact Heap.IsTupleIter.at (show h.IsTupleIter it l k from i) e
  · exact Heap.IsListIter.at (show h.IsListIter it l k from i) e
theorem SqA.ext {c : Bool} {h g : Heap} {l x : Addr} {xs : Array Value} (i : SqA c h l xs) (e : Heap.ExtBut x h g) (n : l ≠ x) : SqA c g l xs := by
  cases c
  · exact Heap.IsTuple.extBut (show h.IsTuple l xs from i) e n
  · exact Heap.IsList.extBut (show h.IsList l xs from i) e n
theorem ItA.obj {c : Bool} {h : Heap} {it l : Addr} {k : Nat} (i : ItA c h it l k) : ∃ o, h.get? it = some o ∧ ∀ v, o.data ≠ .cell v := by
  cases c
  · obtain ⟨o, e, _, d⟩ := (show h.IsTupleIter it l k from i)
    exact ⟨o, e, fun v z => by rw [d] at z; cases z⟩
  · obtain ⟨o, e, _, d⟩ := (show h.IsListIter it l k from i)
    exact ⟨o, e, fun v z => by rw [d] at z; cases z⟩
section
variable {prog : Program} {w : World} {A : Around} {E : Value → Shared → Prop} {s : Shared}
theorem drawA {c : Bool} {it l : Addr} {k : Nat} {xs : Array Value} {x : Value} {R : Value → Shared → Prop} (i : ItA c s.heap it l k) (q : SqA c s.heap l xs) (e : xs[k]? = some x)
    (r : ∀ g, ItA c g it l (k + 1) → Heap.SameBut it s.heap g → R x { s with heap := g }) : wpAny (model prog w) A (Builtin.SmallTypes.nextOf (.ref it)) R E s := by
  cases c
  · exact RZ.nextOf_tuple_item i q e r
  · exact wpAny_nextOf_list_item i q e r
theorem drawA_end {c : Bool} {it l : Addr} {k : Nat} {xs : Array Value} {R : Value → Shared → Prop} (hd : A.handled = none) (i : ItA c s.heap it l k) (q : SqA c s.heap l xs) (e : xs[k]? = none)
    (r : ∀ g v, Heap.ExtBut it s.heap g → (∃ o, g.get? v = some o ∧ o.cls = .type "StopIteration") → E (.ref v) { s with heap := g }) : wpAny (model prog w) A (Builtin.SmallTypes.nextOf (.ref it)) R E s := by
  cases c
  · exact RZ.nextOf_tuple_end hd i q e r
  · exact wpAny_nextOf_list_end hd i q e r
abbrev GZip (h : Heap) (z I O : Addr) (v : Value) (f : Bool) : Prop := h.get? z = some { cls := .type "zip", dict := none, data := .fields #[v, .bool f, .bool false, .ref I, .ref O], slots := #[] }
def given (v : Value) : Prop := v = .none ∨ ∃ T : Nat, v = rawInt T
theorem gz_asks {z I O : Addr} {v : Value} {f : Bool} {R : Bool → Shared → Prop} (hz : GZip s.heap z I O v f) (hv : given v) (k1 : R true s) (k2 : v ≠ .none → ∀ g, GZip g z I O v true → Heap.SameBut z s.heap g → R false { s with heap := g }) :
    wpAny (model prog w) A (Builtin.SmallTypes.ownedTupleIsFree (.ref z)) R E s := by
  rcases hv with rfl | ⟨T, rfl⟩
  · unfold Builtin.SmallTypes.ownedTupleIsFree
    exact wpAny_bind (wpAny_field hz rfl (x := .none) rfl (wpAny_pure k1))
  · cases hT : s.heap.get? T with
    | some o => exact wpAny_tupleHeld_zip hz hT fun g a b => k2 (fun z => nomatch z) g a b
    | none =>
      unfold Builtin.SmallTypes.ownedTupleIsFree
      refine wpAny_bind (wpAny_field hz rfl (x := rawInt T) rfl ?_)
      show wpAny _ _ (loadIfAlive ((T : Int).toNat) >>= _) _ _ _
      rw [Int.toNat_natCast]
      have al : ∀ {R : Option Obj → Shared → Prop}, R none s → wpAny (model prog w) A (loadIfAlive T) R E s := fun {R} k => by
        have k : R (s.heap.get? T) s := by rw [hT]; exact k
        exact fun _ _ _ => k
      refine wpAny_bind (al ?_)
      exact wpAny_pure k1
structure ZGone (h g : Heap) (z I O i j p q : Addr) (c d : Bool) (m n : Nat) (x y : Value) (b : Bool) : Prop where
  zip : ∃ v f, GZip g z I O v f ∧ given v ∧ (b = true → v = rawInt h.objs.size ∧ f = false)
  keepI : IsPair g I (.ref i) (.ref j)
  keepO : ∃ a b, IsPair g O a b
  it1 : ItA c g i p (m + 1)
  it2 : ItA d g j q (n + 1)
  new : IsPair g h.objs.size x y
  old : ∀ a o, a ≠ z → a ≠ O → a ≠ i → a ≠ j → h.get? a = some o → g.get? a = some o
theorem gz_item {c d : Bool} {z I O i j p q : Addr} {m n : Nat} {v x y u0 u1 : Value} {f : Bool} {xs ys : Array Value} {R : Value → Shared → Prop} (D : ZipApart z I O i j p q) (hz : GZip s.heap z I O v f) (hv : given v) (hI : IsPair s.heap I (.ref i) (.ref j)) (hO : IsPair s.heap O u0 u1)
    (h1 : ItA c s.heap i p m) (h2 : ItA d s.heap j q n) (s1 : SqA c s.heap p xs) (s2 : SqA d s.heap q ys) (e1 : xs[m]? = some x) (e2 : ys[n]? = some y)
    (k : ∀ g b, (v = .none → b = true) → ZGone s.heap g z I O i j p q c d m n x y b → R (.ref s.heap.objs.size) { s with heap := g }) :
    wpAny (model prog w) A (Builtin.«zip.__next__» ⟨[.ref z], []⟩) (fun r t => ∃ v, r = .done (.ret v) ∧ R v t) E s := by
  show wpAny _ _ (field (.ref z) 2 >>= _) _ _ _
  refine wpAny_bind (wpAny_field hz rfl (x := .bool false) rfl ?_)
  show wpAny _ _ (field (.ref z) 3 >>= _) _ _ _
  refine wpAny_bind (wpAny_field hz rfl (x := .ref I) rfl (wpAny_bind (wpAny_seqItems hI rfl ?_)))
  show wpAny _ _ (Builtin.SmallTypes.ownedTupleIsFree (.ref z) >>= _) _ _ _
  refine wpAny_bind (gz_asks hz hv ?_ ?_)
  · -- the pair that it keeps is free
    simp only [if_true]
    refine wpAny_bind (wpAny_rule (wpAny_bind (wpAny_field hz rfl (x := .ref O) rfl ?_)))
    refine wpAny_bind (wpAny_setField_rec hz (by simp) fun a za sa => wpAny_bind ?_)
    have za : GZip a z I O .ellipsis f := za
    simp only [List.zipIdx_cons, List.zipIdx_nil, List.forIn_cons, List.forIn_nil]
    refine wpAny_bind (wpAny_bind (wpAny_onRaise ?_))
    show wpAny _ _ (Builtin.SmallTypes.nextOf (.ref i) >>= _) _ _ _
    refine wpAny_bind (drawA (s := { s with heap := a }) (h1.ext sa.extBut D.i1z) (s1.ext sa.extBut D.l1z) e1 fun b ib sb => wpAny_pure ?_)
    have Ob : IsPair b O u0 u1 := sb.extBut _ _ D.TOi1 (sa.extBut _ _ D.TOz hO)
    refine wpAny_bind (wpAny_seqItems Ob rfl (wpAny_bind (wpAny_updateSeq_pair Ob fun r Or sr => ?_)))
    have Or : IsPair r O x u1 := Or
    refine wpAny_bind (wpAny_letGo (wpAny_pure ?_))
    refine wpAny_bind (wpAny_bind (wpAny_onRaise ?_))
    show wpAny _ _ (Builtin.SmallTypes.nextOf (.ref j) >>= _) _ _ _
    have jr : ItA d r j q n := ((h2.ext sa.extBut D.i2z).ext sb.extBut D.i12.symm).ext sr.extBut D.TOi2.symm
    have qr : SqA d r q ys := ((s2.ext sa.extBut D.l2z).ext sb.extBut D.l2i1).ext sr.extBut D.l2TO
    refine wpAny_bind (drawA (s := { s with heap := r }) jr qr e2 fun t jt st => wpAny_pure ?_)
    have Ot : IsPair t O x u1 := st.extBut _ _ D.TOi2 Or
    refine wpAny_bind (wpAny_seqItems Ot rfl (wpAny_bind (wpAny_updateSeq_pair Ot fun l Ol sl => ?_)))
    have Ol : IsPair l O x y := Ol
    refine wpAny_bind (wpAny_letGo (wpAny_pure (wpAny_pure ?_)))
    refine wpAny_bind (wpAny_seqItems Ol rfl (wpAny_bind (wpAny_newTuple ?_)))
    have sz : l.objs.size = s.heap.objs.size := by rw [sl.1, st.1, sr.1, sb.1, sa.1]
    have zl : GZip l z I O .ellipsis f := sl.extBut _ _ D.TOz.symm (st.extBut _ _ D.i2z.symm (sr.extBut _ _ D.TOz.symm (sb.extBut _ _ D.i1z.symm za)))
    have kl : ∀ a o, a ≠ z → a ≠ O → a ≠ i → a ≠ j → s.heap.get? a = some o → l.get? a = some o := fun a' o n1 n2 n3 n4 e => sl.extBut _ _ n2 (st.extBut _ _ n4 (sr.extBut _ _ n2 (sb.extBut _ _ n3 (sa.extBut _ _ n1 e))))
    have il : ItA c l i p (m + 1) := ((ib.ext sr.extBut D.TOi1.symm).ext st.extBut D.i12).ext sl.extBut D.TOi1.symm
    have jl : ItA d l j q (n + 1) := jt.ext sl.extBut D.TOi2.symm
    have zlt : z < l.objs.size := Heap.lt_size zl
    show wpAny _ _ (Builtin.SmallTypes.ownedTupleHandOut (.ref z) (.ref l.objs.size) >>= _) _ _ _
    refine wpAny_bind ?_
    unfold Builtin.SmallTypes.ownedTupleHandOut
    refine wpAny_bind (wpAny_setField_rec (s := { s with heap := l.push { cls := .type "tuple", data := .seq #[x, y] } }) (Heap.get?_push_of_some _ zl) (by simp) fun u zu su => ?_)
    refine wpAny_setField_rec (s := { s with heap := u }) zu (by simp) fun w' zw sw => wpAny_pure ⟨_, rfl, ?_⟩
    have zw : GZip w' z I O (rawInt l.objs.size) false := zw
    have up : ∀ a o, a ≠ z → l.get? a = some o → w'.get? a = some o := fun a' o n1 e => sw.extBut _ _ n1 (su.extBut _ _ n1 (Heap.get?_push_of_some _ e))
    have nw : IsPair w' l.objs.size x y := sw.extBut _ _ (Nat.ne_of_gt zlt) (su.extBut _ _ (Nat.ne_of_gt zlt) (Heap.get?_push_size _ rfl))
    rw [sz] at zw nw
    show R (.ref l.objs.size) _
    rw [sz]
    exact k w' true (fun _ => rfl) ⟨⟨_, _, zw, .inr ⟨_, rfl⟩, fun _ => ⟨rfl, rfl⟩⟩, up _ _ D.TIz (kl _ _ D.TIz D.TITO D.TIi1 D.TIi2 hI), ⟨x, y, up _ _ D.TOz Ol⟩, il.at fun o e => up _ o D.i1z e, jl.at fun o e => up _ o D.i2z e, nw, fun a' o n1 n2 n3 n4 e => up a' o n1 (kl a' o n1 n2 n3 n4 e)⟩
  · -- it is held
    intro nv a za sa
    simp only [Bool.false_eq_true, if_false]
    refine wpAny_bind ?_
    rw [← Array.forIn_toList]
    simp only [List.forIn_cons, List.forIn_nil]
    refine wpAny_bind (wpAny_bind (wpAny_holding ?_))
    show wpAny _ _ (Builtin.SmallTypes.nextOf (.ref i) >>= _) _ _ _
    refine wpAny_bind (drawA (s := { s with heap := a }) (h1.ext sa.extBut D.i1z) (s1.ext sa.extBut D.l1z) e1 fun b ib sb => wpAny_pure (wpAny_pure ?_))
    refine wpAny_bind (wpAny_bind (wpAny_holding ?_))
    show wpAny _ _ (Builtin.SmallTypes.nextOf (.ref j) >>= _) _ _ _
    have jb : ItA d b j q n := (h2.ext sa.extBut D.i2z).ext sb.extBut D.i12.symm
    have qb : SqA d b q ys := (s2.ext sa.extBut D.l2z).ext sb.extBut D.l2i1
    refine wpAny_bind (drawA (s := { s with heap := b }) jb qb e2 fun l jl sl => wpAny_pure (wpAny_pure (wpAny_pure ?_)))
    show wpAny _ _ (newTuple [x, y] >>= _) _ _ _
    refine wpAny_bind (wpAny_newTuple ?_)
    have sz : l.objs.size = s.heap.objs.size := by rw [sl.1, sb.1, sa.1]
    have zl : GZip l z I O v true := sl.extBut _ _ D.i2z.symm (sb.extBut _ _ D.i1z.symm za)
    have kl : ∀ a o, a ≠ z → a ≠ i → a ≠ j → s.heap.get? a = some o → l.get? a = some o := fun a' o n1 n3 n4 e => sl.extBut _ _ n4 (sb.extBut _ _ n3 (sa.extBut _ _ n1 e))
    have il : ItA c l i p (m + 1) := ib.ext sl.extBut D.i12
    have up : ∀ a o, l.get? a = some o → (l.push { cls := .type "tuple", data := .seq #[x, y] }).get? a = some o := fun a' o e => Heap.get?_push_of_some _ e
    have nw : IsPair (l.push { cls := .type "tuple", data := .seq #[x, y] }) l.objs.size x y := Heap.get?_push_size _ rfl
    refine wpAny_pure ⟨_, rfl, ?_⟩
    show R (.ref l.objs.size) _
    rw [sz] at nw ⊢
    exact k _ false (fun z => (nv z).elim) ⟨⟨v, true, up _ _ zl, hv, fun z => nomatch z⟩, up _ _ (kl _ _ D.TIz D.TIi1 D.TIi2 hI), ⟨u0, u1, up _ _ (kl _ _ D.TOz D.TOi1 D.TOi2 hO)⟩, il.at fun o e => up _ o e, jl.at fun o e => up _ o e, nw, fun a' o n1 _ n3 n4 e => up a' o (kl a' o n1 n3 n4 e)⟩
theorem gz_end {c d : Bool} {z I O i j p q : Addr} {m n : Nat} {v u0 u1 : Value} {f : Bool} {xs ys : Array Value} {R : Fin → Shared → Prop} (hd : A.handled = none) (D : ZipApart z I O i j p q) (hz : GZip s.heap z I O v f) (hv : given v) (hI : IsPair s.heap I (.ref i) (.ref j)) (hO : IsPair s.heap O u0 u1)
    (h1 : ItA c s.heap i p m) (h2 : ItA d s.heap j q n) (s1 : SqA c s.heap p xs) (s2 : SqA d s.heap q ys) (ee : xs[m]? = none ∨ ys[n]? = none)
    (k : ∀ g e, (∀ a o, a ≠ z → a ≠ O → a ≠ i → a ≠ j → s.heap.get? a = some o → g.get? a = some o) → (∃ o, g.get? e = some o ∧ o.cls = .type "StopIteration") → E (.ref e) { s with heap := g }) :
    wpAny (model prog w) A (Builtin.«zip.__next__» ⟨[.ref z], []⟩) R E s := by
  have apart : ∀ {g : Heap} {e : Addr} {v : Value} {f : Bool}, GZip g z I O v f → (∃ o, g.get? e = some o ∧ o.cls = .type "StopIteration") → e ≠ z := by
    rintro g e v f hg ⟨o, ho, hc⟩ rfl
    rw [hg] at ho
    cases ho
    simp at hc
  show wpAny _ _ (field (.ref z) 2 >>= _) _ _ _
  refine wpAny_bind (wpAny_field hz rfl (x := .bool false) rfl ?_)
  show wpAny _ _ (field (.ref z) 3 >>= _) _ _ _
  refine wpAny_bind (wpAny_field hz rfl (x := .ref I) rfl (wpAny_bind (wpAny_seqItems hI rfl ?_)))
  show wpAny _ _ (Builtin.SmallTypes.ownedTupleIsFree (.ref z) >>= _) _ _ _
  refine wpAny_bind (gz_asks hz hv ?_ ?_)
  · simp only [if_true]
    refine wpAny_bind (wpAny_rule (wpAny_bind (wpAny_field hz rfl (x := .ref O) rfl ?_)))
    refine wpAny_bind (wpAny_setField_rec hz (by simp) fun a za sa => wpAny_bind ?_)
    have za : GZip a z I O .ellipsis f := za
    simp only [List.zipIdx_cons, List.zipIdx_nil, List.forIn_cons, List.forIn_nil]
    refine wpAny_bind (wpAny_bind (wpAny_onRaise ?_))
    show wpAny _ _ (Builtin.SmallTypes.nextOf (.ref i) >>= _) _ _ _
    cases e1 : xs[m]? with
    | none =>
      refine wpAny_bind (drawA_end (s := { s with heap := a }) hd (h1.ext sa.extBut D.i1z) (s1.ext sa.extBut D.l1z) e1 fun b e sb he => ?_)
      have zb : GZip b z I O .ellipsis f := sb _ _ D.i1z.symm za
      refine wpAny_setField_rec (s := { s with heap := b }) zb (by simp) fun r _ sr => ?_
      have ne := apart zb he
      obtain ⟨o, ho, hc⟩ := he
      exact k r e (fun a' o n1 _ n3 _ x => sr.extBut _ _ n1 (sb _ _ n3 (sa.extBut _ _ n1 x))) ⟨o, sr.extBut _ _ ne ho, hc⟩
    | some x =>
      have e2 : ys[n]? = none := ee.resolve_left fun z => by rw [e1] at z; cases z
      refine wpAny_bind (drawA (s := { s with heap := a }) (h1.ext sa.extBut D.i1z) (s1.ext sa.extBut D.l1z) e1 fun b ib sb => wpAny_pure ?_)
      have Ob : IsPair b O u0 u1 := sb.extBut _ _ D.TOi1 (sa.extBut _ _ D.TOz hO)
      refine wpAny_bind (wpAny_seqItems Ob rfl (wpAny_bind (wpAny_updateSeq_pair Ob fun r Or sr => ?_)))
      refine wpAny_bind (wpAny_letGo (wpAny_pure ?_))
      refine wpAny_bind (wpAny_bind (wpAny_onRaise ?_))
      show wpAny _ _ (Builtin.SmallTypes.nextOf (.ref j) >>= _) _ _ _
      have jr : ItA d r j q n := ((h2.ext sa.extBut D.i2z).ext sb.extBut D.i12.symm).ext sr.extBut D.TOi2.symm
      have qr : SqA d r q ys := ((s2.ext sa.extBut D.l2z).ext sb.extBut D.l2i1).ext sr.extBut D.l2TO
      refine wpAny_bind (drawA_end (s := { s with heap := r }) hd jr qr e2 fun t e st he => ?_)
      have zt : GZip t z I O .ellipsis f := st _ _ D.i2z.symm (sr.extBut _ _ D.TOz.symm (sb.extBut _ _ D.i1z.symm za))
      refine wpAny_setField_rec (s := { s with heap := t }) zt (by simp) fun l _ sl => ?_
      have ne := apart zt he
      obtain ⟨o, ho, hc⟩ := he
      exact k l e (fun a' o n1 n2 n3 n4 x => sl.extBut _ _ n1 (st _ _ n4 (sr.extBut _ _ n2 (sb.extBut _ _ n3 (sa.extBut _ _ n1 x))))) ⟨o, sl.extBut _ _ ne ho, hc⟩
  · intro _ a za sa
    simp only [Bool.false_eq_true, if_false]
    refine wpAny_bind ?_
    rw [← Array.forIn_toList]
    simp only [List.forIn_cons, List.forIn_nil]
    refine wpAny_bind (wpAny_bind (wpAny_holding ?_))
    show wpAny _ _ (Builtin.SmallTypes.nextOf (.ref i) >>= _) _ _ _
    cases e1 : xs[m]? with
    | none => exact wpAny_bind (drawA_end (s := { s with heap := a }) hd (h1.ext sa.extBut D.i1z) (s1.ext sa.extBut D.l1z) e1 fun b e sb he => k b e (fun a' o n1 _ n3 _ x => sb _ _ n3 (sa.extBut _ _ n1 x)) he)
    | some x =>
      have e2 : ys[n]? = none := ee.resolve_left fun z => by rw [e1] at z; cases z
      refine wpAny_bind (drawA (s := { s with heap := a }) (h1.ext sa.extBut D.i1z) (s1.ext sa.extBut D.l1z) e1 fun b ib sb => wpAny_pure (wpAny_pure ?_))
      refine wpAny_bind (wpAny_bind (wpAny_holding ?_))
      show wpAny _ _ (Builtin.SmallTypes.nextOf (.ref j) >>= _) _ _ _
      have jb : ItA d b j q n := (h2.ext sa.extBut D.i2z).ext sb.extBut D.i12.symm
      have qb : SqA d b q ys := (s2.ext sa.extBut D.l2z).ext sb.extBut D.l2i1
      exact wpAny_bind (drawA_end (s := { s with heap := b }) hd jb qb e2 fun l e sl he => k l e (fun a' o n1 _ n3 n4 x => sl _ _ n4 (sb.extBut _ _ n3 (sa.extBut _ _ n1 x))) he)
theorem gz_next {c d : Bool} {z I O i j p q : Addr} {m n : Nat} {v x y u0 u1 : Value} {f : Bool} {xs ys : Array Value} {R : Option Value → Shared → Prop} (D : ZipApart z I O i j p q) (hz : GZip s.heap z I O v f) (hv : given v) (hI : IsPair s.heap I (.ref i) (.ref j)) (hO : IsPair s.heap O u0 u1)
    (h1 : ItA c s.heap i p m) (h2 : ItA d s.heap j q n) (s1 : SqA c s.heap p xs) (s2 : SqA d s.heap q ys) (e1 : xs[m]? = some x) (e2 : ys[n]? = some y)
    (k : ∀ g b, (v = .none → b = true) → ZGone s.heap g z I O i j p q c d m n x y b → R (some (.ref s.heap.objs.size)) { s with heap := g }) : wpAny (model prog w) A (pyNext (.ref z)) R E s := by
  have ty : s.TypeIs (.ref z) "zip" := ⟨_, hz, rfl⟩
  unfold pyNext
  refine wpAny_bind (wpAny_attempt (wpAny_callSpecial?_slot (name := Str.ofString "__next__") ty F.slot_zip_next ?_))
  exact wpAny_call_entry F.slot_zip_next ty F.entry_zip_next (gz_item D hz hv hI hO h1 h2 s1 s2 e1 e2 fun g b a r => wpAny_pure (k g b a r)) (F.args_zip_next_1 _)
theorem gz_over {c d : Bool} {z I O i j p q : Addr} {m n : Nat} {v u0 u1 : Value} {f : Bool} {xs ys : Array Value} {R : Option Value → Shared → Prop} (hd : A.handled = none) (D : ZipApart z I O i j p q) (hz : GZip s.heap z I O v f) (hv : given v) (hI : IsPair s.heap I (.ref i) (.ref j)) (hO : IsPair s.heap O u0 u1)
    (h1 : ItA c s.heap i p m) (h2 : ItA d s.heap j q n) (s1 : SqA c s.heap p xs) (s2 : SqA d s.heap q ys) (ee : xs[m]? = none ∨ ys[n]? = none)
    (k : ∀ g, (∀ a o, a ≠ z → a ≠ O → a ≠ i → a ≠ j → s.heap.get? a = some o → g.get? a = some o) → R none { s with heap := g }) : wpAny (model prog w) A (pyNext (.ref z)) R E s := by
  have ty : s.TypeIs (.ref z) "zip" := ⟨_, hz, rfl⟩
  unfold pyNext
  refine wpAny_bind (wpAny_attempt (wpAny_callSpecial?_slot (name := Str.ofString "__next__") ty F.slot_zip_next ?_))
  refine wpAny_call_entry F.slot_zip_next ty F.entry_zip_next (gz_end hd D hz hv hI hO h1 h2 s1 s2 ee fun g e a he => ?_) (F.args_zip_next_1 _)
  obtain ⟨o, ho, hc⟩ := he
  refine wpAny_bind (wpAny_isInstance (T := "StopIteration") (b := true) ⟨o, ho, hc⟩ isSubtype_stop ?_)
  exact wpAny_pure (k g a)
end
def goesTo : Bool → Expr → Prop
  | true, tg => ∃ es k p, tg = .Tuple es k p
  | false, tg => ∃ x p, tg = .Name x p
def zOk (h : Heap) (z I O i j p q : Addr) (b c d : Bool) (n : Nat) : Prop := (∃ v f, GZip h z I O v f ∧ given v ∧ (b = true → v = .none ∧ f = false)) ∧ IsPair h I (.ref i) (.ref j) ∧ (∃ x y, IsPair h O x y) ∧ ItA c h i p n ∧ ItA d h j q n
def SqK (c : Bool) (K : PySem.W.Frag) (H : Hp) (a : Addr) (xs : List V) : Prop := if c = true then SqL K H a xs else SqT K H a xs
def ItZ (c d : Bool) (K : PySem.W.Frag) (a b : Addr) : It :=
  ⟨fun i H => ∃ (xs ys : List V) (x y : V), SqK c K H a xs ∧ SqK d K H b ys ∧ xs[i]? = some x ∧ ys[i]? = some y,
    fun i H v H' => ∃ T x y, v = .ref T ∧ H T = none ∧ H' = upd H T (.tup [x, y]) ∧ (∀ xs, SqK c K H a xs → xs[i]? = some x) ∧ ∀ ys, SqK d K H b ys → ys[i]? = some y,
    fun i H => ∃ xs ys : List V, SqK c K H a xs ∧ SqK d K H b ys ∧ (xs.length ≤ i ∨ ys.length ≤ i)⟩
section
variable {X : Cx} {pins : List (Addr × Obj)} {s : Shared} {σ : L2.St} {H : Hp}
theorem sqk_at {c : Bool} {a : Addr} {xs : List V} (I : Inv X pins σ H s) (h : SqK c X.K H a xs) : ∃ its : List Value, Vals xs its ∧ SqA c s.heap a its.toArray ∧ a < s.heap.objs.size := by
  cases c
  · obtain ⟨its, r, p, _⟩ := I.tuple (show SqT X.K H a xs from h)
    obtain ⟨o, e, _⟩ := id p
    exact ⟨its, r, p, Heap.lt_size e⟩
  · obtain ⟨its, r, p, _⟩ := I.list (show SqL X.K H a xs from h)
    exact ⟨its, r, p.isList, p.lt⟩
theorem sqk_inj {c : Bool} {a : Addr} {xs ys : List V} (I : Inv X pins σ H s) (h : SqK c X.K H a xs) (k : SqK c X.K H a ys) : xs = ys := by
  cases c
  · exact I.tuple_inj (show SqT X.K H a xs from h) k
  · exact I.list_inj (show SqL X.K H a xs from h) k
end
theorem let_go {prog : Program} {w : World} {A : Around} {E : Value → Shared → Prop} {s : Shared} {b : Bool} {tg : Expr} {z I O T : Addr} {v : Value} {f : Bool} {Q : Unit → Shared → Prop} (ht : goesTo b tg) (hz : GZip s.heap z I O v f) (hv : given v) (hb : b = true → v = rawInt T ∧ f = false)
    (k : ∀ g, (∃ v f, GZip g z I O v f ∧ given v ∧ (b = true → v = .none ∧ f = false)) → Heap.SameBut z s.heap g → Q () { s with heap := g }) : wpAny (model prog w) A (letOwnedTupleGo tg (.ref z) (.ref T)) Q E s := by
  cases b with
  | true =>
    obtain ⟨es, kk, p, rfl⟩ := ht
    obtain ⟨rfl, rfl⟩ := hb rfl
    exact wpAny_letOwnedTupleGo_zip hz fun g a c => k g ⟨_, _, a, .inl rfl, fun _ => ⟨rfl, rfl⟩⟩ c
  | false =>
    obtain ⟨x, p, rfl⟩ := ht
    show wpAny (model prog w) A (pure ()) Q E s
    exact wpAny_pure (k s.heap ⟨v, f, hz, hv, fun z => nomatch z⟩ (Heap.SameBut.refl _ _))
theorem turn_zA {P : Program} {w : World} {K : PySem.W.Frag} {b c d : Bool} {tg : Expr} (ht : goesTo b tg) {p q z I O i1 i2 : Addr} (D : ZipApart z I O i1 i2 p q) :
    Turn P w K tg (ItZ c d K p q) [z, I, O, i1, i2] z (fun n h => zOk h z I O i1 i2 p q b c d n) where
  mem := List.mem_cons_self
  obj := fun n h st a ha => by
    obtain ⟨⟨v, f, hz, _⟩, hI, ⟨x, y, hO⟩, h1, h2⟩ := st
    simp only [List.mem_cons, List.not_mem_nil, or_false] at ha
    rcases ha with rfl | rfl | rfl | rfl | rfl
    · exact ⟨_, hz, fun v q => nomatch q⟩
    · exact ⟨_, hI, fun v q => nomatch q⟩
    · exact ⟨_, hO, fun v q => nomatch q⟩
    · exact h1.obj
    · exact h2.obj
  keep := fun n h g st k => by
    obtain ⟨⟨v, f, hz, r⟩, hI, ⟨x, y, hO⟩, h1, h2⟩ := st
    exact ⟨⟨v, f, k z (by simp) _ hz, r⟩, k I (by simp) _ hI, ⟨x, y, k O (by simp) _ hO⟩, h1.at fun o e => k i1 (by simp) o e, h2.at fun o e => k i2 (by simp) o e⟩
  item := by
    intro X hP hw hK hc n pins s σ H E J hf st hg
    subst hP hw hK
    obtain ⟨⟨v, f, hz, hv, hb⟩, hI, ⟨u0, u1, hO⟩, h1, h2⟩ := st
    obtain ⟨xs, ys, x, y, a1, a2, b1, b2⟩ := hg
    obtain ⟨ix, rx, px, _⟩ := sqk_at J a1
    obtain ⟨iy, ry, py, _⟩ := sqk_at J a2
    obtain ⟨u, hu, ru⟩ := rx.get b1
    obtain ⟨t, hu2, rt⟩ := ry.get b2
    have zl : z < s.heap.objs.size := Heap.lt_size hz
    refine gz_next D hz hv hI hO h1 h2 px py (x := u) (y := t) (by rw [List.getElem?_toArray]; exact hu) (by rw [List.getElem?_toArray]; exact hu2) fun g bb h0 G => ⟨_, rfl, ?_⟩
    obtain ⟨v2, f2, z2, gv2, q2⟩ := G.zip
    refine let_go (s := { s with heap := g }) ht z2 gv2 (fun e => q2 (h0 (hb e).1)) fun l zs sb => ?_
    have old : ∀ a o, a ∉ [z, I, O, i1, i2] → s.heap.get? a = some o → l.get? a = some o := fun a o na e => by
      simp only [List.mem_cons, List.not_mem_nil, or_false, not_or] at na
      exact (sb.2 a na.1).trans (G.old a o na.1 na.2.2.1 na.2.2.2.1 na.2.2.2.2 e)
    have new : ObjOk X.prog X.w (upd H s.heap.objs.size (.tup [x, y])) l s.heap.objs.size (.tup [x, y]) :=
      ⟨by show 2 ≤ sizeLine; decide, [u, t], .cons ru (.cons rt .nil), ⟨_, (sb.2 _ (Nat.ne_of_gt zl)).trans G.new, rfl, _, rfl⟩⟩
    refine ⟨.ref s.heap.objs.size, _, J.turnedNew (t' := s.toks) (ch := [z, I, O, i1, i2]) old hf (Nat.le_refl _) new, rfl, ?_, ?_, fun a ha => ?_⟩
    · exact ⟨_, x, y, rfl, J.hok.fresh (Nat.le_refl _), rfl, fun l hl => by rw [sqk_inj J hl a1]; exact b1, fun l hl => by rw [sqk_inj J hl a2]; exact b2⟩
    · obtain ⟨o0, o1, gO⟩ := G.keepO
      exact ⟨zs, (sb.2 _ D.TIz).trans G.keepI, ⟨o0, o1, (sb.2 _ D.TOz).trans gO⟩, G.it1.at fun o e => (sb.2 _ D.i1z).trans e, G.it2.at fun o e => (sb.2 _ D.i2z).trans e⟩
    · have lt : a < s.heap.objs.size := by
        simp only [List.mem_cons, List.not_mem_nil, or_false] at ha
        rcases ha with rfl | rfl | rfl | rfl | rfl
        · exact zl
        · exact Heap.lt_size hI
        · exact Heap.lt_size hO
        · obtain ⟨o, e, _⟩ := h1.obj; exact Heap.lt_size e
        · obtain ⟨o, e, _⟩ := h2.obj; exact Heap.lt_size e
      rw [upd_ne (Nat.ne_of_lt lt)]
      exact (hf a ha).1
  done := by
    intro X hP hw hK hc n pins s σ H E J hf st hg
    subst hP hw hK
    obtain ⟨⟨v, f, hz, hv, hb⟩, hI, ⟨u0, u1, hO⟩, h1, h2⟩ := st
    obtain ⟨xs, ys, a1, a2, hend⟩ := hg
    obtain ⟨ix, rx, px, _⟩ := sqk_at J a1
    obtain ⟨iy, ry, py, _⟩ := sqk_at J a2
    have l1 := rx.length
    have l2 := ry.length
    have he : ix.toArray[n]? = none ∨ iy.toArray[n]? = none := by
      rw [List.getElem?_toArray, List.getElem?_toArray]
      rcases hend with q | q
      · exact .inl (List.getElem?_eq_none (by omega))
      · exact .inr (List.getElem?_eq_none (by omega))
    refine gz_over (J.ok.hd hc) D hz hv hI hO h1 h2 px py he fun g old => ⟨rfl, J.turnedL (t' := s.toks) (ch := [z, I, O, i1, i2]) (fun a o na e => ?_) hf⟩
    simp only [List.mem_cons, List.not_mem_nil, or_false, not_or] at na
    exact old a o na.1 na.2.2.1 na.2.2.2.1 na.2.2.2.2 e
  self := fun A n s Q E st h => by
    obtain ⟨⟨v, f, hz, _⟩, _⟩ := st
    have ty : s.TypeIs (.ref z) "zip" := ⟨_, hz, rfl⟩
    refine wpAny_pyIter_slot ty F.slot_zip_iter (wpAny_call_entry F.slot_zip_iter ty F.entry_zip_iter ?_ (F.args_zip_iter_1 _))
    show wpAny _ _ (ret (.ref z)) _ _ s
    exact wpAny_pure ⟨_, rfl, "zip", _, ty, F.slot_zip_next.lookup, h⟩
abbrev zh1 (h : Heap) (p : Addr) : Heap := h.push { cls := .type "list_iterator", data := .fields #[.ref p, .int 0 0] }
abbrev zh2 (h : Heap) (p q : Addr) : Heap := (zh1 h p).push { cls := .type "tuple_iterator", data := .fields #[.ref q, .int 0 0] }
abbrev zh3 (h : Heap) (p q : Addr) : Heap := (zh2 h p q).push { cls := .type "tuple", data := .seq #[.ref h.objs.size, .ref (zh1 h p).objs.size] }
abbrev zh4 (h : Heap) (p q : Addr) : Heap := (zh3 h p q).push { cls := .type "tuple", data := .seq #[.none, .none] }
abbrev zh5 (h : Heap) (p q : Addr) : Heap := (zh4 h p q).push { cls := .type "zip", data := .fields #[.none, .bool false, .bool false, .ref (zh2 h p q).objs.size, .ref (zh3 h p q).objs.size] }
theorem new_zLT (p q : Addr) (xs ys : Array Value) : Meets (Builtin.«zip.__new__» ⟨[.type "zip", .ref p, .ref q], []⟩) (fun _ R s => s.heap.IsList p xs ∧ s.heap.IsTuple q ys ∧ R (.ok (.ret (.ref (zh4 s.heap p q).objs.size))) { s with heap := zh5 s.heap p q }) :=
  .of_wp fun prog w A R s h => by
    obtain ⟨hp, g, d, tk, os⟩ := s
    obtain ⟨a, b, h⟩ := h
    have hsub := sub_zip
    have A1 : Heap.IsList (Shared.heap ⟨hp, g, d, tk, os⟩) p xs := a
    have B1 : Heap.IsTuple (Shared.heap ⟨hp.push { cls := .type "list_iterator", data := .fields #[.ref p, .int 0 0] }, g, d, tk, os⟩) q ys := Heap.IsTuple.push b _
    wp_walk using wpAny_pyIter_list A1, wpAny_pyIter_tuple B1
    exact ⟨_, rfl, h⟩
def zMade (h g : Heap) (p q : Addr) (c d : Bool) : Prop := GZip g (h.objs.size + 4) (h.objs.size + 2) (h.objs.size + 3) .none false ∧ IsPair g (h.objs.size + 2) (.ref h.objs.size) (.ref (h.objs.size + 1)) ∧ IsPair g (h.objs.size + 3) .none .none ∧ ItA c g h.objs.size p 0 ∧ ItA d g (h.objs.size + 1) q 0 ∧ ∀ a o, h.get? a = some o → g.get? a = some o
section
variable {prog : Program} {w : World} {A : Around} {E : Value → Shared → Prop} {s : Shared}
theorem call_zLT {p q : Addr} {xs ys : Array Value} {Q : Value → Shared → Prop} (h1 : s.heap.IsList p xs) (h2 : s.heap.IsTuple q ys) (k : ∀ g, zMade s.heap g p q true false → Q (.ref (s.heap.objs.size + 4)) { s with heap := g }) : wpAny (model prog w) A (call (.type "zip") [.ref p, .ref q]) Q E s := by
  refine callType_new F.called_zip (by decide) (F.typeCall_zip_2 _ _) (F.newCall_zip_2 _ _) (fun obj => F.args_object_init_3 obj _ _) F.entry_zip_new (new_zLT p q xs ys) ⟨h1, h2, ?_⟩
  have z1 : (zh1 s.heap p).objs.size = s.heap.objs.size + 1 := Heap.size_push ..
  have z2 : (zh2 s.heap p q).objs.size = s.heap.objs.size + 2 := by rw [Heap.size_push, z1]
  have z3 : (zh3 s.heap p q).objs.size = s.heap.objs.size + 3 := by rw [Heap.size_push, z2]
  have z4 : (zh4 s.heap p q).objs.size = s.heap.objs.size + 4 := by rw [Heap.size_push, z3]
  have up : ∀ a o, (zh4 s.heap p q).get? a = some o → (zh5 s.heap p q).get? a = some o := fun a o e => Heap.get?_push_of_some _ e
  have up3 : ∀ a o, (zh3 s.heap p q).get? a = some o → (zh5 s.heap p q).get? a = some o := fun a o e => up a o (Heap.get?_push_of_some _ e)
  have up2 : ∀ a o, (zh2 s.heap p q).get? a = some o → (zh5 s.heap p q).get? a = some o := fun a o e => up3 a o (Heap.get?_push_of_some _ e)
  have up1 : ∀ a o, (zh1 s.heap p).get? a = some o → (zh5 s.heap p q).get? a = some o := fun a o e => up2 a o (Heap.get?_push_of_some _ e)
  have g5 : (zh5 s.heap p q).get? (zh4 s.heap p q).objs.size = some _ := Heap.get?_push_size _ rfl
  have g4 := up _ _ (Heap.get?_push_size (zh3 s.heap p q) (o := { cls := .type "tuple", data := .seq #[.none, .none] }) rfl)
  have g3 := up3 _ _ (Heap.get?_push_size (zh2 s.heap p q) (o := { cls := .type "tuple", data := .seq #[.ref s.heap.objs.size, .ref (zh1 s.heap p).objs.size] }) rfl)
  have g2 := up2 _ _ (Heap.get?_push_size (zh1 s.heap p) (o := { cls := .type "tuple_iterator", data := .fields #[.ref q, .int 0 0] }) rfl)
  have g1 := up1 _ _ (Heap.get?_push_size s.heap (o := { cls := .type "list_iterator", data := .fields #[.ref p, .int 0 0] }) rfl)
  show _ ∧ _
  rw [z2, z3, z4] at g5
  rw [z1, z2] at g3
  rw [z3] at g4
  rw [z1] at g2
  rw [z4]
  exact ⟨⟨_, g5, rfl⟩, k _ ⟨g5, g3, g4, ⟨_, g1, rfl, rfl⟩, ⟨_, g2, rfl, rfl⟩, fun a o e => up1 a o (Heap.get?_push_of_some _ e)⟩⟩
theorem call_zA {d : Bool} {p q : Addr} {xs ys : Array Value} {Q : Value → Shared → Prop} (h1 : s.heap.IsList p xs) (h2 : SqA d s.heap q ys) (k : ∀ g, zMade s.heap g p q true d → Q (.ref (s.heap.objs.size + 4)) { s with heap := g }) : wpAny (model prog w) A (call (.type "zip") [.ref p, .ref q]) Q E s := by
  cases d
  · exact call_zLT h1 h2 k
  · exact call_zip_2 h1 h2 fun g a b c e f _ r => k g ⟨a, b, c, e, f, r⟩
end
def iZipK (d : Bool) (K : PySem.W.Frag) (ta : TA) : TI := fun σ H R => ta σ H fun vs H1 => ∃ a b xs ys, vs = [.ref a, .ref b] ∧ SqL K H1 a xs ∧ SqK d K H1 b ys ∧ R (ItZ true d K a b) H1
theorem pi_zipK {X : Cx} {e e2 tg : Expr} {ta : TA} {p pos : Pos} (b d : Bool) (ht : goesTo b tg) (hg : Gl X "zip") (hm : X.mg "zip" = none) (ha : PA X [e, e2] ta)
    (hs : starEach [e, e2] X.env = (false, eval e X.env) :: starEach [e2] X.env := by rfl) (hpl : (backTo pos (starEach [e2] X.env)).any (·.1) = false := by rfl) : PI X tg (.Call (.Name "zip" p) [e, e2] [] pos) (iZipK d X.K ta) where
  run := fun pins s σ H R I h => by
    refine Call_ (ld_blt I hg hm PyProof.Rows.boot_zip (PyProof.Rows.callWith_type1 (thn (ha.run pos pins s σ H _ I h) fun us s1 ⟨vs, H1, I1, r1, q1⟩ => ?_) hs hpl))
    obtain ⟨a, c, xs, ys, rfl, a1, a2, q⟩ := q1
    obtain rfl : us = [.ref a, .ref c] := by
      cases r1 with
      | cons r rr => cases rr with
        | cons r' rr => cases rr; cases r; cases r'; rfl
    obtain ⟨its, _, p1, _⟩ := I1.list a1
    obtain ⟨its2, _, p2, lt2⟩ := sqk_at I1 a2
    refine call_zA p1.isList p2 fun g ⟨g1, g2, g3, g4, g5, old⟩ => ?_
    have st0 : zOk g (s1.heap.objs.size + 4) (s1.heap.objs.size + 2) (s1.heap.objs.size + 3) s1.heap.objs.size (s1.heap.objs.size + 1) a c b true d 0 := ⟨⟨_, _, g1, .inl rfl, fun _ => ⟨rfl, rfl⟩⟩, g2, ⟨_, _, g3⟩, g4, g5⟩
    have T := turn_zA (P := X.prog) (w := X.w) (K := X.K) (c := true) (d := d) ht (PySem.W.ktu_apart s1.heap.objs.size a c p1.lt lt2)
    refine T.self _ 0 { s1 with heap := g } _ _ st0 ?_
    refine ⟨s1.heap.objs.size + 4, [s1.heap.objs.size + 4, s1.heap.objs.size + 2, s1.heap.objs.size + 3, s1.heap.objs.size, s1.heap.objs.size + 1], _, _, H1, rfl, I1.kept (t' := s1.toks) old, T, st0, fun x hx => ?_, q⟩
    have le : s1.heap.objs.size ≤ x := by
      simp only [List.mem_cons, List.not_mem_nil, or_false] at hx
      rcases hx with rfl | rfl | rfl | rfl | rfl <;> omega
    exact I1.fpOk le (I1.hok.fresh le)
end
end DL
namespace DL
open PySem PySem.Spec L2
section
variable {c : Cc}
theorem src_zipK {d : Bool} {A : (Addr → Prop) → Prop} {S : Sp0} {a b : Addr} {k : Wk} {es : List D} (hl : ∀ L σ H env, A L → RE c L σ H env → S σ env H → k.ok env → ∃ xs, SqL c.K H a xs ∧ Reps c.K (Av L σ env) H xs k.its) (hb : ∀ L σ H env, A L → RE c L σ H env → S σ env H → ∃ xs, SqK d c.K H b xs ∧ Reps c.K (Av L σ env) H xs es) : Src c A S (ItZ true d c.K a b) ⟨zipD k.its es, k.chk⟩ := by
  refine ⟨fun L i σ H env al re s k hi => ?_, fun L i σ H env al re s k hi => ?_, fun L i σ H env x H' d al re s k hd hy => ?_⟩
  · obtain ⟨xs, h, rs⟩ := hl L σ H env al re s k
    obtain ⟨ys, h2, rs2⟩ := hb L σ H env al re s
    refine ⟨xs, ys, h, h2, ?_⟩
    rw [rs.length, rs2.length]
    dsimp only at hi
    rw [zipD_len] at hi
    omega
  · obtain ⟨xs, h, rs⟩ := hl L σ H env al re s k
    obtain ⟨ys, h2, rs2⟩ := hb L σ H env al re s
    dsimp only at hi
    rw [zipD_len] at hi
    have h1' : i < xs.length := by rw [rs.length]; omega
    have h2' : i < ys.length := by rw [rs2.length]; omega
    exact ⟨xs, ys, xs[i], ys[i], h, h2, List.getElem?_eq_getElem h1', List.getElem?_eq_getElem h2'⟩
  · obtain ⟨Tt, y, z, rfl, n, rfl, hy, hz⟩ := hy
    obtain ⟨xs, h, rs⟩ := hl L σ H env al re s k
    obtain ⟨ys, h2, rs2⟩ := hb L σ H env al re s
    obtain ⟨d1, d2, e1, e2, rfl⟩ := zipD_get hd
    obtain ⟨v, ev, rv⟩ := rs.get e1
    obtain ⟨w, ew, rw'⟩ := rs2.get e2
    have q1 := hy xs h
    have q2 := hz ys h2
    rw [ev] at q1
    rw [ew] at q2
    cases q1
    cases q2
    exact pair_new re n rv rw'
end
def iZm (fz : Bool) (ts : List T) (env : En) : R Wk := match ts with
  | [t, .im (.tup es)] => onI (fun xs => zipD xs es) (iL fz t.weak env)
  | _ => .er
def fiZm (fz : Bool) (fa : FA) : FI := fun env => (fa env).bind (iZm fz)
def iZn (fz : Bool) (ts : List T) (env : En) : R Wk := match ts with
  | [t, u] => (iL true u.weak env).bind fun k2 e2 => onI (fun xs => zipD xs k2.its) (iL fz t.weak e2)
  | _ => .er
def fiZn (fz : Bool) (fa : FA) : FI := fun env => (fa env).bind (iZn fz)
@[simp] theorem fiZm_s (fz : Bool) (fa : FA) (env : En) : fiZm fz fa env = ((fa env).bind (iZm fz)) := rfl
@[simp] theorem fiZn_s (fz : Bool) (fa : FA) (env : En) : fiZn fz fa env = ((fa env).bind (iZn fz)) := rfl
section
variable {X : Cx} {c : Cc} {W : WX} {pos p : Pos} {tg a b : Expr} {fas : FA}
theorem di_zipM (g : Bool) (fz : Bool) (ht : goesTo g tg) (hg : Gl X "zip") (hm : X.mg "zip" = none) (ha : PA X [a, b] (dA c W fas)) (hK : c.K = X.K := by rfl) (hs : starEach [a, b] X.env = (false, eval a X.env) :: starEach [b] X.env := by rfl) (hpl : (backTo pos (starEach [b] X.env)).any (·.1) = false := by rfl) :
    PI X tg (.Call (.Name "zip" p) [a, b] [] pos) (dI c W (fiZm fz fas)) :=
  PIw (pi_zipK g false ht hg hm ha hs hpl) fun σ H R h => by
  obtain ⟨env, L, r, h⟩ := h
  refine dA.of r (h.bind.mono fun ts e1 H1 r1 s1 h1 vs As q n r2 => ?_)
  rw [← hK]
  obtain ⟨ql, qv⟩ := q.vs r2 fun a z => ⟨z, (n a z).1⟩
  unfold iZm at h1
  split at h1
  · rename_i t es
    obtain ⟨v, w, rfl⟩ : ∃ v w, vs = [v, w] := by
      match vs, ql with
      | [v, w], _ => exact ⟨v, w, rfl⟩
    have qx := qv 0 v _ rfl rfl
    have q2 : Rep c.K (Av L σ e1) H1 w (.tup es) := qv 1 w _ rfl rfl
    cases q2 with
    | tup ht2 rs2 =>
      rename_i b ys
      obtain ⟨k, e3, ek, h1⟩ := dI_ok h1 r1 (onI_ex iL_ex) fun k e3 e => by
        obtain ⟨k0, e, _⟩ := onI_ok e
        obtain ⟨a, _, re, st, _⟩ := lst_of r1 qx e
        exact ⟨re, st⟩
      obtain ⟨k0, ek0, rfl⟩ := onI_ok ek
      obtain ⟨a, rfl, re, st, ok, hl⟩ := lst_of r1 qx ek0
      have hl2 : ∀ L2 σ' H' env', Lx L H1 L2 → RE c L2 σ' H' env' → Sw ⟨zipD k0.its es, k0.chk⟩ σ e3 H1 σ' env' H' → ∃ xs, SqK false c.K H' b xs ∧ Reps c.K (Av L2 σ' env') H' xs es := fun L2 σ' H' env' lx re' s =>
        ⟨ys, (re.tk s.1).sqt ht2, re.reps s.1 (Reps.lx lx (r1.reps st rs2))⟩
      obtain ⟨xs, hx, _⟩ := hl L σ H1 e3 (fun _ z => .inl z) re ⟨.refl, .inr fun _ _ _ _ e => e⟩ ok
      exact ⟨a, b, xs, ys, rfl, hx, ht2, h1 (ItZ true false c.K a b) ⟨ok, src_zipK hl hl2⟩⟩
  · exact h1.elim
end
end DL
namespace DL
open PySem PySem.Spec L2
def g_SUM_WORDS : D := .tup [.str "over", .str "each"]
noncomputable def f_is_integer : FS := (sRet (eAn (eIsi "int" (eVar 0)) (eNo (eIsi "bool" (eVar 0)))))
noncomputable def d_is_integer : FD := runD 1 1 f_is_integer
noncomputable def f_is_between : FS := (sRet (eAn (eCall d_is_integer (aCons (eVar 0) aNil)) (eCh dLe dLe (eVar 1) (eVar 0) (eVar 2))))
noncomputable def d_is_between : FD := runD 3 3 f_is_between
noncomputable def f_is_tuple_of : FS := (sRet (eAn (eIsi "tuple" (eVar 0)) (eOp dEqA (eB dLen (aCons (eVar 0) aNil)) (eVar 1))))
noncomputable def d_is_tuple_of : FD := runD 2 2 f_is_tuple_of
noncomputable def f_is_most : FS := (sRet (eOr (eOp dIs (eVar 0) (eC .non)) (eCall d_is_between (aCons (eVar 0) (aCons (eC (.int 1)) (aCons (eC (.int 2)) aNil))))))
noncomputable def d_is_most : FD := runD 1 1 f_is_most
noncomputable def f_is_good : FS := (sSeq (sIf (tNo (tV (eCall d_is_tuple_of (aCons (eVar 0) (aCons (eC (.int 2)) aNil))))) (sRet (eC (.bl false))) sNx)
    (sSeq (sAsg (eVar 0) (gT 2 (gsCons (gN 1) (gsCons (gN 2) gsNil))))
    (sRet (eAn (eCall d_is_between (aCons (eVar 1) (aCons (eC (.int 1)) (aCons (eC (.int 9)) aNil)))) (eCall d_is_between (aCons (eVar 2) (aCons (eC (.int 0)) (aCons (eC (.int 9)) aNil))))))))
noncomputable def d_is_good : FD := runD 3 1 f_is_good
noncomputable def f_is_pack : FS := (sSeq (sIf (tNo (tV (eCall d_is_tuple_of (aCons (eVar 0) (aCons (eC (.int 5)) aNil))))) (sRet (eC (.bl false))) sNx)
    (sSeq (sAsg (eVar 0) (gT 5 (gsCons (gN 2) (gsCons (gN 3) (gsCons (gN 4) (gsCons (gN 5) (gsCons (gN 6) gsNil)))))))
    (sRet (eAn (eCall d_is_between (aCons (eVar 3) (aCons (eC (.int 0)) (aCons (eOp dSub (eVar 1) (eC (.int 1))) aNil)))) (eAn (eCall d_is_between (aCons (eVar 4) (aCons (eC (.int 2)) (aCons (eC (.int 3)) aNil)))) (eAn (eCall d_is_between (aCons (eVar 5) (aCons (eVar 4) (aCons (eC (.int 30)) aNil)))) (eCall d_is_most (aCons (eVar 6) aNil))))))))
noncomputable def d_is_pack : FD := runD 7 2 f_is_pack
noncomputable def f_is_from : FS := (sSeq (sIf (tNo (tV (eCall d_is_tuple_of (aCons (eVar 0) (aCons (eC (.int 4)) aNil))))) (sRet (eC (.bl false))) sNx)
    (sSeq (sAsg (eVar 0) (gT 4 (gsCons (gN 2) (gsCons (gN 3) (gsCons (gN 4) (gsCons (gN 5) gsNil))))))
    (sRet (eAn (eCall d_is_between (aCons (eVar 3) (aCons (eC (.int 0)) (aCons (eOp dSub (eVar 1) (eC (.int 1))) aNil)))) (eAn (eCall d_is_between (aCons (eVar 4) (aCons (eC (.int 2)) (aCons (eC (.int 4)) aNil)))) (eCall d_is_between (aCons (eVar 5) (aCons (eC (.int 1)) (aCons (eC (.int 9)) aNil)))))))))
noncomputable def d_is_from : FD := runD 6 2 f_is_from
noncomputable def f_is_over : FS := (sSeq (sIf (tNo (tV (eCall d_is_tuple_of (aCons (eVar 0) (aCons (eC (.int 3)) aNil))))) (sRet (eC (.bl false))) sNx)
    (sSeq (sAsg (eVar 0) (gT 3 (gsCons (gN 1) (gsCons (gN 2) (gsCons (gN 3) gsNil)))))
    (sRet (eAn (eCall d_is_between (aCons (eVar 2) (aCons (eC (.int 2)) (aCons (eC (.int 12)) aNil)))) (eCall d_is_between (aCons (eVar 3) (aCons (eC (.int 1)) (aCons (eB dMin2 (aCons (eC (.int 6)) (aCons (eVar 2) aNil))) aNil))))))))
noncomputable def d_is_over : FD := runD 4 1 f_is_over
noncomputable def f_is_each : FS := (sSeq (sIf (tNo (tV (eCall d_is_tuple_of (aCons (eVar 0) (aCons (eC (.int 4)) aNil))))) (sRet (eC (.bl false))) sNx)
    (sSeq (sAsg (eVar 0) (gT 4 (gsCons (gN 1) (gsCons (gN 2) (gsCons (gN 3) (gsCons (gN 4) gsNil))))))
    (sSeq (sIf (tOr' (tNo (tV (eCall d_is_between (aCons (eVar 2) (aCons (eC (.int 2)) (aCons (eC (.int 6)) aNil)))))) (tNo (tV (eCall d_is_between (aCons (eVar 3) (aCons (eC (.int 1)) (aCons (eVar 2) aNil))))))) (sRet (eC (.bl false))) sNx)
    (sRet (eAn (eCall d_is_most (aCons (eVar 4) aNil)) (eOr (eOp dNis (eVar 4) (eC .non)) (eOp dLe (eOp dMulA (eC (.int 2)) (eVar 3)) (eVar 2))))))))
noncomputable def d_is_each : FD := runD 5 1 f_is_each
noncomputable def f_is_rule : FS := (sSeq (sIf (tOr' (tNo (tV (eIsi "tuple" (eVar 0)))) (tV (eOp dEqA (eB dLen (aCons (eVar 0) aNil)) (eC (.int 0))))) (sRet (eC (.bl false))) sNx)
    (sSeq (sAsg (eOp dIx (eVar 0) (eC (.int 0))) (gN 2))
    (sSeq (sIf (tNo (tV (eIsi "str" (eVar 2)))) (sRet (eC (.bl false))) sNx)
    (sSeq (sIf (tV (eOp dEqA (eVar 2) (eC (.str "pack")))) (sRet (eCall d_is_pack (aCons (eVar 0) (aCons (eVar 1) aNil)))) sNx)
    (sSeq (sIf (tV (eOp dEqA (eVar 2) (eC (.str "from")))) (sRet (eCall d_is_from (aCons (eVar 0) (aCons (eVar 1) aNil)))) sNx)
    (sSeq (sIf (tV (eOp dEqA (eVar 2) (eC (.str "over")))) (sRet (eCall d_is_over (aCons (eVar 0) aNil))) sNx)
    (sRet (eAn (eOp dEqA (eVar 2) (eC (.str "each"))) (eCall d_is_each (aCons (eVar 0) aNil))))))))))
noncomputable def d_is_rule : FD := runD 3 2 f_is_rule
noncomputable def f_is_endless_each : FS := (sRet (eAn (eOp dEqA (eOp dIx (eVar 0) (eC (.int 0))) (eC (.str "each"))) (eOp dIs (eOp dIx (eVar 0) (eC (.int 3))) (eC .non))))
noncomputable def d_is_endless_each : FD := runD 1 1 f_is_endless_each
noncomputable def f_are_goods : FS := (sSeq (sIf (tOr' (tNo (tV (eIsi "tuple" (eVar 0)))) (tNo (tV (eCh dLe dLe (eC (.int 1)) (eB dLen (aCons (eVar 0) aNil)) (eC (.int 2)))))) (sRet (eC (.bl false))) sNx)
    (sRet (eB dAll (aCons (eLc (fiT (eVar 0)) [1] (.one 1) tT (eCall d_is_good (aCons (eVar 1) aNil))) aNil))))
noncomputable def d_are_goods : FD := runD 2 1 f_are_goods
noncomputable def f_are_rules : FS := (sSeq (sIf (tOr' (tNo (tV (eIsi "tuple" (eVar 0)))) (tV (eOp dGt (eB dLen (aCons (eVar 0) aNil)) (eC (.int 4))))) (sRet (eC (.bl false))) sNx)
    (sSeq (sIf (tNo (tV (eB dAll (aCons (eLc (fiT (eVar 0)) [2] (.one 2) tT (eCall d_is_rule (aCons (eVar 2) (aCons (eVar 1) aNil)))) aNil)))) (sRet (eC (.bl false))) sNx)
    (sRet (eOp dLe (eB dLen (aCons (eLc (fiT (eVar 0)) [2] (.one 2) (tV (eCall d_is_endless_each (aCons (eVar 2) aNil))) (eVar 2)) aNil)) (eC (.int 1))))))
noncomputable def d_are_rules : FD := runD 3 2 f_are_rules
noncomputable def f_is_shop : FS := (sSeq (sIf (tNo (tV (eCall d_is_tuple_of (aCons (eVar 0) (aCons (eC (.int 2)) aNil))))) (sRet (eC (.bl false))) sNx)
    (sSeq (sAsg (eVar 0) (gT 2 (gsCons (gN 1) (gsCons (gN 2) gsNil))))
    (sRet (eAn (eCall d_are_goods (aCons (eVar 1) aNil)) (eCall d_are_rules (aCons (eVar 2) (aCons (eB dLen (aCons (eVar 1) aNil)) aNil)))))))
noncomputable def d_is_shop : FD := runD 3 1 f_is_shop
noncomputable def f__law_cell_at : FS := (sSeq (sIf (tV (eOp dLt (eVar 1) (eB dLen (aCons (eVar 0) aNil)))) (sRet (eOp dIx (eVar 0) (eVar 1))) sNx)
    (sSeq (sIf (tV (eOp dEqA (eVar 0) (eLst aNil))) (sRet (eC (.int 0))) sNx)
    (sSeq (sAsg (eOp dIx (eVar 0) (eOp dMod (eVar 1) (eB dLen (aCons (eVar 0) aNil)))) (gN 2))
    (sSeq (sFor (fiR1 (aCons (eB dMin2 (aCons (eOp dFdiv (eVar 1) (eB dLen (aCons (eVar 0) aNil))) (aCons (eC (.int 60)) aNil))) aNil)) (gN 3) (sAsg (eOp dFdiv (eVar 2) (eC (.int 1000003))) (gN 2)))
    (sRet (eOp dAdd (eOp dAdd (eOp dMulA (eOp dIx (eVar 0) (eOp dMod (eVar 1) (eB dLen (aCons (eVar 0) aNil)))) (eC (.int 31))) (eVar 1)) (eOp dMulA (eVar 2) (eC (.int 101)))))))))
noncomputable def d__law_cell_at : FD := runD 4 2 f__law_cell_at
noncomputable def f__law_mixed : FS := (sSeq (sAsg (eOp dMod (eOp dAdd (eOp dAdd (eOp dMulA (eCall d__law_cell_at (aCons (eVar 0) (aCons (eVar 1) aNil))) (eC (.int 1103515245))) (eOp dMulA (eC (.int 7919)) (eVar 1))) (eC (.int 12345))) (eC (.int 2147483647))) (gN 3))
    (sRet (eOp dMod (eOp dMod (eOp dMod (eOp dPow (eVar 3) (eC (.int 5))) (eC (.int 2147483647))) (eC (.int 999983))) (eVar 2))))
noncomputable def d__law_mixed : FD := runD 4 3 f__law_mixed
noncomputable def f__law_draw : FS := (sSeq (sDrop (eMet kApp (eVar 1) (aCons (eC (.int 0)) aNil)))
    (sRet (eCall d__law_mixed (aCons (eVar 0) (aCons (eB dLen (aCons (eVar 1) aNil)) (aCons (eVar 2) aNil))))))
noncomputable def d__law_draw : FD := runD 3 3 f__law_draw
noncomputable def f__law_pick : FS := (sRet (eOp dIx (eVar 2) (eCallI 1 d__law_draw (aCons (eVar 0) (aCons (eVar 1) (aCons (eB dLen (aCons (eVar 2) aNil)) aNil))))))
noncomputable def d__law_pick : FD := runD 3 3 f__law_pick
noncomputable def f__law_some_rule_1 : FS := (sAsg (eCallI 1 d__law_draw (aCons (eVar 0) (aCons (eVar 1) (aCons (eC (.int 5)) aNil)))) (gN 4))
noncomputable def f__law_some_rule_2 : FS := (sAsg (eCallI 1 d__law_draw (aCons (eVar 0) (aCons (eVar 1) (aCons (eB dLen (aCons (eVar 2) aNil)) aNil)))) (gN 5))
noncomputable def f__law_some_rule_3 : FS := (sAsg (eOp dIx (eOp dIx (eVar 2) (eVar 5)) (eC (.int 0))) (gN 6))
noncomputable def f__law_some_rule_4 : FS := (sIf (tV (eOp dLt (eVar 4) (eC (.int 2)))) (sSeq (sAsg (eOp dAdd (eC (.int 2)) (eCallI 1 d__law_draw (aCons (eVar 0) (aCons (eVar 1) (aCons (eC (.int 2)) aNil))))) (gN 9))
    (sSeq (sAsg (eB dMax2 (aCons (eVar 9) (aCons (eOp dSub (eOp dMulA (eVar 9) (eVar 6)) (eCallI 1 d__law_draw (aCons (eVar 0) (aCons (eVar 1) (aCons (eOp dAdd (eOp dMulA (eC (.int 2)) (eVar 9)) (eC (.int 2))) aNil))))) aNil))) (gN 10))
    (sRet (eTup (aCons (eC (.str "pack")) (aCons (eVar 5) (aCons (eVar 9) (aCons (eVar 10) (aCons (eCallI 1 d__law_pick (aCons (eVar 0) (aCons (eVar 1) (aCons (eTup (aCons (eC .non) (aCons (eC .non) (aCons (eC (.int 1)) (aCons (eC (.int 2)) aNil))))) aNil)))) aNil))))))))) sNx)
noncomputable def f__law_some_rule_5 : FS := (sIf (tV (eOp dEqA (eVar 4) (eC (.int 2)))) (sRet (eTup (aCons (eC (.str "from")) (aCons (eVar 5) (aCons (eOp dAdd (eC (.int 2)) (eCallI 1 d__law_draw (aCons (eVar 0) (aCons (eVar 1) (aCons (eC (.int 3)) aNil))))) (aCons (eB dMax2 (aCons (eC (.int 1)) (aCons (eOp dSub (eVar 6) (eCallI 1 d__law_draw (aCons (eVar 0) (aCons (eVar 1) (aCons (eC (.int 4)) aNil))))) aNil))) aNil)))))) sNx)
noncomputable def f__law_some_rule_6 : FS := (sIf (tV (eOp dEqA (eVar 4) (eC (.int 3)))) (sSeq (sAsg (eOp dAdd (eC (.int 4)) (eCallI 1 d__law_draw (aCons (eVar 0) (aCons (eVar 1) (aCons (eC (.int 9)) aNil))))) (gN 7))
    (sRet (eTup (aCons (eC (.str "over")) (aCons (eVar 7) (aCons (eOp dAdd (eC (.int 1)) (eCallI 1 d__law_draw (aCons (eVar 0) (aCons (eVar 1) (aCons (eC (.int 4)) aNil))))) aNil)))))) sNx)
noncomputable def f__law_some_rule_7 : FS := (sAsg (eOp dAdd (eC (.int 2)) (eCallI 1 d__law_draw (aCons (eVar 0) (aCons (eVar 1) (aCons (eC (.int 5)) aNil))))) (gN 7))
noncomputable def f__law_some_rule_8 : FS := (sAsg (eCallI 1 d__law_pick (aCons (eVar 0) (aCons (eVar 1) (aCons (eIf (tV (eVar 3)) (eTup (aCons (eC (.int 1)) (aCons (eC (.int 2)) aNil))) (eTup (aCons (eC .non) (aCons (eC .non) (aCons (eC (.int 1)) (aCons (eC (.int 2)) aNil)))))) aNil)))) (gN 8))
noncomputable def f__law_some_rule_9 : FS := (sRet (eTup (aCons (eC (.str "each")) (aCons (eVar 7) (aCons (eOp dAdd (eC (.int 1)) (eCallI 1 d__law_draw (aCons (eVar 0) (aCons (eVar 1) (aCons (eOp dFdiv (eVar 7) (eC (.int 2))) aNil))))) (aCons (eVar 8) aNil))))))
noncomputable def f__law_some_rule : FS := sSeq f__law_some_rule_1 (sSeq f__law_some_rule_2 (sSeq f__law_some_rule_3 (sSeq f__law_some_rule_4 (sSeq f__law_some_rule_5 (sSeq f__law_some_rule_6 (sSeq f__law_some_rule_7 (sSeq f__law_some_rule_8 (f__law_some_rule_9))))))))
noncomputable def d__law_some_rule : FD := runD 11 4 f__law_some_rule
noncomputable def f__law_some_goods : FS := (sSeq (sAsg (eIf (tV (eOp dEqA (eCallI 1 d__law_draw (aCons (eVar 0) (aCons (eVar 1) (aCons (eC (.int 3)) aNil)))) (eC (.int 0)))) (eC (.int 2)) (eC (.int 1))) (gN 2))
    (sRet (eB dTuple (aCons (eLc (fiR1 (aCons (eVar 2) aNil)) [3] (.one 3) tT (eTup (aCons (eOp dAdd (eC (.int 3)) (eCallI 1 d__law_draw (aCons (eVar 0) (aCons (eVar 1) (aCons (eC (.int 7)) aNil))))) (aCons (eCallI 1 d__law_draw (aCons (eVar 0) (aCons (eVar 1) (aCons (eC (.int 8)) aNil)))) aNil)))) aNil))))
noncomputable def d__law_some_goods : FD := runD 4 2 f__law_some_goods
noncomputable def f__law_some_shop : FS := (sSeq (sPar 3 4 (aCons (eCallI 1 d__law_some_goods (aCons (eVar 0) (aCons (eVar 1) aNil))) (aCons (eLst aNil) aNil)))
    (sSeq (sFor (fiR1 (aCons (eCallI 1 d__law_draw (aCons (eVar 0) (aCons (eVar 1) (aCons (eC (.int 5)) aNil)))) aNil)) (gN 2) (sSeq (sAsg (eB dAny (aCons (eLc (fiL false (eVar 4)) [6] (.one 6) tT (eAn (eOp dEqA (eOp dIx (eVar 6) (eC (.int 0))) (eC (.str "each"))) (eOp dIs (eOp dIx (eVar 6) (eC (.int 3))) (eC .non)))) aNil)) (gN 5))
    (sDrop (eMet kApp (eVar 4) (aCons (eCallI 1 d__law_some_rule (aCons (eVar 0) (aCons (eVar 1) (aCons (eVar 3) (aCons (eVar 5) aNil))))) aNil)))))
    (sRet (eTup (aCons (eVar 3) (aCons (eB dTuple (aCons (eVar 4) aNil)) aNil))))))
noncomputable def d__law_some_shop : FD := runD 7 2 f__law_some_shop
noncomputable def f_check_shop : FS := (sIf (tNo (tV (eCall d_is_shop (aCons (eVar 0) aNil)))) (sRz "InvalidShop") sNx)
noncomputable def d_check_shop : FD := runD 1 1 f_check_shop
noncomputable def f_are_pieces_1 : FS := (sIf (tNo (tV (eCall d_is_tuple_of (aCons (eVar 1) (aCons (eB dLen (aCons (eOp dIx (eVar 0) (eC (.int 0))) aNil)) aNil))))) (sRet (eC (.bl false))) sNx)
noncomputable def f_are_pieces_2 : FS := (sRet (eB dAll (aCons (eLc (fiT (eVar 1)) [2] (.one 2) tT (eAn (eCall d_is_integer (aCons (eVar 2) aNil)) (eOp dGe (eVar 2) (eC (.int 0))))) aNil)))
noncomputable def f_are_pieces : FS := sSeq f_are_pieces_1 (f_are_pieces_2)
noncomputable def d_are_pieces : FD := runD 3 2 f_are_pieces
noncomputable def f_is_basket : FS := (sSeq (sDrop (eCall d_check_shop (aCons (eVar 0) aNil)))
    (sRet (eAn (eCall d_are_pieces (aCons (eVar 0) (aCons (eVar 1) aNil))) (eOp dLe (eB dMax1 (aCons (eVar 1) aNil)) (eC (.int 1000000))))))
noncomputable def d_is_basket : FD := runD 2 2 f_is_basket
noncomputable def f_check_basket : FS := (sIf (tNo (tV (eCall d_is_basket (aCons (eVar 0) (aCons (eVar 1) aNil))))) (sRz "InvalidBasket") sNx)
noncomputable def d_check_basket : FD := runD 2 2 f_check_basket
noncomputable def f_full_times : FS := (sSeq (sAsg (eOp dFdiv (eVar 0) (eVar 1)) (gN 3))
    (sRet (eIf (tV (eOp dIs (eVar 2) (eC .non))) (eVar 3) (eB dMin2 (aCons (eVar 3) (aCons (eVar 2) aNil))))))
noncomputable def d_full_times : FD := runD 4 3 f_full_times
noncomputable def f_fitting_rule : FS := (sSeq (sFor (fiE true (aCons (eVar 0) aNil)) (gT 2 (gsCons (gN 3) (gsCons (gN 4) gsNil))) (sIf (tAn (tV (eOp (dIn true) (eOp dIx (eVar 4) (eC (.int 0))) (eC g_SUM_WORDS))) (tAn (tV (eOp dEqA (eOp dIx (eVar 4) (eC (.int 1))) (eVar 1))) (tV (eOp dGe (eVar 2) (eOp dIx (eVar 4) (eC (.int 2))))))) (sRet (eVar 3)) sNx))
    (sRet (eC .non)))
noncomputable def d_fitting_rule : FD := runD 5 3 f_fitting_rule
noncomputable def f_pack_times : FS := (sSeq (sAsg (eVar 0) (gT 5 (gsCons (gN 2) (gsCons (gN 2) (gsCons (gN 3) (gsCons (gN 2) (gsCons (gN 4) gsNil)))))))
    (sRet (eCall d_full_times (aCons (eVar 1) (aCons (eVar 3) (aCons (eVar 4) aNil))))))
noncomputable def d_pack_times : FD := runD 5 2 f_pack_times
noncomputable def f_pack_amount : FS := (sSeq (sAsg (eVar 0) (gT 5 (gsCons (gN 4) (gsCons (gN 4) (gsCons (gN 5) (gsCons (gN 6) (gsCons (gN 4) gsNil)))))))
    (sSeq (sAsg (eCall d_pack_times (aCons (eVar 0) (aCons (eVar 2) aNil))) (gN 3))
    (sRet (eOp dAdd (eOp dMulA (eVar 3) (eVar 6)) (eOp dMulA (eOp dSub (eVar 2) (eOp dMulA (eVar 3) (eVar 5))) (eVar 1))))))
noncomputable def d_pack_amount : FD := runD 7 3 f_pack_amount
noncomputable def f_good_amount : FS := (sSeq (sAsg (eVar 0) (gT 2 (gsCons (gN 5) (gsCons (gN 6) gsNil))))
    (sSeq (sAsg (eOp dIx (eVar 5) (eVar 1)) (gT 2 (gsCons (gN 7) (gsCons (gN 8) gsNil))))
    (sSeq (sAsg (eCall d_fitting_rule (aCons (eVar 6) (aCons (eVar 1) (aCons (eVar 2) aNil)))) (gN 3))
    (sSeq (sIf (tV (eOp dIs (eVar 3) (eC .non))) (sRet (eOp dMulA (eVar 2) (eVar 7))) sNx)
    (sSeq (sAsg (eOp dIx (eVar 6) (eVar 3)) (gN 4))
    (sSeq (sIf (tV (eOp dEqA (eOp dIx (eVar 4) (eC (.int 0))) (eC (.str "pack")))) (sRet (eCall d_pack_amount (aCons (eVar 4) (aCons (eVar 7) (aCons (eVar 2) aNil))))) sNx)
    (sRet (eOp dMulA (eVar 2) (eOp dIx (eVar 4) (eC (.int 3)))))))))))
noncomputable def d_good_amount : FD := runD 9 3 f_good_amount
noncomputable def f_amounts_of : FS := (sRet (eB dTuple (aCons (eLc (fiE false (aCons (eVar 1) aNil)) [2, 3] (.tup [2, 3]) tT (eCall d_good_amount (aCons (eVar 0) (aCons (eVar 2) (aCons (eVar 3) aNil))))) aNil)))
noncomputable def d_amounts_of : FD := runD 4 2 f_amounts_of
noncomputable def f_amounts : FS := (sSeq (sDrop (eCall d_check_basket (aCons (eVar 0) (aCons (eVar 1) aNil))))
    (sRet (eCall d_amounts_of (aCons (eVar 0) (aCons (eVar 1) aNil)))))
noncomputable def d_amounts : FD := runD 2 2 f_amounts
noncomputable def f_off_times : FS := (sSeq (sIf (tV (eOp dEqA (eOp dIx (eVar 0) (eC (.int 0))) (eC (.str "over")))) (sRet (eIf (tV (eOp dGe (eVar 1) (eOp dIx (eVar 0) (eC (.int 1))))) (eC (.int 1)) (eC (.int 0)))) sNx)
    (sSeq (sIf (tV (eOp dEqA (eOp dIx (eVar 0) (eC (.int 0))) (eC (.str "each")))) (sRet (eCall d_full_times (aCons (eVar 1) (aCons (eOp dIx (eVar 0) (eC (.int 1))) (aCons (eOp dIx (eVar 0) (eC (.int 3))) aNil))))) sNx)
    (sRet (eC (.int 0)))))
noncomputable def d_off_times : FD := runD 2 2 f_off_times
noncomputable def b_apply_sums_1_1 : FS := (sAsg (eCall d_off_times (aCons (eVar 4) (aCons (eVar 2) aNil))) (gN 5))
noncomputable def b_apply_sums_1_2 : FS := (sAug 2 dSub (eOp dMulA (eVar 5) (eOp dIx (eVar 4) (eC (.int 2)))))
noncomputable def b_apply_sums_1_3 : FS := (sDrop (eMet kApp (eVar 3) (aCons (eVar 5) aNil)))
noncomputable def b_apply_sums_1 : FS := sSeq b_apply_sums_1_1 (sSeq b_apply_sums_1_2 (b_apply_sums_1_3))
noncomputable def f_apply_sums_1 : FS := (sAsg (eVar 1) (gN 2))
noncomputable def f_apply_sums_2 : FS := (sAsg (eLst aNil) (gN 3))
noncomputable def f_apply_sums_3 : FS := (sFor (fiT (eVar 0)) (gN 4) b_apply_sums_1)
noncomputable def f_apply_sums_4 : FS := (sRet (eTup (aCons (eVar 2) (aCons (eVar 3) aNil))))
noncomputable def f_apply_sums : FS := sSeq f_apply_sums_1 (sSeq f_apply_sums_2 (sSeq f_apply_sums_3 (f_apply_sums_4)))
noncomputable def d_apply_sums : FD := runD 6 2 f_apply_sums
noncomputable def f_left_of_1 : FS := (sAsg (eCall d_apply_sums (aCons (eVar 0) (aCons (eVar 1) aNil))) (gT 2 (gsCons (gN 2) (gsCons (gN 3) gsNil))))
noncomputable def f_left_of_2 : FS := (sRet (eVar 2))
noncomputable def f_left_of : FS := sSeq f_left_of_1 (f_left_of_2)
noncomputable def d_left_of : FD := runD 4 2 f_left_of
noncomputable def f_charge_of : FS := (sRet (eCall d_left_of (aCons (eOp dIx (eVar 0) (eC (.int 1))) (aCons (eB dSum (aCons (eCall d_amounts_of (aCons (eVar 0) (aCons (eVar 1) aNil))) aNil)) aNil))))
noncomputable def d_charge_of : FD := runD 2 2 f_charge_of
noncomputable def f_charge : FS := (sSeq (sDrop (eCall d_check_basket (aCons (eVar 0) (aCons (eVar 1) aNil))))
    (sRet (eCall d_charge_of (aCons (eVar 0) (aCons (eVar 1) aNil)))))
noncomputable def d_charge : FD := runD 2 2 f_charge
noncomputable def b_uses_of_1_1 : FS := (sAsg (eCall d_fitting_rule (aCons (eVar 2) (aCons (eVar 5) (aCons (eVar 6) aNil)))) (gN 7))
noncomputable def b_uses_of_1_2 : FS := (sIf (tV (eOp dNis (eVar 7) (eC .non))) (sSeq (sAsg (eOp dIx (eVar 2) (eVar 7)) (gN 8))
    (sAsg (eIf (tV (eOp dEqA (eOp dIx (eVar 8) (eC (.int 0))) (eC (.str "pack")))) (eCall d_pack_times (aCons (eVar 8) (aCons (eVar 6) aNil))) (eC (.int 1))) (gSb (eVar 4) (eVar 7)))) sNx)
noncomputable def b_uses_of_1 : FS := sSeq b_uses_of_1_1 (b_uses_of_1_2)
noncomputable def f_uses_of_1 : FS := (sAsg (eOp dIx (eVar 0) (eC (.int 1))) (gN 2))
noncomputable def f_uses_of_2 : FS := (sAsg (eCall d_apply_sums (aCons (eVar 2) (aCons (eB dSum (aCons (eCall d_amounts_of (aCons (eVar 0) (aCons (eVar 1) aNil))) aNil)) aNil))) (gT 2 (gsCons (gN 3) (gsCons (gN 4) gsNil))))
noncomputable def f_uses_of_3 : FS := (sFor (fiE true (aCons (eVar 1) aNil)) (gT 2 (gsCons (gN 5) (gsCons (gN 6) gsNil))) b_uses_of_1)
noncomputable def f_uses_of_4 : FS := (sRet (eB dTuple (aCons (eVar 4) aNil)))
noncomputable def f_uses_of : FS := sSeq f_uses_of_1 (sSeq f_uses_of_2 (sSeq f_uses_of_3 (f_uses_of_4)))
noncomputable def d_uses_of : FD := runD 9 2 f_uses_of
noncomputable def f_uses : FS := (sSeq (sDrop (eCall d_check_basket (aCons (eVar 0) (aCons (eVar 1) aNil))))
    (sRet (eCall d_uses_of (aCons (eVar 0) (aCons (eVar 1) aNil)))))
noncomputable def d_uses : FD := runD 2 2 f_uses
noncomputable def f_costs_of : FS := (sRet (eB dSum (aCons (eLc (fiZ false (aCons (eOp dIx (eVar 0) (eC (.int 0))) (aCons (eVar 1) aNil))) [2, 3] (.tup [2, 3]) tT (eOp dMulA (eOp dIx (eVar 2) (eC (.int 1))) (eVar 3))) aNil)))
noncomputable def d_costs_of : FD := runD 4 2 f_costs_of
noncomputable def f_gain_of : FS := (sRet (eOp dSub (eCall d_charge_of (aCons (eVar 0) (aCons (eVar 1) aNil))) (eCall d_costs_of (aCons (eVar 0) (aCons (eVar 1) aNil)))))
noncomputable def d_gain_of : FD := runD 2 2 f_gain_of
noncomputable def f_gain : FS := (sSeq (sDrop (eCall d_check_basket (aCons (eVar 0) (aCons (eVar 1) aNil))))
    (sRet (eCall d_gain_of (aCons (eVar 0) (aCons (eVar 1) aNil)))))
noncomputable def d_gain : FD := runD 2 2 f_gain
noncomputable def f_without_rule_1 : FS := (sAsg (eVar 0) (gT 2 (gsCons (gN 2) (gsCons (gN 3) gsNil))))
noncomputable def f_without_rule_2 : FS := (sRet (eTup (aCons (eVar 2) (aCons (eOp dAdd (eSl (eVar 3) tNp (tPa (eVar 1))) (eSl (eVar 3) (tPa (eOp dAdd (eVar 1) (eC (.int 1)))) tNp)) aNil))))
noncomputable def f_without_rule : FS := sSeq f_without_rule_1 (f_without_rule_2)
noncomputable def d_without_rule : FD := runD 4 2 f_without_rule
noncomputable def f_effects_1 : FS := (sDrop (eCall d_check_basket (aCons (eVar 0) (aCons (eVar 1) aNil))))
noncomputable def f_effects_2 : FS := (sAsg (eCall d_charge_of (aCons (eVar 0) (aCons (eVar 1) aNil))) (gN 2))
noncomputable def f_effects_3 : FS := (sRet (eLc (fiR1 (aCons (eB dLen (aCons (eOp dIx (eVar 0) (eC (.int 1))) aNil)) aNil)) [3] (.one 3) tT (eOp dSub (eCall d_charge_of (aCons (eCall d_without_rule (aCons (eVar 0) (aCons (eVar 3) aNil))) (aCons (eVar 1) aNil))) (eVar 2))))
noncomputable def f_effects : FS := sSeq f_effects_1 (sSeq f_effects_2 (f_effects_3))
noncomputable def d_effects : FD := runD 4 2 f_effects
noncomputable def f_baskets_of_1 : FS := (sIf (tV (eOp dEqA (eB dLen (aCons (eVar 1) aNil)) (eC (.int 1)))) (sRet (eIf (tV (eOp dLe (eVar 0) (eOp dIx (eVar 1) (eC (.int 0))))) (eLst (aCons (eTup (aCons (eVar 0) aNil)) aNil)) (eLst aNil))) sNx)
noncomputable def f_baskets_of_2 : FS := (sAsg (eVar 1) (gTA 2 (gsCons (gN 3) (gsCons (gN 4) gsNil))))
noncomputable def f_baskets_of_3 : FS := (sRngC 2 (aCons (eB dMax2 (aCons (eC (.int 0)) (aCons (eOp dSub (eVar 0) (eVar 4)) aNil))) (aCons (eOp dAdd (eB dMin2 (aCons (eVar 0) (aCons (eVar 3) aNil))) (eC (.int 1))) aNil)) [5] (.one 5) tT (eTup (aCons (eVar 5) (aCons (eOp dSub (eVar 0) (eVar 5)) aNil))))
noncomputable def f_baskets_of : FS := sSeq f_baskets_of_1 (sSeq f_baskets_of_2 (f_baskets_of_3))
noncomputable def d_baskets_of : FD := runD 6 2 f_baskets_of
noncomputable def f_baskets_within : FS := (sRet (eLc2 (fiR1 (aCons (eOp dAdd (eB dSum (aCons (eVar 0) aNil)) (eC (.int 1))) aNil)) [1, 2] (.one 1) tT (fiL false (eCall d_baskets_of (aCons (eVar 1) (aCons (eVar 0) aNil)))) [2] (.one 2) tT (eVar 2)))
noncomputable def d_baskets_within : FD := runD 3 1 f_baskets_within
noncomputable def b_sums_within_1_1 : FS := (sAsg (eLc (fiR1 (aCons (eOp dAdd (eVar 4) (eC (.int 1))) aNil)) [7] (.one 7) tT (eCall d_good_amount (aCons (eVar 0) (aCons (eVar 3) (aCons (eVar 7) aNil))))) (gN 5))
noncomputable def b_sums_within_1_2 : FS := (sAsg (eDc2 (fiDi (eVar 2)) [8, 9, 7, 10] (.tup [8, 9]) tT (fiE false (aCons (eVar 5) aNil)) [7, 10] (.tup [7, 10]) tT (eOp dAdd (eVar 8) (eTup (aCons (eVar 7) aNil))) (eOp dAdd (eVar 9) (eVar 10))) (gN 6))
noncomputable def b_sums_within_1_3 : FS := (sAsg (eVar 6) (gN 2))
noncomputable def b_sums_within_1 : FS := sSeq b_sums_within_1_1 (sSeq b_sums_within_1_2 (b_sums_within_1_3))
noncomputable def f_sums_within_1 : FS := (sAsg (eDisp1 (eTup aNil) (eC (.int 0))) (gN 2))
noncomputable def f_sums_within_2 : FS := (sFor (fiE true (aCons (eVar 1) aNil)) (gT 2 (gsCons (gN 3) (gsCons (gN 4) gsNil))) b_sums_within_1)
noncomputable def f_sums_within_3 : FS := (sRet (eVar 2))
noncomputable def f_sums_within : FS := sSeq f_sums_within_1 (sSeq f_sums_within_2 (f_sums_within_3))
noncomputable def d_sums_within : FD := runD 11 2 f_sums_within
noncomputable def f_charges_within_1 : FS := (sAsg (eCall d_sums_within (aCons (eVar 0) (aCons (eVar 1) aNil))) (gN 2))
noncomputable def f_charges_within_2 : FS := (sAsg (eLc (fiR1 (aCons (eOp dAdd (eDMax (eVar 2)) (eC (.int 1))) aNil)) [4] (.one 4) tT (eCall d_left_of (aCons (eOp dIx (eVar 0) (eC (.int 1))) (aCons (eVar 4) aNil)))) (gN 3))
noncomputable def f_charges_within_3 : FS := (sRet (eDc (fiDi (eVar 2)) [5, 4] (.tup [5, 4]) tT (eVar 5) (eOp dIx (eVar 3) (eVar 4))))
noncomputable def f_charges_within : FS := sSeq f_charges_within_1 (sSeq f_charges_within_2 (f_charges_within_3))
noncomputable def d_charges_within : FD := runD 6 2 f_charges_within
noncomputable def f_rounded_up : FS := (sRet (eOp dFdiv (eOp dSub (eOp dAdd (eVar 0) (eVar 1)) (eC (.int 1))) (eVar 1)))
noncomputable def d_rounded_up : FD := runD 2 2 f_rounded_up
noncomputable def b_sum_growth_1_1 : FS := (sIf (tV (eOp dEqA (eOp dIx (eVar 1) (eC (.int 0))) (eC (.str "over")))) (sSeq (sAsg (eVar 1) (gT 3 (gsCons (gN 5) (gsCons (gN 6) (gsCons (gN 7) gsNil)))))
    (sAsg (eB dMax2 (aCons (eVar 6) (aCons (eOp dAdd (eVar 2) (eVar 7)) aNil))) (gN 2))) (sIf (tV (eOp dEqA (eOp dIx (eVar 1) (eC (.int 0))) (eC (.str "each")))) (sSeq (sAsg (eVar 1) (gT 4 (gsCons (gN 5) (gsCons (gN 6) (gsCons (gN 7) (gsCons (gN 8) gsNil))))))
    (sIf (tV (eOp dIs (eVar 8) (eC .non))) (sSeq (sPar 3 4 (aCons (eVar 6) (aCons (eOp dSub (eVar 6) (eVar 7)) aNil)))
    (sAsg (eOp dMulA (eVar 6) (eCall d_rounded_up (aCons (eVar 2) (aCons (eVar 4) aNil)))) (gN 2))) (sAsg (eB dMax2 (aCons (eOp dMulA (eVar 8) (eVar 6)) (aCons (eOp dAdd (eVar 2) (eOp dMulA (eVar 8) (eVar 7))) aNil))) (gN 2)))) sNx))
noncomputable def b_sum_growth_1 : FS := b_sum_growth_1_1
noncomputable def f_sum_growth_1 : FS := (sAsg (eTup (aCons (eC (.int 0)) (aCons (eC (.int 1)) (aCons (eC (.int 1)) aNil)))) (gT 3 (gsCons (gN 2) (gsCons (gN 3) (gsCons (gN 4) gsNil)))))
noncomputable def f_sum_growth_2 : FS := (sFor (fiV (eVar 0)) (gN 1) b_sum_growth_1)
noncomputable def f_sum_growth_3 : FS := (sRet (eTup (aCons (eVar 2) (aCons (eVar 3) (aCons (eVar 4) aNil)))))
noncomputable def f_sum_growth : FS := sSeq f_sum_growth_1 (sSeq f_sum_growth_2 (f_sum_growth_3))
noncomputable def d_sum_growth : FD := runD 9 1 f_sum_growth
noncomputable def f_good_growth_1 : FS := (sAsg (eVar 0) (gT 2 (gsCons (gN 4) (gsCons (gN 5) gsNil))))
noncomputable def f_good_growth_2 : FS := (sAsg (eOp dIx (eVar 4) (eVar 1)) (gT 2 (gsCons (gN 6) (gsCons (gN 7) gsNil))))
noncomputable def f_good_growth_3 : FS := (sAsg (eCall d_fitting_rule (aCons (eVar 5) (aCons (eVar 1) (aCons (eC (.int 1000000)) aNil)))) (gN 2))
noncomputable def f_good_growth_4 : FS := (sIf (tV (eOp dIs (eVar 2) (eC .non))) (sRet (eTup (aCons (eC (.int 0)) (aCons (eC (.int 1)) (aCons (eVar 6) aNil))))) sNx)
noncomputable def f_good_growth_5 : FS := (sAsg (eOp dIx (eVar 5) (eVar 2)) (gN 3))
noncomputable def f_good_growth_6 : FS := (sIf (tV (eOp dEqA (eOp dIx (eVar 3) (eC (.int 0))) (eC (.str "from")))) (sRet (eTup (aCons (eOp dIx (eVar 3) (eC (.int 2))) (aCons (eC (.int 1)) (aCons (eOp dIx (eVar 3) (eC (.int 3))) aNil))))) sNx)
noncomputable def f_good_growth_7 : FS := (sAsg (eVar 3) (gT 5 (gsCons (gN 7) (gsCons (gN 7) (gsCons (gN 8) (gsCons (gN 9) (gsCons (gN 10) gsNil)))))))
noncomputable def f_good_growth_8 : FS := (sIf (tV (eOp dIs (eVar 10) (eC .non))) (sRet (eTup (aCons (eVar 8) (aCons (eVar 8) (aCons (eVar 9) aNil))))) sNx)
noncomputable def f_good_growth_9 : FS := (sRet (eTup (aCons (eOp dMulA (eVar 10) (eVar 8)) (aCons (eC (.int 1)) (aCons (eVar 6) aNil)))))
noncomputable def f_good_growth : FS := sSeq f_good_growth_1 (sSeq f_good_growth_2 (sSeq f_good_growth_3 (sSeq f_good_growth_4 (sSeq f_good_growth_5 (sSeq f_good_growth_6 (sSeq f_good_growth_7 (sSeq f_good_growth_8 (f_good_growth_9))))))))
noncomputable def d_good_growth : FD := runD 11 2 f_good_growth
noncomputable def f_settled_pieces_1 : FS := (sAsg (eCall d_good_growth (aCons (eVar 0) (aCons (eVar 1) aNil))) (gT 3 (gsCons (gN 4) (gsCons (gN 5) (gsCons (gN 6) gsNil)))))
noncomputable def f_settled_pieces_2 : FS := (sAsg (eB dMin1 (aCons (eLc (fiR1 (aCons (eVar 5) aNil)) [7] (.one 7) tT (eCall d_good_amount (aCons (eVar 0) (aCons (eVar 1) (aCons (eOp dAdd (eVar 4) (eVar 7)) aNil))))) aNil)) (gN 3))
noncomputable def f_settled_pieces_3 : FS := (sRet (eOp dAdd (eVar 4) (eOp dMulA (eVar 5) (eCall d_rounded_up (aCons (eB dMax2 (aCons (eC (.int 0)) (aCons (eOp dSub (eVar 2) (eVar 3)) aNil))) (aCons (eVar 6) aNil))))))
noncomputable def f_settled_pieces : FS := sSeq f_settled_pieces_1 (sSeq f_settled_pieces_2 (f_settled_pieces_3))
noncomputable def d_settled_pieces : FD := runD 8 3 f_settled_pieces
noncomputable def f_cycle_1 : FS := (sAsg (eCall d_sum_growth (aCons (eOp dIx (eVar 0) (eC (.int 1))) aNil)) (gT 3 (gsCons (gN 2) (gsCons (gN 3) (gsCons (gN 4) gsNil)))))
noncomputable def f_cycle_2 : FS := (sAsg (eCall d_good_growth (aCons (eVar 0) (aCons (eVar 1) aNil))) (gT 3 (gsCons (gN 5) (gsCons (gN 6) (gsCons (gN 7) gsNil)))))
noncomputable def f_cycle_3 : FS := (sRet (eTup (aCons (eCall d_settled_pieces (aCons (eVar 0) (aCons (eVar 1) (aCons (eVar 2) aNil)))) (aCons (eOp dMulA (eVar 6) (eVar 3)) (aCons (eOp dMulA (eVar 7) (eVar 4)) aNil)))))
noncomputable def f_cycle : FS := sSeq f_cycle_1 (sSeq f_cycle_2 (f_cycle_3))
noncomputable def d_cycle : FD := runD 8 2 f_cycle
noncomputable def f_cycles : FS := (sRet (eLc (fiR1 (aCons (eB dLen (aCons (eOp dIx (eVar 0) (eC (.int 0))) aNil)) aNil)) [1] (.one 1) tT (eCall d_cycle (aCons (eVar 0) (aCons (eVar 1) aNil)))))
noncomputable def d_cycles : FD := runD 2 1 f_cycles
noncomputable def f_check_few_1 : FS := (sDrop (eCall d_check_basket (aCons (eVar 0) (aCons (eVar 1) aNil))))
noncomputable def f_check_few_2 : FS := (sIf (tV (eOp dGt (eB dSum (aCons (eVar 1) aNil)) (eC (.int 100)))) (sRz "InvalidBasket") sNx)
noncomputable def f_check_few : FS := sSeq f_check_few_1 (f_check_few_2)
noncomputable def d_check_few : FD := runD 2 2 f_check_few
noncomputable def f_contains : FS := (sRet (eB dAll (aCons (eLc (fiZ false (aCons (eVar 0) (aCons (eVar 1) aNil))) [2, 3] (.tup [2, 3]) tT (eOp dGe (eVar 2) (eVar 3))) aNil)))
noncomputable def d_contains : FD := runD 4 2 f_contains
noncomputable def f_limits_above : FS := (sRet (eLc (fiZm false (aCons (eCall d_cycles (aCons (eVar 0) aNil)) (aCons (eVar 1) aNil))) [3, 4, 5, 2] (.nest [3, 4, 5] 2) tT (eOp dSub (eOp dAdd (eB dMax2 (aCons (eVar 3) (aCons (eVar 2) aNil))) (eVar 4)) (eC (.int 1)))))
noncomputable def d_limits_above : FD := runD 6 2 f_limits_above
noncomputable def f_charges_above_1 : FS := (sAsg (eCall d_limits_above (aCons (eVar 0) (aCons (eVar 1) aNil))) (gN 2))
noncomputable def f_charges_above_2 : FS := (sAsg (eCall d_charges_within (aCons (eVar 0) (aCons (eVar 2) aNil))) (gN 3))
noncomputable def f_charges_above_3 : FS := (sRet (eLc (fiL false (eCall d_baskets_within (aCons (eVar 2) aNil))) [4] (.one 4) (tV (eCall d_contains (aCons (eVar 4) (aCons (eVar 1) aNil)))) (eTup (aCons (eDIx (eVar 3) (eVar 4)) (aCons (eVar 4) aNil)))))
noncomputable def f_charges_above : FS := sSeq f_charges_above_1 (sSeq f_charges_above_2 (f_charges_above_3))
noncomputable def d_charges_above : FD := runD 5 2 f_charges_above
noncomputable def f_least_above_1 : FS := (sDrop (eCall d_check_few (aCons (eVar 0) (aCons (eVar 1) aNil))))
noncomputable def f_least_above_2 : FS := (sAsg (eCall d_charges_above (aCons (eVar 0) (aCons (eVar 1) aNil))) (gN 2))
noncomputable def f_least_above_3 : FS := (sAsg (eB dMin1 (aCons (eLc (fiL false (eVar 2)) [5, 7] (.tup [5, 7]) tT (eVar 5)) aNil)) (gN 3))
noncomputable def f_least_above_4 : FS := (sAsg (eLc (fiL false (eVar 2)) [5, 6] (.tup [5, 6]) (tV (eOp dEqA (eVar 5) (eVar 3))) (eVar 6)) (gN 4))
noncomputable def f_least_above_5 : FS := (sRet (eTup (aCons (eVar 3) (aCons (eOp dIx (eVar 4) (eC (.int 0))) aNil))))
noncomputable def f_least_above : FS := sSeq f_least_above_1 (sSeq f_least_above_2 (sSeq f_least_above_3 (sSeq f_least_above_4 (f_least_above_5))))
noncomputable def d_least_above : FD := runD 8 2 f_least_above
noncomputable def b_fewest_more_1_1 : FS := (sIf (tV (eOp dLt (eVar 3) (eVar 2))) (sRet (eVar 4)) sNx)
noncomputable def b_fewest_more_1 : FS := b_fewest_more_1_1
noncomputable def f_fewest_more_1 : FS := (sDrop (eCall d_check_few (aCons (eVar 0) (aCons (eVar 1) aNil))))
noncomputable def f_fewest_more_2 : FS := (sAsg (eCall d_charge_of (aCons (eVar 0) (aCons (eVar 1) aNil))) (gN 2))
noncomputable def f_fewest_more_3 : FS := (sFor (fiL true (eCall d_charges_above (aCons (eVar 0) (aCons (eVar 1) aNil)))) (gT 2 (gsCons (gN 3) (gsCons (gN 4) gsNil))) b_fewest_more_1)
noncomputable def f_fewest_more_4 : FS := (sRet (eC .non))
noncomputable def f_fewest_more : FS := sSeq f_fewest_more_1 (sSeq f_fewest_more_2 (sSeq f_fewest_more_3 (f_fewest_more_4)))
noncomputable def d_fewest_more : FD := runD 5 2 f_fewest_more
end DL
namespace DL
open PySem PySem.Spec L2
def isBetween (v : D) (lo hi : Int) : Bool := match v with
  | .int i => decide (lo ≤ i) && decide (i ≤ hi)
  | _ => false
def isInt : D → Bool
  | .int _ => true
  | _ => false
theorem r_is_integer (v : D) : d_is_integer [.im v] = .ok (.im (.bl (isInt v))) [.no] := by
  cases v <;> simp [d_is_integer, f_is_integer, isInt, sEr, op2, op1, T.val, R.opt, toB, opL, vals, consT, disp, mvs, mkTup, callT, callI, argE, others, isAl, isAli, finT, outE, padE, runD, cpsOf, cpT, toI, slT, T.weak, metT, kApp, kExt, elemD, iT, iL, iR1, iR2, iE, iZ, onI]
theorem r_is_between (v : D) (lo hi : Int) : d_is_between [.im v, .im (.int lo), .im (.int hi)] = .ok (.im (.bl (isBetween v lo hi))) [.no, .no, .no] := by
  cases v <;> simp [d_is_between, f_is_between, isBetween, r_is_integer, isInt, sEr, op2, op1, T.val, R.opt, toB, opL, vals, consT, disp, mvs, mkTup, callT, callI, argE, others, isAl, isAli, finT, outE, padE, runD, cpsOf, cpT, toI, slT, T.weak, metT, kApp, kExt, elemD, iT, iL, iR1, iR2, iE, iZ, onI]
def isTupleOf (v : D) (n : Int) : Bool := match v with
  | .tup ds => (ds.length : Int) == n
  | _ => false
theorem r_is_tuple_of (v : D) (n : Int) : d_is_tuple_of [.im v, .im (.int n)] = .ok (.im (.bl (isTupleOf v n))) [.no, .no] := by
  cases v <;> simp [d_is_tuple_of, f_is_tuple_of, isTupleOf, sEr, op2, op1, T.val, R.opt, toB, opL, vals, consT, disp, mvs, mkTup, callT, callI, argE, others, isAl, isAli, finT, outE, padE, runD, cpsOf, cpT, toI, slT, T.weak, metT, kApp, kExt, elemD, iT, iL, iR1, iR2, iE, iZ, onI]
def isMost (v : D) : Bool := match v with
  | .non => true
  | v => isBetween v 1 2
theorem r_is_most (v : D) : d_is_most [.im v] = .ok (.im (.bl (isMost v))) [.no] := by
  cases v <;> simp [d_is_most, f_is_most, isMost, r_is_between, sEr, op2, op1, T.val, R.opt, toB, opL, vals, consT, disp, mvs, mkTup, callT, callI, argE, others, isAl, isAli, finT, outE, padE, runD, cpsOf, cpT, toI, slT, T.weak, metT, kApp, kExt, elemD, iT, iL, iR1, iR2, iE, iZ, onI]
def isGood (v : D) : Bool := match v with
  | .tup [p, c] => isBetween p 1 9 && isBetween c 0 9
  | _ => false
theorem r_is_good (v : D) : d_is_good [.im v] = .ok (.im (.bl (isGood v))) [.no] := by
  by_cases h : isTupleOf v 2 = true
  · obtain ⟨a, b, rfl⟩ : ∃ a b, v = .tup [a, b] := by
      cases v <;> simp [isTupleOf] at h
      rename_i ds
      match ds, h with
      | [a, b], _ => exact ⟨a, b, rfl⟩
    simp [d_is_good, f_is_good, isGood, r_is_tuple_of, r_is_between, h, sEr, op2, op1, T.val, R.opt, toB, opL, vals, consT, disp, mvs, mkTup, callT, callI, argE, others, isAl, isAli, finT, outE, padE, runD, cpsOf, cpT, toI, slT, T.weak, metT, kApp, kExt, elemD, iT, iL, iR1, iR2, iE, iZ, onI]
  · have e : isGood v = false := by
      unfold isGood
      split
      · simp [isTupleOf] at h
      · rfl
    simp [d_is_good, f_is_good, e, r_is_tuple_of, h, sEr, op2, op1, T.val, R.opt, toB, opL, vals, consT, disp, mvs, mkTup, callT, callI, argE, others, isAl, isAli, finT, outE, padE, runD, cpsOf, cpT, toI, slT, T.weak, metT, kApp, kExt, elemD, iT, iL, iR1, iR2, iE, iZ, onI]
theorem isBt_int {v : D} {a b : Int} (h : isBetween v a b = true) : ∃ i, v = .int i := by
  cases v <;> first | exact ⟨_, rfl⟩ | exact (Bool.false_ne_true h).elim
theorem isTup_get {v : D} {n : Int} (h : isTupleOf v n = true) : ∃ ds, v = .tup ds ∧ (ds.length : Int) = n := by
  cases v <;> simp [isTupleOf] at h
  exact ⟨_, rfl, h⟩
def isPack (v : D) (n : Int) : Bool := match v with
  | .tup [_, .int g, .int s, p, m] => isBetween (.int g) 0 (n - 1) && (isBetween (.int s) 2 3 && (isBetween p s 30 && isMost m))
  | _ => false
theorem r_is_pack (v : D) (n : Int) : d_is_pack [.im v, .im (.int n)] = .ok (.im (.bl (isPack v n))) [.no, .no] := by
  by_cases h : isTupleOf v 5 = true
  · obtain ⟨ds, rfl, hl⟩ := isTup_get h
    match ds, hl with
    | [a, g, s, p, m], _ =>
      by_cases hg : isBetween g 0 (n - 1) = true
      · by_cases hs : isBetween s 2 3 = true
        · obtain ⟨g, rfl⟩ := isBt_int hg
          obtain ⟨s, rfl⟩ := isBt_int hs
          simp [d_is_pack, f_is_pack, isPack, r_is_tuple_of, r_is_between, r_is_most, h, sEr, op2, op1, T.val, R.opt, toB, opL, vals, consT, disp, mvs, mkTup, callT, callI, argE, others, isAl, isAli, finT, outE, padE, runD, cpsOf, cpT, toI, slT, T.weak, metT, kApp, kExt, elemD, iT, iL, iR1, iR2, iE, iZ, onI]
        · have e : isPack (.tup [a, g, s, p, m]) n = false := by
            unfold isPack
            split
            · rename_i z; cases z; simp [hs]
            · rfl
          simp [d_is_pack, f_is_pack, e, r_is_tuple_of, r_is_between, r_is_most, h, hs, sEr, op2, op1, T.val, R.opt, toB, opL, vals, consT, disp, mvs, mkTup, callT, callI, argE, others, isAl, isAli, finT, outE, padE, runD, cpsOf, cpT, toI, slT, T.weak, metT, kApp, kExt, elemD, iT, iL, iR1, iR2, iE, iZ, onI]
      · have e : isPack (.tup [a, g, s, p, m]) n = false := by
          unfold isPack
          split
          · rename_i z; cases z; simp [hg]
          · rfl
        simp [d_is_pack, f_is_pack, e, r_is_tuple_of, r_is_between, r_is_most, h, hg, sEr, op2, op1, T.val, R.opt, toB, opL, vals, consT, disp, mvs, mkTup, callT, callI, argE, others, isAl, isAli, finT, outE, padE, runD, cpsOf, cpT, toI, slT, T.weak, metT, kApp, kExt, elemD, iT, iL, iR1, iR2, iE, iZ, onI]
  · have e : isPack v n = false := by
      unfold isPack
      split
      · simp [isTupleOf] at h
      · rfl
    simp [d_is_pack, f_is_pack, e, r_is_tuple_of, h, sEr, op2, op1, T.val, R.opt, toB, opL, vals, consT, disp, mvs, mkTup, callT, callI, argE, others, isAl, isAli, finT, outE, padE, runD, cpsOf, cpT, toI, slT, T.weak, metT, kApp, kExt, elemD, iT, iL, iR1, iR2, iE, iZ, onI]
def isFrom (v : D) (n : Int) : Bool := match v with
  | .tup [_, g, l, p] => isBetween g 0 (n - 1) && (isBetween l 2 4 && isBetween p 1 9)
  | _ => false
theorem r_is_from (v : D) (n : Int) : d_is_from [.im v, .im (.int n)] = .ok (.im (.bl (isFrom v n))) [.no, .no] := by
  by_cases h : isTupleOf v 4 = true
  · obtain ⟨ds, rfl, hl⟩ := isTup_get h
    match ds, hl with
    | [a, g, s, p], _ => simp [d_is_from, f_is_from, isFrom, r_is_tuple_of, r_is_between, h, sEr, op2, op1, T.val, R.opt, toB, opL, vals, consT, disp, mvs, mkTup, callT, callI, argE, others, isAl, isAli, finT, outE, padE, runD, cpsOf, cpT, toI, slT, T.weak, metT, kApp, kExt, elemD, iT, iL, iR1, iR2, iE, iZ, onI]
  · have e : isFrom v n = false := by
      unfold isFrom
      split
      · simp [isTupleOf] at h
      · rfl
    simp [d_is_from, f_is_from, e, r_is_tuple_of, h, sEr, op2, op1, T.val, R.opt, toB, opL, vals, consT, disp, mvs, mkTup, callT, callI, argE, others, isAl, isAli, finT, outE, padE, runD, cpsOf, cpT, toI, slT, T.weak, metT, kApp, kExt, elemD, iT, iL, iR1, iR2, iE, iZ, onI]
def isOver (v : D) : Bool := match v with
  | .tup [_, .int f, o] => isBetween (.int f) 2 12 && isBetween o 1 (if f < 6 then f else 6)
  | _ => false
theorem r_is_over (v : D) : d_is_over [.im v] = .ok (.im (.bl (isOver v))) [.no] := by
  by_cases h : isTupleOf v 3 = true
  · obtain ⟨ds, rfl, hl⟩ := isTup_get h
    match ds, hl with
    | [a, f, o], _ =>
      by_cases hf : isBetween f 2 12 = true
      · obtain ⟨f, rfl⟩ := isBt_int hf
        simp [d_is_over, f_is_over, isOver, r_is_tuple_of, r_is_between, h, dMin2, sEr, op2, op1, T.val, R.opt, toB, opL, vals, consT, disp, mvs, mkTup, callT, callI, argE, others, isAl, isAli, finT, outE, padE, runD, cpsOf, cpT, toI, slT, T.weak, metT, kApp, kExt, elemD, iT, iL, iR1, iR2, iE, iZ, onI]
      · have e : isOver (.tup [a, f, o]) = false := by
          unfold isOver
          split
          · rename_i z; cases z; simp [hf]
          · rfl
        simp [d_is_over, f_is_over, e, r_is_tuple_of, r_is_between, h, hf, sEr, op2, op1, T.val, R.opt, toB, opL, vals, consT, disp, mvs, mkTup, callT, callI, argE, others, isAl, isAli, finT, outE, padE, runD, cpsOf, cpT, toI, slT, T.weak, metT, kApp, kExt, elemD, iT, iL, iR1, iR2, iE, iZ, onI]
  · have e : isOver v = false := by
      unfold isOver
      split
      · simp [isTupleOf] at h
      · rfl
    simp [d_is_over, f_is_over, e, r_is_tuple_of, h, sEr, op2, op1, T.val, R.opt, toB, opL, vals, consT, disp, mvs, mkTup, callT, callI, argE, others, isAl, isAli, finT, outE, padE, runD, cpsOf, cpT, toI, slT, T.weak, metT, kApp, kExt, elemD, iT, iL, iR1, iR2, iE, iZ, onI]
def isNon : D → Bool
  | .non => true
  | _ => false
def isEach (v : D) : Bool := match v with
  | .tup [_, .int f, .int o, m] => isBetween (.int f) 2 6 && (isBetween (.int o) 1 f && (isMost m && (!isNon m || decide (2 * o ≤ f))))
  | _ => false
theorem dNis_non (m : D) : dNis m .non = some (.im (.bl (!isNon m))) := by cases m <;> rfl
theorem dIs_non (m : D) : dIs m .non = some (.im (.bl (isNon m))) := by cases m <;> rfl
theorem r_is_each (v : D) : d_is_each [.im v] = .ok (.im (.bl (isEach v))) [.no] := by
  by_cases h : isTupleOf v 4 = true
  · obtain ⟨ds, rfl, hl⟩ := isTup_get h
    match ds, hl with
    | [a, f, o, m], _ =>
      by_cases hf : isBetween f 2 6 = true
      · obtain ⟨f, rfl⟩ := isBt_int hf
        by_cases ho : isBetween o 1 f = true
        · obtain ⟨o, rfl⟩ := isBt_int ho
          have q : (-(2 ^ 64) < (2 : Int) ∧ (2 : Int) < 2 ^ 64) ∨ (-(2 ^ 64) < o ∧ o < 2 ^ 64) := .inl (by decide)
          simp [d_is_each, f_is_each, isEach, r_is_tuple_of, r_is_between, r_is_most, h, hf, ho, dNis_non, dMulA, sEr, op2, op1, T.val, R.opt, toB, opL, vals, consT, disp, mvs, mkTup, callT, callI, argE, others, isAl, isAli, finT, outE, padE, runD, cpsOf, cpT, toI, slT, T.weak, metT, kApp, kExt, elemD, iT, iL, iR1, iR2, iE, iZ, onI, -dNis]
        · have e : isEach (.tup [a, .int f, o, m]) = false := by
            unfold isEach
            split
            · rename_i z; cases z; simp [ho]
            · rfl
          simp [d_is_each, f_is_each, e, r_is_tuple_of, r_is_between, h, ho, hf, sEr, op2, op1, T.val, R.opt, toB, opL, vals, consT, disp, mvs, mkTup, callT, callI, argE, others, isAl, isAli, finT, outE, padE, runD, cpsOf, cpT, toI, slT, T.weak, metT, kApp, kExt, elemD, iT, iL, iR1, iR2, iE, iZ, onI]
      · have e : isEach (.tup [a, f, o, m]) = false := by
          unfold isEach
          split
          · rename_i z; cases z; simp [hf]
          · rfl
        simp [d_is_each, f_is_each, e, r_is_tuple_of, r_is_between, h, hf, sEr, op2, op1, T.val, R.opt, toB, opL, vals, consT, disp, mvs, mkTup, callT, callI, argE, others, isAl, isAli, finT, outE, padE, runD, cpsOf, cpT, toI, slT, T.weak, metT, kApp, kExt, elemD, iT, iL, iR1, iR2, iE, iZ, onI]
  · have e : isEach v = false := by
      unfold isEach
      split
      · simp [isTupleOf] at h
      · rfl
    simp [d_is_each, f_is_each, e, r_is_tuple_of, h, sEr, op2, op1, T.val, R.opt, toB, opL, vals, consT, disp, mvs, mkTup, callT, callI, argE, others, isAl, isAli, finT, outE, padE, runD, cpsOf, cpT, toI, slT, T.weak, metT, kApp, kExt, elemD, iT, iL, iR1, iR2, iE, iZ, onI]
def isRule (v : D) (n : Int) : Bool := match v with
  | .tup (.str x :: ds) => bif x == "pack" then isPack v n else bif x == "from" then isFrom v n else bif x == "over" then isOver v else (x == "each" && isEach v)
  | _ => false
theorem r_is_rule (v : D) (n : Int) : d_is_rule [.im v, .im (.int n)] = .ok (.im (.bl (isRule v n))) [.no, .no] := by
  have q : ∀ k : Nat, ((k : Int) + 1 == 0) = false := fun k => by simp; omega
  rcases v with _ | _ | _ | _ | ds | _ | _ <;> try (simp [d_is_rule, f_is_rule, isRule, sEr, op2, op1, T.val, R.opt, toB, opL, vals, consT, disp, mvs, mkTup, callT, callI, argE, others, isAl, isAli, finT, outE, padE, runD, cpsOf, cpT, toI, slT, T.weak, metT, kApp, kExt, elemD, iT, iL, iR1, iR2, iE, iZ, onI]; done)
  cases ds with
  | nil => simp [d_is_rule, f_is_rule, isRule, sEr, op2, op1, T.val, R.opt, toB, opL, vals, consT, disp, mvs, mkTup, callT, callI, argE, others, isAl, isAli, finT, outE, padE, runD, cpsOf, cpT, toI, slT, T.weak, metT, kApp, kExt, elemD, iT, iL, iR1, iR2, iE, iZ, onI]
  | cons w ds =>
    cases w <;> simp [d_is_rule, f_is_rule, isRule, dIx, atI, ixN, q, r_is_pack, r_is_from, r_is_over, r_is_each, sEr, op2, op1, T.val, R.opt, toB, opL, vals, consT, disp, mvs, mkTup, callT, callI, argE, others, isAl, isAli, finT, outE, padE, runD, cpsOf, cpT, toI, slT, T.weak, metT, kApp, kExt, elemD, iT, iL, iR1, iR2, iE, iZ, onI]

end DL
namespace DL
open PySem PySem.Spec L2
def isEndless (v : D) : Bool := match v with
  | .tup [.str x, _, _, m] => x == "each" && isNon m
  | _ => false
theorem rule_word {v : D} {n : Int} (h : isRule v n = true) : ∃ x ds, v = .tup (.str x :: ds) := by
  unfold isRule at h
  split at h
  · exact ⟨_, _, rfl⟩
  · cases h
theorem each_form {ds : List D} (h : isEach (.tup ds) = true) : ∃ a b c m, ds = [a, b, c, m] := by
  unfold isEach at h
  split at h
  · rename_i z; cases z; exact ⟨_, _, _, _, rfl⟩
  · cases h
theorem rule_each {x : Str} {ds : List D} {n : Int} (h : isRule (.tup (.str x :: ds)) n = true) (e : x = "each") : ∃ b c m, ds = [b, c, m] := by
  subst e
  have h : isEach (.tup (.str "each" :: ds)) = true := h
  obtain ⟨a, b, c, m, e⟩ := each_form h
  cases e
  exact ⟨b, c, m, rfl⟩
theorem r_endless {v : D} {n : Int} (h : isRule v n = true) : d_is_endless_each [.im v] = .ok (.im (.bl (isEndless v))) [.no] := by
  obtain ⟨x, ds, rfl⟩ := rule_word h
  have q : ∀ k : Nat, (0 : Int) < (k : Int) + 1 := fun k => by omega
  by_cases e : x = "each"
  · obtain ⟨b, c, m, rfl⟩ := rule_each h e
    subst e
    simp [d_is_endless_each, f_is_endless_each, isEndless, dIx, atI, ixN, dIs_non, sEr, op2, op1, T.val, R.opt, toB, opL, vals, consT, disp, mvs, mkTup, callT, callI, argE, others, isAl, isAli, finT, outE, padE, runD, cpsOf, cpT, toI, slT, T.weak, metT, kApp, kExt, elemD, iT, iL, iR1, iR2, iE, iZ, onI, -dIs]
  · have e' : (x == "each") = false := by simpa using e
    have e2 : isEndless (.tup (.str x :: ds)) = false := by
      unfold isEndless
      split
      · rename_i z; cases z; simp [e']
      · rfl
    simp [d_is_endless_each, f_is_endless_each, e2, e', dIx, atI, ixN, q, sEr, op2, op1, T.val, R.opt, toB, opL, vals, consT, disp, mvs, mkTup, callT, callI, argE, others, isAl, isAli, finT, outE, padE, runD, cpsOf, cpT, toI, slT, T.weak, metT, kApp, kExt, elemD, iT, iL, iR1, iR2, iE, iZ, onI, -dIs]
def areGoods (v : D) : Bool := match v with
  | .tup ds => (decide (1 ≤ ds.length) && decide (ds.length ≤ 2)) && ds.all isGood
  | _ => false
theorem small_size {n : Nat} (h : n ≤ 1000) : n ≤ sizeLine := Nat.le_trans h (by decide)
theorem l_goods (ds : List D) (h : ds.length ≤ 1000) : eLc (fiT (eVar 0)) [1] (.one 1) tT (eCall d_is_good (aCons (eVar 1) aNil)) [.im (.tup ds), .no] = .ok (.fr (ds.map fun d => .bl (isGood d))) [.im (.tup ds), .no] := by
  have := lc_map (k := ⟨ds, none⟩) (vs := [1]) (t := .one 1) (fe := eCall d_is_good (aCons (eVar 1) aNil)) (h := fun d => .bl (isGood d)) (env := [.im (.tup ds), .no]) trivial ds [] (small_size (by simpa using h)) fun d _ =>
    ⟨_, _, _, rfl, by simp [r_is_good, sEr, op2, op1, T.val, R.opt, toB, opL, vals, consT, disp, mvs, mkTup, callT, callI, argE, others, isAl, isAli, finT, outE, padE, runD, cpsOf, cpT, toI, slT, T.weak, metT, kApp, kExt, elemD, iT, iL, iR1, iR2, iE, iZ, onI]; exact ⟨rfl, rfl⟩, rfl, rfl⟩
  rw [eLc_s]
  simp [wipeE, this, sEr, op2, op1, T.val, R.opt, toB, opL, vals, consT, disp, mvs, mkTup, callT, callI, argE, others, isAl, isAli, finT, outE, padE, runD, cpsOf, cpT, toI, slT, T.weak, metT, kApp, kExt, elemD, iT, iL, iR1, iR2, iE, iZ, onI]
theorem r_are_goods (v : D) : d_are_goods [.im v] = .ok (.im (.bl (areGoods v))) [.no] := by
  rcases v with _ | _ | _ | _ | ds | _ | _ <;> try (simp [d_are_goods, f_are_goods, areGoods, sEr, op2, op1, T.val, R.opt, toB, opL, vals, consT, disp, mvs, mkTup, callT, callI, argE, others, isAl, isAli, finT, outE, padE, runD, cpsOf, cpT, toI, slT, T.weak, metT, kApp, kExt, elemD, iT, iL, iR1, iR2, iE, iZ, onI]; done)
  by_cases h : 1 ≤ ds.length ∧ ds.length ≤ 2
  · have h1 : (1 : Int) ≤ ds.length := by omega
    have h2 : (ds.length : Int) ≤ 2 := by omega
    simp [d_are_goods, f_are_goods, areGoods, h, h1, h2, l_goods ds (by omega), sEr, op2, op1, T.val, R.opt, toB, opL, vals, consT, disp, mvs, mkTup, callT, callI, argE, others, isAl, isAli, finT, outE, padE, runD, cpsOf, cpT, toI, slT, T.weak, metT, kApp, kExt, elemD, iT, iL, iR1, iR2, iE, iZ, onI]
  · have e : (decide (1 ≤ ds.length) && decide (ds.length ≤ 2)) = false := by simpa using h
    have e2 : (!decide ((1 : Int) ≤ ds.length) || !decide ((ds.length : Int) ≤ 2)) = true := by simp; omega
    simp [d_are_goods, f_are_goods, areGoods, e, e2, sEr, op2, op1, T.val, R.opt, toB, opL, vals, consT, disp, mvs, mkTup, callT, callI, argE, others, isAl, isAli, finT, outE, padE, runD, cpsOf, cpT, toI, slT, T.weak, metT, kApp, kExt, elemD, iT, iL, iR1, iR2, iE, iZ, onI]
def rulesOk (ds : List D) (n : Int) : Bool := ds.all fun d => isRule d n
def areRules (v : D) (n : Int) : Bool := match v with
  | .tup ds => (decide (ds.length ≤ 4) && rulesOk ds n) && decide ((ds.filter isEndless).length ≤ 1)
  | _ => false
theorem l_rules1 (ds : List D) (n : Int) (h : ds.length ≤ 1000) : eLc (fiT (eVar 0)) [2] (.one 2) tT (eCall d_is_rule (aCons (eVar 2) (aCons (eVar 1) aNil))) [.im (.tup ds), .im (.int n), .no] = .ok (.fr (ds.map fun d => .bl (isRule d n))) [.im (.tup ds), .im (.int n), .no] := by
  have := lc_map (k := ⟨ds, none⟩) (vs := [2]) (t := .one 2) (fe := eCall d_is_rule (aCons (eVar 2) (aCons (eVar 1) aNil))) (h := fun d => .bl (isRule d n)) (env := [.im (.tup ds), .im (.int n), .no]) trivial ds [] (small_size (by simpa using h)) fun d _ =>
    ⟨_, _, _, rfl, by simp [r_is_rule, sEr, op2, op1, T.val, R.opt, toB, opL, vals, consT, disp, mvs, mkTup, callT, callI, argE, others, isAl, isAli, finT, outE, padE, runD, cpsOf, cpT, toI, slT, T.weak, metT, kApp, kExt, elemD, iT, iL, iR1, iR2, iE, iZ, onI]; exact ⟨rfl, rfl⟩, rfl, rfl⟩
  rw [eLc_s]
  simp [wipeE, this, sEr, op2, op1, T.val, R.opt, toB, opL, vals, consT, disp, mvs, mkTup, callT, callI, argE, others, isAl, isAli, finT, outE, padE, runD, cpsOf, cpT, toI, slT, T.weak, metT, kApp, kExt, elemD, iT, iL, iR1, iR2, iE, iZ, onI]
theorem l_rules2 (ds : List D) (n : Int) (h : ds.length ≤ 1000) (hr : rulesOk ds n = true) : eLc (fiT (eVar 0)) [2] (.one 2) (tV (eCall d_is_endless_each (aCons (eVar 2) aNil))) (eVar 2) [.im (.tup ds), .im (.int n), .no] = .ok (.fr (ds.filter isEndless)) [.im (.tup ds), .im (.int n), .no] := by
  have hr : ∀ d ∈ ds, isRule d n = true := by simpa [rulesOk] using hr
  have := lc_filter (k := ⟨ds, none⟩) (vs := [2]) (t := .one 2) (ft := tV (eCall d_is_endless_each (aCons (eVar 2) aNil))) (fe := eVar 2) (p := isEndless) (h := id) (env := [.im (.tup ds), .im (.int n), .no]) trivial ds [] (small_size (by simpa using h)) fun d z =>
    ⟨_, _, rfl, by simp [r_endless (hr d z), sEr, op2, op1, T.val, R.opt, toB, opL, vals, consT, disp, mvs, mkTup, callT, callI, argE, others, isAl, isAli, finT, outE, padE, runD, cpsOf, cpT, toI, slT, T.weak, metT, kApp, kExt, elemD, iT, iL, iR1, iR2, iE, iZ, onI]; exact rfl, rfl, fun _ => ⟨_, _, rfl, rfl, rfl⟩⟩
  rw [eLc_s]
  simp [wipeE, this, sEr, op2, op1, T.val, R.opt, toB, opL, vals, consT, disp, mvs, mkTup, callT, callI, argE, others, isAl, isAli, finT, outE, padE, runD, cpsOf, cpT, toI, slT, T.weak, metT, kApp, kExt, elemD, iT, iL, iR1, iR2, iE, iZ, onI]
theorem r_are_rules (v : D) (n : Int) : d_are_rules [.im v, .im (.int n)] = .ok (.im (.bl (areRules v n))) [.no, .no] := by
  rcases v with _ | _ | _ | _ | ds | _ | _ <;> try (simp [d_are_rules, f_are_rules, areRules, sEr, op2, op1, T.val, R.opt, toB, opL, vals, consT, disp, mvs, mkTup, callT, callI, argE, others, isAl, isAli, finT, outE, padE, runD, cpsOf, cpT, toI, slT, T.weak, metT, kApp, kExt, elemD, iT, iL, iR1, iR2, iE, iZ, onI]; done)
  by_cases h : ds.length ≤ 4
  · have h1 : ¬ (4 : Int) < ds.length := by omega
    by_cases hr : rulesOk ds n = true
    · have hr' : (ds.all fun d => isRule d n) = true := hr
      have e2 : decide (((ds.filter isEndless).length : Int) ≤ 1) = decide ((ds.filter isEndless).length ≤ 1) := by
        rw [Bool.eq_iff_iff]; simp; omega
      simp [d_are_rules, f_are_rules, areRules, h, h1, hr', hr, l_rules1 ds n (by omega), l_rules2 ds n (by omega) hr, e2, sEr, op2, op1, T.val, R.opt, toB, opL, vals, consT, disp, mvs, mkTup, callT, callI, argE, others, isAl, isAli, finT, outE, padE, runD, cpsOf, cpT, toI, slT, T.weak, metT, kApp, kExt, elemD, iT, iL, iR1, iR2, iE, iZ, onI]
    · have hr' : (ds.all fun d => isRule d n) = false := by simpa [rulesOk] using hr
      simp [d_are_rules, f_are_rules, areRules, h, h1, hr', hr, l_rules1 ds n (by omega), sEr, op2, op1, T.val, R.opt, toB, opL, vals, consT, disp, mvs, mkTup, callT, callI, argE, others, isAl, isAli, finT, outE, padE, runD, cpsOf, cpT, toI, slT, T.weak, metT, kApp, kExt, elemD, iT, iL, iR1, iR2, iE, iZ, onI]
  · have h1 : (4 : Int) < ds.length := by omega
    simp [d_are_rules, f_are_rules, areRules, h, h1, sEr, op2, op1, T.val, R.opt, toB, opL, vals, consT, disp, mvs, mkTup, callT, callI, argE, others, isAl, isAli, finT, outE, padE, runD, cpsOf, cpT, toI, slT, T.weak, metT, kApp, kExt, elemD, iT, iL, iR1, iR2, iE, iZ, onI]
def isShop (v : D) : Bool := match v with
  | .tup [.tup gs, rs] => areGoods (.tup gs) && areRules rs gs.length
  | _ => false
theorem goods_tup {v : D} (h : areGoods v = true) : ∃ gs, v = .tup gs := by
  cases v <;> first | exact ⟨_, rfl⟩ | exact (Bool.false_ne_true h).elim
theorem r_is_shop (v : D) : d_is_shop [.im v] = .ok (.im (.bl (isShop v))) [.no] := by
  by_cases h : isTupleOf v 2 = true
  · obtain ⟨ds, rfl, hl⟩ := isTup_get h
    match ds, hl with
    | [g, r], _ =>
      by_cases hg : areGoods g = true
      · obtain ⟨gs, rfl⟩ := goods_tup hg
        simp [d_is_shop, f_is_shop, isShop, r_is_tuple_of, r_are_goods, r_are_rules, h, hg, sEr, op2, op1, T.val, R.opt, toB, opL, vals, consT, disp, mvs, mkTup, callT, callI, argE, others, isAl, isAli, finT, outE, padE, runD, cpsOf, cpT, toI, slT, T.weak, metT, kApp, kExt, elemD, iT, iL, iR1, iR2, iE, iZ, onI]
      · have e : isShop (.tup [g, r]) = false := by
          unfold isShop
          split
          · rename_i z; cases z; simp [hg]
          · rfl
        simp [d_is_shop, f_is_shop, e, r_is_tuple_of, r_are_goods, h, hg, sEr, op2, op1, T.val, R.opt, toB, opL, vals, consT, disp, mvs, mkTup, callT, callI, argE, others, isAl, isAli, finT, outE, padE, runD, cpsOf, cpT, toI, slT, T.weak, metT, kApp, kExt, elemD, iT, iL, iR1, iR2, iE, iZ, onI]
  · have e : isShop v = false := by
      unfold isShop
      split
      · simp [isTupleOf] at h
      · rfl
    simp [d_is_shop, f_is_shop, e, r_is_tuple_of, h, sEr, op2, op1, T.val, R.opt, toB, opL, vals, consT, disp, mvs, mkTup, callT, callI, argE, others, isAl, isAli, finT, outE, padE, runD, cpsOf, cpT, toI, slT, T.weak, metT, kApp, kExt, elemD, iT, iL, iR1, iR2, iE, iZ, onI]
theorem fin4 {p0 : En} {r : D} {m : Nat} {rest : En} {n p : Nat} {f : FS} (hp : p0.length = p) (h : f (padE n p0) = .rt (.im r) rest) (o : En) (ho : outE p0 rest = some o) : runD n p f p0 = .ok (.im r) o := by
  show (if p0.length = p then finF p0 (f (padE n p0)) else .er) = _
  rw [if_pos hp, h]
  show (match outE p0 rest with
    | some o => R.ok (T.im r) o
    | none => .er) = _
  rw [ho]
theorem sFor_of {fi : FI} {g : FG} {f : FS} {env e : En} {its : List D} {x : Fl} (h1 : fi env = .ok ⟨its, none⟩ e) (h2 : loopF g f its e = x) : sFor fi g f env = x := by
  rw [sFor_s, h1]
  exact h2

end DL
namespace DL
open PySem PySem.Spec L2
abbrev scr (ns : List Int) : Sl := .im (.fz (ns.map D.int))
theorem atI_ok {ds : List D} {i : Int} (h0 : 0 ≤ i) (h : i < ds.length) : ∃ d, atI ds i = some d ∧ ds[i.toNat]? = some d := by
  have hi : i.toNat < ds.length := by omega
  refine ⟨ds[i.toNat], ?_, List.getElem?_eq_getElem hi⟩
  unfold atI ixN
  simp [h0, h, hi]
theorem at_ints {ns : List Int} {i : Int} (h0 : 0 ≤ i) (h : i < ns.length) : ∃ z, atI (ns.map D.int) i = some (.int z) := by
  obtain ⟨d, e, q⟩ := atI_ok (ds := ns.map D.int) h0 (by simpa using h)
  rw [List.getElem?_map] at q
  obtain ⟨z, q1, q2⟩ := Option.map_eq_some_iff.mp q
  exact ⟨z, by rw [e, q2]⟩
theorem lays_ints : ∀ ns : List Int, lays (ns.map D.int) = true
  | [] => rfl
  | n :: ns => by rw [List.map_cons]; unfold lays; rw [lays_ints ns]; rfl
theorem deps_ints : ∀ ns : List Int, deps (ns.map D.int) = 0
  | [] => rfl
  | n :: ns => by rw [List.map_cons]; unfold deps; rw [deps_ints ns]; rfl
theorem shp_ints (ns : List Int) : shp (.fz (ns.map D.int)) = true := by
  rw [shp_eq, lay, dep, lays_ints, deps_ints]
  rfl
theorem eq_nil (ns : List Int) : dEqA (.fz (ns.map D.int)) (.lst []) = some (.im (.bl ns.isEmpty)) := by
  have e : shp (.lst []) = true := by rfl
  unfold dEqA dEqS dEq
  simp [shp_ints, e]
  cases ns <;> rfl
theorem r_cell (ns : List Int) (k : Int) (hl : ns.length ≤ 63) (hk : 0 ≤ k) : ∃ z, d__law_cell_at [scr ns, .im (.int k)] = .ok (.im (.int z)) [.no, .no] := by
  by_cases h : k < ns.length
  · obtain ⟨z, e⟩ := at_ints hk h
    exact ⟨z, by simp [d__law_cell_at, f__law_cell_at, scr, h, e, dIx, sEr, op2, op1, T.val, R.opt, toB, opL, vals, consT, disp, mvs, mkTup, callT, callI, argE, others, isAl, isAli, finT, outE, padE, runD, cpsOf, cpT, toI, slT, T.weak, metT, kApp, kExt, elemD, iT, iL, iR1, iR2, iE, iZ, onI]⟩
  · by_cases he : ns = []
    · subst he
      have e := eq_nil []
      refine ⟨0, ?_⟩
      have hk' : ¬ k < 0 := by omega
      simp at e
      simp [d__law_cell_at, f__law_cell_at, scr, hk', e, sEr, op2, op1, T.val, R.opt, toB, opL, vals, consT, disp, mvs, mkTup, callT, callI, argE, others, isAl, isAli, finT, outE, padE, runD, cpsOf, cpT, toI, slT, T.weak, metT, kApp, kExt, elemD, iT, iL, iR1, iR2, iE, iZ, onI]
    · have hp : 0 < ns.length := List.length_pos_iff.mpr he
      have hp' : (0 : Int) < ns.length := by omega
      have hp2 : (ns.length : Int) < 1073741824 := by omega
      obtain ⟨s, es⟩ := at_ints (ns := ns) (i := k % ns.length) (Int.emod_nonneg _ (by omega)) (Int.emod_lt_of_pos _ hp')
      have e := eq_nil ns
      have hne : ns.isEmpty = false := by cases ns <;> first | rfl | exact (he rfl).elim
      rw [hne] at e
      have hq : 0 ≤ k / ns.length := Int.ediv_nonneg hk (by omega)
      -- the loop
      obtain ⟨n, en⟩ : ∃ n : Int, n = if 60 < k / (ns.length : Int) then 60 else k / (ns.length : Int) := ⟨_, rfl⟩
      have hb : (-4611686018427387904 ≤ n) ∧ n < 4611686018427387904 := by
        rw [en]
        split <;> omega
      obtain ⟨e2, q1, s2, a2, q2⟩ := loop_all (g := gN 3) (f := sAsg (eOp dFdiv (eVar 2) (eC (.int 1000003))) (gN 2)) (ds := rngD 0 n) (env := [scr ns, .im (.int k), .im (.int s), .no]) (I := fun _ e => ∃ (s : Int) (a : Sl), e = [scr ns, .im (.int k), .im (.int s), a]) ⟨s, .no, rfl⟩ (by
        rintro i d _ hd ⟨s, a, rfl⟩
        exact ⟨_, [scr ns, .im (.int k), .im (.int (s / 1000003)), .im d], rfl, .inl (by simp [scr, sEr, op2, op1, T.val, R.opt, toB, opL, vals, consT, disp, mvs, mkTup, callT, callI, argE, others, isAl, isAli, finT, outE, padE, runD, cpsOf, cpT, toI, slT, T.weak, metT, kApp, kExt, elemD, iT, iL, iR1, iR2, iE, iZ, onI]), _, _, rfl⟩)
      subst q2
      have fl : sFor (fiR1 (aCons (eB dMin2 (aCons (eOp dFdiv (eVar 1) (eB dLen (aCons (eVar 0) aNil))) (aCons (eC (.int 60)) aNil))) aNil)) (gN 3) (sAsg (eOp dFdiv (eVar 2) (eC (.int 1000003))) (gN 2)) [scr ns, .im (.int k), .im (.int s), .no] = .nx [scr ns, .im (.int k), .im (.int s2), a2] := by
        rw [sFor_s]
        simp [scr, hp, hp', hp2, dMin2, sEr, op2, op1, T.val, R.opt, toB, opL, vals, consT, disp, mvs, mkTup, callT, callI, argE, others, isAl, isAli, finT, outE, padE, runD, cpsOf, cpT, toI, slT, T.weak, metT, kApp, kExt, elemD, iT, iL, iR1, iR2, iE, iZ, onI]
        rw [← en, if_pos hb]
        exact q1
      refine ⟨s * 31 + k + s2 * 101, ?_⟩
      simp [d__law_cell_at, f__law_cell_at, scr, h, e, es, dIx, hp, hp', fl, dMulA, sEr, op2, op1, T.val, R.opt, toB, opL, vals, consT, disp, mvs, mkTup, callT, callI, argE, others, isAl, isAli, finT, outE, padE, runD, cpsOf, cpT, toI, slT, T.weak, metT, kApp, kExt, elemD, iT, iL, iR1, iR2, iE, iZ, onI]

end DL
namespace DL
open PySem PySem.Spec L2
theorem r_mixed (ns : List Int) (k m : Int) (hl : ns.length ≤ 63) (hk : 0 ≤ k) (hm : 0 < m) : ∃ v, d__law_mixed [scr ns, .im (.int k), .im (.int m)] = .ok (.im (.int v)) [.no, .no, .no] ∧ 0 ≤ v ∧ v < m := by
  obtain ⟨z, e⟩ := r_cell ns k hl hk
  have b1 : 0 ≤ (z * 1103515245 + 7919 * k + 12345) % 2147483647 := Int.emod_nonneg _ (by decide)
  have b2 : (z * 1103515245 + 7919 * k + 12345) % 2147483647 < 2147483647 := Int.emod_lt_of_pos _ (by decide)
  obtain ⟨s, es⟩ : ∃ s, s = (z * 1103515245 + 7919 * k + 12345) % 2147483647 := ⟨_, rfl⟩
  rw [← es] at b1 b2
  have b3 : s.natAbs < 18446744073709551616 := by omega
  refine ⟨s ^ 5 % 2147483647 % 999983 % m, ?_, Int.emod_nonneg _ (by omega), Int.emod_lt_of_pos _ hm⟩
  unfold scr at e
  simp [d__law_mixed, f__law_mixed, scr, e, dMulA, hm, ← es, b3, sEr, op2, op1, T.val, R.opt, toB, opL, vals, consT, disp, mvs, mkTup, callT, callI, argE, others, isAl, isAli, finT, outE, padE, runD, cpsOf, cpT, toI, slT, T.weak, metT, kApp, kExt, elemD, iT, iL, iR1, iR2, iE, iZ, onI]
abbrev rep0 (n : Nat) : List D := List.replicate n (.int 0)
theorem rep0_app (n : Nat) : rep0 n ++ [.int 0] = rep0 (n + 1) := by
  unfold rep0
  rw [List.replicate_succ', ]
theorem r_draw (ns : List Int) (n : Nat) (m : Int) (hl : ns.length ≤ 63) (hn : n < 999999) (hm : 0 < m) : ∃ v, d__law_draw [scr ns, .own true (rep0 n), .im (.int m)] = .ok (.im (.int v)) [.no, .own true (rep0 (n + 1)), .no] ∧ 0 ≤ v ∧ v < m := by
  obtain ⟨v, e, h⟩ := r_mixed ns (n + 1 : Nat) m hl (by omega) hm
  refine ⟨v, ?_, h⟩
  have hn' : n < 1000000 := by omega
  unfold scr at e
  have a := rep0_app n
  unfold rep0 at a
  simp at e
  simp [d__law_draw, f__law_draw, scr, rep0, a, hn', e, sEr, op2, op1, T.val, R.opt, toB, opL, vals, consT, disp, mvs, mkTup, callT, callI, argE, others, isAl, isAli, finT, outE, padE, runD, cpsOf, cpT, toI, slT, T.weak, metT, kApp, kExt, elemD, iT, iL, iR1, iR2, iE, iZ, onI]
theorem r_pick (ns : List Int) (n : Nat) (d : D) (ds : List D) (hd : d = .lst ds ∨ d = .tup ds) (hl : ns.length ≤ 63) (hn : n < 999999) (h0 : 0 < ds.length) : ∃ x ∈ ds, d__law_pick [scr ns, .own true (rep0 n), .im d] = .ok (.im x) [.no, .own true (rep0 (n + 1)), .no] := by
  obtain ⟨v, e, h1, h2⟩ := r_draw ns n ds.length hl hn (by omega)
  obtain ⟨x, e1, e2⟩ := atI_ok h1 h2
  refine ⟨x, List.mem_of_getElem? e2, ?_⟩
  unfold scr rep0 at e
  rcases hd with rfl | rfl <;> simp [d__law_pick, f__law_pick, scr, rep0, e, dIx, e1, sEr, op2, op1, T.val, R.opt, toB, opL, vals, consT, disp, mvs, mkTup, callT, callI, argE, others, isAl, isAli, finT, outE, padE, runD, cpsOf, cpT, toI, slT, T.weak, metT, kApp, kExt, elemD, iT, iL, iR1, iR2, iE, iZ, onI]

end DL
namespace DL
open PySem PySem.Spec L2
structure GoodGs (gs : List D) : Prop where
  len : 1 ≤ gs.length ∧ gs.length ≤ 2
  all : ∀ g ∈ gs, ∃ p c : Int, g = .tup [.int p, .int c] ∧ (3 ≤ p ∧ p ≤ 9) ∧ (0 ≤ c ∧ c ≤ 7)
abbrev Er (ns : List Int) (n : Nat) (gs : List D) (cap : Bool) (a b c d e f g : Sl) : En := [scr ns, .own true (rep0 n), .im (.tup gs), .im (.bl cap), a, b, c, d, e, f, g]
theorem isPack_of {g s p n : Int} {m : D} (h1 : 0 ≤ g ∧ g < n) (h2 : 2 ≤ s ∧ s ≤ 3) (h3 : s ≤ p ∧ p ≤ 30) (h4 : isMost m = true) : isRule (.tup [.str "pack", .int g, .int s, .int p, m]) n = true := by
  show isPack (.tup [.str "pack", .int g, .int s, .int p, m]) n = true
  simp [isPack, isBetween, h4, h1.1, h2, h3]
  omega
theorem isFrom_of {g s p n : Int} (h1 : 0 ≤ g ∧ g < n) (h2 : 2 ≤ s ∧ s ≤ 4) (h3 : 1 ≤ p ∧ p ≤ 9) : isRule (.tup [.str "from", .int g, .int s, .int p]) n = true := by
  show isFrom (.tup [.str "from", .int g, .int s, .int p]) n = true
  simp [isFrom, isBetween, h1.1, h2, h3]
  omega
theorem isOver_of {f o n : Int} (h1 : 2 ≤ f ∧ f ≤ 12) (h2 : 1 ≤ o ∧ o ≤ 6) (h3 : o ≤ f) : isRule (.tup [.str "over", .int f, .int o]) n = true := by
  show isOver (.tup [.str "over", .int f, .int o]) = true
  simp [isOver, isBetween, h1, h2.1]
  split <;> omega
theorem isEach_of {f o n : Int} {m : D} (h1 : 2 ≤ f ∧ f ≤ 6) (h2 : 1 ≤ o) (h3 : 2 * o ≤ f) (h4 : isMost m = true) : isRule (.tup [.str "each", .int f, .int o, m]) n = true := by
  show isEach (.tup [.str "each", .int f, .int o, m]) = true
  have h5 : o ≤ f := by omega
  simp [isEach, isBetween, h1, h2, h3, h4, h5]
theorem most_mem {x : D} (h : x ∈ [D.non, .non, .int 1, .int 2]) : isMost x = true := by
  simp at h
  rcases h with rfl | rfl | rfl <;> rfl
def drawnR (gs : List D) (r : D) : Prop := ∀ (g s p : Int) (m : D), r = .tup [.str "pack", .int g, .int s, .int p, m] → ∃ pr c : Int, atI gs g = some (.tup [.int pr, .int c]) ∧ s * pr - (2 * s + 1) ≤ p
def widD : D → Nat
  | .tup l => l.length
  | _ => 0
theorem drawn_not {gs : List D} {r : D} (h : widD r ≠ 5) : drawnR gs r := fun g s p m z => (h (by rw [z]; rfl)).elim
theorem r_some_rule2 (ns : List Int) (n : Nat) (gs : List D) (cap : Bool) (hl : ns.length ≤ 63) (hn : n < 900000) (hg : GoodGs gs) : ∃ (r : D) (m : Nat), d__law_some_rule [scr ns, .own true (rep0 n), .im (.tup gs), .im (.bl cap)] = .ok (.im r) [.no, .own true (rep0 m), .no, .no] ∧ n ≤ m ∧ m ≤ n + 6 ∧ isRule r gs.length = true ∧ (cap = true → isEndless r = false) ∧ D.flat r = true ∧ drawnR gs r := by
  obtain ⟨l1, l2⟩ := hg.len
  obtain ⟨kind, e1, k1, k2⟩ := r_draw ns n 5 hl (by omega) (by decide)
  obtain ⟨good, e2, g1, g2⟩ := r_draw ns (n + 1) gs.length hl (by omega) (by omega)
  obtain ⟨gd, e3, e4⟩ := atI_ok g1 g2
  obtain ⟨p, c, rfl, hp, hc⟩ := hg.all gd (List.mem_of_getElem? e4)
  have s1 : f__law_some_rule_1 (Er ns n gs cap .no .no .no .no .no .no .no) = .nx (Er ns (n + 1) gs cap (.im (.int kind)) .no .no .no .no .no .no) := by
    simp [scr] at e1
    simp [f__law_some_rule_1, scr, e1, sEr, op2, op1, T.val, R.opt, toB, opL, vals, consT, disp, mvs, mkTup, callT, callI, argE, others, isAl, isAli, finT, outE, padE, runD, cpsOf, cpT, toI, slT, T.weak, metT, kApp, kExt, elemD, iT, iL, iR1, iR2, iE, iZ, onI]
  have s2 : f__law_some_rule_2 (Er ns (n + 1) gs cap (.im (.int kind)) .no .no .no .no .no .no) = .nx (Er ns (n + 2) gs cap (.im (.int kind)) (.im (.int good)) .no .no .no .no .no) := by
    simp [scr] at e2
    simp [f__law_some_rule_2, scr, e2, sEr, op2, op1, T.val, R.opt, toB, opL, vals, consT, disp, mvs, mkTup, callT, callI, argE, others, isAl, isAli, finT, outE, padE, runD, cpsOf, cpT, toI, slT, T.weak, metT, kApp, kExt, elemD, iT, iL, iR1, iR2, iE, iZ, onI]
  have s3 : f__law_some_rule_3 (Er ns (n + 2) gs cap (.im (.int kind)) (.im (.int good)) .no .no .no .no .no) = .nx (Er ns (n + 2) gs cap (.im (.int kind)) (.im (.int good)) (.im (.int p)) .no .no .no .no) := by
    simp [f__law_some_rule_3, scr, dIx, e3, sEr, op2, op1, T.val, R.opt, toB, opL, vals, consT, disp, mvs, mkTup, callT, callI, argE, others, isAl, isAli, finT, outE, padE, runD, cpsOf, cpT, toI, slT, T.weak, metT, kApp, kExt, elemD, iT, iL, iR1, iR2, iE, iZ, onI]
    simp [atI, ixN]
  -- from the body's end to the whole
  have fin : ∀ {r : D} {m : Nat} {a b c d e f g : Sl}, f__law_some_rule (Er ns n gs cap .no .no .no .no .no .no .no) = .rt (.im r) (Er ns m gs cap a b c d e f g) → d__law_some_rule [scr ns, .own true (rep0 n), .im (.tup gs), .im (.bl cap)] = .ok (.im r) [.no, .own true (rep0 m), .no, .no] := fun {r m a b c d e f g} h => by
    show (if [scr ns, .own true (rep0 n), .im (.tup gs), .im (.bl cap)].length = 4 then finF [scr ns, .own true (rep0 n), .im (.tup gs), .im (.bl cap)] (f__law_some_rule (Er ns n gs cap .no .no .no .no .no .no .no)) else .er) = _
    rw [if_pos (show [scr ns, Sl.own true (rep0 n), .im (.tup gs), .im (.bl cap)].length = 4 from rfl), h]
    rfl
  have whole : ∀ {x : Fl}, sSeq f__law_some_rule_4 (sSeq f__law_some_rule_5 (sSeq f__law_some_rule_6 (sSeq f__law_some_rule_7 (sSeq f__law_some_rule_8 f__law_some_rule_9)))) (Er ns (n + 2) gs cap (.im (.int kind)) (.im (.int good)) (.im (.int p)) .no .no .no .no) = x → f__law_some_rule (Er ns n gs cap .no .no .no .no .no .no .no) = x := fun {x} h => by
    unfold f__law_some_rule
    rw [sSeq_s, s1, seq_nx, sSeq_s, s2, seq_nx, sSeq_s, s3, seq_nx]
    exact h
  by_cases c1 : kind < 2
  · -- pack
    obtain ⟨sz, e5, z1, z2⟩ := r_draw ns (n + 2) 2 hl (by omega) (by decide)
    obtain ⟨off, e6, o1, o2⟩ := r_draw ns (n + 3) (2 * (2 + sz) + 2) hl (by omega) (by omega)
    obtain ⟨mo, hm, e7⟩ := r_pick ns (n + 4) (.tup [.non, .non, .int 1, .int 2]) _ (.inr rfl) hl (by omega) (by decide)
    have pr : (2 + sz) * p ≤ 27 := by
      have : (2 + sz) * p ≤ 3 * 9 := Int.mul_le_mul (by omega) (by omega) (by omega) (by decide)
      omega
    obtain ⟨pri, ep⟩ : ∃ pri : Int, pri = if (2 + sz) * p - off > 2 + sz then (2 + sz) * p - off else 2 + sz := ⟨_, rfl⟩
    have hpri : 2 + sz ≤ pri ∧ pri ≤ 30 := by rw [ep]; split <;> omega
    have bb : -18446744073709551616 < 2 + sz ∧ 2 + sz < 18446744073709551616 := by omega
    have bb2 : -18446744073709551616 < p ∧ p < 18446744073709551616 := by omega
    have q : sSeq f__law_some_rule_4 (sSeq f__law_some_rule_5 (sSeq f__law_some_rule_6 (sSeq f__law_some_rule_7 (sSeq f__law_some_rule_8 f__law_some_rule_9)))) (Er ns (n + 2) gs cap (.im (.int kind)) (.im (.int good)) (.im (.int p)) .no .no .no .no) = .rt (.im (.tup [.str "pack", .int good, .int (2 + sz), .int pri, mo])) (Er ns (n + 5) gs cap (.im (.int kind)) (.im (.int good)) (.im (.int p)) .no .no (.im (.int (2 + sz))) (.im (.int pri))) := by
      rw [sSeq_s]
      simp [scr] at e5 e6 e7
      simp [f__law_some_rule_4, scr, c1, e5, e6, e7, dMulA, bb, bb2, dMax2, ← ep, sEr, op2, op1, T.val, R.opt, toB, opL, vals, consT, disp, mvs, mkTup, callT, callI, argE, others, isAl, isAli, finT, outE, padE, runD, cpsOf, cpT, toI, slT, T.weak, metT, kApp, kExt, elemD, iT, iL, iR1, iR2, iE, iZ, onI]
    have hf : D.flat mo = true := by
      simp at hm
      rcases hm with rfl | rfl | rfl <;> rfl
    exact ⟨_, n + 5, fin (whole q), by omega, by omega, isPack_of ⟨g1, g2⟩ (by omega) hpri (most_mem hm), fun _ => rfl, by simp [D.flat, D.flats, hf], fun g' s' p' m' z => by
      injection z with z
      injection z with _ z
      injection z with z1 z
      injection z with z2 z
      injection z with z3 z
      injection z1 with z1
      injection z2 with z2
      injection z3 with z3
      refine ⟨p, c, by rw [← z1]; exact e3, ?_⟩
      rw [← z2, ← z3, ep]
      split <;> omega⟩
  · have s4 : f__law_some_rule_4 (Er ns (n + 2) gs cap (.im (.int kind)) (.im (.int good)) (.im (.int p)) .no .no .no .no) = .nx (Er ns (n + 2) gs cap (.im (.int kind)) (.im (.int good)) (.im (.int p)) .no .no .no .no) := by
      simp [f__law_some_rule_4, scr, c1, sEr, op2, op1, T.val, R.opt, toB, opL, vals, consT, disp, mvs, mkTup, callT, callI, argE, others, isAl, isAli, finT, outE, padE, runD, cpsOf, cpT, toI, slT, T.weak, metT, kApp, kExt, elemD, iT, iL, iR1, iR2, iE, iZ, onI]
    by_cases c2 : kind = 2
    · -- from
      subst c2
      obtain ⟨le, e5, z1, z2⟩ := r_draw ns (n + 2) 3 hl (by omega) (by decide)
      obtain ⟨off, e6, o1, o2⟩ := r_draw ns (n + 3) 4 hl (by omega) (by decide)
      obtain ⟨pri, ep⟩ : ∃ pri : Int, pri = if p - off > 1 then p - off else 1 := ⟨_, rfl⟩
      have hpri : 1 ≤ pri ∧ pri ≤ 9 := by rw [ep]; split <;> omega
      have q : sSeq f__law_some_rule_5 (sSeq f__law_some_rule_6 (sSeq f__law_some_rule_7 (sSeq f__law_some_rule_8 f__law_some_rule_9))) (Er ns (n + 2) gs cap (.im (.int 2)) (.im (.int good)) (.im (.int p)) .no .no .no .no) = .rt (.im (.tup [.str "from", .int good, .int (2 + le), .int pri])) (Er ns (n + 4) gs cap (.im (.int 2)) (.im (.int good)) (.im (.int p)) .no .no .no .no) := by
        rw [sSeq_s]
        simp [scr] at e5 e6
        simp [f__law_some_rule_5, scr, e5, e6, dMax2, ← ep, sEr, op2, op1, T.val, R.opt, toB, opL, vals, consT, disp, mvs, mkTup, callT, callI, argE, others, isAl, isAli, finT, outE, padE, runD, cpsOf, cpT, toI, slT, T.weak, metT, kApp, kExt, elemD, iT, iL, iR1, iR2, iE, iZ, onI]
      exact ⟨_, n + 4, fin (whole (by rw [sSeq_s, s4, seq_nx]; exact q)), by omega, by omega, isFrom_of ⟨g1, g2⟩ (by omega) hpri, fun _ => rfl, by simp [D.flat, D.flats], drawn_not (by simp [widD])⟩
    · have s5 : f__law_some_rule_5 (Er ns (n + 2) gs cap (.im (.int kind)) (.im (.int good)) (.im (.int p)) .no .no .no .no) = .nx (Er ns (n + 2) gs cap (.im (.int kind)) (.im (.int good)) (.im (.int p)) .no .no .no .no) := by
        have c2' : (kind == 2) = false := by simpa using c2
        simp [f__law_some_rule_5, scr, c2', sEr, op2, op1, T.val, R.opt, toB, opL, vals, consT, disp, mvs, mkTup, callT, callI, argE, others, isAl, isAli, finT, outE, padE, runD, cpsOf, cpT, toI, slT, T.weak, metT, kApp, kExt, elemD, iT, iL, iR1, iR2, iE, iZ, onI]
      by_cases c3 : kind = 3
      · -- over
        subst c3
        obtain ⟨wh, e5, z1, z2⟩ := r_draw ns (n + 2) 9 hl (by omega) (by decide)
        obtain ⟨off, e6, o1, o2⟩ := r_draw ns (n + 3) 4 hl (by omega) (by decide)
        have q : sSeq f__law_some_rule_6 (sSeq f__law_some_rule_7 (sSeq f__law_some_rule_8 f__law_some_rule_9)) (Er ns (n + 2) gs cap (.im (.int 3)) (.im (.int good)) (.im (.int p)) .no .no .no .no) = .rt (.im (.tup [.str "over", .int (4 + wh), .int (1 + off)])) (Er ns (n + 4) gs cap (.im (.int 3)) (.im (.int good)) (.im (.int p)) (.im (.int (4 + wh))) .no .no .no) := by
          rw [sSeq_s]
          simp [scr] at e5 e6
          simp [f__law_some_rule_6, scr, e5, e6, sEr, op2, op1, T.val, R.opt, toB, opL, vals, consT, disp, mvs, mkTup, callT, callI, argE, others, isAl, isAli, finT, outE, padE, runD, cpsOf, cpT, toI, slT, T.weak, metT, kApp, kExt, elemD, iT, iL, iR1, iR2, iE, iZ, onI]
        exact ⟨_, n + 4, fin (whole (by rw [sSeq_s, s4, seq_nx, sSeq_s, s5, seq_nx]; exact q)), by omega, by omega, isOver_of (by omega) (by omega) (by omega), fun _ => rfl, by simp [D.flat, D.flats], drawn_not (by simp [widD])⟩
      · -- each
        have s6 : f__law_some_rule_6 (Er ns (n + 2) gs cap (.im (.int kind)) (.im (.int good)) (.im (.int p)) .no .no .no .no) = .nx (Er ns (n + 2) gs cap (.im (.int kind)) (.im (.int good)) (.im (.int p)) .no .no .no .no) := by
          have c3' : (kind == 3) = false := by simpa using c3
          simp [f__law_some_rule_6, scr, c3', sEr, op2, op1, T.val, R.opt, toB, opL, vals, consT, disp, mvs, mkTup, callT, callI, argE, others, isAl, isAli, finT, outE, padE, runD, cpsOf, cpT, toI, slT, T.weak, metT, kApp, kExt, elemD, iT, iL, iR1, iR2, iE, iZ, onI]
        obtain ⟨wh, e5, z1, z2⟩ := r_draw ns (n + 2) 5 hl (by omega) (by decide)
        obtain ⟨ms, ems⟩ : ∃ ms : List D, ms = if cap = true then [.int 1, .int 2] else [.non, .non, .int 1, .int 2] := ⟨_, rfl⟩
        have hms : 0 < ms.length ∧ (∀ x ∈ ms, x ∈ [D.non, .non, .int 1, .int 2] ∧ (cap = true → isNon x = false)) := by
          rw [ems]
          cases cap with
          | true => exact ⟨by decide, fun x hx => by simp at hx; rcases hx with rfl | rfl <;> exact ⟨by simp, fun _ => rfl⟩⟩
          | false => exact ⟨by decide, fun x hx => ⟨hx, fun z => nomatch z⟩⟩
        obtain ⟨mo, hm, e6⟩ := r_pick ns (n + 3) (.tup ms) _ (.inr rfl) hl (by omega) hms.1
        have hw : 0 < (2 + wh) / 2 := by omega
        obtain ⟨off, e7, o1, o2⟩ := r_draw ns (n + 4) ((2 + wh) / 2) hl (by omega) hw
        have s7 : f__law_some_rule_7 (Er ns (n + 2) gs cap (.im (.int kind)) (.im (.int good)) (.im (.int p)) .no .no .no .no) = .nx (Er ns (n + 3) gs cap (.im (.int kind)) (.im (.int good)) (.im (.int p)) (.im (.int (2 + wh))) .no .no .no) := by
          simp [scr] at e5
          simp [f__law_some_rule_7, scr, e5, sEr, op2, op1, T.val, R.opt, toB, opL, vals, consT, disp, mvs, mkTup, callT, callI, argE, others, isAl, isAli, finT, outE, padE, runD, cpsOf, cpT, toI, slT, T.weak, metT, kApp, kExt, elemD, iT, iL, iR1, iR2, iE, iZ, onI]
        have s8 : f__law_some_rule_8 (Er ns (n + 3) gs cap (.im (.int kind)) (.im (.int good)) (.im (.int p)) (.im (.int (2 + wh))) .no .no .no) = .nx (Er ns (n + 4) gs cap (.im (.int kind)) (.im (.int good)) (.im (.int p)) (.im (.int (2 + wh))) (.im mo) .no .no) := by
          simp [scr] at e6
          cases cap with
          | true => rw [if_pos rfl] at ems; subst ems; simp [f__law_some_rule_8, scr, e6, sEr, op2, op1, T.val, R.opt, toB, opL, vals, consT, disp, mvs, mkTup, callT, callI, argE, others, isAl, isAli, finT, outE, padE, runD, cpsOf, cpT, toI, slT, T.weak, metT, kApp, kExt, elemD, iT, iL, iR1, iR2, iE, iZ, onI]
          | false => rw [if_neg (by decide)] at ems; subst ems; simp [f__law_some_rule_8, scr, e6, sEr, op2, op1, T.val, R.opt, toB, opL, vals, consT, disp, mvs, mkTup, callT, callI, argE, others, isAl, isAli, finT, outE, padE, runD, cpsOf, cpT, toI, slT, T.weak, metT, kApp, kExt, elemD, iT, iL, iR1, iR2, iE, iZ, onI]
        have q : f__law_some_rule_9 (Er ns (n + 4) gs cap (.im (.int kind)) (.im (.int good)) (.im (.int p)) (.im (.int (2 + wh))) (.im mo) .no .no) = .rt (.im (.tup [.str "each", .int (2 + wh), .int (1 + off), mo])) (Er ns (n + 5) gs cap (.im (.int kind)) (.im (.int good)) (.im (.int p)) (.im (.int (2 + wh))) (.im mo) .no .no) := by
          simp [scr] at e7
          simp [f__law_some_rule_9, scr, e7, sEr, op2, op1, T.val, R.opt, toB, opL, vals, consT, disp, mvs, mkTup, callT, callI, argE, others, isAl, isAli, finT, outE, padE, runD, cpsOf, cpT, toI, slT, T.weak, metT, kApp, kExt, elemD, iT, iL, iR1, iR2, iE, iZ, onI]
        have hf : D.flat mo = true := by
          have := (hms.2 mo hm).1
          simp at this
          rcases this with rfl | rfl | rfl <;> rfl
        refine ⟨_, n + 5, fin (whole (by rw [sSeq_s, s4, seq_nx, sSeq_s, s5, seq_nx, sSeq_s, s6, seq_nx, sSeq_s, s7, seq_nx, sSeq_s, s8, seq_nx]; exact q)), by omega, by omega, isEach_of (by omega) (by omega) (by omega) (most_mem (hms.2 mo hm).1), fun z => ?_, by simp [D.flat, D.flats, hf], drawn_not (by simp [widD])⟩
        show (("each" : Str) == "each" && isNon mo) = false
        rw [(hms.2 mo hm).2 z]
        decide
end DL
namespace DL
open PySem PySem.Spec L2
def GoodD (y : D) : Prop := ∃ p c : Int, y = .tup [.int p, .int c] ∧ (3 ≤ p ∧ p ≤ 9) ∧ (0 ≤ c ∧ c ≤ 7)
theorem flats_mem : ∀ {ds : List D}, (∀ d ∈ ds, D.flat d = true) → D.flats ds = true
  | [], _ => rfl
  | d :: ds, h => by
    unfold D.flats
    rw [h d List.mem_cons_self, flats_mem fun x z => h x (List.mem_cons_of_mem _ z)]
    rfl
theorem flats_app : ∀ {ds es : List D}, D.flats ds = true → D.flats es = true → D.flats (ds ++ es) = true
  | [], es, _, h => h
  | d :: ds, es, h1, h2 => by
    simp [D.flats] at h1
    show (D.flat d && D.flats (ds ++ es)) = true
    rw [h1.1, flats_app h1.2 h2]
    rfl
theorem GoodGs.flat {gs : List D} (h : GoodGs gs) : D.flats gs = true := flats_mem fun d z => by
  obtain ⟨p, c, rfl, _⟩ := h.all d z
  rfl
theorem GoodGs.are {gs : List D} (h : GoodGs gs) : areGoods (.tup gs) = true := by
  have : gs.all isGood = true := by
    rw [List.all_eq_true]
    intro d z
    obtain ⟨p, c, rfl, h1, h2⟩ := h.all d z
    simp [isGood, isBetween]
    omega
  simp [areGoods, this, h.len]
theorem r_some_goods (ns : List Int) (n : Nat) (hl : ns.length ≤ 63) (hn : n < 900000) : ∃ (gs : List D) (m : Nat), d__law_some_goods [scr ns, .own true (rep0 n)] = .ok (.im (.tup gs)) [.no, .own true (rep0 m)] ∧ n ≤ m ∧ m ≤ n + 5 ∧ GoodGs gs := by
  obtain ⟨d0, e1, k1, k2⟩ := r_draw ns n 3 hl (by omega) (by decide)
  obtain ⟨k, ek⟩ : ∃ k : Int, k = bif d0 == 0 then 2 else 1 := ⟨_, rfl⟩
  have hk : 1 ≤ k ∧ k ≤ 2 := by
    rw [ek]
    cases d0 == 0 <;> decide
  have hlen : (rngD 0 k).length = k.toNat := by simp [rngD]
  obtain ⟨ys, q, h1, h2⟩ := lc_some (k := ⟨rngD 0 k, none⟩) (vs := [3]) (t := .one 3) (fe := eTup (aCons (eOp dAdd (eC (.int 3)) (eCallI 1 d__law_draw (aCons (eVar 0) (aCons (eVar 1) (aCons (eC (.int 7)) aNil))))) (aCons (eCallI 1 d__law_draw (aCons (eVar 0) (aCons (eVar 1) (aCons (eC (.int 8)) aNil)))) aNil))) (Pd := fun _ y => GoodD y) (E := fun i => [scr ns, .own true (rep0 (n + 1 + 2 * i)), .im (.int k), .no]) (fun j => trivial) (rngD 0 k) [] 0 (small_size (by rw [hlen]; show 0 + k.toNat ≤ 1000; omega)) (fun d _ i hi => by
    have hi : i < 2 := by rw [hlen] at hi; omega
    obtain ⟨a, ea, a1, a2⟩ := r_draw ns (n + 1 + 2 * i) 7 hl (by omega) (by decide)
    obtain ⟨b, eb, b1, b2⟩ := r_draw ns (n + 1 + 2 * i + 1) 8 hl (by omega) (by decide)
    refine ⟨_, .im (.tup [.int (3 + a), .int b]), [scr ns, .own true (rep0 (n + 1 + 2 * i + 1 + 1)), .im (.int k), .im d], _, rfl, ?_, rfl, ⟨3 + a, b, rfl, by omega, by omega⟩, rfl⟩
    simp [scr] at ea eb
    simp [scr, ea, eb, sEr, op2, op1, T.val, R.opt, toB, opL, vals, consT, disp, mvs, mkTup, callT, callI, argE, others, isAl, isAli, finT, outE, padE, runD, cpsOf, cpT, toI, slT, T.weak, metT, kApp, kExt, elemD, iT, iL, iR1, iR2, iE, iZ, onI])
  have hm : n + 1 + 2 * (0 + (rngD 0 k).length) ≤ n + 5 := by rw [hlen]; omega
  refine ⟨ys, n + 1 + 2 * (0 + (rngD 0 k).length), ?_, by omega, hm, by rw [h1, hlen]; omega, fun g hg => ?_⟩
  · have q2 := eLc_of (fi := fiR1 (aCons (eVar 2) aNil)) (env := [scr ns, .own true (rep0 (n + 1)), .im (.int k), .no]) (k := ⟨rngD 0 k, none⟩) (e := [scr ns, .own true (rep0 (n + 1)), .im (.int k), .no]) (by
      have b : (-4611686018427387904 ≤ k) ∧ k < 4611686018427387904 := by omega
      simp [b, sEr, op2, op1, T.val, R.opt, toB, opL, vals, consT, disp, mvs, mkTup, callT, callI, argE, others, isAl, isAli, finT, outE, padE, runD, cpsOf, cpT, toI, slT, T.weak, metT, kApp, kExt, elemD, iT, iL, iR1, iR2, iE, iZ, onI]) q
    refine fin4 (rest := [scr ns, .own true (rep0 (n + 1 + 2 * (0 + (rngD 0 k).length))), .im (.int k), .no]) (m := 0) rfl ?_ _ rfl
    unfold f__law_some_goods
    have q2' : eLc (fiR1 (aCons (eVar 2) aNil)) [3] (.one 3) tT _ [scr ns, .own true (rep0 (n + 1)), .im (.int k), .no] = .ok (.fr ys) [scr ns, .own true (rep0 (n + 1 + 2 * (0 + (rngD 0 k).length))), .im (.int k), .no] := q2
    simp [scr] at e1
    simp only [scr, rep0] at q2'
    simp [scr, e1, ← ek, q2', sEr, op2, op1, T.val, R.opt, toB, opL, vals, consT, disp, mvs, mkTup, callT, callI, argE, others, isAl, isAli, finT, outE, padE, runD, cpsOf, cpT, toI, slT, T.weak, metT, kApp, kExt, elemD, iT, iL, iR1, iR2, iE, iZ, onI]
  · obtain ⟨i, hi⟩ := List.getElem?_of_mem hg
    have hil : i < (rngD 0 k).length := by
      rw [← h1]
      exact (List.getElem?_eq_some_iff.mp hi).1
    obtain ⟨y', e1, e2⟩ := h2 i _ (List.getElem?_eq_getElem hil)
    rw [hi] at e1
    cases e1
    exact e2

end DL
namespace DL
open PySem PySem.Spec L2
theorem eLst_rule {v : D} {n : Int} (h : isRule v n = true) : ∃ x a ds, v = .tup (.str x :: ds) ∧ (x = "each" → ∃ b m, ds = [a, b, m]) := by
  obtain ⟨x, ds, rfl⟩ := rule_word h
  by_cases e : x = "each"
  · obtain ⟨a, b, m, rfl⟩ := rule_each h e
    exact ⟨x, a, _, rfl, fun _ => ⟨b, m, rfl⟩⟩
  · exact ⟨x, .non, ds, rfl, fun z => (e z).elim⟩
structure GoodRs (rs : List D) (n : Nat) : Prop where
  len : rs.length ≤ 4
  all : ∀ r ∈ rs, isRule r n = true
  one : (rs.filter isEndless).length ≤ 1
  flat : D.flats rs = true
theorem l_capped (i j : Nat) (rs : List D) (n : Nat) (env : En) (hr : ∀ r ∈ rs, isRule r n = true) (hl : rs.length ≤ 1000) (hi : env[i]? = some (.own false rs)) (hw : wipeE env [j] = env) (hj : j < env.length) (hij : ∀ d, wipeE (env.set j (.im d)) [j] = env) :
    eLc (fiL false (eVar i)) [j] (.one j) tT (eAn (eOp dEqA (eOp dIx (eVar j) (eC (.int 0))) (eC (.str "each"))) (eOp dIs (eOp dIx (eVar j) (eC (.int 3))) (eC .non))) env = .ok (.fr (rs.map fun d => .bl (isEndless d))) env := by
  refine eLc_of (k := ⟨rs, some (i, rs)⟩) (e := env) (by simp [hi, sEr, op2, op1, T.val, R.opt, toB, opL, vals, consT, disp, mvs, mkTup, callT, callI, argE, others, isAl, isAli, finT, outE, padE, runD, cpsOf, cpT, toI, slT, T.weak, metT, kApp, kExt, elemD, iT, iL, iR1, iR2, iE, iZ, onI]) ?_
  rw [hw]
  refine lc_map (k := ⟨rs, some (i, rs)⟩) (h := fun d => .bl (isEndless d)) ⟨false, hi⟩ rs [] (small_size (by simpa using hl)) fun d z => ?_
  refine ⟨_, .im (.bl (isEndless d)), env.set j (.im d), rfl, ?_, rfl, hij d⟩
  have hg : (env.set j (.im d))[j]? = some (.im d) := List.getElem?_set_self hj
  obtain ⟨x, a, ds, rfl, he⟩ := eLst_rule (hr d z)
  have q : ∀ k : Nat, (0 : Int) < (k : Int) + 1 := fun k => by omega
  by_cases e : x = "each"
  · obtain ⟨b, m, rfl⟩ := he e
    subst e
    simp [hg, dIx, atI, ixN, isEndless, dIs_non, sEr, op2, op1, T.val, R.opt, toB, opL, vals, consT, disp, mvs, mkTup, callT, callI, argE, others, isAl, isAli, finT, outE, padE, runD, cpsOf, cpT, toI, slT, T.weak, metT, kApp, kExt, elemD, iT, iL, iR1, iR2, iE, iZ, onI, -dIs]
  · have e' : (x == "each") = false := by simpa using e
    have e2 : isEndless (.tup (.str x :: ds)) = false := by
      unfold isEndless
      split
      · rename_i z; cases z; simp [e']
      · rfl
    simp [hg, dIx, atI, ixN, e2, e', q, sEr, op2, op1, T.val, R.opt, toB, opL, vals, consT, disp, mvs, mkTup, callT, callI, argE, others, isAl, isAli, finT, outE, padE, runD, cpsOf, cpT, toI, slT, T.weak, metT, kApp, kExt, elemD, iT, iL, iR1, iR2, iE, iZ, onI, -dIs]
theorem any_endless {rs : List D} (h : rs.any isEndless = false) : rs.filter isEndless = [] := by
  rw [List.filter_eq_nil_iff]
  intro a z
  rw [List.any_eq_false] at h
  exact h a z
theorem r_some_shop2 (ns : List Int) (n : Nat) (hl : ns.length ≤ 63) (hn : n < 800000) : ∃ (gs rs : List D) (m : Nat), d__law_some_shop [scr ns, .own true (rep0 n)] = .ok (.im (.tup [.tup gs, .tup rs])) [.no, .own true (rep0 m)] ∧ n ≤ m ∧ m ≤ n + 40 ∧ GoodGs gs ∧ GoodRs rs gs.length ∧ ∀ r ∈ rs, drawnR gs r := by
  obtain ⟨gs, m1, e1, n1, n2, hg⟩ := r_some_goods ns n hl (by omega)
  obtain ⟨k, e2, k1, k2⟩ := r_draw ns m1 5 hl (by omega) (by decide)
  have hlen : (rngD 0 k).length = k.toNat := by simp [rngD]
  obtain ⟨e3, q1, m2, a2, rs, c2, i1, i2, i3, i4, i5, i6, i7⟩ := loop_all (g := gN 2) (f := sSeq (sAsg (eB dAny (aCons (eLc (fiL false (eVar 4)) [6] (.one 6) tT (eAn (eOp dEqA (eOp dIx (eVar 6) (eC (.int 0))) (eC (.str "each"))) (eOp dIs (eOp dIx (eVar 6) (eC (.int 3))) (eC .non)))) aNil)) (gN 5))
    (sDrop (eMet kApp (eVar 4) (aCons (eCallI 1 d__law_some_rule (aCons (eVar 0) (aCons (eVar 1) (aCons (eVar 3) (aCons (eVar 5) aNil))))) aNil)))) (ds := rngD 0 k) (env := [scr ns, .own true (rep0 (m1 + 1)), .no, .im (.tup gs), .own false [], .no, .no])
    (I := fun i e => ∃ (m : Nat) (a : Sl) (rs : List D) (c : Sl), e = [scr ns, .own true (rep0 m), a, .im (.tup gs), .own false rs, c, .no] ∧ m1 + 1 ≤ m ∧ m ≤ m1 + 1 + 6 * i ∧ rs.length = i ∧ ((∀ r ∈ rs, isRule r gs.length = true) ∧ (rs.filter isEndless).length ≤ 1) ∧ D.flats rs = true ∧ ∀ r ∈ rs, drawnR gs r)
    ⟨m1 + 1, .no, [], .no, rfl, by omega, by omega, rfl, ⟨fun r z => (by cases z), Nat.zero_le _⟩, rfl, fun r z => (by cases z)⟩ (by
    rintro i d _ hd ⟨m, a, rs, c, rfl, j1, j2, j3, ⟨j4, j5⟩, j6, j7⟩
    have hi : i < k.toNat := by
      rw [← hlen]
      exact (List.getElem?_eq_some_iff.mp hd).1
    have lc := l_capped 4 6 rs gs.length [scr ns, .own true (rep0 m), .im d, .im (.tup gs), .own false rs, c, .no] j4 (by omega) rfl rfl (by simp) (fun _ => rfl)
    obtain ⟨r, m', e4, p1, p2, p3, p4, p5, p6⟩ := r_some_rule2 ns m gs (rs.any isEndless) hl (by omega) hg
    refine ⟨_, [scr ns, .own true (rep0 m'), .im d, .im (.tup gs), .own false (rs ++ [r]), .im (.bl (rs.any isEndless)), .no], rfl, .inl ?_, m', _, rs ++ [r], _, rfl, by omega, by omega, by simp [j3], ⟨fun x z => ?_, ?_⟩, flats_app j6 (by simp [D.flats, p5]), fun x z => ?_⟩
    · have hlen2 : rs.length < 1000000 := by omega
      simp only [scr, rep0] at lc e4
      try simp at e4
      simp [lc, e4, hlen2, scr, p5, flatT, hg.flat, sEr, op2, op1, T.val, R.opt, toB, opL, vals, consT, disp, mvs, mkTup, callT, callI, argE, others, isAl, isAli, finT, outE, padE, runD, cpsOf, cpT, toI, slT, T.weak, metT, kApp, kExt, elemD, iT, iL, iR1, iR2, iE, iZ, onI]
    · rcases List.mem_append.mp z with z | z
      · exact j4 x z
      · simp at z
        subst z
        exact p3
    · rw [List.filter_append]
      cases hc : rs.any isEndless with
      | true => simp [p4 hc, j5]
      | false =>
        rw [any_endless hc]
        simp
        exact Nat.le_trans (List.length_filter_le _ _) (by simp)
    · rcases List.mem_append.mp z with z | z
      · exact j7 x z
      · simp at z
        subst z
        exact p6)
  subst i1
  refine ⟨gs, rs, m2, ?_, by omega, by rw [hlen] at i3; omega, hg, ⟨by rw [i4, hlen]; omega, i5.1, i5.2, i6⟩, i7⟩
  refine fin4 (rest := [scr ns, .own true (rep0 m2), a2, .im (.tup gs), .own false rs, c2, .no]) (m := 0) rfl ?_ _ rfl
  have s2 := sFor_of (fi := fiR1 (aCons (eCallI 1 d__law_draw (aCons (eVar 0) (aCons (eVar 1) (aCons (eC (.int 5)) aNil)))) aNil)) (env := [scr ns, .own true (rep0 m1), .no, .im (.tup gs), .own false [], .no, .no]) (by
    have b : (-4611686018427387904 ≤ k) ∧ k < 4611686018427387904 := by omega
    try simp [scr] at e2
    simp [scr, e2, b, sEr, op2, op1, T.val, R.opt, toB, opL, vals, consT, disp, mvs, mkTup, callT, callI, argE, others, isAl, isAli, finT, outE, padE, runD, cpsOf, cpT, toI, slT, T.weak, metT, kApp, kExt, elemD, iT, iL, iR1, iR2, iE, iZ, onI]) q1
  unfold f__law_some_shop
  simp only [scr, rep0] at s2 e1
  try simp at e1
  simp [scr, e1, s2, hg.flat, flatT, sEr, op2, op1, T.val, R.opt, toB, opL, vals, consT, disp, mvs, mkTup, callT, callI, argE, others, isAl, isAli, finT, outE, padE, runD, cpsOf, cpT, toI, slT, T.weak, metT, kApp, kExt, elemD, iT, iL, iR1, iR2, iE, iZ, onI]
end DL
namespace DL
open PySem PySem.Spec L2
@[simp] theorem at_0 (a : D) (ds : List D) : atI (a :: ds) 0 = some a := by
  have q : (0 : Int) < (ds.length : Int) + 1 := by omega
  simp [atI, ixN, q]
@[simp] theorem at_1 (a b : D) (ds : List D) : atI (a :: b :: ds) 1 = some b := by
  have q : (1 : Int) < (ds.length : Int) + 1 + 1 := by omega
  simp [atI, ixN, q]
@[simp] theorem at_2 (a b c : D) (ds : List D) : atI (a :: b :: c :: ds) 2 = some c := by
  have q : (2 : Int) < (ds.length : Int) + 1 + 1 + 1 := by omega
  simp [atI, ixN, q]
@[simp] theorem at_3 (a b c d : D) (ds : List D) : atI (a :: b :: c :: d :: ds) 3 = some d := by
  have q : (3 : Int) < (ds.length : Int) + 1 + 1 + 1 + 1 := by omega
  simp [atI, ixN, q]
@[simp] theorem at_4 (a b c d e : D) (ds : List D) : atI (a :: b :: c :: d :: e :: ds) 4 = some e := by
  have q : (4 : Int) < (ds.length : Int) + 1 + 1 + 1 + 1 + 1 := by omega
  simp [atI, ixN, q]
inductive Ru where
  | pack (g s p : Int) (m : Option Int) | frm (g l p : Int) | over (f o : Int) | each (f o : Int) (m : Option Int)
def oD : Option Int → D
  | none => .non
  | some i => .int i
def Ru.d : Ru → D
  | .pack g s p m => .tup [.str "pack", .int g, .int s, .int p, oD m]
  | .frm g l p => .tup [.str "from", .int g, .int l, .int p]
  | .over f o => .tup [.str "over", .int f, .int o]
  | .each f o m => .tup [.str "each", .int f, .int o, oD m]
def okM : Option Int → Prop
  | none => True
  | some k => 1 ≤ k ∧ k ≤ 2
def Ru.ok : Ru → Int → Prop
  | .pack g s p m, n => (0 ≤ g ∧ g < n) ∧ (2 ≤ s ∧ s ≤ 3) ∧ (s ≤ p ∧ p ≤ 30) ∧ okM m
  | .frm g l p, n => (0 ≤ g ∧ g < n) ∧ (2 ≤ l ∧ l ≤ 4) ∧ (1 ≤ p ∧ p ≤ 9)
  | .over f o, _ => (2 ≤ f ∧ f ≤ 12) ∧ 1 ≤ o ∧ o ≤ 6 ∧ o ≤ f
  | .each f o m, _ => (2 ≤ f ∧ f ≤ 6) ∧ (1 ≤ o ∧ o ≤ f) ∧ okM m ∧ (m = none → 2 * o ≤ f)
theorem isBt_of {i a b : Int} (h : isBetween (.int i) a b = true) : a ≤ i ∧ i ≤ b := by simpa [isBetween] using h
theorem most_of {m : D} (h : isMost m = true) : ∃ o, m = oD o ∧ okM o := by
  cases m with
  | non => exact ⟨none, rfl, trivial⟩
  | int i => exact ⟨some i, rfl, isBt_of h⟩
  | _ => exact (Bool.false_ne_true h).elim
theorem rule_ru {v : D} {n : Int} (h : isRule v n = true) : ∃ r : Ru, v = r.d ∧ r.ok n := by
  obtain ⟨x, ds, rfl⟩ := rule_word h
  by_cases e1 : x = "pack"
  · subst e1
    replace h : isPack (.tup (.str "pack" :: ds)) n = true := h
    unfold isPack at h
    split at h
    · rename_i z
      cases z
      simp only [Bool.and_eq_true] at h
      obtain ⟨h1, h2, h3, h4⟩ := h
      obtain ⟨p, rfl⟩ := isBt_int h3
      obtain ⟨o, rfl, h5⟩ := most_of h4
      have := isBt_of h1
      exact ⟨.pack _ _ p o, rfl, by omega, isBt_of h2, isBt_of h3, h5⟩
    · cases h
  · by_cases e2 : x = "from"
    · subst e2
      replace h : isFrom (.tup (.str "from" :: ds)) n = true := h
      unfold isFrom at h
      split at h
      · rename_i z
        cases z
        simp only [Bool.and_eq_true] at h
        obtain ⟨h1, h2, h3⟩ := h
        obtain ⟨g, rfl⟩ := isBt_int h1
        obtain ⟨l, rfl⟩ := isBt_int h2
        obtain ⟨p, rfl⟩ := isBt_int h3
        have := isBt_of h1
        exact ⟨.frm g l p, rfl, by omega, isBt_of h2, isBt_of h3⟩
      · cases h
    · by_cases e3 : x = "over"
      · subst e3
        replace h : isOver (.tup (.str "over" :: ds)) = true := h
        unfold isOver at h
        split at h
        · rename_i z
          cases z
          simp only [Bool.and_eq_true] at h
          obtain ⟨h1, h2⟩ := h
          obtain ⟨o, rfl⟩ := isBt_int h2
          have a1 := isBt_of h1
          have a2 := isBt_of h2
          refine ⟨.over _ o, rfl, a1, a2.1, ?_, ?_⟩ <;> (have := a2.2; split at this <;> omega)
        · cases h
      · by_cases e4 : x = "each"
        · subst e4
          replace h : isEach (.tup (.str "each" :: ds)) = true := h
          unfold isEach at h
          split at h
          · rename_i z
            cases z
            simp only [Bool.and_eq_true] at h
            obtain ⟨h1, h2, h3, h4⟩ := h
            obtain ⟨o, rfl, h5⟩ := most_of h3
            refine ⟨.each _ _ o, rfl, isBt_of h1, isBt_of h2, h5, fun z => ?_⟩
            subst z
            simpa [isNon, oD] using h4
          · cases h
        · have q1 : (x == "pack") = false := by simpa using e1
          have q2 : (x == "from") = false := by simpa using e2
          have q3 : (x == "over") = false := by simpa using e3
          have q4 : (x == "each") = false := by simpa using e4
          simp [isRule, q1, q2, q3, q4] at h
theorem rules_ru {n : Int} : ∀ {rs : List D}, (∀ r ∈ rs, isRule r n = true) → ∃ us : List Ru, rs = us.map Ru.d ∧ ∀ u ∈ us, u.ok n
  | [], _ => ⟨[], rfl, fun u z => by cases z⟩
  | r :: rs, h => by
    obtain ⟨u, rfl, q⟩ := rule_ru (h r List.mem_cons_self)
    obtain ⟨us, rfl, qs⟩ := rules_ru fun x z => h x (List.mem_cons_of_mem _ z)
    exact ⟨u :: us, rfl, fun x z => (List.mem_cons.mp z).elim (fun z => z ▸ q) (qs x)⟩
def Ru.fits : Ru → Int → Int → Bool
  | .pack g s _ _, k, x => g == k && decide (s ≤ x)
  | .frm g l _, k, x => g == k && decide (l ≤ x)
  | _, _, _ => false
@[simp] theorem w1 : (("over" : Str) == "pack") = false := by decide +kernel
@[simp] theorem w2 : (("over" : Str) == "from") = false := by decide +kernel
@[simp] theorem w3 : (("over" : Str) == "each") = false := by decide +kernel
@[simp] theorem w4 : (("each" : Str) == "pack") = false := by decide +kernel
@[simp] theorem w5 : (("each" : Str) == "from") = false := by decide +kernel
@[simp] theorem w6 : (("each" : Str) == "over") = false := by decide +kernel
@[simp] theorem w7 : (("pack" : Str) == "over") = false := by decide +kernel
@[simp] theorem w8 : (("pack" : Str) == "each") = false := by decide +kernel
@[simp] theorem w9' : (("pack" : Str) == "from") = false := by decide +kernel
@[simp] theorem w10' : (("from" : Str) == "over") = false := by decide +kernel
@[simp] theorem w11' : (("from" : Str) == "each") = false := by decide +kernel
@[simp] theorem w12' : (("from" : Str) == "pack") = false := by decide +kernel
theorem loop_find {g : FG} {f : FS} {I : Nat → En → Prop} {p : Nat → Bool} {t : Nat → T} {ds : List D} {env : En} (h0 : I 0 env)
    (step : ∀ (i : Nat) (d : D) e, ds[i]? = some d → I i e → ∃ e1, g (.im d) e = .nx e1 ∧ ((p i = true ∧ ∃ e2, f e1 = .rt (t i) e2 ∧ I (i + 1) e2) ∨ (p i = false ∧ ∃ e2, f e1 = .nx e2 ∧ I (i + 1) e2))) :
    (∃ i e j, i < ds.length ∧ p i = true ∧ (∀ m, m < i → p m = false) ∧ loopF g f ds env = .rt (t i) e ∧ I j e) ∨ ((∀ m, m < ds.length → p m = false) ∧ ∃ e, loopF g f ds env = .nx e ∧ I ds.length e) := by
  have key : ∀ (rs : List D) (i : Nat) (e : En), ds.drop i = rs → I i e → (∃ k e' j, k < rs.length ∧ p (i + k) = true ∧ (∀ m, m < k → p (i + m) = false) ∧ loopF g f rs e = .rt (t (i + k)) e' ∧ I j e') ∨ ((∀ m, m < rs.length → p (i + m) = false) ∧ ∃ e', loopF g f rs e = .nx e' ∧ I (i + rs.length) e') := by
    intro rs
    induction rs with
    | nil => exact fun i e _ h => .inr ⟨fun m z => absurd z (Nat.not_lt_zero _), e, rfl, h⟩
    | cons d rs ih =>
      intro i e hd h
      have hi : ds[i]? = some d := by
        have := List.getElem?_drop (xs := ds) (i := i) (j := 0)
        rw [hd] at this
        simpa using this.symm
      obtain ⟨e1, q1, q2⟩ := step i d e hi h
      rcases q2 with ⟨hp, e2, q2, q3⟩ | ⟨hp, e2, q2, q3⟩
      · refine .inl ⟨0, e2, i + 1, by simp, hp, fun m z => absurd z (Nat.not_lt_zero _), ?_, q3⟩
        unfold loopF
        simp only [q1, q2]
        rfl
      · have hd' : ds.drop (i + 1) = rs := by
          rw [← List.drop_drop, hd]
          rfl
        have ex : ∀ m, i + 1 + m = i + (m + 1) := fun m => by omega
        rcases ih (i + 1) e2 hd' q3 with ⟨k, e', j, r1, r2, r3, r4, r5⟩ | ⟨r1, e', r2, r3⟩
        · refine .inl ⟨k + 1, e', j, by simp; exact r1, by rw [← ex]; exact r2, fun m z => ?_, ?_, r5⟩
          · cases m with
            | zero => exact hp
            | succ m => rw [← ex]; exact r3 m (by omega)
          · unfold loopF
            simp only [q1, q2]
            rw [r4, ex]
        · refine .inr ⟨fun m z => ?_, e', ?_, by rw [List.length_cons, show i + (rs.length + 1) = i + 1 + rs.length by omega]; exact r3⟩
          · cases m with
            | zero => exact hp
            | succ m => rw [← ex]; exact r1 m (by simpa using z)
          · unfold loopF
            simp only [q1, q2]
            exact r2
  rcases key ds 0 env (by simp) h0 with ⟨k, e, j, r1, r2, r3, r4, r5⟩ | ⟨r1, e, r2, r3⟩
  · exact .inl ⟨k, e, j, r1, by simpa using r2, fun m z => by simpa using r3 m z, by simpa using r4, r5⟩
  · exact .inr ⟨fun m z => by simpa using r1 m z, e, r2, by simpa using r3⟩
theorem first_ix {α : Type} {q : α → Bool} {us : List α} {p : Nat → Bool} (hp : ∀ i u, us[i]? = some u → p i = q u) :
    (∀ i, i < us.length → p i = true → (∀ m, m < i → p m = false) → us.findIdx? q = some i) ∧ ((∀ m, m < us.length → p m = false) → us.findIdx? q = none) := by
  constructor
  · intro i hi h1 h2
    rw [List.findIdx?_eq_some_iff_getElem]
    refine ⟨hi, ?_, fun j hj => ?_⟩
    · rw [← hp i us[i] (List.getElem?_eq_getElem hi)]
      exact h1
    · have hjl : j < us.length := by omega
      rw [← hp j us[j] (List.getElem?_eq_getElem hjl), h2 j hj]
      decide
  · intro h
    rw [List.findIdx?_eq_none_iff]
    intro x hx
    obtain ⟨i, hi⟩ := List.getElem?_of_mem hx
    rw [← hp i x hi]
    exact h i (List.getElem?_eq_some_iff.mp hi).1
theorem find_ix {α : Type} {q : α → Bool} : ∀ {us : List α}, us.find? q = (us.findIdx? q).bind fun i => us[i]?
  | [] => rfl
  | u :: us => by
    rw [List.find?_cons, List.findIdx?_cons]
    cases q u with
    | true => rfl
    | false =>
      simp only [find_ix (us := us)]
      cases us.findIdx? q <;> simp

end DL
namespace DL
open PySem PySem.Spec L2
def full (w p : Int) : Option Int → Int
  | none => w / p
  | some k => if k < w / p then k else w / p
def oN : Option Nat → D
  | none => .non
  | some i => .int (i : Int)
theorem r_full {w p : Int} {m : Option Int} (hp : 0 < p ∧ p < 1073741824) : d_full_times [.im (.int w), .im (.int p), .im (oD m)] = .ok (.im (.int (full w p m))) [.no, .no, .no] := by
  cases m with
  | none => simp [d_full_times, f_full_times, hp, full, oD, sEr, op2, op1, T.val, R.opt, toB, opL, vals, consT, disp, mvs, mkTup, callT, callI, argE, others, isAl, isAli, finT, outE, padE, runD, cpsOf, cpT, toI, slT, T.weak, metT, kApp, kExt, elemD, iT, iL, iR1, iR2, iE, iZ, onI]
  | some k => simp [d_full_times, f_full_times, hp, full, oD, dMin2, sEr, op2, op1, T.val, R.opt, toB, opL, vals, consT, disp, mvs, mkTup, callT, callI, argE, others, isAl, isAli, finT, outE, padE, runD, cpsOf, cpT, toI, slT, T.weak, metT, kApp, kExt, elemD, iT, iL, iR1, iR2, iE, iZ, onI]
theorem enum_get {us : List Ru} {i : Nat} {d : D} (h : (enumD (us.map Ru.d))[i]? = some d) : ∃ u, us[i]? = some u ∧ d = .tup [.int (i : Int), u.d] := by
  obtain ⟨d', e1, e2⟩ := enumD_get h
  rw [List.getElem?_map] at e1
  obtain ⟨u, e3, rfl⟩ := Option.map_eq_some_iff.mp e1
  exact ⟨u, e3, e2⟩
def fitsAt (us : List Ru) (k x : Int) (i : Nat) : Bool := match us[i]? with
  | some u => u.fits k x
  | none => false
theorem fitsAt_is {us : List Ru} {k x : Int} : ∀ i u, us[i]? = some u → fitsAt us k x i = u.fits k x := fun i u h => by
  unfold fitsAt
  rw [h]
def fitIx (us : List Ru) (k x : Int) : Option Nat := us.findIdx? fun u => u.fits k x
def fit (us : List Ru) (k x : Int) : Option Ru := us.find? fun u => u.fits k x
theorem r_fitting (us : List Ru) (k x : Int) : d_fitting_rule [.im (.tup (us.map Ru.d)), .im (.int k), .im (.int x)] = .ok (.im (oN (fitIx us k x))) [.no, .no, .no] := by
  have hl : (enumD (us.map Ru.d)).length = us.length := by rw [enumD_len, List.length_map]
  obtain ⟨f1, f2⟩ := first_ix (q := fun u : Ru => u.fits k x) (us := us) (p := fitsAt us k x) fitsAt_is
  have sf : ∀ {x' : Fl}, loopF (gT 2 (gsCons (gN 3) (gsCons (gN 4) gsNil))) (sIf (tAn (tV (eOp (dIn true) (eOp dIx (eVar 4) (eC (.int 0))) (eC g_SUM_WORDS))) (tAn (tV (eOp dEqA (eOp dIx (eVar 4) (eC (.int 1))) (eVar 1))) (tV (eOp dGe (eVar 2) (eOp dIx (eVar 4) (eC (.int 2))))))) (sRet (eVar 3)) sNx) (enumD (us.map Ru.d)) [.im (.tup (us.map Ru.d)), .im (.int k), .im (.int x), .no, .no] = x' →
      f_fitting_rule [.im (.tup (us.map Ru.d)), .im (.int k), .im (.int x), .no, .no] = x'.seq (sRet (eC .non)) := fun {x'} h => by
    unfold f_fitting_rule
    rw [sSeq_s, sFor_of (its := enumD (us.map Ru.d)) (e := [.im (.tup (us.map Ru.d)), .im (.int k), .im (.int x), .no, .no]) (by simp [sEr, op2, op1, T.val, R.opt, toB, opL, vals, consT, disp, mvs, mkTup, callT, callI, argE, others, isAl, isAli, finT, outE, padE, runD, cpsOf, cpT, toI, slT, T.weak, metT, kApp, kExt, elemD, iT, iL, iR1, iR2, iE, iZ, onI]) h]
  rcases loop_find (g := gT 2 (gsCons (gN 3) (gsCons (gN 4) gsNil))) (f := sIf (tAn (tV (eOp (dIn true) (eOp dIx (eVar 4) (eC (.int 0))) (eC g_SUM_WORDS))) (tAn (tV (eOp dEqA (eOp dIx (eVar 4) (eC (.int 1))) (eVar 1))) (tV (eOp dGe (eVar 2) (eOp dIx (eVar 4) (eC (.int 2))))))) (sRet (eVar 3)) sNx) (I := fun _ e => ∃ a b, e = [.im (.tup (us.map Ru.d)), .im (.int k), .im (.int x), a, b]) (p := fitsAt us k x) (t := fun i => .im (.int (i : Int))) (ds := enumD (us.map Ru.d)) (env := [.im (.tup (us.map Ru.d)), .im (.int k), .im (.int x), .no, .no]) ⟨.no, .no, rfl⟩ (by
    rintro i d _ hd ⟨a, b, rfl⟩
    obtain ⟨u, hu, rfl⟩ := enum_get hd
    refine ⟨[.im (.tup (us.map Ru.d)), .im (.int k), .im (.int x), .im (.int i), .im u.d], rfl, ?_⟩
    rw [fitsAt_is i u hu]
    cases u with
    | pack g s p m =>
      cases hf : (Ru.pack g s p m).fits k x with
      | true =>
        simp [Ru.fits] at hf
        exact .inl ⟨rfl, [.im (.tup (us.map Ru.d)), .im (.int k), .im (.int x), .im (.int i), .im (Ru.pack g s p m).d], by simp [Ru.d, dIx, dIn, g_SUM_WORDS, sc, hf, sEr, op2, op1, T.val, R.opt, toB, opL, vals, consT, disp, mvs, mkTup, callT, callI, argE, others, isAl, isAli, finT, outE, padE, runD, cpsOf, cpT, toI, slT, T.weak, metT, kApp, kExt, elemD, iT, iL, iR1, iR2, iE, iZ, onI], _, _, rfl⟩
      | false =>
        refine .inr ⟨rfl, [.im (.tup (us.map Ru.d)), .im (.int k), .im (.int x), .im (.int i), .im (Ru.pack g s p m).d], ?_, _, _, rfl⟩
        by_cases hg : g = k
        · simp [Ru.fits, hg] at hf
          simp [Ru.d, dIx, dIn, g_SUM_WORDS, sc, hg, Int.not_le.mpr hf, sEr, op2, op1, T.val, R.opt, toB, opL, vals, consT, disp, mvs, mkTup, callT, callI, argE, others, isAl, isAli, finT, outE, padE, runD, cpsOf, cpT, toI, slT, T.weak, metT, kApp, kExt, elemD, iT, iL, iR1, iR2, iE, iZ, onI]
        · have hg' : (g == k) = false := by simpa using hg
          simp [Ru.d, dIx, dIn, g_SUM_WORDS, sc, hg', sEr, op2, op1, T.val, R.opt, toB, opL, vals, consT, disp, mvs, mkTup, callT, callI, argE, others, isAl, isAli, finT, outE, padE, runD, cpsOf, cpT, toI, slT, T.weak, metT, kApp, kExt, elemD, iT, iL, iR1, iR2, iE, iZ, onI]
    | frm g s p =>
      cases hf : (Ru.frm g s p).fits k x with
      | true =>
        simp [Ru.fits] at hf
        exact .inl ⟨rfl, [.im (.tup (us.map Ru.d)), .im (.int k), .im (.int x), .im (.int i), .im (Ru.frm g s p).d], by simp [Ru.d, dIx, dIn, g_SUM_WORDS, sc, hf, sEr, op2, op1, T.val, R.opt, toB, opL, vals, consT, disp, mvs, mkTup, callT, callI, argE, others, isAl, isAli, finT, outE, padE, runD, cpsOf, cpT, toI, slT, T.weak, metT, kApp, kExt, elemD, iT, iL, iR1, iR2, iE, iZ, onI], _, _, rfl⟩
      | false =>
        refine .inr ⟨rfl, [.im (.tup (us.map Ru.d)), .im (.int k), .im (.int x), .im (.int i), .im (Ru.frm g s p).d], ?_, _, _, rfl⟩
        by_cases hg : g = k
        · simp [Ru.fits, hg] at hf
          simp [Ru.d, dIx, dIn, g_SUM_WORDS, sc, hg, Int.not_le.mpr hf, sEr, op2, op1, T.val, R.opt, toB, opL, vals, consT, disp, mvs, mkTup, callT, callI, argE, others, isAl, isAli, finT, outE, padE, runD, cpsOf, cpT, toI, slT, T.weak, metT, kApp, kExt, elemD, iT, iL, iR1, iR2, iE, iZ, onI]
        · have hg' : (g == k) = false := by simpa using hg
          simp [Ru.d, dIx, dIn, g_SUM_WORDS, sc, hg', sEr, op2, op1, T.val, R.opt, toB, opL, vals, consT, disp, mvs, mkTup, callT, callI, argE, others, isAl, isAli, finT, outE, padE, runD, cpsOf, cpT, toI, slT, T.weak, metT, kApp, kExt, elemD, iT, iL, iR1, iR2, iE, iZ, onI]
    | over f o => exact .inr ⟨rfl, [.im (.tup (us.map Ru.d)), .im (.int k), .im (.int x), .im (.int i), .im (Ru.over f o).d], by simp [Ru.d, dIx, dIn, g_SUM_WORDS, sc, sEr, op2, op1, T.val, R.opt, toB, opL, vals, consT, disp, mvs, mkTup, callT, callI, argE, others, isAl, isAli, finT, outE, padE, runD, cpsOf, cpT, toI, slT, T.weak, metT, kApp, kExt, elemD, iT, iL, iR1, iR2, iE, iZ, onI], _, _, rfl⟩
    | each f o m => exact .inr ⟨rfl, [.im (.tup (us.map Ru.d)), .im (.int k), .im (.int x), .im (.int i), .im (Ru.each f o m).d], by simp [Ru.d, dIx, dIn, g_SUM_WORDS, sc, sEr, op2, op1, T.val, R.opt, toB, opL, vals, consT, disp, mvs, mkTup, callT, callI, argE, others, isAl, isAli, finT, outE, padE, runD, cpsOf, cpT, toI, slT, T.weak, metT, kApp, kExt, elemD, iT, iL, iR1, iR2, iE, iZ, onI], _, _, rfl⟩) with ⟨i, e, j, h1, h2, h3, h4, a, b, rfl⟩ | ⟨h1, e, h4, a, b, rfl⟩
  · have := f1 i (by rw [← hl]; exact h1) h2 h3
    exact fin4 (rest := [.im (.tup (us.map Ru.d)), .im (.int k), .im (.int x), a, b]) (m := 0) rfl (by rw [show padE 5 [Sl.im (.tup (us.map Ru.d)), .im (.int k), .im (.int x)] = [.im (.tup (us.map Ru.d)), .im (.int k), .im (.int x), .no, .no] from rfl, sf h4]; unfold fitIx; rw [this]; rfl) _ rfl
  · have := f2 (fun m hm => h1 m (by rw [hl]; exact hm))
    exact fin4 (rest := [.im (.tup (us.map Ru.d)), .im (.int k), .im (.int x), a, b]) (m := 0) rfl (by rw [show padE 5 [Sl.im (.tup (us.map Ru.d)), .im (.int k), .im (.int x)] = [.im (.tup (us.map Ru.d)), .im (.int k), .im (.int x), .no, .no] from rfl, sf h4]; unfold fitIx; rw [this]; rfl) _ rfl

theorem r_pack_times {g s p x : Int} {m : Option Int} (hs : 2 ≤ s ∧ s ≤ 3) : d_pack_times [.im (Ru.pack g s p m).d, .im (.int x)] = .ok (.im (.int (full x s m))) [.no, .no] := by
  have h := r_full (w := x) (p := s) (m := m) (by omega)
  simp [d_pack_times, f_pack_times, Ru.d, h, sEr, op2, op1, T.val, R.opt, toB, opL, vals, consT, disp, mvs, mkTup, callT, callI, argE, others, isAl, isAli, finT, outE, padE, runD, cpsOf, cpT, toI, slT, T.weak, metT, kApp, kExt, elemD, iT, iL, iR1, iR2, iE, iZ, onI]
def packAmt (s p price x : Int) (m : Option Int) : Int := full x s m * p + (x - full x s m * s) * price
theorem r_pack_amount {g s p x price : Int} {m : Option Int} (hs : 2 ≤ s ∧ s ≤ 3) (hp : 0 ≤ p ∧ p ≤ 30) (hr : 0 ≤ price ∧ price ≤ 9) : d_pack_amount [.im (Ru.pack g s p m).d, .im (.int price), .im (.int x)] = .ok (.im (.int (packAmt s p price x m))) [.no, .no, .no] := by
  have h := r_pack_times (g := g) (s := s) (p := p) (x := x) (m := m) hs
  have b1 : -18446744073709551616 < s ∧ s < 18446744073709551616 := by omega
  have b2 : -18446744073709551616 < p ∧ p < 18446744073709551616 := by omega
  have b3 : -18446744073709551616 < price ∧ price < 18446744073709551616 := by omega
  simp [Ru.d] at h
  simp [d_pack_amount, f_pack_amount, Ru.d, h, packAmt, dMulA, b1, b2, b3, sEr, op2, op1, T.val, R.opt, toB, opL, vals, consT, disp, mvs, mkTup, callT, callI, argE, others, isAl, isAli, finT, outE, padE, runD, cpsOf, cpT, toI, slT, T.weak, metT, kApp, kExt, elemD, iT, iL, iR1, iR2, iE, iZ, onI]
def amtBy (price x : Int) : Option Ru → Int
  | none => x * price
  | some (.pack _ s p m) => packAmt s p price x m
  | some (.frm _ _ p) => x * p
  | some _ => 0
theorem fit_some {us : List Ru} {k x : Int} {i : Nat} (h : fitIx us k x = some i) : ∃ u, us[i]? = some u ∧ u.fits k x = true ∧ fit us k x = some u := by
  have h' := h
  unfold fitIx at h'
  rw [List.findIdx?_eq_some_iff_getElem] at h'
  obtain ⟨hi, h1, _⟩ := h'
  refine ⟨us[i], List.getElem?_eq_getElem hi, h1, ?_⟩
  unfold fit
  rw [find_ix]
  unfold fitIx at h
  rw [h]
  exact List.getElem?_eq_getElem hi
theorem fit_none {us : List Ru} {k x : Int} (h : fitIx us k x = none) : fit us k x = none := by
  unfold fit
  rw [find_ix]
  unfold fitIx at h
  rw [h]
  rfl
theorem at_map {α : Type} {us : List α} {f : α → D} {i : Nat} {u : α} (h : us[i]? = some u) : atI (us.map f) (i : Int) = some (f u) := by
  have hi : i < us.length := (List.getElem?_eq_some_iff.mp h).1
  obtain ⟨d, e1, e2⟩ := atI_ok (ds := us.map f) (i := (i : Int)) (by omega) (by simpa using hi)
  rw [e1]
  rw [Int.toNat_natCast, List.getElem?_map, h] at e2
  exact e2.symm
def gd (g : Int × Int) : D := .tup [.int g.1, .int g.2]
theorem r_good_amount {gs : List (Int × Int)} {us : List Ru} {k : Nat} {g : Int × Int} {x n : Int} (hu : ∀ u ∈ us, u.ok n) (hk : gs[k]? = some g) (hg : 0 ≤ g.1 ∧ g.1 ≤ 9) :
    d_good_amount [.im (.tup [.tup (gs.map gd), .tup (us.map Ru.d)]), .im (.int k), .im (.int x)] = .ok (.im (.int (amtBy g.1 x (fit us k x)))) [.no, .no, .no] := by
  have a1 := at_map (f := gd) hk
  have f := r_fitting us k x
  have b3 : -18446744073709551616 < g.1 ∧ g.1 < 18446744073709551616 := by omega
  cases hx : fitIx us k x with
  | none =>
    rw [hx] at f
    simp [oN] at f
    simp [d_good_amount, f_good_amount, dIx, a1, gd, f, fit_none hx, amtBy, dMulA, b3, sEr, op2, op1, T.val, R.opt, toB, opL, vals, consT, disp, mvs, mkTup, callT, callI, argE, others, isAl, isAli, finT, outE, padE, runD, cpsOf, cpT, toI, slT, T.weak, metT, kApp, kExt, elemD, iT, iL, iR1, iR2, iE, iZ, onI]
  | some i =>
    rw [hx] at f
    obtain ⟨u, e1, e2, e3⟩ := fit_some hx
    have a2 := at_map (f := Ru.d) e1
    have ok := hu u (List.mem_of_getElem? e1)
    simp [oN] at f
    cases u with
    | pack g' s p m =>
      obtain ⟨_, h2, h3, _⟩ := ok
      have q := r_pack_amount (g := g') (x := x) (m := m) h2 (p := p) (by omega) hg
      simp [Ru.d] at q a2
      simp [d_good_amount, f_good_amount, dIx, a1, gd, f, a2, e3, amtBy, q, Ru.d, sEr, op2, op1, T.val, R.opt, toB, opL, vals, consT, disp, mvs, mkTup, callT, callI, argE, others, isAl, isAli, finT, outE, padE, runD, cpsOf, cpT, toI, slT, T.weak, metT, kApp, kExt, elemD, iT, iL, iR1, iR2, iE, iZ, onI]
    | frm g' l p =>
      obtain ⟨_, h2, h3⟩ := ok
      have b4 : -18446744073709551616 < p ∧ p < 18446744073709551616 := by omega
      simp [Ru.d] at a2
      simp [d_good_amount, f_good_amount, dIx, a1, gd, f, a2, e3, amtBy, dMulA, b4, Ru.d, sEr, op2, op1, T.val, R.opt, toB, opL, vals, consT, disp, mvs, mkTup, callT, callI, argE, others, isAl, isAli, finT, outE, padE, runD, cpsOf, cpT, toI, slT, T.weak, metT, kApp, kExt, elemD, iT, iL, iR1, iR2, iE, iZ, onI]
    | over f' o => simp [Ru.fits] at e2
    | each f' o m => simp [Ru.fits] at e2

end DL
namespace DL
open PySem PySem.Spec L2
def wr (u : Ru) (x : Int) : Int := match u with
  | .pack _ s _ m => full x s m
  | _ => 1
end DL
namespace DL
open PySem PySem.Spec L2
theorem r_check_shop {v : D} (h : isShop v = true) : d_check_shop [.im v] = .ok (.im .non) [.no] := by
  simp [d_check_shop, f_check_shop, r_is_shop, h, sEr, op2, op1, T.val, R.opt, toB, opL, vals, consT, disp, mvs, mkTup, callT, callI, argE, others, isAl, isAli, finT, outE, padE, runD, cpsOf, cpT, toI, slT, T.weak, metT, kApp, kExt, elemD, iT, iL, iR1, iR2, iE, iZ, onI]
def isPiece (v : D) : Bool := match v with
  | .int i => decide (0 ≤ i)
  | _ => false
def arePieces (n : Nat) (v : D) : Bool := match v with
  | .tup ps => ((ps.length : Int) == n) && ps.all isPiece
  | _ => false
theorem l_pieces (s : D) (ds : List D) (h : ds.length ≤ 1000) : eLc (fiT (eVar 1)) [2] (.one 2) tT (eAn (eCall d_is_integer (aCons (eVar 2) aNil)) (eOp dGe (eVar 2) (eC (.int 0)))) [.im s, .im (.tup ds), .no] = .ok (.fr (ds.map fun d => .bl (isPiece d))) [.im s, .im (.tup ds), .no] := by
  have := lc_map (k := ⟨ds, none⟩) (vs := [2]) (t := .one 2) (fe := eAn (eCall d_is_integer (aCons (eVar 2) aNil)) (eOp dGe (eVar 2) (eC (.int 0)))) (h := fun d => .bl (isPiece d)) (env := [.im s, .im (.tup ds), .no]) trivial ds [] (small_size (by simpa using h)) fun d _ =>
    ⟨_, .im (.bl (isPiece d)), [.im s, .im (.tup ds), .im d], rfl, by cases d <;> simp [r_is_integer, isInt, isPiece, sEr, op2, op1, T.val, R.opt, toB, opL, vals, consT, disp, mvs, mkTup, callT, callI, argE, others, isAl, isAli, finT, outE, padE, runD, cpsOf, cpT, toI, slT, T.weak, metT, kApp, kExt, elemD, iT, iL, iR1, iR2, iE, iZ, onI], rfl, rfl⟩
  rw [eLc_s]
  simp [wipeE, this, sEr, op2, op1, T.val, R.opt, toB, opL, vals, consT, disp, mvs, mkTup, callT, callI, argE, others, isAl, isAli, finT, outE, padE, runD, cpsOf, cpT, toI, slT, T.weak, metT, kApp, kExt, elemD, iT, iL, iR1, iR2, iE, iZ, onI]
theorem shop_len {gs : List D} {rs : D} (h : isShop (.tup [.tup gs, rs]) = true) : 1 ≤ gs.length ∧ gs.length ≤ 2 := by
  have h : (areGoods (.tup gs) && areRules rs gs.length) = true := h
  simp [areGoods] at h
  exact h.1.1
theorem r_are_pieces {gs : List D} {rs v : D} (hl : gs.length ≤ 1000) : d_are_pieces [.im (.tup [.tup gs, rs]), .im v] = .ok (.im (.bl (arePieces gs.length v))) [.no, .no] := by
  by_cases ht : isTupleOf v gs.length = true
  · obtain ⟨ds, rfl, hd⟩ := isTup_get ht
    have hd' : ds.length ≤ 1000 := by omega
    have hd2 : (ds.length : Int) = gs.length := hd
    simp [d_are_pieces, f_are_pieces, f_are_pieces_1, f_are_pieces_2, r_is_tuple_of, arePieces, dIx, atI, ixN, ht, hd2, l_pieces _ ds hd', sEr, op2, op1, T.val, R.opt, toB, opL, vals, consT, disp, mvs, mkTup, callT, callI, argE, others, isAl, isAli, finT, outE, padE, runD, cpsOf, cpT, toI, slT, T.weak, metT, kApp, kExt, elemD, iT, iL, iR1, iR2, iE, iZ, onI]
  · have e : arePieces gs.length v = false := by
      cases v <;> first | rfl | skip
      simp [isTupleOf] at ht
      simp [arePieces, ht]
    simp [d_are_pieces, f_are_pieces, f_are_pieces_1, f_are_pieces_2, r_is_tuple_of, e, dIx, atI, ixN, ht, sEr, op2, op1, T.val, R.opt, toB, opL, vals, consT, disp, mvs, mkTup, callT, callI, argE, others, isAl, isAli, finT, outE, padE, runD, cpsOf, cpT, toI, slT, T.weak, metT, kApp, kExt, elemD, iT, iL, iR1, iR2, iE, iZ, onI]
theorem pieces_ints {n : Nat} {v : D} (h : arePieces n v = true) : ∃ bs : List Int, v = .tup (bs.map D.int) ∧ bs.length = n ∧ ∀ b ∈ bs, 0 ≤ b := by
  cases v <;> try (simp [arePieces] at h; done)
  rename_i ps
  simp [arePieces] at h
  obtain ⟨h1, h2⟩ := h
  have key : ∀ ps : List D, (∀ x ∈ ps, isPiece x = true) → ∃ bs : List Int, ps = bs.map D.int ∧ ∀ b ∈ bs, 0 ≤ b := by
    intro ps
    induction ps with
    | nil => exact fun _ => ⟨[], rfl, fun b z => by cases z⟩
    | cons p ps ih =>
      intro h
      obtain ⟨bs, e, q⟩ := ih fun x z => h x (List.mem_cons_of_mem _ z)
      have hp := h p List.mem_cons_self
      cases p <;> try (simp [isPiece] at hp; done)
      rename_i i
      refine ⟨i :: bs, by rw [e]; rfl, fun b z => ?_⟩
      rcases List.mem_cons.mp z with rfl | z
      · simpa [isPiece] using hp
      · exact q b z
  obtain ⟨bs, rfl, q⟩ := key ps h2
  exact ⟨bs, rfl, by simp at h1; omega, q⟩
def isBasket (n : Nat) (v : D) : Bool := match v with
  | .tup ps => (ps.length : Int) == n && ps.all fun p => isBetween p 0 1000000
  | _ => false
theorem r_is_basket {gs : List D} {rs v : D} (h : isShop (.tup [.tup gs, rs]) = true) : d_is_basket [.im (.tup [.tup gs, rs]), .im v] = .ok (.im (.bl (isBasket gs.length v))) [.no, .no] := by
  have c := r_check_shop h
  have hl := shop_len h
  have q := r_are_pieces (gs := gs) (rs := rs) (v := v) (by omega)
  cases ha : arePieces gs.length v with
  | false =>
    rw [ha] at q
    have e : isBasket gs.length v = false := by
      cases v <;> first | rfl | skip
      rename_i ps
      cases hb : isBasket gs.length (.tup ps) with
      | false => rfl
      | true =>
        simp [isBasket] at hb
        rw [← ha]
        simp [arePieces, hb.1]
        intro x hx
        have := hb.2 x hx
        cases x <;> simp [isBetween, isPiece] at this ⊢
        exact this.1
    simp [d_is_basket, f_is_basket, c, q, e, sEr, op2, op1, T.val, R.opt, toB, opL, vals, consT, disp, mvs, mkTup, callT, callI, argE, others, isAl, isAli, finT, outE, padE, runD, cpsOf, cpT, toI, slT, T.weak, metT, kApp, kExt, elemD, iT, iL, iR1, iR2, iE, iZ, onI]
  | true =>
    rw [ha] at q
    obtain ⟨bs, rfl, hb, h0⟩ := pieces_ints ha
    cases bs with
    | nil => simp at hb; omega
    | cons b bs =>
      have m := dMax1_tup b bs
      have e : isBasket gs.length (.tup ((b :: bs).map D.int)) = decide (bs.foldl max b ≤ 1000000) := by
        have e1 : (((b :: bs).map D.int).length : Int) = gs.length := by rw [List.length_map, hb]
        have e2 : ((b :: bs).map D.int).all (fun p => isBetween p 0 1000000) = decide (bs.foldl max b ≤ 1000000) := by
          rw [Bool.eq_iff_iff, List.all_eq_true, decide_eq_true_eq]
          constructor
          · intro z
            have := z _ (List.mem_map_of_mem (fold_max_mem bs b))
            simp [isBetween] at this
            exact this.2
          · intro z d hd
            obtain ⟨y, hy, rfl⟩ := List.mem_map.mp hd
            have := fold_max_le bs b y hy
            have := h0 y hy
            simp [isBetween]
            omega
        show ((((b :: bs).map D.int).length : Int) == gs.length && ((b :: bs).map D.int).all (fun p => isBetween p 0 1000000)) = _
        rw [e1, e2]
        simp
      rw [e]
      generalize bs.foldl max b = mx at m
      generalize (b :: bs).map D.int = dsx at m q
      simp [d_is_basket, f_is_basket, c, q, m, sEr, op2, op1, T.val, R.opt, toB, opL, vals, consT, disp, mvs, mkTup, callT, callI, argE, others, isAl, isAli, finT, outE, padE, runD, cpsOf, cpT, toI, slT, T.weak, metT, kApp, kExt, elemD, iT, iL, iR1, iR2, iE, iZ, onI]

end DL
namespace DL
open PySem PySem.Spec L2
def Ru.endless : Ru → Bool
  | .each _ _ none => true
  | _ => false
theorem endless_is (u : Ru) : isEndless u.d = u.endless := by
  cases u with
  | pack g s p m => rfl
  | frm g l p => simp [Ru.d, isEndless, Ru.endless]
  | over f o => rfl
  | each f o m => cases m <;> rfl
structure Shp (gi : List (Int × Int)) (us : List Ru) : Prop where
  len : 1 ≤ gi.length ∧ gi.length ≤ 2
  pr : ∀ g ∈ gi, (1 ≤ g.1 ∧ g.1 ≤ 9) ∧ (0 ≤ g.2 ∧ g.2 ≤ 9)
  few : us.length ≤ 4
  ru : ∀ u ∈ us, u.ok gi.length ∧ isRule u.d gi.length = true
  one : (us.filter Ru.endless).length ≤ 1
abbrev shopD (gi : List (Int × Int)) (us : List Ru) : D := .tup [.tup (gi.map gd), .tup (us.map Ru.d)]
theorem Shp.is {gi : List (Int × Int)} {us : List Ru} (h : Shp gi us) : isShop (shopD gi us) = true := by
  have e1 : (gi.map gd).all isGood = true := by
    rw [List.all_eq_true]
    intro d hd
    obtain ⟨g, hg, rfl⟩ := List.mem_map.mp hd
    obtain ⟨h1, h2⟩ := h.pr g hg
    simp [gd, isGood, isBetween, h1, h2]
  have e2 : rulesOk (us.map Ru.d) gi.length = true := by
    unfold rulesOk
    rw [List.all_eq_true]
    intro d hd
    obtain ⟨u, hu, rfl⟩ := List.mem_map.mp hd
    exact (h.ru u hu).2
  have e3 : ((us.map Ru.d).filter isEndless).length = (us.filter Ru.endless).length := by
    rw [List.filter_map, List.length_map]
    congr 2
    funext u
    exact endless_is u
  show (areGoods (.tup (gi.map gd)) && areRules (.tup (us.map Ru.d)) (gi.map gd).length) = true
  rw [List.length_map]
  have h1 := h.one
  simp [areGoods, areRules, h.len, h.few, e1, e2, e3, h1]
theorem Shp.less {gi : List (Int × Int)} {us : List Ru} (h : Shp gi us) (p : Ru → Bool) : Shp gi (us.filter p) := by
  refine ⟨h.len, h.pr, Nat.le_trans (List.length_filter_le _ _) h.few, fun u z => h.ru u (List.mem_filter.mp z).1, ?_⟩
  rw [List.filter_filter]
  refine Nat.le_trans ?_ h.one
  rw [show (fun a => Ru.endless a && p a) = fun a => p a && Ru.endless a from funext fun a => Bool.and_comm _ _, ← List.filter_filter]
  exact List.length_filter_le _ _
theorem goods_gi {gs : List D} (h : ∀ g ∈ gs, ∃ p c : Int, g = .tup [.int p, .int c] ∧ (3 ≤ p ∧ p ≤ 9) ∧ (0 ≤ c ∧ c ≤ 7)) : ∃ gi : List (Int × Int), gs = gi.map gd ∧ ∀ g ∈ gi, (3 ≤ g.1 ∧ g.1 ≤ 9) ∧ (0 ≤ g.2 ∧ g.2 ≤ 7) := by
  induction gs with
  | nil => exact ⟨[], rfl, fun g z => by cases z⟩
  | cons g gs ih =>
    obtain ⟨p, c, rfl, h1, h2⟩ := h g List.mem_cons_self
    obtain ⟨gi, rfl, q⟩ := ih fun x z => h x (List.mem_cons_of_mem _ z)
    exact ⟨(p, c) :: gi, rfl, fun x z => (List.mem_cons.mp z).elim (fun z => by subst z; exact ⟨h1, h2⟩) (q x)⟩
theorem draw_shop2 (ns : List Int) (n : Nat) (hl : ns.length ≤ 63) (hn : n < 800000) : ∃ gi us m, d__law_some_shop [scr ns, .own true (rep0 n)] = .ok (.im (shopD gi us)) [.no, .own true (rep0 m)] ∧ n ≤ m ∧ m ≤ n + 40 ∧ Shp gi us ∧ (∀ g ∈ gi, (3 ≤ g.1 ∧ g.1 ≤ 9) ∧ (0 ≤ g.2 ∧ g.2 ≤ 7)) ∧ D.flats (us.map Ru.d) = true ∧ ∀ u ∈ us, drawnR (gi.map gd) u.d := by
  obtain ⟨gs, rs, m, e, h1, h2, hg, hr, hdr⟩ := r_some_shop2 ns n hl hn
  obtain ⟨gi, rfl, q⟩ := goods_gi hg.all
  have hlen := hg.len
  rw [List.length_map] at hlen
  have ha := hr.all
  rw [List.length_map] at ha
  obtain ⟨us, rfl, qu⟩ := rules_ru ha
  refine ⟨gi, us, m, e, h1, h2, ⟨hlen, fun g z => ?_, ?_, fun u z => ⟨qu u z, ha _ (List.mem_map_of_mem z)⟩, ?_⟩, q, hr.flat, fun u z => hdr _ (List.mem_map_of_mem z)⟩
  · have := q g z
    omega
  · have := hr.len
    rwa [List.length_map] at this
  · have := hr.one
    rw [List.filter_map, List.length_map] at this
    rw [show (isEndless ∘ Ru.d) = Ru.endless from funext endless_is] at this
    exact this
theorem draw_shop (ns : List Int) (n : Nat) (hl : ns.length ≤ 63) (hn : n < 800000) : ∃ gi us m, d__law_some_shop [scr ns, .own true (rep0 n)] = .ok (.im (shopD gi us)) [.no, .own true (rep0 m)] ∧ n ≤ m ∧ m ≤ n + 40 ∧ Shp gi us ∧ (∀ g ∈ gi, (3 ≤ g.1 ∧ g.1 ≤ 9) ∧ (0 ≤ g.2 ∧ g.2 ≤ 7)) ∧ D.flats (us.map Ru.d) = true := by
  obtain ⟨gi, us, m, h1, h2, h3, h4, h5, h6, _⟩ := draw_shop2 ns n hl hn
  exact ⟨gi, us, m, h1, h2, h3, h4, h5, h6⟩
abbrev basD (bs : List Int) : D := .tup (bs.map D.int)
theorem bas_is {gi : List (Int × Int)} {us : List Ru} {bs : List Int} (h : Shp gi us) (hl : bs.length = gi.length) (hb : ∀ b ∈ bs, 0 ≤ b ∧ b ≤ 1000000) : d_check_basket [.im (shopD gi us), .im (basD bs)] = .ok (.im .non) [.no, .no] := by
  have e := r_is_basket (v := basD bs) h.is
  have q : isBasket (gi.map gd).length (basD bs) = true := by
    have e1 : (bs.map D.int).all (fun p => isBetween p 0 1000000) = true := by
      rw [List.all_eq_true]
      intro d hd
      obtain ⟨b, hb', rfl⟩ := List.mem_map.mp hd
      simp [isBetween, hb b hb']
    simp only [isBasket, e1]
    simp [hl]
  rw [q] at e
  simp [d_check_basket, f_check_basket, e, sEr, op2, op1, T.val, R.opt, toB, opL, vals, consT, disp, mvs, mkTup, callT, callI, argE, others, isAl, isAli, finT, outE, padE, runD, cpsOf, cpT, toI, slT, T.weak, metT, kApp, kExt, elemD, iT, iL, iR1, iR2, iE, iZ, onI]
def amtAt (gi : List (Int × Int)) (us : List Ru) (k x : Int) : Int := amtBy ((gi[k.toNat]?).getD (0, 0)).1 x (fit us k x)
def amtD (gi : List (Int × Int)) (us : List Ru) : D → D
  | .tup [.int k, .int x] => .int (amtAt gi us k x)
  | d => d
def amtsD (gi : List (Int × Int)) (us : List Ru) (bs : List Int) : List D := (enumD (bs.map D.int)).map (amtD gi us)
theorem enum_int {bs : List Int} {d : D} (h : d ∈ enumD (bs.map D.int)) : ∃ (k : Nat) (x : Int), d = .tup [.int k, .int x] ∧ bs[k]? = some x := by
  obtain ⟨i, hi⟩ := List.getElem?_of_mem h
  obtain ⟨d', e1, rfl⟩ := enumD_get hi
  rw [List.getElem?_map] at e1
  obtain ⟨x, e2, rfl⟩ := Option.map_eq_some_iff.mp e1
  exact ⟨i, x, rfl, e2⟩
theorem amt_good {gi : List (Int × Int)} {us : List Ru} (h : Shp gi us) {k : Nat} {x : Int} (hk : k < gi.length) : d_good_amount [.im (shopD gi us), .im (.int k), .im (.int x)] = .ok (.im (.int (amtAt gi us k x))) [.no, .no, .no] := by
  have e := List.getElem?_eq_getElem hk
  have := r_good_amount (x := x) (us := us) (n := gi.length) (fun u z => (h.ru u z).1) e (by have := (h.pr _ (List.getElem_mem hk)).1; omega)
  rw [this]
  simp [amtAt, e]
theorem r_amounts_of {gi : List (Int × Int)} {us : List Ru} {bs : List Int} (h : Shp gi us) (hl : bs.length = gi.length) : d_amounts_of [.im (shopD gi us), .im (basD bs)] = .ok (.im (.tup (amtsD gi us bs))) [.no, .no] := by
  have h2 := h.len.2
  have q := eLc_of (fi := fiE false (aCons (eVar 1) aNil)) (vs := [2, 3]) (t := .tup [2, 3]) (ft := tT) (fe := eCall d_good_amount (aCons (eVar 0) (aCons (eVar 2) (aCons (eVar 3) aNil)))) (env := [.im (shopD gi us), .im (basD bs), .no, .no]) (k := ⟨enumD (bs.map D.int), none⟩) (e := [.im (shopD gi us), .im (basD bs), .no, .no]) (by simp [sEr, op2, op1, T.val, R.opt, toB, opL, vals, consT, disp, mvs, mkTup, callT, callI, argE, others, isAl, isAli, finT, outE, padE, runD, cpsOf, cpT, toI, slT, T.weak, metT, kApp, kExt, elemD, iT, iL, iR1, iR2, iE, iZ, onI])
    (lc_map (k := ⟨enumD (bs.map D.int), none⟩) (vs := [2, 3]) (t := .tup [2, 3]) (h := amtD gi us) (env := [.im (shopD gi us), .im (basD bs), .no, .no]) trivial (enumD (bs.map D.int)) [] (small_size (by rw [enumD_len, List.length_map]; show 0 + bs.length ≤ 1000; omega)) fun d z => by
      obtain ⟨k, x, rfl, e⟩ := enum_int z
      have hk : k < gi.length := by rw [← hl]; exact (List.getElem?_eq_some_iff.mp e).1
      refine ⟨[.im (shopD gi us), .im (basD bs), .im (.int k), .im (.int x)], .im (.int (amtAt gi us k x)), [.im (shopD gi us), .im (basD bs), .im (.int k), .im (.int x)], rfl, ?_, rfl, rfl⟩
      have := amt_good (x := x) h hk
      simp [this, sEr, op2, op1, T.val, R.opt, toB, opL, vals, consT, disp, mvs, mkTup, callT, callI, argE, others, isAl, isAli, finT, outE, padE, runD, cpsOf, cpT, toI, slT, T.weak, metT, kApp, kExt, elemD, iT, iL, iR1, iR2, iE, iZ, onI])
  refine fin4 (rest := [.im (shopD gi us), .im (basD bs), .no, .no]) (m := 0) rfl ?_ _ rfl
  show f_amounts_of [.im (shopD gi us), .im (basD bs), .no, .no] = _
  unfold f_amounts_of
  simp [q, amtsD, sEr, op2, op1, T.val, R.opt, toB, opL, vals, consT, disp, mvs, mkTup, callT, callI, argE, others, isAl, isAli, finT, outE, padE, runD, cpsOf, cpT, toI, slT, T.weak, metT, kApp, kExt, elemD, iT, iL, iR1, iR2, iE, iZ, onI]

end DL
namespace DL
open PySem PySem.Spec L2
def amts (gi : List (Int × Int)) (us : List Ru) (bs : List Int) : List Int := bs.mapIdx fun (i : Nat) x => amtAt gi us i x
theorem amtsD_is (gi : List (Int × Int)) (us : List Ru) (bs : List Int) : amtsD gi us bs = (amts gi us bs).map D.int := by
  apply List.ext_getElem?
  intro i
  unfold amtsD amts enumD
  simp only [List.getElem?_map, List.getElem?_mapIdx]
  cases bs[i]? <;> rfl
end DL
namespace DL
open PySem PySem.Spec L2
theorem fin5 {p0 : En} {t : T} {rest : En} {n p : Nat} {f : FS} (hp : p0.length = p) (h : f (padE n p0) = .rt t rest) (ht : isAl t = false) (o : En) (ho : outE p0 rest = some o) : runD n p f p0 = .ok t o := by
  show (if p0.length = p then finF p0 (f (padE n p0)) else .er) = _
  rw [if_pos hp, h]
  cases t with
  | al i => cases ht
  | im d =>
    show (match outE p0 rest with
      | some o => R.ok (T.im d) o
      | none => .er) = _
    rw [ho]
  | fr d =>
    show (match outE p0 rest with
      | some o => R.ok (T.fr d) o
      | none => .er) = _
    rw [ho]
  | ft d =>
    show (match outE p0 rest with
      | some o => R.ok (T.ft d) o
      | none => .er) = _
    rw [ho]
def Ru.off : Ru → Int → Int
  | .over f _, t => if f ≤ t then 1 else 0
  | .each f _ m, t => full t f m
  | _, _ => 0
def Ru.cut : Ru → Int
  | .pack _ s _ _ => s
  | .frm _ l _ => l
  | .over _ o => o
  | .each _ o _ => o
theorem Ru.at2 (u : Ru) : ∃ a b c, u.d = .tup (a :: b :: .int u.cut :: c) := by
  cases u <;> exact ⟨_, _, _, rfl⟩
theorem Ru.cut_ok {u : Ru} {n : Int} (h : u.ok n) : 1 ≤ u.cut ∧ u.cut ≤ 6 := by
  cases u with
  | pack g s p m => have := h.2.1; simp [Ru.cut]; omega
  | frm g l p => have := h.2.1; simp [Ru.cut]; omega
  | over f o => have := h.2; simp [Ru.cut]; omega
  | each f o m => have := h.1; have := h.2.1; simp [Ru.cut]; omega
theorem r_off {u : Ru} {n t : Int} (h : u.ok n) : d_off_times [.im u.d, .im (.int t)] = .ok (.im (.int (u.off t))) [.no, .no] := by
  cases u with
  | pack g s p m => simp [d_off_times, f_off_times, Ru.d, dIx, Ru.off, sEr, op2, op1, T.val, R.opt, toB, opL, vals, consT, disp, mvs, mkTup, callT, callI, argE, others, isAl, isAli, finT, outE, padE, runD, cpsOf, cpT, toI, slT, T.weak, metT, kApp, kExt, elemD, iT, iL, iR1, iR2, iE, iZ, onI]
  | frm g l p => simp [d_off_times, f_off_times, Ru.d, dIx, Ru.off, sEr, op2, op1, T.val, R.opt, toB, opL, vals, consT, disp, mvs, mkTup, callT, callI, argE, others, isAl, isAli, finT, outE, padE, runD, cpsOf, cpT, toI, slT, T.weak, metT, kApp, kExt, elemD, iT, iL, iR1, iR2, iE, iZ, onI]
  | over f o =>
    by_cases hf : f ≤ t
    · simp [d_off_times, f_off_times, Ru.d, dIx, Ru.off, hf, sEr, op2, op1, T.val, R.opt, toB, opL, vals, consT, disp, mvs, mkTup, callT, callI, argE, others, isAl, isAli, finT, outE, padE, runD, cpsOf, cpT, toI, slT, T.weak, metT, kApp, kExt, elemD, iT, iL, iR1, iR2, iE, iZ, onI]
    · simp [d_off_times, f_off_times, Ru.d, dIx, Ru.off, hf, sEr, op2, op1, T.val, R.opt, toB, opL, vals, consT, disp, mvs, mkTup, callT, callI, argE, others, isAl, isAli, finT, outE, padE, runD, cpsOf, cpT, toI, slT, T.weak, metT, kApp, kExt, elemD, iT, iL, iR1, iR2, iE, iZ, onI]
  | each f o m =>
    have q := r_full (w := t) (p := f) (m := m) (by have := h.1; omega)
    simp [d_off_times, f_off_times, Ru.d, dIx, Ru.off, q, sEr, op2, op1, T.val, R.opt, toB, opL, vals, consT, disp, mvs, mkTup, callT, callI, argE, others, isAl, isAli, finT, outE, padE, runD, cpsOf, cpT, toI, slT, T.weak, metT, kApp, kExt, elemD, iT, iL, iR1, iR2, iE, iZ, onI]
def stp (s : Int × List Int) (u : Ru) : Int × List Int := (s.1 - u.off s.1 * u.cut, s.2 ++ [u.off s.1])
def sums (us : List Ru) (t : Int) : Int × List Int := us.foldl stp (t, [])
theorem sums_len (us : List Ru) : ∀ s : Int × List Int, (us.foldl stp s).2.length = s.2.length + us.length := by
  induction us with
  | nil => exact fun s => rfl
  | cons u us ih => exact fun s => by rw [List.foldl_cons, ih]; simp [stp]; omega
theorem take_more {α : Type} {us : List α} {i : Nat} {u : α} (h : us[i]? = some u) : us.take (i + 1) = us.take i ++ [u] := by
  rw [List.take_add_one, h]
  rfl
theorem map_get {us : List Ru} {i : Nat} {d : D} (h : (us.map Ru.d)[i]? = some d) : ∃ u, us[i]? = some u ∧ d = u.d := by
  rw [List.getElem?_map] at h
  obtain ⟨u, e, rfl⟩ := Option.map_eq_some_iff.mp h
  exact ⟨u, e, rfl⟩
theorem r_apply {us : List Ru} {n t : Int} (h : ∀ u ∈ us, u.ok n) (hl : us.length ≤ 1000) : d_apply_sums [.im (.tup (us.map Ru.d)), .im (.int t)] = .ok (.ft [⟨false, .int (sums us t).1⟩, ⟨true, .lst ((sums us t).2.map D.int)⟩]) [.no, .no] := by
  obtain ⟨e, q, a, b, rfl⟩ := loop_all (g := gN 4) (f := b_apply_sums_1) (ds := us.map Ru.d) (env := [.im (.tup (us.map Ru.d)), .im (.int t), .im (.int t), .own false [], .no, .no])
    (I := fun i e => ∃ a b, e = [.im (.tup (us.map Ru.d)), .im (.int t), .im (.int (sums (us.take i) t).1), .own false ((sums (us.take i) t).2.map D.int), a, b]) ⟨.no, .no, rfl⟩ (by
    rintro i d _ hd ⟨a, b, rfl⟩
    obtain ⟨u, hu, rfl⟩ := map_get hd
    have ok := h u (List.mem_of_getElem? hu)
    have q := r_off (t := (sums (us.take i) t).1) ok
    obtain ⟨x, y, z, hx⟩ := u.at2
    have bc := Ru.cut_ok ok
    have b1 : -18446744073709551616 < u.cut ∧ u.cut < 18446744073709551616 := by omega
    have hi : i < us.length := (List.getElem?_eq_some_iff.mp hu).1
    have l1 : ((sums (us.take i) t).2).length < 1000000 := by
      unfold sums
      rw [sums_len]
      simp
      omega
    have e1 : sums (us.take (i + 1)) t = ((sums (us.take i) t).1 - u.off (sums (us.take i) t).1 * u.cut, (sums (us.take i) t).2 ++ [u.off (sums (us.take i) t).1]) := by
      rw [take_more hu]
      unfold sums
      rw [List.foldl_append]
      rfl
    refine ⟨[.im (.tup (us.map Ru.d)), .im (.int t), .im (.int (sums (us.take i) t).1), .own false ((sums (us.take i) t).2.map D.int), .im u.d, b], [.im (.tup (us.map Ru.d)), .im (.int t), .im (.int (sums (us.take (i + 1)) t).1), .own false ((sums (us.take (i + 1)) t).2.map D.int), .im u.d, .im (.int (u.off (sums (us.take i) t).1))], rfl, .inl ?_, _, _, rfl⟩
    rw [hx] at q
    rw [e1, hx]
    simp [b_apply_sums_1, b_apply_sums_1_1, b_apply_sums_1_2, b_apply_sums_1_3, q, dIx, dMulA, b1, l1, sEr, op2, op1, T.val, R.opt, toB, opL, vals, consT, disp, mvs, mkTup, callT, callI, argE, others, isAl, isAli, finT, outE, padE, runD, cpsOf, cpT, toI, slT, T.weak, metT, kApp, kExt, elemD, iT, iL, iR1, iR2, iE, iZ, onI])
  have s3 := sFor_of (fi := fiT (eVar 0)) (env := [.im (.tup (us.map Ru.d)), .im (.int t), .im (.int t), .own false [], .no, .no]) (e := [.im (.tup (us.map Ru.d)), .im (.int t), .im (.int t), .own false [], .no, .no]) (by simp [sEr, op2, op1, T.val, R.opt, toB, opL, vals, consT, disp, mvs, mkTup, callT, callI, argE, others, isAl, isAli, finT, outE, padE, runD, cpsOf, cpT, toI, slT, T.weak, metT, kApp, kExt, elemD, iT, iL, iR1, iR2, iE, iZ, onI]) q
  have ht : us.take (us.map Ru.d).length = us := by rw [List.length_map, List.take_length]
  rw [ht] at s3
  refine fin5 (rest := [.im (.tup (us.map Ru.d)), .im (.int t), .im (.int (sums us t).1), .no, a, b]) rfl ?_ rfl _ rfl
  show f_apply_sums [.im (.tup (us.map Ru.d)), .im (.int t), .no, .no, .no, .no] = _
  simp [f_apply_sums, f_apply_sums_1, f_apply_sums_2, f_apply_sums_3, f_apply_sums_4, s3, sEr, op2, op1, T.val, R.opt, toB, opL, vals, consT, disp, mvs, mkTup, callT, callI, argE, others, isAl, isAli, finT, outE, padE, runD, cpsOf, cpT, toI, slT, T.weak, metT, kApp, kExt, elemD, iT, iL, iR1, iR2, iE, iZ, onI]
theorem intsOf_amts (gi : List (Int × Int)) (us : List Ru) (bs : List Int) : dSum [.tup (amtsD gi us bs)] = some (.im (.int (amts gi us bs).sum)) := by
  rw [amtsD_is, dSum_tup, intsOf_map]
  rfl
def chg (gi : List (Int × Int)) (us : List Ru) (bs : List Int) : Int := (sums us (amts gi us bs).sum).1
theorem r_left_of {us : List Ru} {n t : Int} (h : ∀ u ∈ us, u.ok n) (hl : us.length ≤ 1000) : d_left_of [.im (.tup (us.map Ru.d)), .im (.int t)] = .ok (.im (.int (sums us t).1)) [.no, .no] := by
  have e3 := r_apply (t := t) h hl
  refine fin5 (rest := [.im (.tup (us.map Ru.d)), .im (.int t), .im (.int (sums us t).1), .own false ((sums us t).2.map D.int)]) rfl ?_ rfl _ rfl
  show f_left_of [.im (.tup (us.map Ru.d)), .im (.int t), .no, .no] = _
  simp [f_left_of, f_left_of_1, f_left_of_2, e3, sEr, op2, op1, T.val, R.opt, toB, opL, vals, consT, disp, mvs, mkTup, callT, callI, argE, others, isAl, isAli, finT, outE, padE, runD, cpsOf, cpT, toI, slT, T.weak, metT, kApp, kExt, elemD, iT, iL, iR1, iR2, iE, iZ, onI]
theorem r_charge_of {gi : List (Int × Int)} {us : List Ru} {bs : List Int} (h : Shp gi us) (hl : bs.length = gi.length) : d_charge_of [.im (shopD gi us), .im (basD bs)] = .ok (.im (.int (chg gi us bs))) [.no, .no] := by
  have e1 := r_amounts_of (us := us) h hl
  have e2 := intsOf_amts gi us bs
  have e3 := r_left_of (t := (amts gi us bs).sum) (fun u z => (h.ru u z).1) (by have := h.few; omega)
  simp [d_charge_of, f_charge_of, e1, e2, e3, dIx, chg, sEr, op2, op1, T.val, R.opt, toB, opL, vals, consT, disp, mvs, mkTup, callT, callI, argE, others, isAl, isAli, finT, outE, padE, runD, cpsOf, cpT, toI, slT, T.weak, metT, kApp, kExt, elemD, iT, iL, iR1, iR2, iE, iZ, onI]
theorem r_charge {gi : List (Int × Int)} {us : List Ru} {bs : List Int} (h : Shp gi us) (hl : bs.length = gi.length) (hb : ∀ b ∈ bs, 0 ≤ b ∧ b ≤ 1000000) : d_charge [.im (shopD gi us), .im (basD bs)] = .ok (.im (.int (chg gi us bs))) [.no, .no] := by
  have e1 := bas_is h hl hb
  have e2 := r_charge_of (us := us) h hl
  simp [d_charge, f_charge, e1, e2, sEr, op2, op1, T.val, R.opt, toB, opL, vals, consT, disp, mvs, mkTup, callT, callI, argE, others, isAl, isAli, finT, outE, padE, runD, cpsOf, cpT, toI, slT, T.weak, metT, kApp, kExt, elemD, iT, iL, iR1, iR2, iE, iZ, onI]

end DL
namespace DL
open PySem PySem.Spec L2
end DL
namespace DL
open PySem PySem.Spec L2
theorem full_le {t f : Int} {m : Option Int} (ht : 0 ≤ t) (hf : 0 < f) (hm : okM m) : 0 ≤ full t f m ∧ full t f m * f ≤ t := by
  have h0 : 0 ≤ t / f := Int.ediv_nonneg ht (by omega)
  have h1 : t / f * f ≤ t := by
    have := Int.mul_ediv_add_emod t f
    have h2 := Int.emod_nonneg t (by omega : f ≠ 0)
    rw [Int.mul_comm]
    omega
  cases m with
  | none => exact ⟨h0, h1⟩
  | some k =>
    by_cases hk : k < t / f
    · rw [show full t f (some k) = k from if_pos hk]
      exact ⟨by have := hm.1; omega, Int.le_trans (Int.mul_le_mul_of_nonneg_right (by omega) (by omega)) h1⟩
    · rw [show full t f (some k) = t / f from if_neg hk]
      exact ⟨h0, h1⟩
theorem amtBy_pos {u : Option Ru} {price x n : Int} (hu : ∀ r, u = some r → r.ok n) (hp : 0 ≤ price) (hx : 0 ≤ x) : 0 ≤ amtBy price x u := by
  cases u with
  | none => exact Int.mul_nonneg hx hp
  | some r =>
    have ok := hu r rfl
    cases r with
    | pack g s p m =>
      obtain ⟨_, h2, h3, h4⟩ := ok
      obtain ⟨a, b⟩ := full_le (m := m) hx (by omega : 0 < s) h4
      show 0 ≤ packAmt s p price x m
      unfold packAmt
      have e1 : 0 ≤ full x s m * p := Int.mul_nonneg a (by omega)
      have e2 : 0 ≤ (x - full x s m * s) * price := Int.mul_nonneg (by omega) hp
      omega
    | frm g l p => exact Int.mul_nonneg hx (by have := ok.2.2; omega)
    | over f o => exact Int.le_refl _
    | each f o m => exact Int.le_refl _
theorem amts_pos {gi : List (Int × Int)} {us : List Ru} {bs : List Int} (h : Shp gi us) (hl : bs.length = gi.length) (hb : ∀ b ∈ bs, 0 ≤ b) : 0 ≤ (amts gi us bs).sum := by
  have key : ∀ l : List Int, (∀ x ∈ l, 0 ≤ x) → 0 ≤ l.sum := fun l => by
    induction l with
    | nil => exact fun _ => Int.le_refl _
    | cons x l ih =>
      intro h
      rw [List.sum_cons]
      have := h x List.mem_cons_self
      have := ih fun y z => h y (List.mem_cons_of_mem _ z)
      omega
  refine key _ fun x hx => ?_
  obtain ⟨i, hi⟩ := List.getElem?_of_mem hx
  unfold amts at hi
  rw [List.getElem?_mapIdx] at hi
  obtain ⟨b, e1, rfl⟩ := Option.map_eq_some_iff.mp hi
  have hk : i < gi.length := by rw [← hl]; exact (List.getElem?_eq_some_iff.mp e1).1
  have eg := List.getElem?_eq_getElem hk
  unfold amtAt
  refine amtBy_pos (n := gi.length) (fun r hr => ?_) ?_ (hb b (List.mem_of_getElem? e1))
  · unfold fit at hr
    exact (h.ru r (List.mem_of_find?_eq_some hr)).1
  · have := (h.pr _ (List.getElem_mem hk)).1
    simp [eg]
    omega
end DL
namespace DL
open PySem PySem.Spec L2
end DL
namespace DL
open PySem PySem.Spec L2
def need : List Ru → Int
  | [] => 0
  | .over _ _ :: r => need r + 12
  | .each _ _ (some _) :: r => need r + 12
  | .each _ _ none :: r => 2 * need r + 12
  | _ :: r => need r
def grow : List Ru → Int → Int
  | [], g => g
  | .each f o none :: r, g => grow r (g - g / f * o)
  | _ :: r, g => grow r g
theorem need_pos : ∀ us : List Ru, 0 ≤ need us
  | [] => by simp [need]
  | .over _ _ :: r => by have := need_pos r; simp only [need]; omega
  | .each _ _ (some _) :: r => by have := need_pos r; simp only [need]; omega
  | .each _ _ none :: r => by have := need_pos r; simp only [need]; omega
  | .pack _ _ _ _ :: r => by have := need_pos r; simp only [need]; omega
  | .frm _ _ _ :: r => by have := need_pos r; simp only [need]; omega
theorem need_0 : ∀ us : List Ru, (∀ u ∈ us, u.endless = false) → need us ≤ 12 * us.length
  | [], _ => by simp [need]
  | u :: r, h => by
    have ih := need_0 r fun v z => h v (List.mem_cons_of_mem _ z)
    have h0 := h u List.mem_cons_self
    rw [List.length_cons]
    cases u with
    | pack g s p m => simp only [need]; omega
    | frm g l p => simp only [need]; omega
    | over f o => simp only [need]; omega
    | each f o m =>
      cases m with
      | none => exact (Bool.false_ne_true h0.symm).elim
      | some k => simp only [need]; omega
theorem none_rest {u : Ru} {r : List Ru} (h : ((u :: r).filter Ru.endless).length ≤ 1) (e : u.endless = true) : ∀ v ∈ r, v.endless = false := by
  rw [List.filter_cons_of_pos e, List.length_cons] at h
  have h0 : r.filter Ru.endless = [] := List.eq_nil_of_length_eq_zero (by omega)
  intro v hv
  cases q : v.endless with
  | false => rfl
  | true =>
    have : v ∈ r.filter Ru.endless := List.mem_filter.mpr ⟨hv, q⟩
    rw [h0] at this
    cases this
theorem need_1 : ∀ us : List Ru, (us.filter Ru.endless).length ≤ 1 → need us ≤ 24 * us.length
  | [], _ => by simp [need]
  | u :: r, h => by
    rw [List.length_cons]
    cases e : u.endless with
    | true =>
      have h0 := need_0 r (none_rest h e)
      cases u with
      | each f o m =>
        cases m with
        | none => simp only [need]; omega
        | some k => exact (Bool.false_ne_true e).elim
      | pack g s p m => exact (Bool.false_ne_true e).elim
      | frm g l p => exact (Bool.false_ne_true e).elim
      | over f o => exact (Bool.false_ne_true e).elim
    | false =>
      rw [List.filter_cons_of_neg (by simp [e])] at h
      have ih := need_1 r h
      cases u with
      | pack g s p m => simp only [need]; omega
      | frm g l p => simp only [need]; omega
      | over f o => simp only [need]; omega
      | each f o m =>
        cases m with
        | none => exact (Bool.false_ne_true e.symm).elim
        | some k => simp only [need]; omega
end DL
namespace DL
open PySem PySem.Spec L2
theorem r_rounded {w p : Int} (hp : 0 < p ∧ p < 1073741824) : d_rounded_up [.im (.int w), .im (.int p)] = .ok (.im (.int ((w + p - 1) / p))) [.no, .no] := by
  simp [d_rounded_up, f_rounded_up, hp, sEr, op2, op1, T.val, R.opt, toB, opL, vals, consT, disp, mvs, mkTup, callT, callI, argE, others, isAl, isAli, finT, outE, padE, runD, cpsOf, cpT, toI, slT, T.weak, metT, kApp, kExt, elemD, iT, iL, iR1, iR2, iE, iZ, onI]
def sgS : Ru → Int × Int × Int → Int × Int × Int
  | .over f o, s => (if s.1 + o > f then s.1 + o else f, s.2)
  | .each f o (some k), s => (if s.1 + k * o > k * f then s.1 + k * o else k * f, s.2)
  | .each f o none, s => (f * ((s.1 + (f - o) - 1) / (f - o)), f, f - o)
  | _, s => s
def sg (us : List Ru) : Int × Int × Int := us.foldr sgS (0, 1, 1)
def sgL (us : List Ru) (i : Nat) : Int × Int × Int := (us.reverse.take i).foldl (fun s u => sgS u s) (0, 1, 1)
theorem sgL_all (us : List Ru) : sgL us us.length = sg us := by
  unfold sgL sg
  rw [List.take_of_length_le (by simp), List.foldl_reverse]
theorem r_sum_growth {us : List Ru} {n : Int} (h : ∀ u ∈ us, u.ok n) : d_sum_growth [.im (.tup (us.map Ru.d))] = .ok (.im (.tup [.int (sg us).1, .int (sg us).2.1, .int (sg us).2.2])) [.no] := by
  obtain ⟨e, q, v1, v5, v6, v7, v8, rfl⟩ := loop_all (g := gN 1) (f := b_sum_growth_1) (ds := (us.reverse).map Ru.d) (env := [.im (.tup (us.map Ru.d)), .no, .im (.int 0), .im (.int 1), .im (.int 1), .no, .no, .no, .no])
    (I := fun i e => ∃ v1 v5 v6 v7 v8, e = [.im (.tup (us.map Ru.d)), v1, .im (.int (sgL us i).1), .im (.int (sgL us i).2.1), .im (.int (sgL us i).2.2), v5, v6, v7, v8]) ⟨.no, .no, .no, .no, .no, rfl⟩ (by
    rintro i d _ hd ⟨v1, v5, v6, v7, v8, rfl⟩
    obtain ⟨u, hu, rfl⟩ := map_get hd
    have ok := h u (List.mem_reverse.mp (List.mem_of_getElem? hu))
    have e1 : sgL us (i + 1) = sgS u (sgL us i) := by
      unfold sgL
      rw [take_more hu, List.foldl_append]
      rfl
    rw [e1]
    generalize sgL us i = s
    obtain ⟨s1, s2, s3⟩ := s
    cases u with
    | pack g s p m => exact ⟨_, [.im (.tup (us.map Ru.d)), .im (Ru.pack g s p m).d, .im (.int s1), .im (.int s2), .im (.int s3), v5, v6, v7, v8], rfl, .inl (by simp [b_sum_growth_1, b_sum_growth_1_1, Ru.d, dIx, sEr, op2, op1, T.val, R.opt, toB, opL, vals, consT, disp, mvs, mkTup, callT, callI, argE, others, isAl, isAli, finT, outE, padE, runD, cpsOf, cpT, toI, slT, T.weak, metT, kApp, kExt, elemD, iT, iL, iR1, iR2, iE, iZ, onI]), _, _, _, _, _, rfl⟩
    | frm g l p => exact ⟨_, [.im (.tup (us.map Ru.d)), .im (Ru.frm g l p).d, .im (.int s1), .im (.int s2), .im (.int s3), v5, v6, v7, v8], rfl, .inl (by simp [b_sum_growth_1, b_sum_growth_1_1, Ru.d, dIx, sEr, op2, op1, T.val, R.opt, toB, opL, vals, consT, disp, mvs, mkTup, callT, callI, argE, others, isAl, isAli, finT, outE, padE, runD, cpsOf, cpT, toI, slT, T.weak, metT, kApp, kExt, elemD, iT, iL, iR1, iR2, iE, iZ, onI]), _, _, _, _, _, rfl⟩
    | over f o => exact ⟨_, [.im (.tup (us.map Ru.d)), .im (Ru.over f o).d, .im (.int (if s1 + o > f then s1 + o else f)), .im (.int s2), .im (.int s3), .im (.str "over"), .im (.int f), .im (.int o), v8], rfl, .inl (by simp [b_sum_growth_1, b_sum_growth_1_1, Ru.d, dIx, dMax2, sEr, op2, op1, T.val, R.opt, toB, opL, vals, consT, disp, mvs, mkTup, callT, callI, argE, others, isAl, isAli, finT, outE, padE, runD, cpsOf, cpT, toI, slT, T.weak, metT, kApp, kExt, elemD, iT, iL, iR1, iR2, iE, iZ, onI]), _, _, _, _, _, rfl⟩
    | each f o m =>
      cases m with
      | none =>
        have q := r_rounded (w := s1) (p := f - o) (by have := ok.1; have := ok.2.1; have := ok.2.2.2 rfl; omega)
        have b1 : -18446744073709551616 < f ∧ f < 18446744073709551616 := by have := ok.1; omega
        exact ⟨_, [.im (.tup (us.map Ru.d)), .im (Ru.each f o none).d, .im (.int (f * ((s1 + (f - o) - 1) / (f - o)))), .im (.int f), .im (.int (f - o)), .im (.str "each"), .im (.int f), .im (.int o), .im .non], rfl, .inl (by simp [b_sum_growth_1, b_sum_growth_1_1, Ru.d, dIx, oD, q, dMulA, b1, sEr, op2, op1, T.val, R.opt, toB, opL, vals, consT, disp, mvs, mkTup, callT, callI, argE, others, isAl, isAli, finT, outE, padE, runD, cpsOf, cpT, toI, slT, T.weak, metT, kApp, kExt, elemD, iT, iL, iR1, iR2, iE, iZ, onI]), _, _, _, _, _, rfl⟩
      | some k =>
        have hk : 1 ≤ k ∧ k ≤ 2 := ok.2.2.1
        have b1 : -18446744073709551616 < k ∧ k < 18446744073709551616 := by omega
        have b2 : -18446744073709551616 < f ∧ f < 18446744073709551616 := by have := ok.1; omega
        have b3 : -18446744073709551616 < o ∧ o < 18446744073709551616 := by have := ok.1; have := ok.2.1; omega
        exact ⟨_, [.im (.tup (us.map Ru.d)), .im (Ru.each f o (some k)).d, .im (.int (if s1 + k * o > k * f then s1 + k * o else k * f)), .im (.int s2), .im (.int s3), .im (.str "each"), .im (.int f), .im (.int o), .im (.int k)], rfl, .inl (by simp [b_sum_growth_1, b_sum_growth_1_1, Ru.d, dIx, dMax2, oD, dMulA, b1, b2, b3, sEr, op2, op1, T.val, R.opt, toB, opL, vals, consT, disp, mvs, mkTup, callT, callI, argE, others, isAl, isAli, finT, outE, padE, runD, cpsOf, cpT, toI, slT, T.weak, metT, kApp, kExt, elemD, iT, iL, iR1, iR2, iE, iZ, onI]), _, _, _, _, _, rfl⟩)
  rw [List.length_map, List.length_reverse, sgL_all] at q
  have s3 := sFor_of (fi := fiV (eVar 0)) (env := [.im (.tup (us.map Ru.d)), .no, .im (.int 0), .im (.int 1), .im (.int 1), .no, .no, .no, .no]) (e := [.im (.tup (us.map Ru.d)), .no, .im (.int 0), .im (.int 1), .im (.int 1), .no, .no, .no, .no]) (by simp [fiV, iV, List.map_reverse, sEr, op2, op1, T.val, R.opt, toB, opL, vals, consT, disp, mvs, mkTup, callT, callI, argE, others, isAl, isAli, finT, outE, padE, runD, cpsOf, cpT, toI, slT, T.weak, metT, kApp, kExt, elemD, iT, iL, iR1, iR2, iE, iZ, onI]) q
  refine fin4 (rest := [.im (.tup (us.map Ru.d)), v1, .im (.int (sg us).1), .im (.int (sg us).2.1), .im (.int (sg us).2.2), v5, v6, v7, v8]) (m := 0) rfl ?_ _ rfl
  show f_sum_growth [.im (.tup (us.map Ru.d)), .no, .no, .no, .no, .no, .no, .no, .no] = _
  simp [f_sum_growth, f_sum_growth_1, f_sum_growth_2, f_sum_growth_3, s3, sEr, op2, op1, T.val, R.opt, toB, opL, vals, consT, disp, mvs, mkTup, callT, callI, argE, others, isAl, isAli, finT, outE, padE, runD, cpsOf, cpT, toI, slT, T.weak, metT, kApp, kExt, elemD, iT, iL, iR1, iR2, iE, iZ, onI]
def gg (gi : List (Int × Int)) (us : List Ru) (k : Int) : Int × Int × Int := match fit us k 1000000 with
  | some (.frm _ l p) => (l, 1, p)
  | some (.pack _ s p none) => (s, s, p)
  | some (.pack _ s _ (some m)) => (m * s, 1, ((gi[k.toNat]?).getD (0, 0)).1)
  | _ => (0, 1, ((gi[k.toNat]?).getD (0, 0)).1)
abbrev tri (x : Int × Int × Int) : D := .tup [.int x.1, .int x.2.1, .int x.2.2]
theorem r_good_growth {gi : List (Int × Int)} {us : List Ru} (h : Shp gi us) {k : Nat} (hk : k < gi.length) : d_good_growth [.im (shopD gi us), .im (.int k)] = .ok (.im (tri (gg gi us k))) [.no, .no] := by
  have eg := List.getElem?_eq_getElem hk
  have a1 := at_map (f := gd) eg
  have f := r_fitting us k 1000000
  have gz : ((gi[((k : Int)).toNat]?).getD (0, 0)).1 = gi[k].1 := by rw [Int.toNat_natCast, eg]; rfl
  unfold gg
  rw [gz]
  generalize gi[k] = g at a1
  cases hx : fitIx us k 1000000 with
  | none =>
    rw [hx] at f
    simp [oN] at f
    simp [d_good_growth, f_good_growth, f_good_growth_1, f_good_growth_2, f_good_growth_3, f_good_growth_4, dIx, a1, gd, f, fit_none hx, sEr, op2, op1, T.val, R.opt, toB, opL, vals, consT, disp, mvs, mkTup, callT, callI, argE, others, isAl, isAli, finT, outE, padE, runD, cpsOf, cpT, toI, slT, T.weak, metT, kApp, kExt, elemD, iT, iL, iR1, iR2, iE, iZ, onI]
  | some i =>
    rw [hx] at f
    obtain ⟨u, e1, e2, e3⟩ := fit_some hx
    have a2 := at_map (f := Ru.d) e1
    have ok := (h.ru u (List.mem_of_getElem? e1)).1
    simp [oN] at f
    rw [e3]
    cases u with
    | pack g' s p m =>
      obtain ⟨_, h2, h3, h4⟩ := ok
      cases m with
      | none =>
        simp [Ru.d, oD] at a2
        simp [d_good_growth, f_good_growth, f_good_growth_1, f_good_growth_2, f_good_growth_3, f_good_growth_4, f_good_growth_5, f_good_growth_6, f_good_growth_7, f_good_growth_8, dIx, a1, gd, f, a2, oD, Ru.d, sEr, op2, op1, T.val, R.opt, toB, opL, vals, consT, disp, mvs, mkTup, callT, callI, argE, others, isAl, isAli, finT, outE, padE, runD, cpsOf, cpT, toI, slT, T.weak, metT, kApp, kExt, elemD, iT, iL, iR1, iR2, iE, iZ, onI]
      | some q =>
        have h4 : 1 ≤ q ∧ q ≤ 2 := h4
        have b1 : -18446744073709551616 < s ∧ s < 18446744073709551616 := by omega
        simp [Ru.d, oD] at a2
        simp [d_good_growth, f_good_growth, f_good_growth_1, f_good_growth_2, f_good_growth_3, f_good_growth_4, f_good_growth_5, f_good_growth_6, f_good_growth_7, f_good_growth_8, f_good_growth_9, dMulA, b1, dIx, a1, gd, f, a2, oD, Ru.d, sEr, op2, op1, T.val, R.opt, toB, opL, vals, consT, disp, mvs, mkTup, callT, callI, argE, others, isAl, isAli, finT, outE, padE, runD, cpsOf, cpT, toI, slT, T.weak, metT, kApp, kExt, elemD, iT, iL, iR1, iR2, iE, iZ, onI]
    | frm g' l p =>
      simp [Ru.d] at a2
      simp [d_good_growth, f_good_growth, f_good_growth_1, f_good_growth_2, f_good_growth_3, f_good_growth_4, f_good_growth_5, f_good_growth_6, dIx, a1, gd, f, a2, Ru.d, sEr, op2, op1, T.val, R.opt, toB, opL, vals, consT, disp, mvs, mkTup, callT, callI, argE, others, isAl, isAli, finT, outE, padE, runD, cpsOf, cpT, toI, slT, T.weak, metT, kApp, kExt, elemD, iT, iL, iR1, iR2, iE, iZ, onI]
    | over f' o => simp [Ru.fits] at e2
    | each f' o m => simp [Ru.fits] at e2

structure GrB (x : Int × Int × Int) (a b c : Int) : Prop where
  z : 0 ≤ x.1 ∧ x.1 ≤ a
  s : 1 ≤ x.2.1 ∧ x.2.1 ≤ b
  m : 1 ≤ x.2.2 ∧ x.2.2 ≤ c
theorem fit_ok {us : List Ru} {k x n : Int} {u : Ru} (hu : ∀ u ∈ us, u.ok n) (h : fit us k x = some u) : u.ok n ∧ u.fits k x = true := by
  unfold fit at h
  exact ⟨hu u (List.mem_of_find?_eq_some h), by have := List.find?_some h; exact this⟩
theorem gg_b {gi : List (Int × Int)} {us : List Ru} (h : Shp gi us) {k : Nat} (hk : k < gi.length) : GrB (gg gi us k) 6 3 30 := by
  have eg := List.getElem?_eq_getElem hk
  have gz : ((gi[((k : Int)).toNat]?).getD (0, 0)).1 = gi[k].1 := by rw [Int.toNat_natCast, eg]; rfl
  have b := (h.pr _ (List.getElem_mem hk)).1
  unfold gg
  rw [gz]
  cases hf : fit us (k : Int) 1000000 with
  | none => exact ⟨by simp, by simp, by simp; omega⟩
  | some u =>
    have ok := (fit_ok (fun u z => (h.ru u z).1) hf).1
    cases u with
    | pack g s p m =>
      obtain ⟨_, h2, h3, h4⟩ := ok
      cases m with
      | none => exact ⟨by simp; omega, by simp; omega, by simp; omega⟩
      | some q =>
        have h4 : 1 ≤ q ∧ q ≤ 2 := h4
        have : q * s ≤ 2 * 3 := Int.mul_le_mul (by omega) (by omega) (by omega) (by omega)
        have : 0 ≤ q * s := Int.mul_nonneg (by omega) (by omega)
        exact ⟨by simp; omega, by simp, by simp; omega⟩
    | frm g l p =>
      obtain ⟨_, h2, h3⟩ := ok
      exact ⟨by simp; omega, by simp, by simp; omega⟩
    | over f o => exact ⟨by simp, by simp, by simp; omega⟩
    | each f o m => exact ⟨by simp, by simp, by simp; omega⟩
theorem sg_b {n : Int} : ∀ {us : List Ru}, (∀ u ∈ us, u.ok n) → (us.filter Ru.endless).length ≤ 1 → GrB (sg us) (need us) 6 5
  | [], _, _ => ⟨by simp [sg, need], by simp [sg], by simp [sg]⟩
  | u :: r, ok, one => by
    have oku := ok u List.mem_cons_self
    have one' : (r.filter Ru.endless).length ≤ 1 := by
      rw [List.filter_cons] at one
      split at one
      · rw [List.length_cons] at one; omega
      · exact one
    obtain ⟨⟨a1, a2⟩, b, c⟩ := sg_b (fun v z => ok v (List.mem_cons_of_mem _ z)) one'
    have pr := need_pos r
    show GrB (sgS u (sg r)) _ _ _
    generalize sg r = x at a1 a2 b c
    cases u with
    | pack g s p m => exact ⟨⟨a1, a2⟩, b, c⟩
    | frm g l p => exact ⟨⟨a1, a2⟩, b, c⟩
    | over f o =>
      obtain ⟨h1, h2, h3, h4⟩ := oku
      refine ⟨?_, b, c⟩
      simp only [sgS, need]
      split <;> omega
    | each f o m =>
      obtain ⟨h1, h2, h3, h4⟩ := oku
      cases m with
      | none =>
        have h4 := h4 rfl
        refine ⟨?_, ?_, ?_⟩
        · simp only [sgS, need]
          have hq : 0 ≤ (x.1 + (f - o) - 1) / (f - o) := Int.ediv_nonneg (by omega) (by omega)
          have h5 : (x.1 + (f - o) - 1) / (f - o) * (f - o) ≤ x.1 + (f - o) - 1 := Int.ediv_mul_le _ (by omega)
          have h6 : f * ((x.1 + (f - o) - 1) / (f - o)) ≤ (2 * (f - o)) * ((x.1 + (f - o) - 1) / (f - o)) := Int.mul_le_mul_of_nonneg_right (by omega) hq
          have h7 : (2 * (f - o)) * ((x.1 + (f - o) - 1) / (f - o)) = 2 * ((x.1 + (f - o) - 1) / (f - o) * (f - o)) := by rw [Int.mul_assoc, Int.mul_comm (f - o)]
          have h8 := Int.mul_nonneg (show 0 ≤ f by omega) hq
          constructor <;> omega
        · simp only [sgS]; omega
        · simp only [sgS]; omega
      | some k =>
        have hk : 1 ≤ k ∧ k ≤ 2 := h3
        have e1 : k * o ≤ 2 * 6 := Int.mul_le_mul (by omega) (by omega) (by omega) (by omega)
        have e2 : k * f ≤ 2 * 6 := Int.mul_le_mul (by omega) (by omega) (by omega) (by omega)
        have e3 : 0 ≤ k * o := Int.mul_nonneg (by omega) (by omega)
        have e4 : 0 ≤ k * f := Int.mul_nonneg (by omega) (by omega)
        refine ⟨?_, b, c⟩
        simp only [sgS, need]
        split <;> omega
theorem sg_bs {gi : List (Int × Int)} {us : List Ru} (h : Shp gi us) : GrB (sg us) 96 6 5 := by
  have b := sg_b (fun u z => (h.ru u z).1) h.one
  have n1 := need_1 us h.one
  have := h.few
  exact ⟨⟨b.z.1, by have := b.z.2; omega⟩, b.s, b.m⟩
def turnA (gi : List (Int × Int)) (us : List Ru) (k : Int) : List Int := (List.range ((gg gi us k).2.1).toNat).map fun (j : Nat) => amtAt gi us k ((gg gi us k).1 + j)
def leastI : List Int → Int
  | [] => 0
  | n :: ns => ns.foldl min n
def mx (a b : Int) : Int := if b > a then b else a
theorem mx_le {a b : Int} : a ≤ mx a b ∧ b ≤ mx a b ∧ (mx a b = a ∨ mx a b = b) := by
  unfold mx
  split <;> omega
theorem dMax2_mx (a b : Int) : dMax2 [.int a, .int b] = some (.im (.int (mx a b))) := by
  simp only [dMax2, mx]
  try rfl
def settle (gi : List (Int × Int)) (us : List Ru) (k t : Int) : Int := (gg gi us k).1 + (gg gi us k).2.1 * ((mx 0 (t - leastI (turnA gi us k)) + (gg gi us k).2.2 - 1) / (gg gi us k).2.2)
def cyc (gi : List (Int × Int)) (us : List Ru) (k : Int) : Int × Int × Int := (settle gi us k (sg us).1, (gg gi us k).2.1 * (sg us).2.1, (gg gi us k).2.2 * (sg us).2.2)
def intI (f : Int → Int) : D → D
  | .int i => .int (f i)
  | d => d
theorem rng_map (m : Int) (f : Int → Int) : (rngD 0 m).map (intI f) = ((List.range m.toNat).map fun (j : Nat) => f (j : Int)).map D.int := by
  unfold rngD
  rw [List.map_map, List.map_map, Int.sub_zero]
  refine List.map_congr_left fun j _ => ?_
  simp [intI]
theorem dMin1_least {l : List Int} (h : l ≠ []) : dMin1 [.lst (l.map D.int)] = some (.im (.int (leastI l))) := by
  cases l with
  | nil => exact (h rfl).elim
  | cons n ns => exact dMin1_lst n ns
theorem rngD_mem {m : Int} {d : D} (h : d ∈ rngD 0 m) : ∃ j : Nat, d = .int j ∧ (j : Int) < m := by
  unfold rngD at h
  obtain ⟨j, hj, rfl⟩ := List.mem_map.mp h
  rw [List.mem_range] at hj
  exact ⟨j, by simp, by omega⟩
theorem rngD_len (m : Int) : (rngD 0 m).length = m.toNat := by simp [rngD]
theorem r_settled {gi : List (Int × Int)} {us : List Ru} (h : Shp gi us) {k : Nat} (hk : k < gi.length) {t : Int} : d_settled_pieces [.im (shopD gi us), .im (.int k), .im (.int t)] = .ok (.im (.int (settle gi us k t))) [.no, .no, .no] := by
  have q1 := r_good_growth h hk
  obtain ⟨b1, b2, b3⟩ := gg_b h hk
  have e1 : (rngD 0 (gg gi us k).2.1).map (intI fun j => amtAt gi us k ((gg gi us k).1 + j)) = (turnA gi us k).map D.int := by
    rw [rng_map]
    rfl
  have ne : turnA gi us k ≠ [] := by
    unfold turnA
    intro z
    have := congrArg List.length z
    simp at this
    omega
  have m1 := dMin1_least ne
  have c1 : -(2 ^ 62) ≤ (gg gi us k).2.1 ∧ (gg gi us k).2.1 < 2 ^ 62 := by omega
  have q2 := eLc_of (fi := fiR1 (aCons (eVar 5) aNil)) (vs := [7]) (t := .one 7) (ft := tT) (fe := eCall d_good_amount (aCons (eVar 0) (aCons (eVar 1) (aCons (eOp dAdd (eVar 4) (eVar 7)) aNil)))) (env := [.im (shopD gi us), .im (.int k), .im (.int t), .no, .im (.int (gg gi us k).1), .im (.int (gg gi us k).2.1), .im (.int (gg gi us k).2.2), .no]) (k := ⟨rngD 0 (gg gi us k).2.1, none⟩) (e := [.im (shopD gi us), .im (.int k), .im (.int t), .no, .im (.int (gg gi us k).1), .im (.int (gg gi us k).2.1), .im (.int (gg gi us k).2.2), .no])
    (by generalize gg gi us k = x at c1
        show (if _ then R.ok _ _ else R.er) = _
        rw [if_pos c1])
    (lc_map (k := ⟨rngD 0 (gg gi us k).2.1, none⟩) (vs := [7]) (t := .one 7) (h := intI fun j => amtAt gi us k ((gg gi us k).1 + j)) (env := [.im (shopD gi us), .im (.int k), .im (.int t), .no, .im (.int (gg gi us k).1), .im (.int (gg gi us k).2.1), .im (.int (gg gi us k).2.2), .no]) trivial (rngD 0 (gg gi us k).2.1) [] (small_size (by rw [rngD_len]; show 0 + _ ≤ 1000; omega)) fun d z => by
      obtain ⟨j, rfl, hj⟩ := rngD_mem z
      have := amt_good (x := (gg gi us k).1 + j) h hk
      generalize gg gi us k = x at this
      refine ⟨[.im (shopD gi us), .im (.int k), .im (.int t), .no, .im (.int x.1), .im (.int x.2.1), .im (.int x.2.2), .im (.int j)], .im (.int (amtAt gi us k (x.1 + j))), [.im (shopD gi us), .im (.int k), .im (.int t), .no, .im (.int x.1), .im (.int x.2.1), .im (.int x.2.2), .im (.int j)], rfl, ?_, rfl, rfl⟩
      simp [this, sEr, op2, op1, T.val, R.opt, toB, opL, vals, consT, disp, mvs, mkTup, callT, callI, argE, others, isAl, isAli, finT, outE, padE, runD, cpsOf, cpT, toI, slT, T.weak, metT, kApp, kExt, elemD, iT, iL, iR1, iR2, iE, iZ, onI])
  rw [e1] at q2
  have q3 := r_rounded (w := mx 0 (t - leastI (turnA gi us k))) (p := (gg gi us k).2.2) (by omega)
  have c2 : -18446744073709551616 < (gg gi us k).2.1 ∧ (gg gi us k).2.1 < 18446744073709551616 := by omega
  unfold settle
  generalize leastI (turnA gi us k) = l at m1 q3
  generalize turnA gi us k = tu at m1 q2
  generalize gg gi us k = x at q1 q2 q3 c2
  refine fin4 (rest := [.im (shopD gi us), .im (.int k), .im (.int t), .im (.int l), .im (.int x.1), .im (.int x.2.1), .im (.int x.2.2), .no]) (m := 0) rfl ?_ _ rfl
  show f_settled_pieces [.im (shopD gi us), .im (.int k), .im (.int t), .no, .no, .no, .no, .no] = _
  simp [f_settled_pieces, f_settled_pieces_1, f_settled_pieces_2, f_settled_pieces_3, q1, q2, q3, m1, -dMax2, dMax2_mx, dMulA, c2, sEr, op2, op1, T.val, R.opt, toB, opL, vals, consT, disp, mvs, mkTup, callT, callI, argE, others, isAl, isAli, finT, outE, padE, runD, cpsOf, cpT, toI, slT, T.weak, metT, kApp, kExt, elemD, iT, iL, iR1, iR2, iE, iZ, onI]
theorem r_cycle {gi : List (Int × Int)} {us : List Ru} (h : Shp gi us) {k : Nat} (hk : k < gi.length) : d_cycle [.im (shopD gi us), .im (.int k)] = .ok (.im (tri (cyc gi us k))) [.no, .no] := by
  have q1 := r_good_growth h hk
  have q2 := r_sum_growth (us := us) (n := gi.length) (fun u z => (h.ru u z).1)
  have q3 := r_settled h hk (t := (sg us).1)
  obtain ⟨b1, b2, b3⟩ := gg_b h hk
  have c1 : -18446744073709551616 < (gg gi us k).2.1 ∧ (gg gi us k).2.1 < 18446744073709551616 := by omega
  have c2 : -18446744073709551616 < (gg gi us k).2.2 ∧ (gg gi us k).2.2 < 18446744073709551616 := by omega
  unfold cyc
  generalize settle gi us k (sg us).1 = l at q3
  generalize gg gi us k = x at q1 c1 c2
  generalize sg us = y at q2 q3
  simp [d_cycle, f_cycle, f_cycle_1, f_cycle_2, f_cycle_3, dIx, q1, q2, q3, dMulA, c1, c2, sEr, op2, op1, T.val, R.opt, toB, opL, vals, consT, disp, mvs, mkTup, callT, callI, argE, others, isAl, isAli, finT, outE, padE, runD, cpsOf, cpT, toI, slT, T.weak, metT, kApp, kExt, elemD, iT, iL, iR1, iR2, iE, iZ, onI]

end DL
namespace DL
open PySem PySem.Spec L2
theorem seq_of {f g : FS} {e e1 : En} {x : Fl} (h : f e = .nx e1) (k : g e1 = x) : sSeq f g e = x := by
  rw [sSeq_s, h, seq_nx]
  exact k

end DL
namespace DL
open PySem PySem.Spec L2
def cycL (gi : List (Int × Int)) (us : List Ru) : List (Int × Int × Int) := (List.range gi.length).map fun (k : Nat) => cyc gi us k
theorem cycL_len (gi : List (Int × Int)) (us : List Ru) : (cycL gi us).length = gi.length := by simp [cycL]
def cycI (gi : List (Int × Int)) (us : List Ru) : D → D
  | .int i => tri (cyc gi us i)
  | d => d
theorem r1_of {fa : FA} {env e : En} {ts : List T} {n : Int} (h : fa env = .ok ts e) (hv : vals e ts = some [.int n]) (hn : -1000 ≤ n ∧ n ≤ 1000000) : fiR1 fa env = .ok ⟨rngD 0 n, none⟩ e := by
  show (fa env).bind iR1 = _
  rw [h]
  show iR1 ts e = _
  unfold iR1
  rw [hv]
  dsimp only
  rw [if_pos ⟨by omega, by omega⟩]
theorem cy_fi (gz : List D) (rz : D) : aCons (eB dLen (aCons (eOp dIx (eVar 0) (eC (.int 0))) aNil)) aNil [.im (.tup [.tup gz, rz]), .no] = .ok [.im (.int gz.length)] [.im (.tup [.tup gz, rz]), .no] := by
  simp [dIx, sEr, op2, op1, T.val, R.opt, toB, opL, vals, consT, disp, mvs, mkTup, callT, callI, argE, others, isAl, isAli, finT, outE, padE, runD, cpsOf, cpT, toI, slT, T.weak, metT, kApp, kExt, elemD, iT, iL, iR1, iR2, iE, iZ, onI]
theorem cy_el (sh : D) (k : Int) (x : D) (q : d_cycle [.im sh, .im (.int k)] = .ok (.im x) [.no, .no]) : eCall d_cycle (aCons (eVar 0) (aCons (eVar 1) aNil)) [.im sh, .im (.int k)] = .ok (.im x) [.im sh, .im (.int k)] := by
  simp [q, sEr, op2, op1, T.val, R.opt, toB, opL, vals, consT, disp, mvs, mkTup, callT, callI, argE, others, isAl, isAli, finT, outE, padE, runD, cpsOf, cpT, toI, slT, T.weak, metT, kApp, kExt, elemD, iT, iL, iR1, iR2, iE, iZ, onI]
theorem cy_end (sh : D) (z : List D) (q : eLc (fiR1 (aCons (eB dLen (aCons (eOp dIx (eVar 0) (eC (.int 0))) aNil)) aNil)) [1] (.one 1) tT (eCall d_cycle (aCons (eVar 0) (aCons (eVar 1) aNil))) [.im sh, .no] = .ok (.fr z) [.im sh, .no]) : f_cycles [.im sh, .no] = .rt (.fr z) [.im sh, .no] := by
  simp [f_cycles, q, sEr, op2, op1, T.val, R.opt, toB, opL, vals, consT, disp, mvs, mkTup, callT, callI, argE, others, isAl, isAli, finT, outE, padE, runD, cpsOf, cpT, toI, slT, T.weak, metT, kApp, kExt, elemD, iT, iL, iR1, iR2, iE, iZ, onI]
theorem r_cycles {gi : List (Int × Int)} {us : List Ru} (h : Shp gi us) : d_cycles [.im (shopD gi us)] = .ok (.fr ((cycL gi us).map tri)) [.no] := by
  have h2 := h.len.2
  have e1 : (rngD 0 (gi.length : Int)).map (cycI gi us) = (cycL gi us).map tri := by
    unfold rngD cycL
    rw [List.map_map, List.map_map, Int.sub_zero, Int.toNat_natCast]
    refine List.map_congr_left fun j _ => ?_
    simp [cycI]
  have hl : (((gi.map gd).length : Nat) : Int) = (gi.length : Int) := by rw [List.length_map]
  have q := eLc_of (fi := fiR1 (aCons (eB dLen (aCons (eOp dIx (eVar 0) (eC (.int 0))) aNil)) aNil)) (vs := [1]) (t := .one 1) (ft := tT) (fe := eCall d_cycle (aCons (eVar 0) (aCons (eVar 1) aNil))) (env := [.im (shopD gi us), .no]) (k := ⟨rngD 0 (gi.length : Int), none⟩) (e := [.im (shopD gi us), .no])
    (r1_of (cy_fi (gi.map gd) (.tup (us.map Ru.d))) (by rw [hl]; rfl) (by omega))
    (lc_map (k := ⟨rngD 0 (gi.length : Int), none⟩) (vs := [1]) (t := .one 1) (h := cycI gi us) (env := [.im (shopD gi us), .no]) trivial (rngD 0 (gi.length : Int)) [] (small_size (by rw [rngD_len]; show 0 + _ ≤ 1000; omega)) fun d z => by
      obtain ⟨j, rfl, hj⟩ := rngD_mem z
      exact ⟨[.im (shopD gi us), .im (.int j)], .im (tri (cyc gi us j)), [.im (shopD gi us), .im (.int j)], rfl, cy_el _ _ _ (r_cycle h (k := j) (by omega)), rfl, rfl⟩)
  rw [e1, List.nil_append] at q
  refine fin5 (rest := [.im (shopD gi us), .no]) rfl ?_ rfl _ rfl
  show f_cycles [.im (shopD gi us), .no] = _
  exact cy_end _ _ q
def hiB (a p : Int) : Int := (if a < p then a else p) + 1
def bOf (p : Int) : List Int → List (List Int)
  | [l] => if p ≤ l then [[p]] else []
  | [a, b] => (List.range (hiB a p - mx 0 (p - b)).toNat).map fun (j : Nat) => [mx 0 (p - b) + j, p - (mx 0 (p - b) + j)]
  | _ => []
def limOk (X : D) (ls : List Int) : Prop := (X = .tup (ls.map .int) ∨ X = .lst (ls.map .int)) ∧ (1 ≤ ls.length ∧ ls.length ≤ 2) ∧ ∀ l ∈ ls, 0 ≤ l ∧ l ≤ 650
theorem bq1 (p l : Int) (X : D) (hX : X = .tup [.int l] ∨ X = .lst [.int l]) : d_baskets_of [.im (.int p), .im X] = .ok (.fr ((bOf p [l]).map basD)) [.no, .no] := by
  unfold bOf
  rcases hX with rfl | rfl
  · by_cases h : p ≤ l
    · simp [d_baskets_of, f_baskets_of, f_baskets_of_1, dIx, h, sEr, op2, op1, T.val, R.opt, toB, opL, vals, consT, disp, mvs, mkTup, callT, callI, argE, others, isAl, isAli, finT, outE, padE, runD, cpsOf, cpT, toI, slT, T.weak, metT, kApp, kExt, elemD, iT, iL, iR1, iR2, iE, iZ, onI]
    · simp [d_baskets_of, f_baskets_of, f_baskets_of_1, dIx, h, sEr, op2, op1, T.val, R.opt, toB, opL, vals, consT, disp, mvs, mkTup, callT, callI, argE, others, isAl, isAli, finT, outE, padE, runD, cpsOf, cpT, toI, slT, T.weak, metT, kApp, kExt, elemD, iT, iL, iR1, iR2, iE, iZ, onI]
  · by_cases h : p ≤ l
    · simp [d_baskets_of, f_baskets_of, f_baskets_of_1, dIx, h, sEr, op2, op1, T.val, R.opt, toB, opL, vals, consT, disp, mvs, mkTup, callT, callI, argE, others, isAl, isAli, finT, outE, padE, runD, cpsOf, cpT, toI, slT, T.weak, metT, kApp, kExt, elemD, iT, iL, iR1, iR2, iE, iZ, onI]
    · simp [d_baskets_of, f_baskets_of, f_baskets_of_1, dIx, h, sEr, op2, op1, T.val, R.opt, toB, opL, vals, consT, disp, mvs, mkTup, callT, callI, argE, others, isAl, isAli, finT, outE, padE, runD, cpsOf, cpT, toI, slT, T.weak, metT, kApp, kExt, elemD, iT, iL, iR1, iR2, iE, iZ, onI]
theorem rngD_is (a b : Int) : rngD a b = ((List.range (b - a).toNat).map fun (j : Nat) => a + (j : Int)).map D.int := by
  unfold rngD
  rw [List.map_map]
  rfl
def splitI (p : Int) : D → D
  | .int c => .tup [.int c, .int (p - c)]
  | d => d
theorem bq2_el (p c : Int) (a b d e : Sl) : eTup (aCons (eVar 5) (aCons (eOp dSub (eVar 0) (eVar 5)) aNil)) [.im (.int p), a, b, d, e, .im (.int c)] = .ok (.im (.tup [.int c, .int (p - c)])) [.im (.int p), a, b, d, e, .im (.int c)] := by
  simp [sEr, op2, op1, T.val, R.opt, toB, opL, vals, consT, disp, mvs, mkTup, callT, callI, argE, others, isAl, isAli, finT, outE, padE, runD, cpsOf, cpT, toI, slT, T.weak, metT, kApp, kExt, elemD, iT, iL, iR1, iR2, iE, iZ, onI]
theorem bq2_1 (p a b : Int) (X : D) (hX : X = .tup [.int a, .int b] ∨ X = .lst [.int a, .int b]) : f_baskets_of_1 [.im (.int p), .im X, .no, .no, .no, .no] = .nx [.im (.int p), .im X, .no, .no, .no, .no] := by
  rcases hX with rfl | rfl <;> simp [f_baskets_of_1, sEr, op2, op1, T.val, R.opt, toB, opL, vals, consT, disp, mvs, mkTup, callT, callI, argE, others, isAl, isAli, finT, outE, padE, runD, cpsOf, cpT, toI, slT, T.weak, metT, kApp, kExt, elemD, iT, iL, iR1, iR2, iE, iZ, onI]
theorem bq2_2 (p a b : Int) (X : D) (hX : X = .tup [.int a, .int b] ∨ X = .lst [.int a, .int b]) : f_baskets_of_2 [.im (.int p), .im X, .no, .no, .no, .no] = .nx [.im (.int p), .im X, .no, .im (.int a), .im (.int b), .no] := by
  rcases hX with rfl | rfl <;> simp [f_baskets_of_2, sEr, op2, op1, T.val, R.opt, toB, opL, vals, consT, disp, mvs, mkTup, callT, callI, argE, others, isAl, isAli, finT, outE, padE, runD, cpsOf, cpT, toI, slT, T.weak, metT, kApp, kExt, elemD, iT, iL, iR1, iR2, iE, iZ, onI]
theorem bq2_3 (p a b : Int) (x : Sl) : (aCons (eB dMax2 (aCons (eC (.int 0)) (aCons (eOp dSub (eVar 0) (eVar 4)) aNil))) (aCons (eOp dAdd (eB dMin2 (aCons (eVar 0) (aCons (eVar 3) aNil))) (eC (.int 1))) aNil)) [.im (.int p), x, .no, .im (.int a), .im (.int b), .no] = .ok [.im (.int (mx 0 (p - b))), .im (.int (hiB a p))] [.im (.int p), x, .no, .im (.int a), .im (.int b), .no] := by
  simp [-dMax2, dMax2_mx, hiB, sEr, op2, op1, T.val, R.opt, toB, opL, vals, consT, disp, mvs, mkTup, callT, callI, argE, others, isAl, isAli, finT, outE, padE, runD, cpsOf, cpT, toI, slT, T.weak, metT, kApp, kExt, elemD, iT, iL, iR1, iR2, iE, iZ, onI]
theorem bq2 (p a b : Int) (X : D) (hX : X = .tup [.int a, .int b] ∨ X = .lst [.int a, .int b]) (hp : 0 ≤ p ∧ p ≤ 2000) (ha : 0 ≤ a ∧ a ≤ 650) (hb : 0 ≤ b ∧ b ≤ 650) : d_baskets_of [.im (.int p), .im X] = .ok (.fr ((bOf p [a, b]).map basD)) [.no, .no] := by
  obtain ⟨lo, elo⟩ : ∃ lo, lo = mx 0 (p - b) := ⟨_, rfl⟩
  obtain ⟨hi, ehi⟩ : ∃ hi, hi = hiB a p := ⟨_, rfl⟩
  have blo : 0 ≤ lo ∧ lo ≤ 2000 := by have := mx_le (a := 0) (b := p - b); omega
  have bhi : 0 ≤ hi ∧ hi ≤ 1000 := by rw [ehi]; unfold hiB; split <;> omega
  have q3 := bq2_3 p a b (.im X)
  rw [← elo, ← ehi] at q3
  have em : (rngD lo hi).map (splitI p) = (bOf p [a, b]).map basD := by
    rw [rngD_is, List.map_map]
    simp only [bOf]
    rw [← elo, ← ehi, List.map_map, List.map_map]
    rfl
  have ql := eLc_of (fi := fun e => .ok ⟨rngD lo hi, none⟩ e) (vs := [5]) (t := .one 5) (ft := tT) (fe := eTup (aCons (eVar 5) (aCons (eOp dSub (eVar 0) (eVar 5)) aNil))) (env := [.im (.int p), .im X, .no, .im (.int a), .im (.int b), .no]) (k := ⟨rngD lo hi, none⟩) (e := [.im (.int p), .im X, .no, .im (.int a), .im (.int b), .no]) rfl
    (lc_map (k := ⟨rngD lo hi, none⟩) (vs := [5]) (t := .one 5) (h := splitI p) (env := [.im (.int p), .im X, .no, .im (.int a), .im (.int b), .no]) trivial (rngD lo hi) [] (small_size (by rw [rngD_is, List.length_map, List.length_map, List.length_range]; show 0 + _ ≤ 1000; omega)) fun d z => by
      rw [rngD_is] at z
      obtain ⟨c, _, rfl⟩ := List.mem_map.mp z
      exact ⟨[.im (.int p), .im X, .no, .im (.int a), .im (.int b), .im (.int c)], .im (.tup [.int c, .int (p - c)]), _, rfl, bq2_el p c _ _ _ _, rfl, rfl⟩)
  rw [em, List.nil_append] at ql
  have q4 : f_baskets_of_3 [.im (.int p), .im X, .no, .im (.int a), .im (.int b), .no] = .rt (.fr ((bOf p [a, b]).map basD)) [.im (.int p), .im X, .no, .im (.int a), .im (.int b), .no] := by
    unfold f_baskets_of_3 sRngC
    rw [q3]
    show (if (-(2 ^ 62) ≤ lo ∧ lo < 2 ^ 62 ∧ -(2 ^ 62) ≤ hi ∧ hi < 2 ^ 62) ∧ 2 < 6 then (eLc (fun e => .ok ⟨rngD lo hi, none⟩ e) [5] (.one 5) tT (eTup (aCons (eVar 5) (aCons (eOp dSub (eVar 0) (eVar 5)) aNil))) [.im (.int p), .im X, .no, .im (.int a), .im (.int b), .no]).bindF fun t e => .rt t e else .er) = _
    rw [if_pos ⟨by omega, by omega⟩, ql]
    rfl
  refine fin5 (rest := [.im (.int p), .im X, .no, .im (.int a), .im (.int b), .no]) rfl ?_ rfl _ rfl
  show f_baskets_of [.im (.int p), .im X, .no, .no, .no, .no] = _
  unfold f_baskets_of
  exact seq_of (bq2_1 p a b X hX) (seq_of (bq2_2 p a b X hX) q4)
theorem r_baskets_of {X : D} {ls : List Int} (h : limOk X ls) {p : Int} (hp : 0 ≤ p ∧ p ≤ 2000) : d_baskets_of [.im (.int p), .im X] = .ok (.fr ((bOf p ls).map basD)) [.no, .no] := by
  obtain ⟨h1, h2, h3⟩ := h
  rcases ls with _ | ⟨a, _ | ⟨b, _ | ⟨c, ls⟩⟩⟩
  · simp at h2
  · exact bq1 p a X h1
  · exact bq2 p a b X h1 hp (h3 a (by simp)) (h3 b (by simp))
  · simp at h2
theorem cp_flat {β : Type} {k : Wk} {vs : List Nat} {t : CT} {body : List β → En → R (List β)} {g : D → List β} {P : List β → Prop} {env : En} (ok : k.ok env) (hP : ∀ a b, P (a ++ b) → P a) : ∀ (ds : List D) (acc : List β), P (acc ++ ds.flatMap g) →
    (∀ d ∈ ds, ∀ acc, P (acc ++ g d) → ∃ e1 e3, envT t d env = some e1 ∧ body acc e1 = .ok (acc ++ g d) e3 ∧ wipeE e3 vs = env) → cpL k vs t tT body ds acc env = .ok (acc ++ ds.flatMap g) env
  | [], acc, _, _ => by
    unfold cpL
    rw [if_pos ok, List.flatMap_nil, List.append_nil]
  | d :: ds, acc, hp, hd => by
    rw [List.flatMap_cons, ← List.append_assoc] at hp
    obtain ⟨e1, e3, q1, q2, q3⟩ := hd d List.mem_cons_self acc (hP _ _ hp)
    unfold cpL
    rw [if_pos ok, q1]
    simp only [tT_s, q2, q3]
    rw [cp_flat ok hP ds (acc ++ g d) hp fun x z => hd x (List.mem_cons_of_mem _ z), List.flatMap_cons, List.append_assoc]
theorem bodyL_one {fe : FE} {acc : List D} {e e1 : En} {u : T} {y : D} (hl : acc.length < 1000000) (h : fe e = .ok u e1) (hu : u.weak = .im y) : bodyL fe acc e = .ok (acc ++ [y]) e1 := by
  unfold bodyL
  rw [if_pos hl, h]
  simp only [hu]
theorem size_box {ls : List Int} (h : ∀ l ∈ ls, 0 ≤ l ∧ l ≤ 650) (hl : ls.length ≤ 2) : 0 ≤ ls.sum ∧ ls.sum ≤ 1300 := by
  rcases ls with _ | ⟨a, _ | ⟨b, _ | ⟨c, ls⟩⟩⟩
  · simp
  · have := h a (by simp); simp; omega
  · have := h a (by simp); have := h b (by simp); simp; omega
  · simp at hl
def basketsIn (ls : List Int) : List (List Int) := (List.range (ls.sum + 1).toNat).flatMap fun (p : Nat) => bOf p ls
theorem mx_0 (a : Int) : 0 ≤ mx 0 a ∧ a ≤ mx 0 a ∧ (0 ≤ a → mx 0 a = a) ∧ (a ≤ 0 → mx 0 a = 0) := by
  unfold mx
  split <;> omega
theorem hiB_is (a p : Int) : hiB a p ≤ a + 1 ∧ hiB a p ≤ p + 1 ∧ (hiB a p = a + 1 ∨ hiB a p = p + 1) := by
  unfold hiB
  split <;> omega
def inB : List Int → List Int → Prop
  | [], [] => True
  | b :: bs, l :: ls => (0 ≤ b ∧ b ≤ l) ∧ inB bs ls
  | _, _ => False
theorem inB_len : ∀ {bs ls : List Int}, inB bs ls → bs.length = ls.length
  | [], [], _ => rfl
  | b :: bs, l :: ls, h => by rw [List.length_cons, List.length_cons, inB_len h.2]
  | [], _ :: _, h => h.elim
  | _ :: _, [], h => h.elim
theorem inB_pos : ∀ {bs ls : List Int}, inB bs ls → ∀ b ∈ bs, 0 ≤ b
  | b :: bs, l :: ls, h, x, hx => by
    rcases List.mem_cons.mp hx with rfl | hx
    · exact h.1.1
    · exact inB_pos h.2 x hx
  | [], _, _, x, hx => by cases hx
  | _ :: _, [], h, _, _ => h.elim
theorem mem_bOf {ls bs : List Int} {p : Int} (h : 1 ≤ ls.length ∧ ls.length ≤ 2) (hp : 0 ≤ p) : bs ∈ bOf p ls ↔ inB bs ls ∧ bs.sum = p := by
  rcases ls with _ | ⟨a, _ | ⟨b, _ | ⟨c, ls⟩⟩⟩
  · simp at h
  · unfold bOf
    rcases bs with _ | ⟨x, _ | ⟨y, bs⟩⟩
    · by_cases e : p ≤ a <;> simp [e, inB]
    · by_cases e : p ≤ a
      · simp [e, inB]; omega
      · simp [e, inB]; omega
    · by_cases e : p ≤ a <;> simp [e, inB]
  · simp only [bOf, List.mem_map, List.mem_range]
    obtain ⟨m1, m2, m3, m4⟩ := mx_0 (p - b)
    obtain ⟨h1, h2, h3⟩ := hiB_is a p
    generalize mx 0 (p - b) = lo at m1 m2 m3 m4
    generalize hiB a p = hi at h1 h2 h3
    constructor
    · rintro ⟨j, hj, rfl⟩
      simp [inB]
      omega
    · rintro ⟨h4, h5⟩
      rcases bs with _ | ⟨x, _ | ⟨y, _ | ⟨z, bs⟩⟩⟩
      · exact h4.elim
      · exact h4.2.elim
      · simp [inB] at h4 h5
        refine ⟨(x - lo).toNat, by omega, ?_⟩
        congr 1
        · omega
        · congr 1
          omega
      · exact h4.2.2.elim
  · simp at h
theorem mem_in {ls bs : List Int} (h : 1 ≤ ls.length ∧ ls.length ≤ 2) : bs ∈ basketsIn ls ↔ inB bs ls := by
  have sle : ∀ {bs ls : List Int}, inB bs ls → 0 ≤ bs.sum ∧ bs.sum ≤ ls.sum := fun {bs} => by
    induction bs with
    | nil => intro ls h; cases ls with
      | nil => exact ⟨Int.le_refl _, Int.le_refl _⟩
      | cons _ _ => exact h.elim
    | cons b bs ih => intro ls h; cases ls with
      | nil => exact h.elim
      | cons l ls =>
        have := ih h.2
        have := h.1
        rw [List.sum_cons, List.sum_cons]
        omega
  unfold basketsIn
  rw [List.mem_flatMap]
  constructor
  · rintro ⟨p, hp, hb⟩
    exact ((mem_bOf h (by omega)).mp hb).1
  · intro hb
    have := sle hb
    refine ⟨bs.sum.toNat, by rw [List.mem_range]; omega, ?_⟩
    rw [show ((bs.sum.toNat : Nat) : Int) = bs.sum by omega]
    exact (mem_bOf h (by omega)).mpr ⟨hb, rfl⟩
def lexS (acc : List (List Int)) (l : Int) : List (List Int) := acc.flatMap fun b => (List.range (l + 1).toNat).map fun (j : Nat) => b ++ [(j : Int)]
def lexB (ls : List Int) : List (List Int) := ls.foldl lexS [[]]
theorem mem_lexB {ls bs : List Int} (h : ls.length ≤ 2) : bs ∈ lexB ls ↔ inB bs ls := by
  rcases ls with _ | ⟨a, _ | ⟨b, _ | ⟨c, ls⟩⟩⟩
  · cases bs <;> simp [lexB, inB]
  · simp only [lexB, List.foldl_cons, List.foldl_nil, lexS, List.flatMap_cons, List.flatMap_nil, List.append_nil, List.nil_append, List.mem_map, List.mem_range]
    constructor
    · rintro ⟨j, hj, rfl⟩
      simp [inB]
      omega
    · intro q
      rcases bs with _ | ⟨x, _ | ⟨y, bs⟩⟩
      · exact q.elim
      · simp [inB] at q
        exact ⟨x.toNat, by omega, by simp; omega⟩
      · exact q.2.elim
  · simp only [lexB, List.foldl_cons, List.foldl_nil, lexS, List.flatMap_cons, List.flatMap_nil, List.append_nil, List.nil_append, List.mem_flatMap, List.mem_map, List.mem_range]
    constructor
    · rintro ⟨_, ⟨j, hj, rfl⟩, i, hi, rfl⟩
      simp [inB]
      omega
    · intro q
      rcases bs with _ | ⟨x, _ | ⟨y, _ | ⟨z, bs⟩⟩⟩
      · exact q.elim
      · exact q.2.elim
      · simp [inB] at q
        exact ⟨[x], ⟨x.toNat, by omega, by simp; omega⟩, y.toNat, by omega, by simp; omega⟩
      · exact q.2.2.elim
  · simp at h
theorem nodup_map {α β : Type} {f : α → β} (hf : ∀ a b, f a = f b → a = b) : ∀ {l : List α}, l.Nodup → (l.map f).Nodup
  | [], _ => List.nodup_nil
  | a :: l, h => by
    rw [List.nodup_cons] at h
    rw [List.map_cons, List.nodup_cons]
    refine ⟨fun z => ?_, nodup_map hf h.2⟩
    obtain ⟨b, hb, e⟩ := List.mem_map.mp z
    exact h.1 (hf _ _ e ▸ hb)
theorem lexS_nodup {l : Int} : ∀ {acc : List (List Int)}, acc.Nodup → (lexS acc l).Nodup
  | [], _ => List.nodup_nil
  | b :: acc, h => by
    rw [List.nodup_cons] at h
    have ih := lexS_nodup (l := l) h.2
    unfold lexS at ih ⊢
    rw [List.flatMap_cons, List.nodup_append]
    refine ⟨nodup_map (fun i j e => ?_) List.nodup_range, ih, fun x hx y hy e => ?_⟩
    · have := List.append_cancel_left e
      have : (i : Int) = j := by simpa using this
      omega
    · subst e
      obtain ⟨i, _, rfl⟩ := List.mem_map.mp hx
      obtain ⟨b', hb', h'⟩ := List.mem_flatMap.mp hy
      obtain ⟨j, _, e⟩ := List.mem_map.mp h'
      have : b' = b := (List.append_inj' e rfl).1
      exact h.1 (this ▸ hb')
theorem lexS_len {l : Int} : ∀ (acc : List (List Int)), (lexS acc l).length = acc.length * (l + 1).toNat
  | [] => by simp [lexS]
  | b :: acc => by
    have ih := lexS_len (l := l) acc
    unfold lexS at ih ⊢
    rw [List.flatMap_cons, List.length_append, ih, List.length_map, List.length_range, List.length_cons, Nat.add_mul, Nat.one_mul, Nat.add_comm]
theorem lexB_take {ls : List Int} {i : Nat} {l : Int} (h : ls[i]? = some l) : lexB (ls.take (i + 1)) = lexS (lexB (ls.take i)) l := by
  unfold lexB
  rw [List.take_add_one, h, List.foldl_append]
  rfl
theorem lexB_ok {ls : List Int} (h : ∀ l ∈ ls, 0 ≤ l ∧ l ≤ 650) (h2 : ls.length ≤ 2) (i : Nat) : (lexB (ls.take i)).Nodup ∧ (lexB (ls.take i)).length ≤ 1000000 := by
  have hl : (ls.take i).length ≤ 2 := by rw [List.length_take]; omega
  have hm : ∀ l ∈ ls.take i, 0 ≤ l ∧ l ≤ 650 := fun l z => h l (List.mem_of_mem_take z)
  generalize ls.take i = ks at hl hm
  rcases ks with _ | ⟨a, _ | ⟨b, _ | ⟨c, ks⟩⟩⟩
  · simp [lexB]
  · have := hm a (by simp)
    refine ⟨lexS_nodup (by simp), ?_⟩
    show (lexS [[]] a).length ≤ _
    rw [lexS_len]
    simp
    omega
  · have := hm a (by simp)
    have := hm b (by simp)
    refine ⟨lexS_nodup (lexS_nodup (by simp)), ?_⟩
    show (lexS (lexS [[]] a) b).length ≤ _
    rw [lexS_len, lexS_len, List.length_singleton, Nat.one_mul]
    have : (a + 1).toNat * (b + 1).toNat ≤ 651 * 651 := Nat.mul_le_mul (by omega) (by omega)
    omega
  · simp at hl
theorem flat_len {α β : Type} {f : α → List β} {m : Nat} : ∀ {l : List α}, (∀ a ∈ l, (f a).length ≤ m) → (l.flatMap f).length ≤ l.length * m
  | [], _ => by simp
  | a :: l, h => by
    have ih := flat_len fun x z => h x (List.mem_cons_of_mem _ z)
    have := h a List.mem_cons_self
    rw [List.flatMap_cons, List.length_append, List.length_cons, Nat.add_mul, Nat.one_mul]
    omega
theorem bOf_len {ls : List Int} {p : Int} (h : ∀ l ∈ ls, 0 ≤ l ∧ l ≤ 650) : (bOf p ls).length ≤ 651 := by
  unfold bOf
  split
  · split <;> simp
  · rename_i a b
    rw [List.length_map, List.length_range]
    have := h a (by simp)
    have := hiB_is a p
    have := mx_0 (p - b)
    omega
  · simp
theorem basketsIn_len {ls : List Int} (h : ∀ l ∈ ls, 0 ≤ l ∧ l ≤ 650) (h2 : ls.length ≤ 2) : (basketsIn ls).length ≤ 1000000 := by
  unfold basketsIn
  have := size_box h h2
  refine Nat.le_trans (flat_len (m := 651) fun p _ => bOf_len h) ?_
  rw [List.length_range]
  have : (ls.sum + 1).toNat * 651 ≤ 1301 * 651 := Nat.mul_le_mul (by omega) (Nat.le_refl _)
  omega
theorem sumX {X : D} {ls : List Int} (h : X = .tup (ls.map .int) ∨ X = .lst (ls.map .int)) : dSum [X] = some (.im (.int ls.sum)) := by
  rcases h with rfl | rfl
  · rw [dSum_tup, intsOf_map]; rfl
  · rw [dSum_lst, intsOf_map]; rfl
theorem bw_fi (X : D) (n : Int) (q : dSum [X] = some (.im (.int n))) : aCons (eOp dAdd (eB dSum (aCons (eVar 0) aNil)) (eC (.int 1))) aNil [.im X, .no, .no] = .ok [.im (.int (n + 1))] [.im X, .no, .no] := by
  simp [q, sEr, op2, op1, T.val, R.opt, toB, opL, vals, consT, disp, mvs, mkTup, callT, callI, argE, others, isAl, isAli, finT, outE, padE, runD, cpsOf, cpT, toI, slT, T.weak, metT, kApp, kExt, elemD, iT, iL, iR1, iR2, iE, iZ, onI]
theorem bw_in (X : D) (p : Int) (z : List D) (q : d_baskets_of [.im (.int p), .im X] = .ok (.fr z) [.no, .no]) : fiL false (eCall d_baskets_of (aCons (eVar 1) (aCons (eVar 0) aNil))) [.im X, .im (.int p), .no] = .ok ⟨z, none⟩ [.im X, .im (.int p), .no] := by
  simp [q, iL, sEr, op2, op1, T.val, R.opt, toB, opL, vals, consT, disp, mvs, mkTup, callT, callI, argE, others, isAl, isAli, finT, outE, padE, runD, cpsOf, cpT, toI, slT, T.weak, metT, kApp, kExt, elemD, iT, iL, iR1, iR2, iE, iZ, onI]
theorem bw_end (X : D) (z : List D) (q : eLc2 (fiR1 (aCons (eOp dAdd (eB dSum (aCons (eVar 0) aNil)) (eC (.int 1))) aNil)) [1, 2] (.one 1) tT (fiL false (eCall d_baskets_of (aCons (eVar 1) (aCons (eVar 0) aNil)))) [2] (.one 2) tT (eVar 2) [.im X, .no, .no] = .ok (.fr z) [.im X, .no, .no]) : f_baskets_within [.im X, .no, .no] = .rt (.fr z) [.im X, .no, .no] := by
  simp [f_baskets_within, q, sEr, op2, op1, T.val, R.opt, toB, opL, vals, consT, disp, mvs, mkTup, callT, callI, argE, others, isAl, isAli, finT, outE, padE, runD, cpsOf, cpT, toI, slT, T.weak, metT, kApp, kExt, elemD, iT, iL, iR1, iR2, iE, iZ, onI]
def bwG (ls : List Int) : D → List D
  | .int p => (bOf p ls).map basD
  | _ => []
theorem flat_one {α : Type} : ∀ l : List α, (l.flatMap fun d => [d]) = l
  | [] => rfl
  | a :: l => by rw [List.flatMap_cons, flat_one l]; rfl
theorem bw_its (ls : List Int) : (rngD 0 (ls.sum + 1)).flatMap (bwG ls) = (basketsIn ls).map basD := by
  rw [rngD_is, Int.sub_zero, List.flatMap_map, List.flatMap_map, basketsIn, List.map_flatMap]
  congr 1
  funext j
  show (bOf (0 + (j : Int)) ls).map basD = _
  rw [Int.zero_add]
theorem r_baskets_within {X : D} {ls : List Int} (h : limOk X ls) : d_baskets_within [.im X] = .ok (.fr ((basketsIn ls).map basD)) [.no] := by
  obtain ⟨hX, h2, h3⟩ := id h
  have bs := size_box h3 h2.2
  have q1 := r1_of (bw_fi X ls.sum (sumX hX)) rfl (by omega)
  have q2 := cp_flat (k := ⟨rngD 0 (ls.sum + 1), none⟩) (vs := [1, 2]) (t := .one 1) (body := body2 (fiL false (eCall d_baskets_of (aCons (eVar 1) (aCons (eVar 0) aNil)))) [2] (.one 2) tT (bodyL (eVar 2))) (g := bwG ls) (P := fun l => l.length ≤ 1000000) (env := [.im X, .no, .no]) trivial (fun a b z => by rw [List.length_append] at z; omega) (rngD 0 (ls.sum + 1)) []
    (by rw [List.nil_append, bw_its, List.length_map]; exact basketsIn_len h3 h2.2) fun d z acc hp => by
      obtain ⟨p, rfl, hp2⟩ := rngD_mem z
      have q3 := bw_in X p _ (r_baskets_of h (p := p) (by omega))
      have q4 := cp_flat (k := ⟨(bOf p ls).map basD, none⟩) (vs := [2]) (t := .one 2) (body := bodyL (eVar 2)) (g := fun d => [d]) (P := fun l => l.length ≤ 1000000) (env := [.im X, .im (.int p), .no]) trivial (fun a b z => by rw [List.length_append] at z; omega) ((bOf p ls).map basD) acc
        (by rw [flat_one]; exact hp) fun d z acc hp => by
          rw [List.length_append] at hp
          have hp : acc.length < 1000000 := by simp at hp; omega
          refine ⟨[.im X, .im (.int p), .im d], [.im X, .im (.int p), .im d], rfl, ?_, rfl⟩
          exact bodyL_one (u := .im d) hp (by simp [sEr, op2, op1, T.val, R.opt, toB, opL, vals, consT, disp, mvs, mkTup, callT, callI, argE, others, isAl, isAli, finT, outE, padE, runD, cpsOf, cpT, toI, slT, T.weak, metT, kApp, kExt, elemD, iT, iL, iR1, iR2, iE, iZ, onI]) rfl
      rw [flat_one] at q4
      refine ⟨[.im X, .im (.int p), .no], [.im X, .im (.int p), .no], rfl, ?_, rfl⟩
      unfold body2
      rw [q3]
      exact q4
  rw [List.nil_append, bw_its] at q2
  refine fin5 (rest := [.im X, .no, .no]) rfl ?_ rfl _ rfl
  show f_baskets_within [.im X, .no, .no] = _
  refine bw_end _ _ ?_
  rw [eLc2_s, q1, bind_ok]
  show (R.bind (cpL ⟨rngD 0 (ls.sum + 1), none⟩ [1, 2] (.one 1) tT _ (rngD 0 (ls.sum + 1)) [] [.im X, .no, .no]) _) = _
  rw [q2]
  rfl
theorem bodyD_one {fk fv : FE} {acc : List (List Int × D)} {e e1 e2 : En} {ns : List Int} {y : D} (hk : fk e = .ok (.im (basD ns)) e1) (hv : fv e1 = .ok (.im y) e2) (hn : ns ∉ acc.map (·.1)) (hl : acc.length < 1000000) : bodyD fk fv acc e = .ok (acc ++ [(ns, y)]) e2 := by
  unfold bodyD
  rw [hk]
  simp only [intsOf_map, hv]
  rw [if_pos ⟨hn, hl⟩]
def PD (m : List (List Int × D)) : Prop := (m.map (·.1)).Nodup ∧ m.length ≤ 1000000
theorem PD_pre (a b : List (List Int × D)) (h : PD (a ++ b)) : PD a := by
  obtain ⟨h1, h2⟩ := h
  rw [List.map_append, List.nodup_append] at h1
  rw [List.length_append] at h2
  exact ⟨h1.1, by omega⟩
theorem PD_last {a : List (List Int × D)} {ns : List Int} {y : D} (h : PD (a ++ [(ns, y)])) : ns ∉ a.map (·.1) ∧ a.length < 1000000 := by
  obtain ⟨h1, h2⟩ := h
  rw [List.map_append, List.nodup_append] at h1
  rw [List.length_append] at h2
  refine ⟨fun z => h1.2.2 ns z ns (by simp) rfl, by simp at h2; omega⟩
theorem pairs_of (m : List (List Int × D)) : pairsD (m.map fun p => .tup (p.1.map .int)) (m.map (·.2)) = m.map fun p => .tup [basD p.1, p.2] := by
  unfold pairsD
  induction m with
  | nil => rfl
  | cons p m ih => rw [List.map_cons, List.map_cons, List.zipWith_cons_cons, ih]; rfl
def sumA (gi : List (Int × Int)) (us : List Ru) (b : List Int) : Int := (amts gi us b).sum
theorem sumA_snoc (gi : List (Int × Int)) (us : List Ru) (b : List Int) (j : Int) : sumA gi us (b ++ [j]) = sumA gi us b + amtAt gi us b.length j := by
  unfold sumA amts
  rw [List.mapIdx_concat, List.sum_append]
  simp
def mS (f : List Int → Int) (bs : List (List Int)) : List (List Int × D) := bs.map fun b => (b, .int (f b))
theorem mS_PD {f : List Int → Int} {bs : List (List Int)} (h : bs.Nodup ∧ bs.length ≤ 1000000) : PD (mS f bs) := by
  unfold mS
  refine ⟨?_, by rw [List.length_map]; exact h.2⟩
  rw [List.map_map]
  rw [show ((fun x : List Int × D => x.1) ∘ fun b => (b, D.int (f b))) = id from rfl, List.map_id]
  exact h.1
def tblA (gi : List (Int × Int)) (us : List Ru) (k l : Int) : List Int := (List.range (l + 1).toNat).map fun (j : Nat) => amtAt gi us k j
theorem sw1_fi (a b c d x6 : Sl) (l : Int) (x5 : Sl) : aCons (eOp dAdd (eVar 4) (eC (.int 1))) aNil [a, b, c, d, .im (.int l), x5, x6, .no, .no, .no, .no] = .ok [.im (.int (l + 1))] [a, b, c, d, .im (.int l), x5, x6, .no, .no, .no, .no] := by
  simp [sEr, op2, op1, T.val, R.opt, toB, opL, vals, consT, disp, mvs, mkTup, callT, callI, argE, others, isAl, isAli, finT, outE, padE, runD, cpsOf, cpT, toI, slT, T.weak, metT, kApp, kExt, elemD, iT, iL, iR1, iR2, iE, iZ, onI]
theorem sw1_el (sh : D) (b c x4 x5 x6 : Sl) (k j v : Int) (q : d_good_amount [.im sh, .im (.int k), .im (.int j)] = .ok (.im (.int v)) [.no, .no, .no]) : eCall d_good_amount (aCons (eVar 0) (aCons (eVar 3) (aCons (eVar 7) aNil))) [.im sh, b, c, .im (.int k), x4, x5, x6, .im (.int j), .no, .no, .no] = .ok (.im (.int v)) [.im sh, b, c, .im (.int k), x4, x5, x6, .im (.int j), .no, .no, .no] := by
  simp [q, sEr, op2, op1, T.val, R.opt, toB, opL, vals, consT, disp, mvs, mkTup, callT, callI, argE, others, isAl, isAli, finT, outE, padE, runD, cpsOf, cpT, toI, slT, T.weak, metT, kApp, kExt, elemD, iT, iL, iR1, iR2, iE, iZ, onI]
theorem sw1_end (a b c d e x5 x6 : Sl) (z : List D) (q : eLc (fiR1 (aCons (eOp dAdd (eVar 4) (eC (.int 1))) aNil)) [7] (.one 7) tT (eCall d_good_amount (aCons (eVar 0) (aCons (eVar 3) (aCons (eVar 7) aNil)))) [a, b, c, d, e, x5, x6, .no, .no, .no, .no] = .ok (.fr z) [a, b, c, d, e, x5, x6, .no, .no, .no, .no]) : b_sums_within_1_1 [a, b, c, d, e, x5, x6, .no, .no, .no, .no] = .nx [a, b, c, d, e, .own false z, x6, .no, .no, .no, .no] := by
  simp [b_sums_within_1_1, q, sEr, op2, op1, T.val, R.opt, toB, opL, vals, consT, disp, mvs, mkTup, callT, callI, argE, others, isAl, isAli, finT, outE, padE, runD, cpsOf, cpT, toI, slT, T.weak, metT, kApp, kExt, elemD, iT, iL, iR1, iR2, iE, iZ, onI]
theorem sw1 {gi : List (Int × Int)} {us : List Ru} (h : Shp gi us) {k : Nat} (hk : k < gi.length) {l : Int} (hl : 0 ≤ l ∧ l ≤ 650) (b c x5 x6 : Sl) : b_sums_within_1_1 [.im (shopD gi us), b, c, .im (.int k), .im (.int l), x5, x6, .no, .no, .no, .no] = .nx [.im (shopD gi us), b, c, .im (.int k), .im (.int l), .own false ((tblA gi us k l).map .int), x6, .no, .no, .no, .no] := by
  refine sw1_end _ _ _ _ _ _ _ _ ?_
  have e1 : (rngD 0 (l + 1)).map (intI fun j => amtAt gi us k j) = (tblA gi us k l).map D.int := by
    rw [rng_map]
    rfl
  have q := eLc_of (fi := fiR1 (aCons (eOp dAdd (eVar 4) (eC (.int 1))) aNil)) (vs := [7]) (t := .one 7) (ft := tT) (fe := eCall d_good_amount (aCons (eVar 0) (aCons (eVar 3) (aCons (eVar 7) aNil)))) (env := [.im (shopD gi us), b, c, .im (.int k), .im (.int l), x5, x6, .no, .no, .no, .no]) (k := ⟨rngD 0 (l + 1), none⟩) (e := [.im (shopD gi us), b, c, .im (.int k), .im (.int l), x5, x6, .no, .no, .no, .no])
    (r1_of (sw1_fi _ _ _ _ _ _ _) rfl (by omega))
    (lc_map (k := ⟨rngD 0 (l + 1), none⟩) (vs := [7]) (t := .one 7) (h := intI fun j => amtAt gi us k j) (env := [.im (shopD gi us), b, c, .im (.int k), .im (.int l), x5, x6, .no, .no, .no, .no]) trivial (rngD 0 (l + 1)) [] (small_size (by rw [rngD_len]; show 0 + _ ≤ 1000; omega)) fun d z => by
      obtain ⟨j, rfl, hj⟩ := rngD_mem z
      exact ⟨[.im (shopD gi us), b, c, .im (.int k), .im (.int l), x5, x6, .im (.int j), .no, .no, .no], .im (.int (amtAt gi us k j)), _, rfl, sw1_el _ _ _ _ _ _ _ _ _ (amt_good (x := (j : Int)) h hk), rfl, rfl⟩)
  rw [e1, List.nil_append] at q
  exact q
def gIn (b : List Int) (t : Int) : D → List (List Int × D)
  | .tup [.int j, .int a] => [(b ++ [j], .int (t + a))]
  | _ => []
def gOut (tb : List Int) : D → List (List Int × D)
  | .tup [.tup ds, .int t] => match intsOf ds with
    | some b => (enumD (tb.map .int)).flatMap (gIn b t)
    | none => []
  | _ => []
theorem enumD_ints (tb : List Int) : enumD (tb.map D.int) = tb.mapIdx fun (i : Nat) x => .tup [.int (i : Int), .int x] := by
  apply List.ext_getElem?
  intro i
  unfold enumD
  simp only [List.getElem?_mapIdx, List.getElem?_map]
  cases tb[i]? <;> rfl
theorem mapIdx_range {α : Type} (n : Nat) (f : Nat → Int) (g : Nat → Int → α) : ((List.range n).map f).mapIdx g = (List.range n).map fun j => g j (f j) := by
  apply List.ext_getElem?
  intro i
  simp only [List.getElem?_mapIdx, List.getElem?_map]
  by_cases h : i < n
  · simp [List.getElem?_range h]
  · simp [List.getElem?_eq_none (show (List.range n).length ≤ i by rw [List.length_range]; omega)]
theorem flat_sing {α β : Type} (f : α → β) : ∀ l : List α, (l.flatMap fun d => [f d]) = l.map f
  | [] => rfl
  | a :: l => by rw [List.flatMap_cons, flat_sing f l]; rfl
theorem gOut_is (gi : List (Int × Int)) (us : List Ru) (k l : Int) (b : List Int) (t : Int) : gOut (tblA gi us k l) (.tup [basD b, .int t]) = (List.range (l + 1).toNat).map fun (j : Nat) => (b ++ [(j : Int)], D.int (t + amtAt gi us k j)) := by
  show (match intsOf (b.map D.int) with
    | some b => (enumD ((tblA gi us k l).map .int)).flatMap (gIn b t)
    | none => []) = _
  rw [intsOf_map]
  show (enumD ((tblA gi us k l).map .int)).flatMap (gIn b t) = _
  rw [enumD_ints, tblA, mapIdx_range, List.flatMap_map]
  exact flat_sing _ _
theorem flat_congr {α β : Type} {f g : α → List β} : ∀ {l : List α}, (∀ a ∈ l, f a = g a) → l.flatMap f = l.flatMap g
  | [], _ => rfl
  | a :: l, h => by rw [List.flatMap_cons, List.flatMap_cons, h a List.mem_cons_self, flat_congr fun x z => h x (List.mem_cons_of_mem _ z)]
theorem sw_its {gi : List (Int × Int)} {us : List Ru} {k : Nat} {l : Int} {bs : List (List Int)} (hb : ∀ b ∈ bs, b.length = k) : ((mS (sumA gi us) bs).map fun p => D.tup [basD p.1, p.2]).flatMap (gOut (tblA gi us k l)) = mS (sumA gi us) (lexS bs l) := by
  unfold mS lexS
  rw [List.map_map, List.flatMap_map, List.map_flatMap]
  refine flat_congr fun b z => ?_
  show gOut (tblA gi us k l) (.tup [basD b, .int (sumA gi us b)]) = _
  rw [gOut_is, List.map_map]
  refine List.map_congr_left fun j _ => ?_
  show _ = (b ++ [(j : Int)], D.int (sumA gi us (b ++ [(j : Int)])))
  rw [sumA_snoc, hb b z]
theorem sw2_key0 (ds : List D) (h : ds.length ≤ 999999) (j : Int) (x0 x1 x2 x3 x4 x5 x6 x9 x10 : Sl) : eOp dAdd (eVar 8) (eTup (aCons (eVar 7) aNil)) [x0, x1, x2, x3, x4, x5, x6, .im (.int j), .im (.tup ds), x9, x10] = .ok (.im (.tup (ds ++ [.int j]))) [x0, x1, x2, x3, x4, x5, x6, .im (.int j), .im (.tup ds), x9, x10] := by
  simp [h, sEr, op2, op1, T.val, R.opt, toB, opL, vals, consT, disp, mvs, mkTup, callT, callI, argE, others, isAl, isAli, finT, outE, padE, runD, cpsOf, cpT, toI, slT, T.weak, metT, kApp, kExt, elemD, iT, iL, iR1, iR2, iE, iZ, onI]
theorem sw2_key (b : List Int) (h : b.length ≤ 999999) (j : Int) (x0 x1 x2 x3 x4 x5 x6 x9 x10 : Sl) : eOp dAdd (eVar 8) (eTup (aCons (eVar 7) aNil)) [x0, x1, x2, x3, x4, x5, x6, .im (.int j), .im (basD b), x9, x10] = .ok (.im (basD (b ++ [j]))) [x0, x1, x2, x3, x4, x5, x6, .im (.int j), .im (basD b), x9, x10] := by
  have := sw2_key0 (b.map D.int) (by rw [List.length_map]; exact h) j x0 x1 x2 x3 x4 x5 x6 x9 x10
  rw [this]
  unfold basD
  rw [List.map_append]
  rfl
theorem sw2_val (t a : Int) (x0 x1 x2 x3 x4 x5 x6 x7 x8 : Sl) : eOp dAdd (eVar 9) (eVar 10) [x0, x1, x2, x3, x4, x5, x6, x7, x8, .im (.int t), .im (.int a)] = .ok (.im (.int (t + a))) [x0, x1, x2, x3, x4, x5, x6, x7, x8, .im (.int t), .im (.int a)] := by
  simp [sEr, op2, op1, T.val, R.opt, toB, opL, vals, consT, disp, mvs, mkTup, callT, callI, argE, others, isAl, isAli, finT, outE, padE, runD, cpsOf, cpT, toI, slT, T.weak, metT, kApp, kExt, elemD, iT, iL, iR1, iR2, iE, iZ, onI]
theorem sw2_in (ds : List D) (x0 x1 x2 x3 x4 x6 x8 x9 : Sl) : fiE false (aCons (eVar 5) aNil) [x0, x1, x2, x3, x4, .own false ds, x6, .no, x8, x9, .no] = .ok ⟨enumD ds, some (5, ds)⟩ [x0, x1, x2, x3, x4, .own false ds, x6, .no, x8, x9, .no] := by
  simp [iE, iL, onI, sEr, op2, op1, T.val, R.opt, toB, opL, vals, consT, disp, mvs, mkTup, callT, callI, argE, others, isAl, isAli, finT, outE, padE, runD, cpsOf, cpT, toI, slT, T.weak, metT, kApp, kExt, elemD, iT, iL, iR1, iR2, iE, iZ, onI]
theorem sw2_out (m : List (List Int × D)) (x0 x1 x3 x4 x5 x6 : Sl) : fiDi (eVar 2) [x0, x1, .im (dcOf m), x3, x4, x5, x6, .no, .no, .no, .no] = .ok ⟨m.map fun p => .tup [basD p.1, p.2], none⟩ [x0, x1, .im (dcOf m), x3, x4, x5, x6, .no, .no, .no, .no] := by
  rw [← pairs_of m]
  unfold dcOf
  simp [sEr, op2, op1, T.val, R.opt, toB, opL, vals, consT, disp, mvs, mkTup, callT, callI, argE, others, isAl, isAli, finT, outE, padE, runD, cpsOf, cpT, toI, slT, T.weak, metT, kApp, kExt, elemD, iT, iL, iR1, iR2, iE, iZ, onI]
theorem sw2_end (x0 x1 x2 x3 x4 x5 x6 : Sl) (d : D) (q : eDc2 (fiDi (eVar 2)) [8, 9, 7, 10] (.tup [8, 9]) tT (fiE false (aCons (eVar 5) aNil)) [7, 10] (.tup [7, 10]) tT (eOp dAdd (eVar 8) (eTup (aCons (eVar 7) aNil))) (eOp dAdd (eVar 9) (eVar 10)) [x0, x1, x2, x3, x4, x5, x6, .no, .no, .no, .no] = .ok (.im d) [x0, x1, x2, x3, x4, x5, x6, .no, .no, .no, .no]) : b_sums_within_1_2 [x0, x1, x2, x3, x4, x5, x6, .no, .no, .no, .no] = .nx [x0, x1, x2, x3, x4, x5, .im d, .no, .no, .no, .no] := by
  simp [b_sums_within_1_2, q, sEr, op2, op1, T.val, R.opt, toB, opL, vals, consT, disp, mvs, mkTup, callT, callI, argE, others, isAl, isAli, finT, outE, padE, runD, cpsOf, cpT, toI, slT, T.weak, metT, kApp, kExt, elemD, iT, iL, iR1, iR2, iE, iZ, onI]
theorem sw2 {gi : List (Int × Int)} {us : List Ru} {k : Nat} {l : Int} {bs : List (List Int)} (k2 : k ≤ 2) (hb : ∀ b ∈ bs, b.length = k) (hn : (lexS bs l).Nodup ∧ (lexS bs l).length ≤ 1000000) (x0 x1 x3 x4 x6 : Sl) : b_sums_within_1_2 [x0, x1, .im (dcOf (mS (sumA gi us) bs)), x3, x4, .own false ((tblA gi us k l).map .int), x6, .no, .no, .no, .no] = .nx [x0, x1, .im (dcOf (mS (sumA gi us) bs)), x3, x4, .own false ((tblA gi us k l).map .int), .im (dcOf (mS (sumA gi us) (lexS bs l))), .no, .no, .no, .no] := by
  refine sw2_end _ _ _ _ _ _ _ _ ?_
  have hits := sw_its (gi := gi) (us := us) (l := l) hb
  have q1 := sw2_out (mS (sumA gi us) bs) x0 x1 x3 x4 (.own false ((tblA gi us k l).map .int)) x6
  generalize htb : tblA gi us k l = tb at q1 hits
  have q2 := cp_flat (k := ⟨(mS (sumA gi us) bs).map fun p => .tup [basD p.1, p.2], none⟩) (vs := [8, 9, 7, 10]) (t := .tup [8, 9]) (body := body2 (fiE false (aCons (eVar 5) aNil)) [7, 10] (.tup [7, 10]) tT (bodyD (eOp dAdd (eVar 8) (eTup (aCons (eVar 7) aNil))) (eOp dAdd (eVar 9) (eVar 10)))) (g := gOut tb) (P := PD) (env := [x0, x1, .im (dcOf (mS (sumA gi us) bs)), x3, x4, .own false (tb.map .int), x6, .no, .no, .no, .no]) trivial PD_pre ((mS (sumA gi us) bs).map fun p => .tup [basD p.1, p.2]) []
    (by rw [List.nil_append, hits]; exact mS_PD hn) fun d z acc hp => by
      obtain ⟨p, hp1, rfl⟩ := List.mem_map.mp z
      obtain ⟨b, hb1, rfl⟩ := List.mem_map.mp hp1
      have hb2 := hb b hb1
      have hp : PD (acc ++ gOut tb (.tup [basD b, .int (sumA gi us b)])) := hp
      have eg : gOut tb (.tup [basD b, .int (sumA gi us b)]) = (enumD (tb.map .int)).flatMap (gIn b (sumA gi us b)) := by
        show (match intsOf (b.map D.int) with
          | some b' => (enumD (tb.map .int)).flatMap (gIn b' (sumA gi us b))
          | none => []) = _
        rw [intsOf_map]
      rw [eg] at hp
      have q3 := sw2_in (tb.map .int) x0 x1 (.im (dcOf (mS (sumA gi us) bs))) x3 x4 x6 (.im (basD b)) (.im (.int (sumA gi us b)))
      have q4 := cp_flat (k := ⟨enumD (tb.map .int), some (5, tb.map .int)⟩) (vs := [7, 10]) (t := .tup [7, 10]) (body := bodyD (eOp dAdd (eVar 8) (eTup (aCons (eVar 7) aNil))) (eOp dAdd (eVar 9) (eVar 10))) (g := gIn b (sumA gi us b)) (P := PD) (env := [x0, x1, .im (dcOf (mS (sumA gi us) bs)), x3, x4, .own false (tb.map .int), x6, .no, .im (basD b), .im (.int (sumA gi us b)), .no]) ⟨false, rfl⟩ PD_pre (enumD (tb.map .int)) acc hp fun d z acc hp => by
          obtain ⟨j, x, rfl, _⟩ := enum_int z
          obtain ⟨n1, n2⟩ := PD_last (show PD (acc ++ [(b ++ [(j : Int)], .int (sumA gi us b + x))]) from hp)
          refine ⟨[x0, x1, .im (dcOf (mS (sumA gi us) bs)), x3, x4, .own false (tb.map .int), x6, .im (.int j), .im (basD b), .im (.int (sumA gi us b)), .im (.int x)], _, rfl, bodyD_one (sw2_key b (by omega) j _ _ _ _ _ _ _ _ _) (sw2_val _ x _ _ _ _ _ _ _ _ _) n1 n2, rfl⟩
      refine ⟨[x0, x1, .im (dcOf (mS (sumA gi us) bs)), x3, x4, .own false (tb.map .int), x6, .no, .im (basD b), .im (.int (sumA gi us b)), .no], [x0, x1, .im (dcOf (mS (sumA gi us) bs)), x3, x4, .own false (tb.map .int), x6, .no, .im (basD b), .im (.int (sumA gi us b)), .no], rfl, ?_, rfl⟩
      show body2 _ _ _ _ _ _ _ = .ok (acc ++ gOut tb (.tup [basD b, .int (sumA gi us b)])) _
      rw [eg]
      unfold body2
      rw [q3]
      exact q4
  rw [List.nil_append, hits] at q2
  rw [eDc2_s, q1, bind_ok]
  show (R.bind (cpL _ [8, 9, 7, 10] (.tup [8, 9]) tT _ _ [] [x0, x1, .im (dcOf (mS (sumA gi us) bs)), x3, x4, .own false (tb.map .int), x6, .no, .no, .no, .no]) _) = _
  rw [q2]
  rfl
theorem sw3 (x0 x1 x2 x3 x4 x5 : Sl) (d : D) : b_sums_within_1_3 [x0, x1, x2, x3, x4, x5, .im d, .no, .no, .no, .no] = .nx [x0, x1, .im d, x3, x4, x5, .im d, .no, .no, .no, .no] := by
  simp [b_sums_within_1_3, sEr, op2, op1, T.val, R.opt, toB, opL, vals, consT, disp, mvs, mkTup, callT, callI, argE, others, isAl, isAli, finT, outE, padE, runD, cpsOf, cpT, toI, slT, T.weak, metT, kApp, kExt, elemD, iT, iL, iR1, iR2, iE, iZ, onI]
theorem sw_fi (sh X : D) (ls : List Int) (x2 x3 x4 x5 x6 x7 x8 x9 x10 : Sl) (h : X = .tup (ls.map .int) ∨ X = .lst (ls.map .int)) : fiE true (aCons (eVar 1) aNil) [.im sh, .im X, x2, x3, x4, x5, x6, x7, x8, x9, x10] = .ok ⟨enumD (ls.map .int), none⟩ [.im sh, .im X, x2, x3, x4, x5, x6, x7, x8, x9, x10] := by
  rcases h with rfl | rfl <;> simp [iE, iL, onI, sEr, op2, op1, T.val, R.opt, toB, opL, vals, consT, disp, mvs, mkTup, callT, callI, argE, others, isAl, isAli, finT, outE, padE, runD, cpsOf, cpT, toI, slT, T.weak, metT, kApp, kExt, elemD, iT, iL, iR1, iR2, iE, iZ, onI]
theorem sw_beg (sh X : D) : f_sums_within_1 [.im sh, .im X, .no, .no, .no, .no, .no, .no, .no, .no, .no] = .nx [.im sh, .im X, .im (dcOf [([], .int 0)]), .no, .no, .no, .no, .no, .no, .no, .no] := by
  simp [f_sums_within_1, dcOf, sEr, op2, op1, T.val, R.opt, toB, opL, vals, consT, disp, mvs, mkTup, callT, callI, argE, others, isAl, isAli, finT, outE, padE, runD, cpsOf, cpT, toI, slT, T.weak, metT, kApp, kExt, elemD, iT, iL, iR1, iR2, iE, iZ, onI]
theorem sw_end (x0 x1 x3 x4 x5 x6 x7 x8 x9 x10 : Sl) (d : D) : f_sums_within_3 [x0, x1, .im d, x3, x4, x5, x6, x7, x8, x9, x10] = .rt (.im d) [x0, x1, .im d, x3, x4, x5, x6, x7, x8, x9, x10] := by
  simp [f_sums_within_3, sEr, op2, op1, T.val, R.opt, toB, opL, vals, consT, disp, mvs, mkTup, callT, callI, argE, others, isAl, isAli, finT, outE, padE, runD, cpsOf, cpT, toI, slT, T.weak, metT, kApp, kExt, elemD, iT, iL, iR1, iR2, iE, iZ, onI]
theorem r_sums_within {gi : List (Int × Int)} {us : List Ru} (h : Shp gi us) {X : D} {ls : List Int} (hl : limOk X ls) (hg : ls.length = gi.length) : d_sums_within [.im (shopD gi us), .im X] = .ok (.im (dcOf (mS (sumA gi us) (lexB ls)))) [.no, .no] := by
  obtain ⟨hX, h2, h3⟩ := hl
  obtain ⟨e, q, v3, v4, v5, v6, rfl⟩ := loop_all (g := gT 2 (gsCons (gN 3) (gsCons (gN 4) gsNil))) (f := b_sums_within_1) (ds := enumD (ls.map .int)) (env := [.im (shopD gi us), .im X, .im (dcOf [([], .int 0)]), .no, .no, .no, .no, .no, .no, .no, .no])
    (I := fun i e => ∃ v3 v4 v5 v6, e = [.im (shopD gi us), .im X, .im (dcOf (mS (sumA gi us) (lexB (ls.take i)))), v3, v4, v5, v6, .no, .no, .no, .no]) ⟨.no, .no, .no, .no, rfl⟩ (by
    rintro i d _ hd ⟨v3, v4, v5, v6, rfl⟩
    obtain ⟨d', e1, rfl⟩ := enumD_get hd
    rw [List.getElem?_map] at e1
    obtain ⟨l, e2, rfl⟩ := Option.map_eq_some_iff.mp e1
    have hi : i < ls.length := (List.getElem?_eq_some_iff.mp e2).1
    have q1 := sw1 h (k := i) (by omega) (h3 l (List.mem_of_getElem? e2)) (.im X) (.im (dcOf (mS (sumA gi us) (lexB (ls.take i))))) v5 v6
    have hn := lexB_ok h3 h2.2 (i + 1)
    rw [lexB_take e2] at hn
    have hb : ∀ b ∈ lexB (ls.take i), b.length = i := fun b z => by
      have hl2 : (ls.take i).length ≤ 2 := by rw [List.length_take]; omega
      have := inB_len ((mem_lexB hl2).mp z)
      rw [List.length_take] at this
      omega
    have q2 := sw2 (gi := gi) (us := us) (l := l) (by omega) hb hn (.im (shopD gi us)) (.im X) (.im (.int i)) (.im (.int l)) v6
    have q3 := sw3 (.im (shopD gi us)) (.im X) (.im (dcOf (mS (sumA gi us) (lexB (ls.take i))))) (.im (.int i)) (.im (.int l)) (.own false ((tblA gi us i l).map .int)) (dcOf (mS (sumA gi us) (lexS (lexB (ls.take i)) l)))
    refine ⟨[.im (shopD gi us), .im X, .im (dcOf (mS (sumA gi us) (lexB (ls.take i)))), .im (.int i), .im (.int l), v5, v6, .no, .no, .no, .no], _, rfl, .inl (seq_of q1 (seq_of q2 q3)), .im (.int i), .im (.int l), .own false ((tblA gi us i l).map .int), .im (dcOf (mS (sumA gi us) (lexS (lexB (ls.take i)) l))), by rw [lexB_take e2]⟩)
  rw [enumD_len, List.length_map, List.take_length] at q
  have s2 := sFor_of (sw_fi (shopD gi us) X ls (.im (dcOf [([], .int 0)])) .no .no .no .no .no .no .no .no hX) q
  refine fin4 (rest := [.im (shopD gi us), .im X, .im (dcOf (mS (sumA gi us) (lexB ls))), v3, v4, v5, v6, .no, .no, .no, .no]) (m := 0) rfl ?_ _ rfl
  show f_sums_within [.im (shopD gi us), .im X, .no, .no, .no, .no, .no, .no, .no, .no, .no] = _
  unfold f_sums_within
  exact seq_of (sw_beg _ _) (seq_of s2 (sw_end _ _ _ _ _ _ _ _ _ _ _))
theorem amtBy_le {u : Option Ru} {price x n : Int} (hu : ∀ r, u = some r → r.ok n) (hp : 0 ≤ price ∧ price ≤ 9) (hx : 0 ≤ x) : amtBy price x u ≤ 15 * x := by
  have l15 : ∀ p : Int, p ≤ 15 → x * p ≤ 15 * x := fun p h => by
    rw [Int.mul_comm 15]
    exact Int.mul_le_mul_of_nonneg_left h hx
  cases u with
  | none => exact l15 _ (by omega)
  | some r =>
    have ok := hu r rfl
    cases r with
    | pack g s p m =>
      obtain ⟨_, h2, h3, h4⟩ := ok
      obtain ⟨a, b⟩ := full_le (m := m) hx (by omega : 0 < s) h4
      show packAmt s p price x m ≤ _
      unfold packAmt
      have e1 : full x s m * p ≤ full x s m * (15 * s) := Int.mul_le_mul_of_nonneg_left (by omega) a
      have e2 : (x - full x s m * s) * price ≤ (x - full x s m * s) * 15 := Int.mul_le_mul_of_nonneg_left (by omega) (by omega)
      have e3 : full x s m * (15 * s) = 15 * (full x s m * s) := by rw [Int.mul_left_comm]
      omega
    | frm g l p => exact l15 _ (by have := ok.2.2; omega)
    | over f o => exact Int.mul_nonneg (by decide) hx
    | each f o m => exact Int.mul_nonneg (by decide) hx
theorem amtAt_b {gi : List (Int × Int)} {us : List Ru} (h : Shp gi us) {k : Nat} (hk : k < gi.length) {x : Int} (hx : 0 ≤ x) : 0 ≤ amtAt gi us k x ∧ amtAt gi us k x ≤ 15 * x := by
  have eg := List.getElem?_eq_getElem hk
  have gz : ((gi[((k : Int)).toNat]?).getD (0, 0)).1 = gi[k].1 := by rw [Int.toNat_natCast, eg]; rfl
  have b := (h.pr _ (List.getElem_mem hk)).1
  have ok : ∀ r, fit us k x = some r → r.ok gi.length := fun r hr => (fit_ok (fun u z => (h.ru u z).1) hr).1
  unfold amtAt
  rw [gz]
  exact ⟨amtBy_pos ok (by omega) hx, amtBy_le ok (by omega) hx⟩
theorem sumA_b {gi : List (Int × Int)} {us : List Ru} (h : Shp gi us) {b ls : List Int} (hb : inB b ls) (hl : ∀ l ∈ ls, 0 ≤ l ∧ l ≤ 650) (hg : ls.length = gi.length) : 0 ≤ sumA gi us b ∧ sumA gi us b ≤ 19500 := by
  have hlen := inB_len hb
  refine ⟨amts_pos h (by omega) (inB_pos hb), ?_⟩
  have h2 := h.len
  rcases ls with _ | ⟨x, _ | ⟨y, _ | ⟨z, ls⟩⟩⟩
  · simp at hg; omega
  · rcases b with _ | ⟨p, _ | ⟨q, b⟩⟩
    · exact hb.elim
    · have := (amtAt_b h (k := 0) (by omega) (x := p) hb.1.1).2
      have := hl x (by simp)
      have := hb.1
      unfold sumA amts
      simp at *
      omega
    · exact hb.2.elim
  · rcases b with _ | ⟨p, _ | ⟨q, _ | ⟨r, b⟩⟩⟩
    · exact hb.elim
    · exact hb.2.elim
    · have := (amtAt_b h (k := 0) (by omega) (x := p) hb.1.1).2
      have := (amtAt_b h (k := 1) (by simp at hg; omega) (x := q) hb.2.1.1).2
      have := hl x (by simp)
      have := hl y (by simp)
      have := hb.1
      have := hb.2.1
      unfold sumA amts
      simp at *
      omega
    · exact hb.2.2.elim
  · simp at hg; omega
theorem inB_0 : ∀ {ls : List Int}, (∀ l ∈ ls, 0 ≤ l) → inB (List.replicate ls.length 0) ls
  | [], _ => trivial
  | l :: ls, h => ⟨⟨Int.le_refl _, h l List.mem_cons_self⟩, inB_0 fun x z => h x (List.mem_cons_of_mem _ z)⟩
theorem big_size {n : Nat} (h : n ≤ 1000000) : n ≤ sizeLine := Nat.le_trans h (by decide)
def lefts (us : List Ru) (n : Int) : List Int := (List.range n.toNat).map fun (j : Nat) => (sums us j).1
theorem cw1 (sh X d : D) (q : d_sums_within [.im sh, .im X] = .ok (.im d) [.no, .no]) : f_charges_within_1 [.im sh, .im X, .no, .no, .no, .no] = .nx [.im sh, .im X, .im d, .no, .no, .no] := by
  simp [f_charges_within_1, q, sEr, op2, op1, T.val, R.opt, toB, opL, vals, consT, disp, mvs, mkTup, callT, callI, argE, others, isAl, isAli, finT, outE, padE, runD, cpsOf, cpT, toI, slT, T.weak, metT, kApp, kExt, elemD, iT, iL, iR1, iR2, iE, iZ, onI]
theorem cw2_fi (x0 x1 : Sl) (ks : List D) (n : Int) (ns : List Int) : aCons (eOp dAdd (eDMax (eVar 2)) (eC (.int 1))) aNil [x0, x1, .im (.dct ks ((n :: ns).map .int)), .no, .no, .no] = .ok [.im (.int (ns.foldl max n + 1))] [x0, x1, .im (.dct ks ((n :: ns).map .int)), .no, .no, .no] := by
  have q := intsOf_map (n :: ns)
  generalize (n :: ns).map D.int = vs at q
  simp [q, sEr, op2, op1, T.val, R.opt, toB, opL, vals, consT, disp, mvs, mkTup, callT, callI, argE, others, isAl, isAli, finT, outE, padE, runD, cpsOf, cpT, toI, slT, T.weak, metT, kApp, kExt, elemD, iT, iL, iR1, iR2, iE, iZ, onI]
theorem cw2_el (g rs : D) (x1 x2 x3 : Sl) (j v : Int) (q : d_left_of [.im rs, .im (.int j)] = .ok (.im (.int v)) [.no, .no]) : eCall d_left_of (aCons (eOp dIx (eVar 0) (eC (.int 1))) (aCons (eVar 4) aNil)) [.im (.tup [g, rs]), x1, x2, x3, .im (.int j), .no] = .ok (.im (.int v)) [.im (.tup [g, rs]), x1, x2, x3, .im (.int j), .no] := by
  simp [dIx, q, sEr, op2, op1, T.val, R.opt, toB, opL, vals, consT, disp, mvs, mkTup, callT, callI, argE, others, isAl, isAli, finT, outE, padE, runD, cpsOf, cpT, toI, slT, T.weak, metT, kApp, kExt, elemD, iT, iL, iR1, iR2, iE, iZ, onI]
theorem cw2_end (x0 x1 x2 : Sl) (z : List D) (q : eLc (fiR1 (aCons (eOp dAdd (eDMax (eVar 2)) (eC (.int 1))) aNil)) [4] (.one 4) tT (eCall d_left_of (aCons (eOp dIx (eVar 0) (eC (.int 1))) (aCons (eVar 4) aNil))) [x0, x1, x2, .no, .no, .no] = .ok (.fr z) [x0, x1, x2, .no, .no, .no]) : f_charges_within_2 [x0, x1, x2, .no, .no, .no] = .nx [x0, x1, x2, .own false z, .no, .no] := by
  simp [f_charges_within_2, q, sEr, op2, op1, T.val, R.opt, toB, opL, vals, consT, disp, mvs, mkTup, callT, callI, argE, others, isAl, isAli, finT, outE, padE, runD, cpsOf, cpT, toI, slT, T.weak, metT, kApp, kExt, elemD, iT, iL, iR1, iR2, iE, iZ, onI]
theorem cw2 {gi : List (Int × Int)} {us : List Ru} (h : Shp gi us) (x1 : Sl) (ks : List D) (n : Int) (ns : List Int) (hm : 0 ≤ ns.foldl max n ∧ ns.foldl max n ≤ 19500) : f_charges_within_2 [.im (shopD gi us), x1, .im (.dct ks ((n :: ns).map .int)), .no, .no, .no] = .nx [.im (shopD gi us), x1, .im (.dct ks ((n :: ns).map .int)), .own false ((lefts us (ns.foldl max n + 1)).map .int), .no, .no] := by
  refine cw2_end _ _ _ _ ?_
  have f0 := cw2_fi (.im (shopD gi us)) x1 ks n ns
  generalize (n :: ns).map D.int = vs at f0
  generalize ns.foldl max n = M at f0 hm
  have e1 : (rngD 0 (M + 1)).map (intI fun j => (sums us j).1) = (lefts us (M + 1)).map D.int := by
    rw [rng_map]
    rfl
  have q := eLc_of (fi := fiR1 (aCons (eOp dAdd (eDMax (eVar 2)) (eC (.int 1))) aNil)) (vs := [4]) (t := .one 4) (ft := tT) (fe := eCall d_left_of (aCons (eOp dIx (eVar 0) (eC (.int 1))) (aCons (eVar 4) aNil))) (env := [.im (shopD gi us), x1, .im (.dct ks vs), .no, .no, .no]) (k := ⟨rngD 0 (M + 1), none⟩) (e := [.im (shopD gi us), x1, .im (.dct ks vs), .no, .no, .no])
    (r1_of f0 rfl (by omega))
    (lc_map (k := ⟨rngD 0 (M + 1), none⟩) (vs := [4]) (t := .one 4) (h := intI fun j => (sums us j).1) (env := [.im (shopD gi us), x1, .im (.dct ks vs), .no, .no, .no]) trivial (rngD 0 (M + 1)) [] (big_size (by rw [rngD_len]; show 0 + _ ≤ 1000000; omega)) fun d z => by
      obtain ⟨j, rfl, hj⟩ := rngD_mem z
      exact ⟨[.im (shopD gi us), x1, .im (.dct ks vs), .no, .im (.int j), .no], .im (.int (sums us j).1), _, rfl, cw2_el _ _ _ _ _ _ _ (r_left_of (t := (j : Int)) (fun u z => (h.ru u z).1) (by have := h.few; omega)), rfl, rfl⟩)
  rw [e1, List.nil_append] at q
  exact q
def gLf (L : List Int) : D → List (List Int × D)
  | .tup [.tup ds, .int t] => match intsOf ds with
    | some b => [(b, .int ((L[t.toNat]?).getD 0))]
    | none => []
  | _ => []
theorem cw3_fi (m : List (List Int × D)) (x0 x1 x3 : Sl) : fiDi (eVar 2) [x0, x1, .im (dcOf m), x3, .no, .no] = .ok ⟨m.map fun p => .tup [basD p.1, p.2], none⟩ [x0, x1, .im (dcOf m), x3, .no, .no] := by
  rw [← pairs_of m]
  unfold dcOf
  simp [sEr, op2, op1, T.val, R.opt, toB, opL, vals, consT, disp, mvs, mkTup, callT, callI, argE, others, isAl, isAli, finT, outE, padE, runD, cpsOf, cpT, toI, slT, T.weak, metT, kApp, kExt, elemD, iT, iL, iR1, iR2, iE, iZ, onI]
theorem cw3_val (x0 x1 x2 x5 : Sl) (zs : List D) (t : Int) (v : D) (q : atI zs t = some v) : eOp dIx (eVar 3) (eVar 4) [x0, x1, x2, .own false zs, .im (.int t), x5] = .ok (.im v) [x0, x1, x2, .own false zs, .im (.int t), x5] := by
  simp [dIx, q, sEr, op2, op1, T.val, R.opt, toB, opL, vals, consT, disp, mvs, mkTup, callT, callI, argE, others, isAl, isAli, finT, outE, padE, runD, cpsOf, cpT, toI, slT, T.weak, metT, kApp, kExt, elemD, iT, iL, iR1, iR2, iE, iZ, onI]
theorem cw3_end (x0 x1 x2 x3 : Sl) (d : D) (q : eDc (fiDi (eVar 2)) [5, 4] (.tup [5, 4]) tT (eVar 5) (eOp dIx (eVar 3) (eVar 4)) [x0, x1, x2, x3, .no, .no] = .ok (.im d) [x0, x1, x2, x3, .no, .no]) : f_charges_within_3 [x0, x1, x2, x3, .no, .no] = .rt (.im d) [x0, x1, x2, x3, .no, .no] := by
  simp [f_charges_within_3, q, sEr, op2, op1, T.val, R.opt, toB, opL, vals, consT, disp, mvs, mkTup, callT, callI, argE, others, isAl, isAli, finT, outE, padE, runD, cpsOf, cpT, toI, slT, T.weak, metT, kApp, kExt, elemD, iT, iL, iR1, iR2, iE, iZ, onI]
theorem cw3 {us : List Ru} {f : List Int → Int} {bs : List (List Int)} {M : Int} (hM : ∀ b ∈ bs, 0 ≤ f b ∧ f b ≤ M) (hn : bs.Nodup ∧ bs.length ≤ 1000000) (x0 x1 : Sl) : f_charges_within_3 [x0, x1, .im (dcOf (mS f bs)), .own false ((lefts us (M + 1)).map .int), .no, .no] = .rt (.im (dcOf (mS (fun b => (sums us (f b)).1) bs))) [x0, x1, .im (dcOf (mS f bs)), .own false ((lefts us (M + 1)).map .int), .no, .no] := by
  refine cw3_end _ _ _ _ _ ?_
  have at_ : ∀ b ∈ bs, (lefts us (M + 1))[(f b).toNat]? = some (sums us (f b)).1 := fun b z => by
    have := hM b z
    unfold lefts
    rw [List.getElem?_map, List.getElem?_range (by omega)]
    simp
    rw [show max (f b) 0 = f b by omega]
  have hits : ((mS f bs).map fun p => D.tup [basD p.1, p.2]).flatMap (gLf (lefts us (M + 1))) = mS (fun b => (sums us (f b)).1) bs := by
    unfold mS
    rw [List.map_map, List.flatMap_map]
    refine Eq.trans (flat_congr (g := fun b => [(b, D.int (sums us (f b)).1)]) fun b z => ?_) (flat_sing _ _)
    show (match intsOf (b.map D.int) with
      | some b' => [(b', D.int (((lefts us (M + 1))[(f b).toNat]?).getD 0))]
      | none => []) = _
    rw [intsOf_map, at_ b z]
    rfl
  have q1 := cw3_fi (mS f bs) x0 x1 (.own false ((lefts us (M + 1)).map .int))
  have q2 := cp_flat (k := ⟨(mS f bs).map fun p => .tup [basD p.1, p.2], none⟩) (vs := [5, 4]) (t := .tup [5, 4]) (body := bodyD (eVar 5) (eOp dIx (eVar 3) (eVar 4))) (g := gLf (lefts us (M + 1))) (P := PD) (env := [x0, x1, .im (dcOf (mS f bs)), .own false ((lefts us (M + 1)).map .int), .no, .no]) trivial PD_pre ((mS f bs).map fun p => .tup [basD p.1, p.2]) []
    (by rw [List.nil_append, hits]; exact mS_PD hn) fun d z acc hp => by
      obtain ⟨p, hp1, rfl⟩ := List.mem_map.mp z
      obtain ⟨b, hb1, rfl⟩ := List.mem_map.mp hp1
      have e : gLf (lefts us (M + 1)) (.tup [basD b, .int (f b)]) = [(b, .int (sums us (f b)).1)] := by
        show (match intsOf (b.map D.int) with
          | some b' => [(b', D.int (((lefts us (M + 1))[(f b).toNat]?).getD 0))]
          | none => []) = _
        rw [intsOf_map, at_ b hb1]
        rfl
      have hp : PD (acc ++ gLf (lefts us (M + 1)) (.tup [basD b, .int (f b)])) := hp
      rw [e] at hp
      obtain ⟨n1, n2⟩ := PD_last hp
      have hv : atI ((lefts us (M + 1)).map D.int) (f b) = some (D.int (sums us (f b)).1) := by
        have a := at_map (f := D.int) (at_ b hb1)
        rw [show (((f b).toNat : Nat) : Int) = f b by have := hM b hb1; omega] at a
        exact a
      refine ⟨[x0, x1, .im (dcOf (mS f bs)), .own false ((lefts us (M + 1)).map .int), .im (.int (f b)), .im (basD b)], [x0, x1, .im (dcOf (mS f bs)), .own false ((lefts us (M + 1)).map .int), .im (.int (f b)), .im (basD b)], rfl, ?_, rfl⟩
      show bodyD _ _ _ _ = .ok (acc ++ gLf (lefts us (M + 1)) (.tup [basD b, .int (f b)])) _
      rw [e]
      exact bodyD_one rfl (cw3_val _ _ _ _ _ _ _ hv) n1 n2
  rw [List.nil_append, hits] at q2
  rw [eDc_s, q1, bind_ok]
  show (R.bind (cpL _ [5, 4] (.tup [5, 4]) tT _ _ [] [x0, x1, .im (dcOf (mS f bs)), .own false ((lefts us (M + 1)).map .int), .no, .no]) _) = _
  rw [q2]
  rfl
theorem r_charges_within {gi : List (Int × Int)} {us : List Ru} (h : Shp gi us) {X : D} {ls : List Int} (hl : limOk X ls) (hg : ls.length = gi.length) : d_charges_within [.im (shopD gi us), .im X] = .ok (.im (dcOf (mS (chg gi us) (lexB ls)))) [.no, .no] := by
  have q1 := cw1 (shopD gi us) X _ (r_sums_within h hl hg)
  obtain ⟨hX, h2, h3⟩ := hl
  have hn := lexB_ok h3 h2.2 ls.length
  rw [List.take_length] at hn
  have hb : ∀ b ∈ lexB ls, 0 ≤ sumA gi us b ∧ sumA gi us b ≤ 19500 := fun b z => sumA_b h ((mem_lexB h2.2).mp z) h3 hg
  have ev : (mS (sumA gi us) (lexB ls)).map (·.2) = ((lexB ls).map (sumA gi us)).map D.int := by
    unfold mS
    rw [List.map_map, List.map_map]
    rfl
  have ne : (lexB ls).map (sumA gi us) ≠ [] := fun z => by
    have : List.replicate ls.length 0 ∈ lexB ls := (mem_lexB h2.2).mpr (inB_0 fun l z => (h3 l z).1)
    rw [List.map_eq_nil_iff.mp z] at this
    cases this
  cases hT : (lexB ls).map (sumA gi us) with
  | nil => exact (ne hT).elim
  | cons n ns =>
    have hmem : ∀ y ∈ n :: ns, 0 ≤ y ∧ y ≤ 19500 := fun y z => by
      rw [← hT] at z
      obtain ⟨b, h1, rfl⟩ := List.mem_map.mp z
      exact hb b h1
    have hM := hmem _ (fold_max_mem ns n)
    have q2 := cw2 h (.im X) ((mS (sumA gi us) (lexB ls)).map fun p => .tup (p.1.map .int)) n ns hM
    have q3 := cw3 (us := us) (f := sumA gi us) (bs := lexB ls) (M := ns.foldl max n) (fun b z => ⟨(hb b z).1, fold_max_le ns n _ (by rw [← hT]; exact List.mem_map_of_mem z)⟩) hn (.im (shopD gi us)) (.im X)
    have ed : dcOf (mS (sumA gi us) (lexB ls)) = .dct ((mS (sumA gi us) (lexB ls)).map fun p => .tup (p.1.map .int)) ((n :: ns).map .int) := by
      unfold dcOf
      rw [ev, hT]
    rw [← ed] at q2
    have q3' : f_charges_within_3 [.im (shopD gi us), .im X, .im (dcOf (mS (sumA gi us) (lexB ls))), .own false ((lefts us (ns.foldl max n + 1)).map .int), .no, .no] = .rt (.im (dcOf (mS (chg gi us) (lexB ls)))) [.im (shopD gi us), .im X, .im (dcOf (mS (sumA gi us) (lexB ls))), .own false ((lefts us (ns.foldl max n + 1)).map .int), .no, .no] := q3
    refine fin4 (rest := [.im (shopD gi us), .im X, .im (dcOf (mS (sumA gi us) (lexB ls))), .own false ((lefts us (ns.foldl max n + 1)).map .int), .no, .no]) (m := 0) rfl ?_ _ rfl
    show f_charges_within [.im (shopD gi us), .im X, .no, .no, .no, .no] = _
    unfold f_charges_within
    exact seq_of q1 (seq_of q2 q3')
theorem get_chg {f : List Int → Int} {bs : List (List Int)} {b : List Int} (h : b ∈ bs) : dDIx (dcOf (mS f bs)) (basD b) = some (.im (.int (f b))) := by
  show (match intsOf (b.map D.int) with
    | some ns => (getK ((mS f bs).map fun (p : List Int × D) => D.tup (p.1.map D.int)) ((mS f bs).map fun (p : List Int × D) => p.2) ns).map T.im
    | none => none) = _
  rw [intsOf_map]
  show (getK _ _ b).map T.im = _
  rw [getK_of]
  have : ((mS f bs).find? fun p => decide (p.1 = b)) = some (b, .int (f b)) := by
    unfold mS
    rw [List.find?_map]
    have : bs.find? (fun x => decide (x = b)) = some b := by
      induction bs with
      | nil => cases h
      | cons c bs ih =>
        rw [List.find?_cons]
        by_cases e : c = b
        · rw [e]; simp
        · rw [decide_eq_false e]
          exact ih ((List.mem_cons.mp h).resolve_left fun z => e z.symm)
    show Option.map _ (bs.find? fun x => decide (x = b)) = _
    rw [this]
    rfl
  rw [this]
  rfl

end DL
namespace DL
open PySem PySem.Spec L2
end DL
namespace DL
open PySem PySem.Spec L2
theorem leastI_pos {l : List Int} (h : ∀ x ∈ l, 0 ≤ x) : 0 ≤ leastI l := by
  cases l with
  | nil => exact Int.le_refl _
  | cons n ns => exact h _ (fold_min_mem ns n)
theorem up_le {z m : Int} (hz : 0 ≤ z) (hm : 1 ≤ m) : 0 ≤ (z + m - 1) / m ∧ (z + m - 1) / m ≤ z := by
  refine ⟨Int.ediv_nonneg (by omega) (by omega), ?_⟩
  have : (z + m - 1) / m < z + 1 := by
    rw [Int.ediv_lt_iff_lt_mul (by omega)]
    have : 1 ≤ m := hm
    have h1 : 0 ≤ z * (m - 1) := Int.mul_nonneg hz (by omega)
    have h2 : (z + 1) * m = z * (m - 1) + z + m := by rw [Int.add_mul, Int.mul_sub]; omega
    omega
  omega
theorem turn_pos {gi : List (Int × Int)} {us : List Ru} (h : Shp gi us) {k : Nat} (hk : k < gi.length) : ∀ x ∈ turnA gi us k, 0 ≤ x := by
  intro x hx
  have b := gg_b h hk
  unfold turnA at hx
  obtain ⟨j, _, rfl⟩ := List.mem_map.mp hx
  exact (amtAt_b h hk (x := (gg gi us k).1 + j) (by have := b.z.1; omega)).1
theorem settle_b {gi : List (Int × Int)} {us : List Ru} (h : Shp gi us) {k : Nat} (hk : k < gi.length) {t : Int} (ht : 0 ≤ t ∧ t ≤ 96) : 0 ≤ settle gi us k t ∧ settle gi us k t ≤ 294 := by
  obtain ⟨b1, b2, b3⟩ := gg_b h hk
  have lp := leastI_pos (turn_pos h hk)
  unfold settle
  generalize leastI (turnA gi us k) = l at lp
  obtain ⟨m1, m2, m3⟩ := mx_le (a := 0) (b := t - l)
  generalize mx 0 (t - l) = z at m1 m2 m3
  generalize gg gi us k = x at b1 b2 b3
  obtain ⟨c1, c2⟩ := up_le (z := z) (m := x.2.2) m1 b3.1
  generalize (z + x.2.2 - 1) / x.2.2 = q at c1 c2
  have e1 : x.2.1 * q ≤ 3 * 96 := Int.mul_le_mul b2.2 (by omega) c1 (by decide)
  have e2 : 0 ≤ x.2.1 * q := Int.mul_nonneg (by omega) c1
  omega
theorem cyc_b {gi : List (Int × Int)} {us : List Ru} (h : Shp gi us) {k : Nat} (hk : k < gi.length) : GrB (cyc gi us k) 294 18 150 := by
  have s := sg_bs h
  obtain ⟨b1, b2, b3⟩ := gg_b h hk
  have t := settle_b h hk s.z
  obtain ⟨s1, s2, s3⟩ := s
  unfold cyc
  refine ⟨t, ⟨?_, ?_⟩, ?_, ?_⟩
  · have := Int.mul_le_mul b2.1 s2.1 (by decide) (by omega : 0 ≤ (gg gi us k).2.1)
    simpa using this
  · exact Int.mul_le_mul b2.2 s2.2 (by omega) (by decide)
  · have := Int.mul_le_mul b3.1 s3.1 (by decide) (by omega : 0 ≤ (gg gi us k).2.2)
    simpa using this
  · exact Int.mul_le_mul b3.2 s3.2 (by omega) (by decide)
end DL
namespace DL
open PySem PySem.Spec L2
def limF (c : Int × Int × Int) (x : Int) : Int := (if c.1 < x then x else c.1) + c.2.1 - 1
def limL (gi : List (Int × Int)) (us : List Ru) (b : List Int) : List Int := (cycL gi us).zipWith limF b
def limD : D → D
  | .tup [.tup [.int s, .int p, .int g], .int x] => .int (limF (s, p, g) x)
  | d => d
theorem la_fi (sh : D) (z ys : List D) (q : d_cycles [.im sh] = .ok (.fr z) [.no]) : fiZm false (aCons (eCall d_cycles (aCons (eVar 0) aNil)) (aCons (eVar 1) aNil)) [.im sh, .im (.tup ys), .no, .no, .no, .no] = .ok ⟨zipD z ys, none⟩ [.im sh, .im (.tup ys), .no, .no, .no, .no] := by
  simp [q, iZm, onI, sEr, op2, op1, T.val, R.opt, toB, opL, vals, consT, disp, mvs, mkTup, callT, callI, argE, others, isAl, isAli, finT, outE, padE, runD, cpsOf, cpT, toI, slT, T.weak, metT, kApp, kExt, elemD, iT, iL, iR1, iR2, iE, iZ, onI]
theorem la_el (a b : Sl) (s p g x : Int) : (eOp dSub (eOp dAdd (eB dMax2 (aCons (eVar 3) (aCons (eVar 2) aNil))) (eVar 4)) (eC (.int 1))) [a, b, .im (.int x), .im (.int s), .im (.int p), .im (.int g)] = .ok (.im (.int (limF (s, p, g) x))) [a, b, .im (.int x), .im (.int s), .im (.int p), .im (.int g)] := by
  simp [limF, sEr, op2, op1, T.val, R.opt, toB, opL, vals, consT, disp, mvs, mkTup, callT, callI, argE, others, isAl, isAli, finT, outE, padE, runD, cpsOf, cpT, toI, slT, T.weak, metT, kApp, kExt, elemD, iT, iL, iR1, iR2, iE, iZ, onI]
theorem zip_lim : ∀ (cs : List (Int × Int × Int)) (b : List Int), (zipD (cs.map tri) (b.map D.int)).map limD = (cs.zipWith limF b).map D.int
  | [], _ => rfl
  | _ :: _, [] => rfl
  | c :: cs, x :: b => by
    show limD (.tup [tri c, .int x]) :: (zipD (cs.map tri) (b.map D.int)).map limD = _
    rw [zip_lim cs b]
    rfl
theorem zipT_mem {cs : List (Int × Int × Int)} {b : List Int} {d : D} (h : d ∈ zipD (cs.map tri) (b.map D.int)) : ∃ c x, d = .tup [tri c, .int x] := by
  obtain ⟨i, hi⟩ := List.getElem?_of_mem h
  obtain ⟨u, v, e1, e2, rfl⟩ := zipD_get hi
  rw [List.getElem?_map] at e1 e2
  obtain ⟨c, _, rfl⟩ := Option.map_eq_some_iff.mp e1
  obtain ⟨x, _, rfl⟩ := Option.map_eq_some_iff.mp e2
  exact ⟨c, x, rfl⟩
theorem la_end (a b : D) (zs : List D) (q : eLc (fiZm false (aCons (eCall d_cycles (aCons (eVar 0) aNil)) (aCons (eVar 1) aNil))) [3, 4, 5, 2] (.nest [3, 4, 5] 2) tT (eOp dSub (eOp dAdd (eB dMax2 (aCons (eVar 3) (aCons (eVar 2) aNil))) (eVar 4)) (eC (.int 1))) [.im a, .im b, .no, .no, .no, .no] = .ok (.fr zs) [.im a, .im b, .no, .no, .no, .no]) : d_limits_above [.im a, .im b] = .ok (.fr zs) [.no, .no] := by
  simp [d_limits_above, f_limits_above, q, sEr, op2, op1, T.val, R.opt, toB, opL, vals, consT, disp, mvs, mkTup, callT, callI, argE, others, isAl, isAli, finT, outE, padE, runD, cpsOf, cpT, toI, slT, T.weak, metT, kApp, kExt, elemD, iT, iL, iR1, iR2, iE, iZ, onI]
theorem r_limits_above {gi : List (Int × Int)} {us : List Ru} (h : Shp gi us) (b : List Int) : d_limits_above [.im (shopD gi us), .im (basD b)] = .ok (.fr ((limL gi us b).map .int)) [.no, .no] := by
  have h2 := h.len.2
  have q := eLc_of (fi := fiZm false (aCons (eCall d_cycles (aCons (eVar 0) aNil)) (aCons (eVar 1) aNil))) (vs := [3, 4, 5, 2]) (t := .nest [3, 4, 5] 2) (ft := tT) (fe := eOp dSub (eOp dAdd (eB dMax2 (aCons (eVar 3) (aCons (eVar 2) aNil))) (eVar 4)) (eC (.int 1))) (env := [.im (shopD gi us), .im (basD b), .no, .no, .no, .no]) (k := ⟨zipD ((cycL gi us).map tri) (b.map D.int), none⟩) (e := [.im (shopD gi us), .im (basD b), .no, .no, .no, .no])
    (la_fi _ _ _ (r_cycles h))
    (lc_map (k := ⟨zipD ((cycL gi us).map tri) (b.map D.int), none⟩) (vs := [3, 4, 5, 2]) (t := .nest [3, 4, 5] 2) (h := limD) (env := [.im (shopD gi us), .im (basD b), .no, .no, .no, .no]) trivial _ [] (small_size (by rw [zipD_len, List.length_map, cycL_len, List.length_map]; show 0 + _ ≤ 1000; omega)) fun d z => by
      obtain ⟨⟨s, p, g⟩, x, rfl⟩ := zipT_mem z
      exact ⟨[.im (shopD gi us), .im (basD b), .im (.int x), .im (.int s), .im (.int p), .im (.int g)], .im (.int (limF (s, p, g) x)), [.im (shopD gi us), .im (basD b), .im (.int x), .im (.int s), .im (.int p), .im (.int g)], rfl, la_el _ _ _ _ _ _, rfl, rfl⟩)
  rw [List.nil_append, zip_lim] at q
  exact la_end _ _ _ q
theorem limL_len {gi : List (Int × Int)} {us : List Ru} {b : List Int} (hb : b.length = gi.length) : (limL gi us b).length = gi.length := by
  unfold limL
  rw [List.length_zipWith, cycL_len, hb]
  omega
theorem limL_at {gi : List (Int × Int)} {us : List Ru} {b : List Int} {k : Nat} {l : Int} (h : (limL gi us b)[k]? = some l) : ∃ x, b[k]? = some x ∧ k < gi.length ∧ l = limF (cyc gi us k) x := by
  unfold limL at h
  rw [List.getElem?_zipWith] at h
  split at h
  · rename_i c x e1 e2
    cases h
    unfold cycL at e1
    rw [List.getElem?_map] at e1
    obtain ⟨j, e3, rfl⟩ := Option.map_eq_some_iff.mp e1
    have hj : k < gi.length := by
      have := (List.getElem?_eq_some_iff.mp e3).1
      simpa using this
    rw [List.getElem?_range hj] at e3
    cases e3
    exact ⟨x, e2, hj, rfl⟩
  · cases h
theorem limL_b {gi : List (Int × Int)} {us : List Ru} (h : Shp gi us) {b : List Int} (hb : ∀ x ∈ b, 0 ≤ x ∧ x ≤ 100) : ∀ l ∈ limL gi us b, 0 ≤ l ∧ l ≤ 650 := fun l hl => by
  obtain ⟨k, hk⟩ := List.getElem?_of_mem hl
  obtain ⟨x, e1, e2, rfl⟩ := limL_at hk
  have c := cyc_b h e2
  have := hb x (List.mem_of_getElem? e1)
  have := c.z
  have := c.s
  unfold limF
  split <;> omega
def leB (b g : List Int) : Bool := (g.zipWith (fun y x => decide (x ≤ y)) b).all id
def leD : D → D
  | .tup [.int y, .int x] => .bl (decide (x ≤ y))
  | d => d
theorem ct_el (a b : Sl) (x y : Int) : (eOp dGe (eVar 2) (eVar 3)) [a, b, .im (.int y), .im (.int x)] = .ok (.im (.bl (decide (x ≤ y)))) [a, b, .im (.int y), .im (.int x)] := by
  simp [sEr, op2, op1, T.val, R.opt, toB, opL, vals, consT, disp, mvs, mkTup, callT, callI, argE, others, isAl, isAli, finT, outE, padE, runD, cpsOf, cpT, toI, slT, T.weak, metT, kApp, kExt, elemD, iT, iL, iR1, iR2, iE, iZ, onI]
theorem zip_le : ∀ (g b : List Int), (zipD (g.map D.int) (b.map D.int)).map leD = (g.zipWith (fun y x => decide (x ≤ y)) b).map D.bl
  | [], _ => rfl
  | _ :: _, [] => rfl
  | c :: cs, x :: b => by
    show leD (.tup [.int c, .int x]) :: (zipD (cs.map D.int) (b.map D.int)).map leD = _
    rw [zip_le cs b]
    rfl
theorem ct_end (a b : D) (zs : List D) (r : Bool) (q : eLc (fiZ false (aCons (eVar 0) (aCons (eVar 1) aNil))) [2, 3] (.tup [2, 3]) tT (eOp dGe (eVar 2) (eVar 3)) [.im a, .im b, .no, .no] = .ok (.fr zs) [.im a, .im b, .no, .no]) (al : dAll [.lst zs] = some (.im (.bl r))) : d_contains [.im a, .im b] = .ok (.im (.bl r)) [.no, .no] := by
  simp [d_contains, f_contains, q, al, sEr, op2, op1, T.val, R.opt, toB, opL, vals, consT, disp, mvs, mkTup, callT, callI, argE, others, isAl, isAli, finT, outE, padE, runD, cpsOf, cpT, toI, slT, T.weak, metT, kApp, kExt, elemD, iT, iL, iR1, iR2, iE, iZ, onI]
theorem r_contains (g b : List Int) (hg : g.length ≤ 100) : d_contains [.im (basD g), .im (basD b)] = .ok (.im (.bl (leB b g))) [.no, .no] := by
  have q := eLc_of (fi := fiZ false (aCons (eVar 0) (aCons (eVar 1) aNil))) (vs := [2, 3]) (t := .tup [2, 3]) (ft := tT) (fe := eOp dGe (eVar 2) (eVar 3)) (env := [.im (basD g), .im (basD b), .no, .no]) (k := ⟨zipD (g.map D.int) (b.map D.int), none⟩) (e := [.im (basD g), .im (basD b), .no, .no])
    (by simp [sEr, op2, op1, T.val, R.opt, toB, opL, vals, consT, disp, mvs, mkTup, callT, callI, argE, others, isAl, isAli, finT, outE, padE, runD, cpsOf, cpT, toI, slT, T.weak, metT, kApp, kExt, elemD, iT, iL, iR1, iR2, iE, iZ, onI])
    (lc_map (k := ⟨zipD (g.map D.int) (b.map D.int), none⟩) (vs := [2, 3]) (t := .tup [2, 3]) (h := leD) (env := [.im (basD g), .im (basD b), .no, .no]) trivial _ [] (small_size (by rw [zipD_len, List.length_map, List.length_map]; show 0 + _ ≤ 1000; omega)) fun d z => by
      obtain ⟨i, hi⟩ := List.getElem?_of_mem z
      obtain ⟨u, v, e1, e2, rfl⟩ := zipD_get hi
      rw [List.getElem?_map] at e1 e2
      obtain ⟨y, _, rfl⟩ := Option.map_eq_some_iff.mp e1
      obtain ⟨x, _, rfl⟩ := Option.map_eq_some_iff.mp e2
      exact ⟨[.im (basD g), .im (basD b), .im (.int y), .im (.int x)], .im (.bl (decide (x ≤ y))), [.im (basD g), .im (basD b), .im (.int y), .im (.int x)], rfl, ct_el _ _ _ _, rfl, rfl⟩)
  rw [List.nil_append, zip_le] at q
  refine ct_end _ _ _ _ q ?_
  rw [dAll_lst, blsOf_map]
  rfl
def aboveL (gi : List (Int × Int)) (us : List Ru) (b : List Int) : List (List Int) := (basketsIn (limL gi us b)).filter (leB b)
def chD (gi : List (Int × Int)) (us : List Ru) (g : List Int) : D := .tup [.int (chg gi us g), basD g]
noncomputable def basF {α : Type} (x0 : α) (f : List Int → α) (d : D) : α := open Classical in if h : ∃ g, d = basD g then f h.choose else x0
theorem basD_inj : ∀ {a b : List Int}, basD a = basD b → a = b := fun {a b} h => by
  injection h with h
  induction a generalizing b with
  | nil => cases b with
    | nil => rfl
    | cons => cases h
  | cons x a ih => cases b with
    | nil => cases h
    | cons y b =>
      rw [List.map_cons, List.map_cons] at h
      injection h with h1 h2
      injection h1 with h1
      rw [h1, ih h2]
theorem basF_is {α : Type} (x0 : α) (f : List Int → α) (g : List Int) : basF x0 f (basD g) = f g := by
  unfold basF
  have h : ∃ z, basD g = basD z := ⟨g, rfl⟩
  rw [dif_pos h, ← basD_inj h.choose_spec]
theorem ca_12 (sh b d : D) (z : List D) (q : d_limits_above [.im sh, .im b] = .ok (.fr z) [.no, .no]) (q2 : d_charges_within [.im sh, .im (.lst z)] = .ok (.im d) [.no, .no]) (hf : D.flat d = true) : f_charges_above_1 [.im sh, .im b, .no, .no, .no] = .nx [.im sh, .im b, .own false z, .no, .no] ∧ f_charges_above_2 [.im sh, .im b, .own false z, .no, .no] = .nx [.im sh, .im b, .own false z, .im d, .no] := by
  constructor
  · simp [f_charges_above_1, q, sEr, op2, op1, T.val, R.opt, toB, opL, vals, consT, disp, mvs, mkTup, callT, callI, argE, others, isAl, isAli, finT, outE, padE, runD, cpsOf, cpT, toI, slT, T.weak, metT, kApp, kExt, elemD, iT, iL, iR1, iR2, iE, iZ, onI]
  · have f3 : flatT (.im d) = true := hf
    simp [f_charges_above_2, q2, f3, sEr, op2, op1, T.val, R.opt, toB, opL, vals, consT, disp, mvs, mkTup, callT, callI, argE, others, isAl, isAli, finT, outE, padE, runD, cpsOf, cpT, toI, slT, T.weak, metT, kApp, kExt, elemD, iT, iL, iR1, iR2, iE, iZ, onI]
theorem ca_fi (sh b dd : Sl) (z y : List D) (hf : D.flats y = true) (q : d_baskets_within [.im (.lst z)] = .ok (.fr y) [.no]) : fiL false (eCall d_baskets_within (aCons (eVar 2) aNil)) [sh, b, .own false z, dd, .no] = .ok ⟨y, none⟩ [sh, b, .own false z, dd, .no] := by
  have f3 : flatT (.fr y) = true := hf
  simp [q, f3, sEr, op2, op1, T.val, R.opt, toB, opL, vals, consT, disp, mvs, mkTup, callT, callI, argE, others, isAl, isAli, finT, outE, padE, runD, cpsOf, cpT, toI, slT, T.weak, metT, kApp, kExt, elemD, iT, iL, iR1, iR2, iE, iZ, onI]
theorem ca_t (sh dd : Sl) (b g : D) (z : List D) (r : Bool) (q : d_contains [.im g, .im b] = .ok (.im (.bl r)) [.no, .no]) : (tV (eCall d_contains (aCons (eVar 4) (aCons (eVar 1) aNil)))) [sh, .im b, .own false z, dd, .im g] = .ok r [sh, .im b, .own false z, dd, .im g] := by
  simp [q, sEr, op2, op1, T.val, R.opt, toB, opL, vals, consT, disp, mvs, mkTup, callT, callI, argE, others, isAl, isAli, finT, outE, padE, runD, cpsOf, cpT, toI, slT, T.weak, metT, kApp, kExt, elemD, iT, iL, iR1, iR2, iE, iZ, onI]
theorem ca_e (sh b : Sl) (d g : D) (z : List D) (r : D) (q : dDIx d g = some (.im r)) : (eTup (aCons (eDIx (eVar 3) (eVar 4)) (aCons (eVar 4) aNil))) [sh, b, .own false z, .im d, .im g] = .ok (.im (.tup [r, g])) [sh, b, .own false z, .im d, .im g] := by
  simp [q, sEr, op2, op1, T.val, R.opt, toB, opL, vals, consT, disp, mvs, mkTup, callT, callI, argE, others, isAl, isAli, finT, outE, padE, runD, cpsOf, cpT, toI, slT, T.weak, metT, kApp, kExt, elemD, iT, iL, iR1, iR2, iE, iZ, onI]
theorem ca_end (a b : D) (x2 x3 : Sl) (zs : List D) (q : eLc (fiL false (eCall d_baskets_within (aCons (eVar 2) aNil))) [4] (.one 4) (tV (eCall d_contains (aCons (eVar 4) (aCons (eVar 1) aNil)))) (eTup (aCons (eDIx (eVar 3) (eVar 4)) (aCons (eVar 4) aNil))) [.im a, .im b, x2, x3, .no] = .ok (.fr zs) [.im a, .im b, x2, x3, .no]) (ho : outE [.im a, .im b] [.im a, .im b, x2, x3, .no] = some [.no, .no]) : finF [.im a, .im b] (f_charges_above_3 [.im a, .im b, x2, x3, .no]) = .ok (.fr zs) [.no, .no] := by
  simp [f_charges_above_3, q, ho, sEr, op2, op1, T.val, R.opt, toB, opL, vals, consT, disp, mvs, mkTup, callT, callI, argE, others, isAl, isAli, finT, outE, padE, runD, cpsOf, cpT, toI, slT, T.weak, metT, kApp, kExt, elemD, iT, iL, iR1, iR2, iE, iZ, onI]
theorem flats_bas : ∀ bs : List (List Int), D.flats (bs.map basD) = true
  | [] => rfl
  | b :: bs => by
    rw [List.map_cons]
    unfold D.flats
    rw [flats_bas bs, Bool.and_true]
    have : ∀ l : List Int, D.flats (l.map D.int) = true := fun l => by
      induction l with
      | nil => rfl
      | cons x l ih => rw [List.map_cons]; unfold D.flats; rw [ih]; rfl
    unfold D.flat
    exact this b
theorem ca_run (a b : D) : d_charges_above [.im a, .im b] = finF [.im a, .im b] (f_charges_above [.im a, .im b, .no, .no, .no]) := by
  unfold d_charges_above runD
  rw [if_pos (show [Sl.im a, Sl.im b].length = 2 from rfl)]
  exact congrArg (fun e => finF [Sl.im a, Sl.im b] (f_charges_above e)) rfl
theorem flat_dc (f : List Int → Int) (bs : List (List Int)) : D.flat (dcOf (mS f bs)) = true := by
  unfold dcOf mS D.flat
  rw [List.map_map]
  induction bs with
  | nil => rfl
  | cons b bs ih => rw [List.map_cons]; unfold D.flats; rw [ih]; rfl
theorem r_charges_above {gi : List (Int × Int)} {us : List Ru} (h : Shp gi us) {b : List Int} (hb : b.length = gi.length) (h0 : ∀ x ∈ b, 0 ≤ x ∧ x ≤ 100) : d_charges_above [.im (shopD gi us), .im (basD b)] = .ok (.fr ((aboveL gi us b).map (chD gi us))) [.no, .no] := by
  have ll := limL_len (us := us) hb
  have lb := limL_b h h0
  have lo : limOk (.lst ((limL gi us b).map .int)) (limL gi us b) := ⟨.inr rfl, by rw [ll]; exact h.len, lb⟩
  have big := basketsIn_len lb (by rw [ll]; exact h.len.2)
  obtain ⟨q1, q2⟩ := ca_12 _ _ _ _ (r_limits_above h b) (r_charges_within h lo ll) (flat_dc _ _)
  have bw := r_baskets_within lo
  have hz : ([] : List D).length + ((basketsIn (limL gi us b)).map basD).length ≤ 1000000 := by
    rw [List.length_nil, List.length_map, Nat.zero_add]
    exact big
  have q := eLc_of (fi := fiL false (eCall d_baskets_within (aCons (eVar 2) aNil))) (vs := [4]) (t := .one 4) (ft := tV (eCall d_contains (aCons (eVar 4) (aCons (eVar 1) aNil)))) (fe := eTup (aCons (eDIx (eVar 3) (eVar 4)) (aCons (eVar 4) aNil))) (env := [.im (shopD gi us), .im (basD b), .own false ((limL gi us b).map .int), .im (dcOf (mS (chg gi us) (lexB (limL gi us b)))), .no]) (k := ⟨(basketsIn (limL gi us b)).map basD, none⟩) (e := [.im (shopD gi us), .im (basD b), .own false ((limL gi us b).map .int), .im (dcOf (mS (chg gi us) (lexB (limL gi us b)))), .no])
    (ca_fi _ _ _ _ _ (flats_bas _) bw)
    (lc_filter (k := ⟨(basketsIn (limL gi us b)).map basD, none⟩) (vs := [4]) (t := .one 4) (p := basF false (leB b)) (h := basF .non (chD gi us)) (env := [.im (shopD gi us), .im (basD b), .own false ((limL gi us b).map .int), .im (dcOf (mS (chg gi us) (lexB (limL gi us b)))), .no]) trivial _ [] (big_size hz) fun d z => by
      obtain ⟨g, hg, rfl⟩ := List.mem_map.mp z
      have hi := (mem_in (by rw [ll]; exact h.len)).mp hg
      have gl : g.length = gi.length := (inB_len hi).trans ll
      have h2 := h.len.2
      rw [basF_is, basF_is]
      refine ⟨[.im (shopD gi us), .im (basD b), .own false ((limL gi us b).map .int), .im (dcOf (mS (chg gi us) (lexB (limL gi us b)))), .im (basD g)], _, rfl, ca_t _ _ _ _ _ _ (r_contains g b (by omega)), rfl, fun _ => ⟨.im (chD gi us g), _, ca_e _ _ _ _ _ _ (get_chg ((mem_lexB (by rw [ll]; exact h.len.2)).mpr hi)), rfl, rfl⟩⟩)
  have e1 : basF false (leB b) ∘ basD = leB b := funext fun g => basF_is _ _ g
  have e2 : basF D.non (chD gi us) ∘ basD = chD gi us := funext fun g => basF_is _ _ g
  rw [List.nil_append, List.filter_map, List.map_map, e1, e2] at q
  rw [ca_run]
  unfold f_charges_above
  rw [seq_of q1 (seq_of q2 rfl)]
  exact ca_end _ _ _ _ _ q rfl
theorem cf_ok (sh b : D) (s : Int) (q : d_check_basket [.im sh, .im b] = .ok (.im .non) [.no, .no]) (q2 : dSum [b] = some (.im (.int s))) (hs : ¬ 100 < s) : d_check_few [.im sh, .im b] = .ok (.im .non) [.no, .no] := by
  simp [d_check_few, f_check_few, f_check_few_1, f_check_few_2, q, q2, hs, sEr, op2, op1, T.val, R.opt, toB, opL, vals, consT, disp, mvs, mkTup, callT, callI, argE, others, isAl, isAli, finT, outE, padE, runD, cpsOf, cpT, toI, slT, T.weak, metT, kApp, kExt, elemD, iT, iL, iR1, iR2, iE, iZ, onI]
theorem cf_no (sh b : D) (s : Int) (q : d_check_basket [.im sh, .im b] = .ok (.im .non) [.no, .no]) (q2 : dSum [b] = some (.im (.int s))) (hs : 100 < s) : d_check_few [.im sh, .im b] = .ex "InvalidBasket" [.no, .no] := by
  simp [d_check_few, f_check_few, f_check_few_1, f_check_few_2, q, q2, hs, finF, sEr, op2, op1, T.val, R.opt, toB, opL, vals, consT, disp, mvs, mkTup, callT, callI, argE, others, isAl, isAli, finT, outE, padE, runD, cpsOf, cpT, toI, slT, T.weak, metT, kApp, kExt, elemD, iT, iL, iR1, iR2, iE, iZ, onI]
theorem sum_bas (b : List Int) : dSum [basD b] = some (.im (.int b.sum)) := by
  rw [dSum_tup, intsOf_map]
  rfl
abbrev E8' (a b c d e f g h : Sl) : En := [a, b, c, d, e, f, g, h]
def fst8 : D → D
  | .tup [c, _] => c
  | d => d
def snd8 : D → D
  | .tup [_, g] => g
  | d => d
def eq8 (m : Int) : D → Bool
  | .tup [.int c, _] => c == m
  | _ => false
theorem ga_1 (sh b : D) (q : d_check_few [.im sh, .im b] = .ok (.im .non) [.no, .no]) : f_least_above_1 (E8' (.im sh) (.im b) .no .no .no .no .no .no) = .nx (E8' (.im sh) (.im b) .no .no .no .no .no .no) := by
  simp [f_least_above_1, q, sEr, op2, op1, T.val, R.opt, toB, opL, vals, consT, disp, mvs, mkTup, callT, callI, argE, others, isAl, isAli, finT, outE, padE, runD, cpsOf, cpT, toI, slT, T.weak, metT, kApp, kExt, elemD, iT, iL, iR1, iR2, iE, iZ, onI]
theorem ga_2 (sh b : D) (L : List D) (q : d_charges_above [.im sh, .im b] = .ok (.fr L) [.no, .no]) : f_least_above_2 (E8' (.im sh) (.im b) .no .no .no .no .no .no) = .nx (E8' (.im sh) (.im b) (.own false L) .no .no .no .no .no) := by
  simp [f_least_above_2, q, sEr, op2, op1, T.val, R.opt, toB, opL, vals, consT, disp, mvs, mkTup, callT, callI, argE, others, isAl, isAli, finT, outE, padE, runD, cpsOf, cpT, toI, slT, T.weak, metT, kApp, kExt, elemD, iT, iL, iR1, iR2, iE, iZ, onI]
theorem ga_3a {gi : List (Int × Int)} {us : List Ru} (sh b : Sl) (gs : List (List Int)) (hz : gs.length ≤ 1000000) : eLc (fiL false (eVar 2)) [5, 7] (.tup [5, 7]) tT (eVar 5) (E8' sh b (.own false (gs.map (chD gi us))) .no .no .no .no .no) = .ok (.fr ((gs.map (chg gi us)).map D.int)) (E8' sh b (.own false (gs.map (chD gi us))) .no .no .no .no .no) := by
  have q := eLc_of (fi := fiL false (eVar 2)) (vs := [5, 7]) (t := .tup [5, 7]) (ft := tT) (fe := eVar 5) (env := E8' sh b (.own false (gs.map (chD gi us))) .no .no .no .no .no) (k := ⟨gs.map (chD gi us), some (2, gs.map (chD gi us))⟩) (e := E8' sh b (.own false (gs.map (chD gi us))) .no .no .no .no .no) (by simp [sEr, op2, op1, T.val, R.opt, toB, opL, vals, consT, disp, mvs, mkTup, callT, callI, argE, others, isAl, isAli, finT, outE, padE, runD, cpsOf, cpT, toI, slT, T.weak, metT, kApp, kExt, elemD, iT, iL, iR1, iR2, iE, iZ, onI])
    (lc_map (k := ⟨gs.map (chD gi us), some (2, gs.map (chD gi us))⟩) (vs := [5, 7]) (t := .tup [5, 7]) (h := fst8) (env := E8' sh b (.own false (gs.map (chD gi us))) .no .no .no .no .no) ⟨false, rfl⟩ (gs.map (chD gi us)) [] (big_size (by rw [List.length_nil, List.length_map, Nat.zero_add]; exact hz)) fun d z => by
      obtain ⟨g, _, rfl⟩ := List.mem_map.mp z
      exact ⟨E8' sh b (.own false (gs.map (chD gi us))) .no .no (.im (.int (chg gi us g))) .no (.im (basD g)), _, _, rfl, rfl, rfl, rfl⟩)
  rw [List.nil_append, List.map_map] at q
  rw [List.map_map]
  exact q
theorem ga_3 (sh b : Sl) (L : List D) (m : D) (zs : List D) (q : eLc (fiL false (eVar 2)) [5, 7] (.tup [5, 7]) tT (eVar 5) (E8' sh b (.own false L) .no .no .no .no .no) = .ok (.fr zs) (E8' sh b (.own false L) .no .no .no .no .no)) (q2 : dMin1 [.lst zs] = some (.im m)) : f_least_above_3 (E8' sh b (.own false L) .no .no .no .no .no) = .nx (E8' sh b (.own false L) (.im m) .no .no .no .no) := by
  simp [f_least_above_3, q, q2, sEr, op2, op1, T.val, R.opt, toB, opL, vals, consT, disp, mvs, mkTup, callT, callI, argE, others, isAl, isAli, finT, outE, padE, runD, cpsOf, cpT, toI, slT, T.weak, metT, kApp, kExt, elemD, iT, iL, iR1, iR2, iE, iZ, onI]
theorem ga_t (sh b : Sl) (L : List D) (m c : Int) (g : D) : (tV (eOp dEqA (eVar 5) (eVar 3))) (E8' sh b (.own false L) (.im (.int m)) .no (.im (.int c)) (.im g) .no) = .ok (c == m) (E8' sh b (.own false L) (.im (.int m)) .no (.im (.int c)) (.im g) .no) := by
  simp [sEr, op2, op1, T.val, R.opt, toB, opL, vals, consT, disp, mvs, mkTup, callT, callI, argE, others, isAl, isAli, finT, outE, padE, runD, cpsOf, cpT, toI, slT, T.weak, metT, kApp, kExt, elemD, iT, iL, iR1, iR2, iE, iZ, onI]
theorem ga_4a {gi : List (Int × Int)} {us : List Ru} (sh b : Sl) (m : Int) (gs : List (List Int)) (hz : gs.length ≤ 1000000) : eLc (fiL false (eVar 2)) [5, 6] (.tup [5, 6]) (tV (eOp dEqA (eVar 5) (eVar 3))) (eVar 6) (E8' sh b (.own false (gs.map (chD gi us))) (.im (.int m)) .no .no .no .no) = .ok (.fr ((gs.filter fun g => chg gi us g == m).map basD)) (E8' sh b (.own false (gs.map (chD gi us))) (.im (.int m)) .no .no .no .no) := by
  have q := eLc_of (fi := fiL false (eVar 2)) (vs := [5, 6]) (t := .tup [5, 6]) (ft := tV (eOp dEqA (eVar 5) (eVar 3))) (fe := eVar 6) (env := E8' sh b (.own false (gs.map (chD gi us))) (.im (.int m)) .no .no .no .no) (k := ⟨gs.map (chD gi us), some (2, gs.map (chD gi us))⟩) (e := E8' sh b (.own false (gs.map (chD gi us))) (.im (.int m)) .no .no .no .no) (by simp [sEr, op2, op1, T.val, R.opt, toB, opL, vals, consT, disp, mvs, mkTup, callT, callI, argE, others, isAl, isAli, finT, outE, padE, runD, cpsOf, cpT, toI, slT, T.weak, metT, kApp, kExt, elemD, iT, iL, iR1, iR2, iE, iZ, onI])
    (lc_filter (k := ⟨gs.map (chD gi us), some (2, gs.map (chD gi us))⟩) (vs := [5, 6]) (t := .tup [5, 6]) (p := eq8 m) (h := snd8) (env := E8' sh b (.own false (gs.map (chD gi us))) (.im (.int m)) .no .no .no .no) ⟨false, rfl⟩ (gs.map (chD gi us)) [] (big_size (by rw [List.length_nil, List.length_map, Nat.zero_add]; exact hz)) fun d z => by
      obtain ⟨g, _, rfl⟩ := List.mem_map.mp z
      exact ⟨E8' sh b (.own false (gs.map (chD gi us))) (.im (.int m)) .no (.im (.int (chg gi us g))) (.im (basD g)) .no, _, rfl, ga_t _ _ _ _ _ _, rfl, fun _ => ⟨.im (basD g), _, rfl, rfl, rfl⟩⟩)
  rw [List.nil_append, List.filter_map, List.map_map] at q
  exact q
theorem ga_4 (sh b m : Sl) (L : List D) (zs : List D) (q : eLc (fiL false (eVar 2)) [5, 6] (.tup [5, 6]) (tV (eOp dEqA (eVar 5) (eVar 3))) (eVar 6) (E8' sh b (.own false L) m .no .no .no .no) = .ok (.fr zs) (E8' sh b (.own false L) m .no .no .no .no)) : f_least_above_4 (E8' sh b (.own false L) m .no .no .no .no) = .nx (E8' sh b (.own false L) m (.own false zs) .no .no .no) := by
  simp [f_least_above_4, q, sEr, op2, op1, T.val, R.opt, toB, opL, vals, consT, disp, mvs, mkTup, callT, callI, argE, others, isAl, isAli, finT, outE, padE, runD, cpsOf, cpT, toI, slT, T.weak, metT, kApp, kExt, elemD, iT, iL, iR1, iR2, iE, iZ, onI]
theorem ga_5 (sh b m g : D) (L zs : List D) (q : dIx (.lst zs) (.int 0) = some (.im g)) : finF [.im sh, .im b] (f_least_above_5 (E8' (.im sh) (.im b) (.own false L) (.im m) (.own false zs) .no .no .no)) = .ok (.im (.tup [m, g])) [.no, .no] := by
  simp [f_least_above_5, q, sEr, op2, op1, T.val, R.opt, toB, opL, vals, consT, disp, mvs, mkTup, callT, callI, argE, others, isAl, isAli, finT, outE, padE, runD, cpsOf, cpT, toI, slT, T.weak, metT, kApp, kExt, elemD, iT, iL, iR1, iR2, iE, iZ, onI]
theorem ga_run (a b : D) : d_least_above [.im a, .im b] = finF [.im a, .im b] (f_least_above (E8' (.im a) (.im b) .no .no .no .no .no .no)) := by
  unfold d_least_above runD
  rw [if_pos (show [Sl.im a, Sl.im b].length = 2 from rfl)]
  exact congrArg (fun e => finF [Sl.im a, Sl.im b] (f_least_above e)) rfl
theorem leB_iff : ∀ {b g : List Int}, b.length = g.length → (leB b g = true ↔ ∀ (k : Nat) (x y : Int), b[k]? = some x → g[k]? = some y → x ≤ y)
  | [], [], _ => by simp [leB]
  | x :: b, y :: g, h => by
    have ih := leB_iff (b := b) (g := g) (by simpa using h)
    have e : leB (x :: b) (y :: g) = (decide (x ≤ y) && leB b g) := by simp [leB]
    rw [e, Bool.and_eq_true, decide_eq_true_eq, ih]
    constructor
    · rintro ⟨h1, h2⟩ k u v e1 e2
      cases k with
      | zero => cases e1; cases e2; exact h1
      | succ k => exact h2 k u v e1 e2
    · exact fun h => ⟨h 0 x y rfl rfl, fun k u v e1 e2 => h (k + 1) u v e1 e2⟩
  | [], _ :: _, h => by cases h
  | _ :: _, [], h => by cases h
theorem mem_above {gi : List (Int × Int)} {us : List Ru} (h : Shp gi us) {b g : List Int} (hb : b.length = gi.length) : g ∈ aboveL gi us b ↔ inB g (limL gi us b) ∧ leB b g = true := by
  unfold aboveL
  rw [List.mem_filter, mem_in (by rw [limL_len hb]; exact h.len)]
theorem own_above {gi : List (Int × Int)} {us : List Ru} (h : Shp gi us) {b : List Int} (hb : b.length = gi.length) (h0 : ∀ x ∈ b, 0 ≤ x ∧ x ≤ 100) : b ∈ aboveL gi us b := by
  rw [mem_above h hb]
  constructor
  · have key : ∀ {bs ls : List Int}, bs.length = ls.length → (∀ x ∈ bs, 0 ≤ x) → (∀ (k : Nat) (x l : Int), bs[k]? = some x → ls[k]? = some l → x ≤ l) → inB bs ls := fun {bs} => by
      induction bs with
      | nil => intro ls e _ _; cases ls with
        | nil => trivial
        | cons => cases e
      | cons x bs ih => intro ls e p q; cases ls with
        | nil => cases e
        | cons l ls => exact ⟨⟨p x List.mem_cons_self, q 0 x l rfl rfl⟩, ih (by simpa using e) (fun y z => p y (List.mem_cons_of_mem _ z)) fun k y m e1 e2 => q (k + 1) y m e1 e2⟩
    refine key (by rw [limL_len hb, hb]) (fun x z => (h0 x z).1) fun k x l e1 e2 => ?_
    obtain ⟨x', e3, hk, rfl⟩ := limL_at e2
    rw [e1] at e3
    cases e3
    have := (cyc_b h hk).s
    unfold limF
    split <;> omega
  · rw [leB_iff rfl]
    intro k x y e1 e2
    rw [e1] at e2
    cases e2
    exact Int.le_refl _
theorem r_least_above {gi : List (Int × Int)} {us : List Ru} (h : Shp gi us) {b : List Int} (hb : b.length = gi.length) (h0 : ∀ x ∈ b, 0 ≤ x ∧ x ≤ 100) (hs : b.sum ≤ 100) : ∃ (m : Int) (g : List Int), d_least_above [.im (shopD gi us), .im (basD b)] = .ok (.im (.tup [.int m, basD g])) [.no, .no] ∧ (∀ x ∈ aboveL gi us b, m ≤ chg gi us x) ∧ ((aboveL gi us b).filter fun x => chg gi us x == m).head? = some g := by
  have big : (aboveL gi us b).length ≤ 1000000 := Nat.le_trans (List.length_filter_le _ _) (basketsIn_len (limL_b h h0) (by rw [limL_len hb]; exact h.len.2))
  have own := own_above h hb h0
  have cf := cf_ok (shopD gi us) (basD b) b.sum (bas_is h hb fun x z => by have := h0 x z; omega) (sum_bas b) (by omega)
  cases e : aboveL gi us b with
  | nil => rw [e] at own; cases own
  | cons g0 gs =>
    have fm := fold_min_mem (gs.map (chg gi us)) (chg gi us g0)
    have fl := fold_min_le (gs.map (chg gi us)) (chg gi us g0)
    generalize hm : (gs.map (chg gi us)).foldl min (chg gi us g0) = m at fm fl
    have mn : dMin1 [.lst (((aboveL gi us b).map (chg gi us)).map D.int)] = some (.im (.int m)) := by
      rw [e, List.map_cons, dMin1_lst, hm]
    obtain ⟨x0, hx0, hx⟩ : ∃ x ∈ aboveL gi us b, chg gi us x = m := by
      have : m ∈ (aboveL gi us b).map (chg gi us) := by rw [e, List.map_cons]; exact fm
      exact List.mem_map.mp this
    cases ef : (aboveL gi us b).filter fun x => chg gi us x == m with
    | nil =>
      have := List.filter_eq_nil_iff.mp ef x0 hx0
      simp [hx] at this
    | cons g r =>
      refine ⟨m, g, ?_, fun x hx => ?_, by rw [← e, ef]; rfl⟩
      · rw [ga_run]
        unfold f_least_above
        have q3 := ga_3 (.im (shopD gi us)) (.im (basD b)) _ _ _ (ga_3a (gi := gi) (us := us) (.im (shopD gi us)) (.im (basD b)) _ big) mn
        have q4 := ga_4 (.im (shopD gi us)) (.im (basD b)) (.im (.int m)) _ _ (ga_4a (gi := gi) (us := us) (.im (shopD gi us)) (.im (basD b)) m _ big)
        rw [seq_of (ga_1 _ _ cf) (seq_of (ga_2 _ _ _ (r_charges_above h hb h0)) (seq_of q3 (seq_of q4 rfl)))]
        rw [ef]
        refine ga_5 _ _ _ _ _ _ ?_
        rw [List.map_cons]
        simp [dIx, ixN]
      · refine fl _ ?_
        rw [← List.map_cons (f := chg gi us)]
        exact List.mem_map_of_mem hx

end DL
namespace DL
open PySem PySem.Spec L2
inductive Ac where
  | off (n : Nat) | most (n : Nat) (m : Int)
deriving DecidableEq
def Ac.d : Ac → D
  | .off n => .tup [.str "off", .int n]
  | .most n m => .tup [.str "most", .int n, .int m]
def Ru.lessM : Ru → Int → Bool
  | .pack _ _ _ none, _ => true
  | .pack _ _ _ (some k), m => decide (m < k)
  | .each _ _ none, _ => true
  | .each _ _ (some k), m => decide (m < k)
  | _, _ => false
@[simp] theorem at_m3 (a b c : D) : atI [a, b, c] (-1) = some c := rfl
@[simp] theorem at_m4 (a b c d : D) : atI [a, b, c, d] (-1) = some d := rfl
@[simp] theorem at_m5 (a b c d e : D) : atI [a, b, c, d, e] (-1) = some e := rfl
end DL
namespace DL
open PySem PySem.Spec L2
def keep (as : List Ac) (n : Nat) : Bool := !as.any fun a => decide (a = Ac.off n)
def Ac.ok (us : List Ru) : Ac → Prop
  | .off n => n < us.length
  | .most n m => (1 ≤ m ∧ m ≤ 2) ∧ ∃ u, us[n]? = some u ∧ u.lessM m = true
theorem ok_off : PyData.strOk ("off" : Str) = true := by decide +kernel
theorem ok_most : PyData.strOk ("most" : Str) = true := by decide +kernel
@[simp] theorem v1 : (("off" : Str) == "most") = false := by decide +kernel
@[simp] theorem v2 : (("most" : Str) == "off") = false := by decide +kernel
theorem shp_off (k : Int) : shp (.tup [.str "off", .int k]) = true := by
  rw [shp_eq]
  simp [lay, lays, dep, deps, ok_off]
theorem shp_most (k m : Int) : shp (.tup [.str "most", .int k, .int m]) = true := by
  rw [shp_eq]
  simp [lay, lays, dep, deps, ok_most]
theorem Ac.shp (a : Ac) : DL.shp a.d = true := by
  cases a with
  | off n => exact shp_off n
  | most n m => exact shp_most n m
def keepD (as : List Ac) : D → Bool
  | .int i => keep as i.toNat
  | _ => false
end DL
namespace DL
open PySem PySem.Spec L2
def Ac.lt : Ac → Ac → Bool
  | .most _ _, .off _ => true
  | .off _, .most _ _ => false
  | .off n, .off k => decide (n < k)
  | .most n m, .most k l => decide (n < k) || (decide (n = k) && decide (m < l))
end DL
namespace DL
open PySem PySem.Spec L2
end DL
namespace DL
open PySem PySem.Spec L2
abbrev rsd (k : Int) : D := .tup [.str "raised", .int k]
theorem try_ex {i : Nat} {f : FS} {env e : En} {x : Str} (h : f env = .ex x e) : sTry i f env = tryE i x e := by
  unfold sTry
  rw [h]
theorem try_rt {i : Nat} {f : FS} {env e : En} {t : T} (h : f env = .rt t e) : sTry i f env = .rt t e := by
  unfold sTry
  rw [h]
theorem te_of {i : Nat} {e : En} {x : Str} {k : Nat} (h : i < e.length) (hx : xn.idxOf? x = some k) : tryE i x e = .rt (.im (rsd k)) e := by
  unfold tryE
  rw [if_pos h, hx]
theorem xi0 : xn.idxOf? ("InvalidShop" : Str) = some 0 := by decide +kernel
theorem xi1 : xn.idxOf? ("InvalidBasket" : Str) = some 1 := by decide +kernel
theorem so_raised : PyData.strOk ("raised" : Str) = true := by decide +kernel
theorem shp_rsd (k : Int) : shp (rsd k) = true := by
  rw [shp_eq]
  simp [lay, lays, dep, deps, so_raised]
theorem eqv_rsd (j k : Int) : eqv (rsd j) (rsd k) = decide (j = k) := by
  rw [Bool.eq_iff_iff]; simp
theorem ne_rsd (k : Int) : dNeA (rsd k) (rsd k) = some (.im (.bl false)) := by
  unfold dNeA dNeS dNe
  dsimp only
  rw [if_pos ⟨shp_rsd k, shp_rsd k⟩, eqv_rsd]
  simp
theorem x_check_shop {v : D} (h : isShop v = false) : d_check_shop [.im v] = .ex "InvalidShop" [.no] := by
  simp [d_check_shop, f_check_shop, r_is_shop, h, finF, sEr, op2, op1, T.val, R.opt, toB, opL, vals, consT, disp, mvs, mkTup, callT, callI, argE, others, isAl, isAli, finT, outE, padE, runD, cpsOf, cpT, toI, slT, T.weak, metT, kApp, kExt, elemD, iT, iL, iR1, iR2, iE, iZ, onI]
theorem x_check_basket {gi : List (Int × Int)} {us : List Ru} (h : Shp gi us) {v : D} (n : isBasket gi.length v = false) : d_check_basket [.im (shopD gi us), .im v] = .ex "InvalidBasket" [.no, .no] := by
  have c := r_is_basket (v := v) h.is
  rw [List.length_map, n] at c
  change d_is_basket [.im (shopD gi us), .im v] = _ at c
  generalize shopD gi us = sh at c
  simp [d_check_basket, f_check_basket, c, finF, sEr, op2, op1, T.val, R.opt, toB, opL, vals, consT, disp, mvs, mkTup, callT, callI, argE, others, isAl, isAli, finT, outE, padE, runD, cpsOf, cpT, toI, slT, T.weak, metT, kApp, kExt, elemD, iT, iL, iR1, iR2, iE, iZ, onI]

end DL
namespace DL
open PySem PySem.Spec L2
def topS (i : Nat) : Stmt := PySem.Challenge.pw_sureprices_k07_charges_refused.main.body.getD i (.Pass ⟨0, 0, 0, 0⟩)
structure Bl (K : PySem.W.Frag) (mg : Str → Option Value) : Prop where
  b_ValueError : mg "ValueError" = none
  b_all : mg "all" = none
  b_any : mg "any" = none
  b_bool : mg "bool" = none
  b_enumerate : mg "enumerate" = none
  b_int : mg "int" = none
  b_isinstance : mg "isinstance" = none
  b_len : mg "len" = none
  b_list : mg "list" = none
  b_max : mg "max" = none
  b_min : mg "min" = none
  b_range : mg "range" = none
  b_reversed : mg "reversed" = none
  b_str : mg "str" = none
  b_sum : mg "sum" = none
  b_tuple : mg "tuple" = none
  b_zip : mg "zip" = none
  g_MOST_GOODS : ∃ u, mg "MOST_GOODS" = some u ∧ RelV (.int 2) u
  g_MOST_IN_ALL : ∃ u, mg "MOST_IN_ALL" = some u ∧ RelV (.int 100) u
  g_MOST_PIECES : ∃ u, mg "MOST_PIECES" = some u ∧ RelV (.int 1000000) u
  g_MOST_RULES : ∃ u, mg "MOST_RULES" = some u ∧ RelV (.int 4) u
  g_SUM_WORDS : GlT K mg "SUM_WORDS" g_SUM_WORDS
  k_InvalidBasket : ExcK K mg "InvalidBasket"
  k_InvalidShop : ExcK K mg "InvalidShop"
abbrev s_is_integer : Stmt := topS 18
theorem sc_is_integer : FnScope ["value"] ["value"] (defScope s_is_integer) := ⟨rfl, rfl, rfl, by decide +kernel, rfl, by decide +kernel, by decide +kernel⟩
abbrev s_is_between : Stmt := topS 19
theorem sc_is_between : FnScope ["value", "low", "high"] ["value", "low", "high"] (defScope s_is_between) := ⟨rfl, rfl, rfl, by decide +kernel, rfl, by decide +kernel, by decide +kernel⟩
abbrev s_is_tuple_of : Stmt := topS 20
theorem sc_is_tuple_of : FnScope ["value", "length"] ["value", "length"] (defScope s_is_tuple_of) := ⟨rfl, rfl, rfl, by decide +kernel, rfl, by decide +kernel, by decide +kernel⟩
abbrev s_is_most : Stmt := topS 21
theorem sc_is_most : FnScope ["value"] ["value"] (defScope s_is_most) := ⟨rfl, rfl, rfl, by decide +kernel, rfl, by decide +kernel, by decide +kernel⟩
abbrev s_is_good : Stmt := topS 22
theorem sc_is_good : FnScope ["value", "price", "cost"] ["value"] (defScope s_is_good) := ⟨rfl, rfl, rfl, by decide +kernel, rfl, by decide +kernel, by decide +kernel⟩
abbrev s_is_pack : Stmt := topS 23
theorem sc_is_pack : FnScope ["value", "many_goods", "_", "good", "size", "price", "most"] ["value", "many_goods"] (defScope s_is_pack) := ⟨rfl, rfl, rfl, by decide +kernel, rfl, by decide +kernel, by decide +kernel⟩
abbrev s_is_from : Stmt := topS 24
theorem sc_is_from : FnScope ["value", "many_goods", "_", "good", "least", "price"] ["value", "many_goods"] (defScope s_is_from) := ⟨rfl, rfl, rfl, by decide +kernel, rfl, by decide +kernel, by decide +kernel⟩
abbrev s_is_over : Stmt := topS 25
theorem sc_is_over : FnScope ["value", "_", "full", "off"] ["value"] (defScope s_is_over) := ⟨rfl, rfl, rfl, by decide +kernel, rfl, by decide +kernel, by decide +kernel⟩
abbrev s_is_each : Stmt := topS 26
theorem sc_is_each : FnScope ["value", "_", "full", "off", "most"] ["value"] (defScope s_is_each) := ⟨rfl, rfl, rfl, by decide +kernel, rfl, by decide +kernel, by decide +kernel⟩
abbrev s_is_rule : Stmt := topS 27
theorem sc_is_rule : FnScope ["value", "many_goods", "word"] ["value", "many_goods"] (defScope s_is_rule) := ⟨rfl, rfl, rfl, by decide +kernel, rfl, by decide +kernel, by decide +kernel⟩
abbrev s_is_endless_each : Stmt := topS 28
theorem sc_is_endless_each : FnScope ["rule"] ["rule"] (defScope s_is_endless_each) := ⟨rfl, rfl, rfl, by decide +kernel, rfl, by decide +kernel, by decide +kernel⟩
abbrev s_are_goods : Stmt := topS 29
theorem sc_are_goods : FnScope ["value", "good"] ["value"] (defScope s_are_goods) := ⟨rfl, rfl, rfl, by decide +kernel, rfl, by decide +kernel, by decide +kernel⟩
abbrev s_are_rules : Stmt := topS 30
theorem sc_are_rules : FnScope ["value", "many_goods", "rule"] ["value", "many_goods"] (defScope s_are_rules) := ⟨rfl, rfl, rfl, by decide +kernel, rfl, by decide +kernel, by decide +kernel⟩
abbrev s_is_shop : Stmt := topS 31
theorem sc_is_shop : FnScope ["value", "goods", "rules"] ["value"] (defScope s_is_shop) := ⟨rfl, rfl, rfl, by decide +kernel, rfl, by decide +kernel, by decide +kernel⟩
abbrev s_check_shop : Stmt := topS 32
theorem sc_check_shop : FnScope ["shop"] ["shop"] (defScope s_check_shop) := ⟨rfl, rfl, rfl, by decide +kernel, rfl, by decide +kernel, by decide +kernel⟩
abbrev s_are_pieces : Stmt := topS 33
theorem sc_are_pieces : FnScope ["shop", "value", "pieces"] ["shop", "value"] (defScope s_are_pieces) := ⟨rfl, rfl, rfl, by decide +kernel, rfl, by decide +kernel, by decide +kernel⟩
abbrev s_is_basket : Stmt := topS 34
theorem sc_is_basket : FnScope ["shop", "value"] ["shop", "value"] (defScope s_is_basket) := ⟨rfl, rfl, rfl, by decide +kernel, rfl, by decide +kernel, by decide +kernel⟩
abbrev s_check_basket : Stmt := topS 35
theorem sc_check_basket : FnScope ["shop", "basket"] ["shop", "basket"] (defScope s_check_basket) := ⟨rfl, rfl, rfl, by decide +kernel, rfl, by decide +kernel, by decide +kernel⟩
abbrev s_full_times : Stmt := topS 38
theorem sc_full_times : FnScope ["whole", "part", "most", "times"] ["whole", "part", "most"] (defScope s_full_times) := ⟨rfl, rfl, rfl, by decide +kernel, rfl, by decide +kernel, by decide +kernel⟩
abbrev s_fitting_rule : Stmt := topS 39
theorem sc_fitting_rule : FnScope ["rules", "good", "pieces", "number", "rule"] ["rules", "good", "pieces"] (defScope s_fitting_rule) := ⟨rfl, rfl, rfl, by decide +kernel, rfl, by decide +kernel, by decide +kernel⟩
abbrev s_pack_times : Stmt := topS 40
theorem sc_pack_times : FnScope ["rule", "pieces", "_", "size", "most"] ["rule", "pieces"] (defScope s_pack_times) := ⟨rfl, rfl, rfl, by decide +kernel, rfl, by decide +kernel, by decide +kernel⟩
abbrev s_pack_amount : Stmt := topS 41
theorem sc_pack_amount : FnScope ["rule", "price", "pieces", "times", "_", "size", "pack_price"] ["rule", "price", "pieces"] (defScope s_pack_amount) := ⟨rfl, rfl, rfl, by decide +kernel, rfl, by decide +kernel, by decide +kernel⟩
abbrev s_good_amount : Stmt := topS 42
theorem sc_good_amount : FnScope ["shop", "good", "pieces", "number", "rule", "goods", "rules", "price", "_"] ["shop", "good", "pieces"] (defScope s_good_amount) := ⟨rfl, rfl, rfl, by decide +kernel, rfl, by decide +kernel, by decide +kernel⟩
abbrev s_off_times : Stmt := topS 43
theorem sc_off_times : FnScope ["rule", "left"] ["rule", "left"] (defScope s_off_times) := ⟨rfl, rfl, rfl, by decide +kernel, rfl, by decide +kernel, by decide +kernel⟩
abbrev s_apply_sums : Stmt := topS 44
theorem sc_apply_sums : FnScope ["rules", "total", "left", "taken", "rule", "times"] ["rules", "total"] (defScope s_apply_sums) := ⟨rfl, rfl, rfl, by decide +kernel, rfl, by decide +kernel, by decide +kernel⟩
abbrev s_amounts_of : Stmt := topS 45
theorem sc_amounts_of : FnScope ["shop", "basket", "good", "pieces"] ["shop", "basket"] (defScope s_amounts_of) := ⟨rfl, rfl, rfl, by decide +kernel, rfl, by decide +kernel, by decide +kernel⟩
abbrev s_left_of : Stmt := topS 46
theorem sc_left_of : FnScope ["rules", "total", "left", "_"] ["rules", "total"] (defScope s_left_of) := ⟨rfl, rfl, rfl, by decide +kernel, rfl, by decide +kernel, by decide +kernel⟩
abbrev s_charge_of : Stmt := topS 47
theorem sc_charge_of : FnScope ["shop", "basket"] ["shop", "basket"] (defScope s_charge_of) := ⟨rfl, rfl, rfl, by decide +kernel, rfl, by decide +kernel, by decide +kernel⟩
abbrev s_uses_of : Stmt := topS 48
theorem sc_uses_of : FnScope ["shop", "basket", "rules", "_", "counts", "good", "pieces", "number", "rule"] ["shop", "basket"] (defScope s_uses_of) := ⟨rfl, rfl, rfl, by decide +kernel, rfl, by decide +kernel, by decide +kernel⟩
abbrev s_costs_of : Stmt := topS 49
theorem sc_costs_of : FnScope ["shop", "basket", "good", "pieces"] ["shop", "basket"] (defScope s_costs_of) := ⟨rfl, rfl, rfl, by decide +kernel, rfl, by decide +kernel, by decide +kernel⟩
abbrev s_gain_of : Stmt := topS 50
theorem sc_gain_of : FnScope ["shop", "basket"] ["shop", "basket"] (defScope s_gain_of) := ⟨rfl, rfl, rfl, by decide +kernel, rfl, by decide +kernel, by decide +kernel⟩
abbrev s_amounts : Stmt := topS 51
theorem sc_amounts : FnScope ["shop", "basket"] ["shop", "basket"] (defScope s_amounts) := ⟨rfl, rfl, rfl, by decide +kernel, rfl, by decide +kernel, by decide +kernel⟩
abbrev s_charge : Stmt := topS 52
theorem sc_charge : FnScope ["shop", "basket"] ["shop", "basket"] (defScope s_charge) := ⟨rfl, rfl, rfl, by decide +kernel, rfl, by decide +kernel, by decide +kernel⟩
abbrev s_uses : Stmt := topS 53
theorem sc_uses : FnScope ["shop", "basket"] ["shop", "basket"] (defScope s_uses) := ⟨rfl, rfl, rfl, by decide +kernel, rfl, by decide +kernel, by decide +kernel⟩
abbrev s_gain : Stmt := topS 54
theorem sc_gain : FnScope ["shop", "basket"] ["shop", "basket"] (defScope s_gain) := ⟨rfl, rfl, rfl, by decide +kernel, rfl, by decide +kernel, by decide +kernel⟩
abbrev s_without_rule : Stmt := topS 56
theorem sc_without_rule : FnScope ["shop", "number", "goods", "rules"] ["shop", "number"] (defScope s_without_rule) := ⟨rfl, rfl, rfl, by decide +kernel, rfl, by decide +kernel, by decide +kernel⟩
abbrev s_effects : Stmt := topS 57
theorem sc_effects : FnScope ["shop", "basket", "charged", "number"] ["shop", "basket"] (defScope s_effects) := ⟨rfl, rfl, rfl, by decide +kernel, rfl, by decide +kernel, by decide +kernel⟩
abbrev s_baskets_of : Stmt := topS 59
theorem sc_baskets_of : FnScope ["pieces", "limits", "counts", "first", "second", "count"] ["pieces", "limits"] (defScope s_baskets_of) := ⟨rfl, rfl, rfl, by decide +kernel, rfl, by decide +kernel, by decide +kernel⟩
abbrev s_baskets_within : Stmt := topS 60
theorem sc_baskets_within : FnScope ["limits", "pieces", "basket"] ["limits"] (defScope s_baskets_within) := ⟨rfl, rfl, rfl, by decide +kernel, rfl, by decide +kernel, by decide +kernel⟩
abbrev s_sums_within : Stmt := topS 61
theorem sc_sums_within : FnScope ["shop", "limits", "sums", "good", "limit", "table", "longer", "pieces", "basket", "total", "amount"] ["shop", "limits"] (defScope s_sums_within) := ⟨rfl, rfl, rfl, by decide +kernel, rfl, by decide +kernel, by decide +kernel⟩
abbrev s_charges_within : Stmt := topS 62
theorem sc_charges_within : FnScope ["shop", "limits", "sums", "left", "total", "basket"] ["shop", "limits"] (defScope s_charges_within) := ⟨rfl, rfl, rfl, by decide +kernel, rfl, by decide +kernel, by decide +kernel⟩
abbrev s_rounded_up : Stmt := topS 64
theorem sc_rounded_up : FnScope ["whole", "part"] ["whole", "part"] (defScope s_rounded_up) := ⟨rfl, rfl, rfl, by decide +kernel, rfl, by decide +kernel, by decide +kernel⟩
abbrev s_sum_growth : Stmt := topS 65
theorem sc_sum_growth : FnScope ["rules", "rule", "start", "step", "more", "_", "full", "off", "most"] ["rules"] (defScope s_sum_growth) := ⟨rfl, rfl, rfl, by decide +kernel, rfl, by decide +kernel, by decide +kernel⟩
abbrev s_good_growth : Stmt := topS 66
theorem sc_good_growth : FnScope ["shop", "good", "number", "rule", "goods", "rules", "price", "_", "size", "pack_price", "most"] ["shop", "good"] (defScope s_good_growth) := ⟨rfl, rfl, rfl, by decide +kernel, rfl, by decide +kernel, by decide +kernel⟩
abbrev s_settled_pieces : Stmt := topS 67
theorem sc_settled_pieces : FnScope ["shop", "good", "total", "least", "start", "step", "more", "extra"] ["shop", "good", "total"] (defScope s_settled_pieces) := ⟨rfl, rfl, rfl, by decide +kernel, rfl, by decide +kernel, by decide +kernel⟩
abbrev s_cycle : Stmt := topS 68
theorem sc_cycle : FnScope ["shop", "good", "start", "step", "more", "_", "pieces", "amount"] ["shop", "good"] (defScope s_cycle) := ⟨rfl, rfl, rfl, by decide +kernel, rfl, by decide +kernel, by decide +kernel⟩
abbrev s_cycles : Stmt := topS 69
theorem sc_cycles : FnScope ["shop", "good"] ["shop"] (defScope s_cycles) := ⟨rfl, rfl, rfl, by decide +kernel, rfl, by decide +kernel, by decide +kernel⟩
abbrev s_check_few : Stmt := topS 72
theorem sc_check_few : FnScope ["shop", "basket"] ["shop", "basket"] (defScope s_check_few) := ⟨rfl, rfl, rfl, by decide +kernel, rfl, by decide +kernel, by decide +kernel⟩
abbrev s_contains : Stmt := topS 73
theorem sc_contains : FnScope ["greater", "basket", "more", "pieces"] ["greater", "basket"] (defScope s_contains) := ⟨rfl, rfl, rfl, by decide +kernel, rfl, by decide +kernel, by decide +kernel⟩
abbrev s_limits_above : Stmt := topS 74
theorem sc_limits_above : FnScope ["shop", "basket", "pieces", "start", "more", "_"] ["shop", "basket"] (defScope s_limits_above) := ⟨rfl, rfl, rfl, by decide +kernel, rfl, by decide +kernel, by decide +kernel⟩
abbrev s_charges_above : Stmt := topS 75
theorem sc_charges_above : FnScope ["shop", "basket", "limits", "charges", "greater"] ["shop", "basket"] (defScope s_charges_above) := ⟨rfl, rfl, rfl, by decide +kernel, rfl, by decide +kernel, by decide +kernel⟩
abbrev s_least_above : Stmt := topS 76
theorem sc_least_above : FnScope ["shop", "basket", "found", "least", "cheapest", "charged", "greater", "_"] ["shop", "basket"] (defScope s_least_above) := ⟨rfl, rfl, rfl, by decide +kernel, rfl, by decide +kernel, by decide +kernel⟩
abbrev s_fewest_more : Stmt := topS 77
theorem sc_fewest_more : FnScope ["shop", "basket", "own", "charged", "greater"] ["shop", "basket"] (defScope s_fewest_more) := ⟨rfl, rfl, rfl, by decide +kernel, rfl, by decide +kernel, by decide +kernel⟩
abbrev s__law_which : Stmt := topS 79
theorem sc__law_which : FnScope ["_law_e", "_law_own"] ["_law_e"] (defScope s__law_which) := ⟨rfl, rfl, rfl, by decide +kernel, rfl, by decide +kernel, by decide +kernel⟩
abbrev s__law_cell_at : Stmt := topS 80
theorem sc__law_cell_at : FnScope ["_law_script", "_law_k", "_law_spare", "_law_again"] ["_law_script", "_law_k"] (defScope s__law_cell_at) := ⟨rfl, rfl, rfl, by decide +kernel, rfl, by decide +kernel, by decide +kernel⟩
abbrev s__law_mixed : Stmt := topS 81
theorem sc__law_mixed : FnScope ["_law_script", "_law_k", "_law_many", "_law_spun"] ["_law_script", "_law_k", "_law_many"] (defScope s__law_mixed) := ⟨rfl, rfl, rfl, by decide +kernel, rfl, by decide +kernel, by decide +kernel⟩
abbrev s__law_draw : Stmt := topS 82
theorem sc__law_draw : FnScope ["_law_script", "_law_state", "_law_many"] ["_law_script", "_law_state", "_law_many"] (defScope s__law_draw) := ⟨rfl, rfl, rfl, by decide +kernel, rfl, by decide +kernel, by decide +kernel⟩
abbrev s__law_pick : Stmt := topS 83
theorem sc__law_pick : FnScope ["_law_script", "_law_state", "_law_some"] ["_law_script", "_law_state", "_law_some"] (defScope s__law_pick) := ⟨rfl, rfl, rfl, by decide +kernel, rfl, by decide +kernel, by decide +kernel⟩
abbrev s__law_some_rule : Stmt := topS 84
theorem sc__law_some_rule : FnScope ["_law_script", "_law_state", "_law_goods", "_law_capped", "_law_kind", "_law_good", "_law_single", "_law_whole", "_law_most", "_law_size", "_law_price"] ["_law_script", "_law_state", "_law_goods", "_law_capped"] (defScope s__law_some_rule) := ⟨rfl, rfl, rfl, by decide +kernel, rfl, by decide +kernel, by decide +kernel⟩
abbrev s__law_some_goods : Stmt := topS 85
theorem sc__law_some_goods : FnScope ["_law_script", "_law_state", "_law_count", "_law_again"] ["_law_script", "_law_state"] (defScope s__law_some_goods) := ⟨rfl, rfl, rfl, by decide +kernel, rfl, by decide +kernel, by decide +kernel⟩
abbrev s__law_some_shop : Stmt := topS 86
theorem sc__law_some_shop : FnScope ["_law_script", "_law_state", "_law_again", "_law_goods", "_law_rules", "_law_capped", "_law_rule"] ["_law_script", "_law_state"] (defScope s__law_some_shop) := ⟨rfl, rfl, rfl, by decide +kernel, rfl, by decide +kernel, by decide +kernel⟩
abbrev s__law_told : Stmt := topS 87
theorem sc__law_told : FnScope ["_law_shop", "_law_basket", "_law_which_here", "_law_e"] ["_law_shop", "_law_basket", "_law_which_here"] (defScope s__law_told) := ⟨rfl, rfl, rfl, by decide +kernel, rfl, by decide +kernel, by decide +kernel⟩
noncomputable def f__law_told : FS := (sTry 3 (sSeq (sIf (tV (eOp dEqA (eVar 2) (eC (.int 0)))) (sRet (eCall d_charge (aCons (eVar 0) (aCons (eVar 1) aNil)))) sNx)
    (sSeq (sIf (tV (eOp dEqA (eVar 2) (eC (.int 1)))) (sRet (eCall d_amounts (aCons (eVar 0) (aCons (eVar 1) aNil)))) sNx)
    (sSeq (sIf (tV (eOp dEqA (eVar 2) (eC (.int 2)))) (sRet (eCall d_uses (aCons (eVar 0) (aCons (eVar 1) aNil)))) sNx)
    (sSeq (sIf (tV (eOp dEqA (eVar 2) (eC (.int 3)))) (sRet (eCall d_gain (aCons (eVar 0) (aCons (eVar 1) aNil)))) sNx)
    (sSeq (sIf (tV (eOp dEqA (eVar 2) (eC (.int 4)))) (sRet (eCall d_effects (aCons (eVar 0) (aCons (eVar 1) aNil)))) sNx)
    (sRet (eIf (tV (eOp dEqA (eVar 2) (eC (.int 5)))) (eCall d_least_above (aCons (eVar 0) (aCons (eVar 1) aNil))) (eCall d_fewest_more (aCons (eVar 0) (aCons (eVar 1) aNil)))))))))))
noncomputable def d__law_told : FD := runD 4 3 f__law_told
abbrev s_law : Stmt := topS 88
theorem sc_law : FnScope ["_law_script", "_law_state", "_law_shop", "_law_count", "_law_which_here", "_law_far", "_law_bad"] ["_law_script"] (defScope s_law) := ⟨rfl, rfl, rfl, by decide +kernel, rfl, by decide +kernel, by decide +kernel⟩
noncomputable def b_law_1_1 : FS := (sIf (tV (eOp dNeA (eCall d__law_told (aCons (eVar 6) (aCons (eC .non) (aCons (eVar 4) aNil)))) (eTup (aCons (eC (.str "raised")) (aCons (eC (.int 0)) aNil))))) (sRet (eC (.bl false))) sNx)
noncomputable def b_law_1 : FS := b_law_1_1
noncomputable def b_law_2_1 : FS := (sIf (tV (eOp dNeA (eCall d__law_told (aCons (eVar 2) (aCons (eVar 6) (aCons (eVar 4) aNil)))) (eTup (aCons (eC (.str "raised")) (aCons (eC (.int 1)) aNil))))) (sRet (eC (.bl false))) sNx)
noncomputable def b_law_2 : FS := b_law_2_1
noncomputable def b_law_3_1 : FS := (sFor (fiT (eTup (aCons (eC .non) (aCons (eLst aNil) (aCons (eTup (aCons (eOp dIx (eVar 2) (eC (.int 0))) aNil)) (aCons (eB dList (aCons (eVar 2) aNil)) (aCons (eC (.int 5)) aNil))))))) (gN 6) b_law_1)
noncomputable def b_law_3_2 : FS := (sAsg (eOp dMulT (eTup (aCons (eOp dAdd (eOp dPow (eC (.int 10)) (eC (.int 6))) (eC (.int 1))) aNil)) (eVar 3)) (gN 5))
noncomputable def b_law_3_3 : FS := (sFor (fiT (eTup (aCons (eC .non) (aCons (eTup aNil) (aCons (eOp dMulA (eLst (aCons (eC (.int 1)) aNil)) (eVar 3)) (aCons (eOp dMulT (eTup (aCons (eC (.int 1)) aNil)) (eOp dAdd (eVar 3) (eC (.int 1)))) (aCons (eOp dMulT (eTup (aCons (eUn dNeg (eC (.int 1))) aNil)) (eVar 3)) (aCons (eVar 5) (aCons (eOp dMulT (eTup (aCons (eC (.bl true)) aNil)) (eVar 3)) (aCons (eC (.int 7)) aNil)))))))))) (gN 6) b_law_2)
noncomputable def b_law_3 : FS := sSeq b_law_3_1 (sSeq b_law_3_2 (b_law_3_3))
noncomputable def f_law_1 : FS := (sAsg (eLst aNil) (gN 1))
noncomputable def f_law_2 : FS := (sAsg (eCallI 1 d__law_some_shop (aCons (eVar 0) (aCons (eVar 1) aNil))) (gN 2))
noncomputable def f_law_3 : FS := (sAsg (eB dLen (aCons (eOp dIx (eVar 2) (eC (.int 0))) aNil)) (gN 3))
noncomputable def f_law_4 : FS := (sFor (fiR1 (aCons (eC (.int 7)) aNil)) (gN 4) b_law_3)
noncomputable def f_law_5 : FS := (sAsg (eOp dAdd (eTup (aCons (eC (.int 101)) aNil)) (eOp dMulT (eTup (aCons (eC (.int 0)) aNil)) (eOp dSub (eVar 3) (eC (.int 1))))) (gN 5))
noncomputable def f_law_6 : FS := (sIf (tV (eOp dNeA (eLc (fiT (eTup (aCons (eC (.int 5)) (aCons (eC (.int 6)) aNil)))) [4] (.one 4) tT (eCall d__law_told (aCons (eVar 2) (aCons (eVar 5) (aCons (eVar 4) aNil))))) (eOp dMulA (eLst (aCons (eTup (aCons (eC (.str "raised")) (aCons (eC (.int 1)) aNil))) aNil)) (eC (.int 2))))) (sRet (eC (.bl false))) sNx)
noncomputable def f_law_7 : FS := (sRet (eOp dLe (eOp dIx (eCall d__law_told (aCons (eVar 2) (aCons (eOp dAdd (eTup (aCons (eC (.int 100)) aNil)) (eSl (eVar 5) (tPa (eC (.int 1))) tNp)) (aCons (eC (.int 5)) aNil)))) (eC (.int 0))) (eCall d__law_told (aCons (eVar 2) (aCons (eOp dAdd (eTup (aCons (eC (.int 100)) aNil)) (eSl (eVar 5) (tPa (eC (.int 1))) tNp)) (aCons (eC (.int 0)) aNil))))))
noncomputable def f_law : FS := sSeq f_law_1 (sSeq f_law_2 (sSeq f_law_3 (sSeq f_law_4 (sSeq f_law_5 (sSeq f_law_6 (f_law_7))))))
noncomputable def d_law : FD := runD 7 1 f_law
section
variable {P : Program} {w : World} {K : PySem.W.Frag} {mg : Str → Option Value} {base : Heap}
theorem ok_is_integer {f : Addr} {fd : FuncData} (B : Bl K mg) (F : Fun K "is_integer" "is_integer" s_is_integer f fd) :
    FnOk P w K mg base (L2.CX P w) 1 f fd ["value"] (spD K mg d_is_integer) :=
  fn_ok F sc_is_integer rfl rfl fun cdv A outer s H vs E env0 hr => by
    exact (dss_one (ds_ret (de_and (de_isi (by rfl) B.b_isinstance (de_var 0 (pv 0)) (pe_bltn (by rfl) B.b_int bo_int rfl)) (de_one (de_not (de_isi (by rfl) B.b_isinstance (de_var 0 (pv 0)) (pe_bltn (by rfl) B.b_bool bo_bool rfl)))))))
theorem ok_is_between {f : Addr} {fd : FuncData} (B : Bl K mg) (F : Fun K "is_between" "is_between" s_is_between f fd)
    {a_is_integer : Addr} {e_is_integer : FuncData} (C_is_integer : Cd K mg "is_integer" s_is_integer ["value"] a_is_integer e_is_integer) (G_is_integer : FnOk P w K mg base (L2.CX P w) 1 a_is_integer e_is_integer ["value"] (spD K mg d_is_integer)) :
    FnOk P w K mg base (L2.CX P w) 2 f fd ["value", "low", "high"] (spD K mg d_is_between) :=
  fn_ok F sc_is_between rfl rfl fun cdv A outer s H vs E env0 hr => by
    exact (dss_one (ds_ret (de_and (de_call G_is_integer (hr.mono (by decide)) (by rfl) C_is_integer.g C_is_integer.F.kp C_is_integer.b (takes_of rfl rfl rfl rfl) (da_cons (de_var 0 (pv 0)) da_nil)) (de_one (de_chain op_le d_le op_le d_le (de_var 1 (pv 1)) (de_var 0 (pv 0)) (de_var 2 (pv 2)) (by rfl))))))
theorem ok_is_tuple_of {f : Addr} {fd : FuncData} (B : Bl K mg) (F : Fun K "is_tuple_of" "is_tuple_of" s_is_tuple_of f fd) :
    FnOk P w K mg base (L2.CX P w) 1 f fd ["value", "length"] (spD K mg d_is_tuple_of) :=
  fn_ok F sc_is_tuple_of rfl rfl fun cdv A outer s H vs E env0 hr => by
    exact (dss_one (ds_ret (de_and (de_isi (by rfl) B.b_isinstance (de_var 0 (pv 0)) (pe_bltn (by rfl) B.b_tuple bo_tuple rfl)) (de_one (de_cmp (op_eqA hr.units) d_eqA (de_b d_len call_lenA (by rfl) B.b_len bo_len (da_cons (de_var 0 (pv 0)) da_nil)) (de_var 1 (pv 1)) (nomark _))))))
theorem ok_is_most {f : Addr} {fd : FuncData} (B : Bl K mg) (F : Fun K "is_most" "is_most" s_is_most f fd)
    {a_is_between : Addr} {e_is_between : FuncData} (C_is_between : Cd K mg "is_between" s_is_between ["value", "low", "high"] a_is_between e_is_between) (G_is_between : FnOk P w K mg base (L2.CX P w) 2 a_is_between e_is_between ["value", "low", "high"] (spD K mg d_is_between)) :
    FnOk P w K mg base (L2.CX P w) 3 f fd ["value"] (spD K mg d_is_most) :=
  fn_ok F sc_is_most rfl rfl fun cdv A outer s H vs E env0 hr => by
    exact (dss_one (ds_ret (de_or (de_cmp op_is d_is (de_var 0 (pv 0)) de_non (nomark _)) (de_one (de_call G_is_between (hr.mono (by decide)) (by rfl) C_is_between.g C_is_between.F.kp C_is_between.b (takes_of rfl rfl rfl rfl) (da_cons (de_var 0 (pv 0)) (da_cons de_int (da_cons de_int da_nil))))))))
theorem ok_is_good {f : Addr} {fd : FuncData} (B : Bl K mg) (F : Fun K "is_good" "is_good" s_is_good f fd)
    {a_is_tuple_of : Addr} {e_is_tuple_of : FuncData} (C_is_tuple_of : Cd K mg "is_tuple_of" s_is_tuple_of ["value", "length"] a_is_tuple_of e_is_tuple_of) (G_is_tuple_of : FnOk P w K mg base (L2.CX P w) 1 a_is_tuple_of e_is_tuple_of ["value", "length"] (spD K mg d_is_tuple_of))
    {a_is_between : Addr} {e_is_between : FuncData} (C_is_between : Cd K mg "is_between" s_is_between ["value", "low", "high"] a_is_between e_is_between) (G_is_between : FnOk P w K mg base (L2.CX P w) 2 a_is_between e_is_between ["value", "low", "high"] (spD K mg d_is_between)) :
    FnOk P w K mg base (L2.CX P w) 3 f fd ["value"] (spD K mg d_is_good) :=
  fn_ok F sc_is_good rfl rfl fun cdv A outer s H vs E env0 hr => by
    exact (dss_cons (ds_if (dt_not (dt_val (de_call G_is_tuple_of (hr.mono (by decide)) (by rfl) C_is_tuple_of.g C_is_tuple_of.F.kp C_is_tuple_of.b (takes_of rfl rfl rfl rfl) (da_cons (de_var 0 (pv 0)) (da_cons de_int da_nil))))) (dss_one (ds_ret de_bl)) dss_nil)
    (dss_cons (ds_asg (de_var 0 (pv 0)) (dg_tup rfl (dgs_cons (dg_name (pg_name (i := 1) sc_is_good.nd rfl (by first | exact .inl rfl | exact .inr rfl))) (dgs_cons (dg_name (pg_name (i := 2) sc_is_good.nd rfl (by first | exact .inl rfl | exact .inr rfl))) dgs_nil))))
    (dss_one (ds_ret (de_and (de_call G_is_between (hr.mono (by decide)) (by rfl) C_is_between.g C_is_between.F.kp C_is_between.b (takes_of rfl rfl rfl rfl) (da_cons (de_var 1 (pv 1)) (da_cons de_int (da_cons de_int da_nil)))) (de_one (de_call G_is_between (hr.mono (by decide)) (by rfl) C_is_between.g C_is_between.F.kp C_is_between.b (takes_of rfl rfl rfl rfl) (da_cons (de_var 2 (pv 2)) (da_cons de_int (da_cons de_int da_nil))))))))))
theorem ok_is_pack {f : Addr} {fd : FuncData} (B : Bl K mg) (F : Fun K "is_pack" "is_pack" s_is_pack f fd)
    {a_is_tuple_of : Addr} {e_is_tuple_of : FuncData} (C_is_tuple_of : Cd K mg "is_tuple_of" s_is_tuple_of ["value", "length"] a_is_tuple_of e_is_tuple_of) (G_is_tuple_of : FnOk P w K mg base (L2.CX P w) 1 a_is_tuple_of e_is_tuple_of ["value", "length"] (spD K mg d_is_tuple_of))
    {a_is_between : Addr} {e_is_between : FuncData} (C_is_between : Cd K mg "is_between" s_is_between ["value", "low", "high"] a_is_between e_is_between) (G_is_between : FnOk P w K mg base (L2.CX P w) 2 a_is_between e_is_between ["value", "low", "high"] (spD K mg d_is_between))
    {a_is_most : Addr} {e_is_most : FuncData} (C_is_most : Cd K mg "is_most" s_is_most ["value"] a_is_most e_is_most) (G_is_most : FnOk P w K mg base (L2.CX P w) 3 a_is_most e_is_most ["value"] (spD K mg d_is_most)) :
    FnOk P w K mg base (L2.CX P w) 4 f fd ["value", "many_goods"] (spD K mg d_is_pack) :=
  fn_ok F sc_is_pack rfl rfl fun cdv A outer s H vs E env0 hr => by
    exact (dss_cons (ds_if (dt_not (dt_val (de_call G_is_tuple_of (hr.mono (by decide)) (by rfl) C_is_tuple_of.g C_is_tuple_of.F.kp C_is_tuple_of.b (takes_of rfl rfl rfl rfl) (da_cons (de_var 0 (pv 0)) (da_cons de_int da_nil))))) (dss_one (ds_ret de_bl)) dss_nil)
    (dss_cons (ds_asg (de_var 0 (pv 0)) (dg_tup rfl (dgs_cons (dg_name (pg_name (i := 2) sc_is_pack.nd rfl (by first | exact .inl rfl | exact .inr rfl))) (dgs_cons (dg_name (pg_name (i := 3) sc_is_pack.nd rfl (by first | exact .inl rfl | exact .inr rfl))) (dgs_cons (dg_name (pg_name (i := 4) sc_is_pack.nd rfl (by first | exact .inl rfl | exact .inr rfl))) (dgs_cons (dg_name (pg_name (i := 5) sc_is_pack.nd rfl (by first | exact .inl rfl | exact .inr rfl))) (dgs_cons (dg_name (pg_name (i := 6) sc_is_pack.nd rfl (by first | exact .inl rfl | exact .inr rfl))) dgs_nil)))))))
    (dss_one (ds_ret (de_and (de_call G_is_between (hr.mono (by decide)) (by rfl) C_is_between.g C_is_between.F.kp C_is_between.b (takes_of rfl rfl rfl rfl) (da_cons (de_var 3 (pv 3)) (da_cons de_int (da_cons (de_op op_sub d_sub (de_var 1 (pv 1)) de_int) da_nil)))) (de_and (de_call G_is_between (hr.mono (by decide)) (by rfl) C_is_between.g C_is_between.F.kp C_is_between.b (takes_of rfl rfl rfl rfl) (da_cons (de_var 4 (pv 4)) (da_cons de_int (da_cons de_int da_nil)))) (de_and (de_call G_is_between (hr.mono (by decide)) (by rfl) C_is_between.g C_is_between.F.kp C_is_between.b (takes_of rfl rfl rfl rfl) (da_cons (de_var 5 (pv 5)) (da_cons (de_var 4 (pv 4)) (da_cons de_int da_nil)))) (de_one (de_call G_is_most (hr.mono (by decide)) (by rfl) C_is_most.g C_is_most.F.kp C_is_most.b (takes_of rfl rfl rfl rfl) (da_cons (de_var 6 (pv 6)) da_nil))))))))))
theorem ok_is_from {f : Addr} {fd : FuncData} (B : Bl K mg) (F : Fun K "is_from" "is_from" s_is_from f fd)
    {a_is_tuple_of : Addr} {e_is_tuple_of : FuncData} (C_is_tuple_of : Cd K mg "is_tuple_of" s_is_tuple_of ["value", "length"] a_is_tuple_of e_is_tuple_of) (G_is_tuple_of : FnOk P w K mg base (L2.CX P w) 1 a_is_tuple_of e_is_tuple_of ["value", "length"] (spD K mg d_is_tuple_of))
    {a_is_between : Addr} {e_is_between : FuncData} (C_is_between : Cd K mg "is_between" s_is_between ["value", "low", "high"] a_is_between e_is_between) (G_is_between : FnOk P w K mg base (L2.CX P w) 2 a_is_between e_is_between ["value", "low", "high"] (spD K mg d_is_between)) :
    FnOk P w K mg base (L2.CX P w) 3 f fd ["value", "many_goods"] (spD K mg d_is_from) :=
  fn_ok F sc_is_from rfl rfl fun cdv A outer s H vs E env0 hr => by
    exact (dss_cons (ds_if (dt_not (dt_val (de_call G_is_tuple_of (hr.mono (by decide)) (by rfl) C_is_tuple_of.g C_is_tuple_of.F.kp C_is_tuple_of.b (takes_of rfl rfl rfl rfl) (da_cons (de_var 0 (pv 0)) (da_cons de_int da_nil))))) (dss_one (ds_ret de_bl)) dss_nil)
    (dss_cons (ds_asg (de_var 0 (pv 0)) (dg_tup rfl (dgs_cons (dg_name (pg_name (i := 2) sc_is_from.nd rfl (by first | exact .inl rfl | exact .inr rfl))) (dgs_cons (dg_name (pg_name (i := 3) sc_is_from.nd rfl (by first | exact .inl rfl | exact .inr rfl))) (dgs_cons (dg_name (pg_name (i := 4) sc_is_from.nd rfl (by first | exact .inl rfl | exact .inr rfl))) (dgs_cons (dg_name (pg_name (i := 5) sc_is_from.nd rfl (by first | exact .inl rfl | exact .inr rfl))) dgs_nil))))))
    (dss_one (ds_ret (de_and (de_call G_is_between (hr.mono (by decide)) (by rfl) C_is_between.g C_is_between.F.kp C_is_between.b (takes_of rfl rfl rfl rfl) (da_cons (de_var 3 (pv 3)) (da_cons de_int (da_cons (de_op op_sub d_sub (de_var 1 (pv 1)) de_int) da_nil)))) (de_and (de_call G_is_between (hr.mono (by decide)) (by rfl) C_is_between.g C_is_between.F.kp C_is_between.b (takes_of rfl rfl rfl rfl) (da_cons (de_var 4 (pv 4)) (da_cons de_int (da_cons de_int da_nil)))) (de_one (de_call G_is_between (hr.mono (by decide)) (by rfl) C_is_between.g C_is_between.F.kp C_is_between.b (takes_of rfl rfl rfl rfl) (da_cons (de_var 5 (pv 5)) (da_cons de_int (da_cons de_int da_nil)))))))))))
theorem ok_is_over {f : Addr} {fd : FuncData} (B : Bl K mg) (F : Fun K "is_over" "is_over" s_is_over f fd)
    {a_is_tuple_of : Addr} {e_is_tuple_of : FuncData} (C_is_tuple_of : Cd K mg "is_tuple_of" s_is_tuple_of ["value", "length"] a_is_tuple_of e_is_tuple_of) (G_is_tuple_of : FnOk P w K mg base (L2.CX P w) 1 a_is_tuple_of e_is_tuple_of ["value", "length"] (spD K mg d_is_tuple_of))
    {a_is_between : Addr} {e_is_between : FuncData} (C_is_between : Cd K mg "is_between" s_is_between ["value", "low", "high"] a_is_between e_is_between) (G_is_between : FnOk P w K mg base (L2.CX P w) 2 a_is_between e_is_between ["value", "low", "high"] (spD K mg d_is_between)) :
    FnOk P w K mg base (L2.CX P w) 3 f fd ["value"] (spD K mg d_is_over) :=
  fn_ok F sc_is_over rfl rfl fun cdv A outer s H vs E env0 hr => by
    exact (dss_cons (ds_if (dt_not (dt_val (de_call G_is_tuple_of (hr.mono (by decide)) (by rfl) C_is_tuple_of.g C_is_tuple_of.F.kp C_is_tuple_of.b (takes_of rfl rfl rfl rfl) (da_cons (de_var 0 (pv 0)) (da_cons de_int da_nil))))) (dss_one (ds_ret de_bl)) dss_nil)
    (dss_cons (ds_asg (de_var 0 (pv 0)) (dg_tup rfl (dgs_cons (dg_name (pg_name (i := 1) sc_is_over.nd rfl (by first | exact .inl rfl | exact .inr rfl))) (dgs_cons (dg_name (pg_name (i := 2) sc_is_over.nd rfl (by first | exact .inl rfl | exact .inr rfl))) (dgs_cons (dg_name (pg_name (i := 3) sc_is_over.nd rfl (by first | exact .inl rfl | exact .inr rfl))) dgs_nil)))))
    (dss_one (ds_ret (de_and (de_call G_is_between (hr.mono (by decide)) (by rfl) C_is_between.g C_is_between.F.kp C_is_between.b (takes_of rfl rfl rfl rfl) (da_cons (de_var 2 (pv 2)) (da_cons de_int (da_cons de_int da_nil)))) (de_one (de_call G_is_between (hr.mono (by decide)) (by rfl) C_is_between.g C_is_between.F.kp C_is_between.b (takes_of rfl rfl rfl rfl) (da_cons (de_var 3 (pv 3)) (da_cons de_int (da_cons (de_b d_min2 (call_min2 rfl) (by rfl) B.b_min bo_min (da_cons de_int (da_cons (de_var 2 (pv 2)) da_nil))) da_nil))))))))))
theorem ok_is_each {f : Addr} {fd : FuncData} (B : Bl K mg) (F : Fun K "is_each" "is_each" s_is_each f fd)
    {a_is_tuple_of : Addr} {e_is_tuple_of : FuncData} (C_is_tuple_of : Cd K mg "is_tuple_of" s_is_tuple_of ["value", "length"] a_is_tuple_of e_is_tuple_of) (G_is_tuple_of : FnOk P w K mg base (L2.CX P w) 1 a_is_tuple_of e_is_tuple_of ["value", "length"] (spD K mg d_is_tuple_of))
    {a_is_most : Addr} {e_is_most : FuncData} (C_is_most : Cd K mg "is_most" s_is_most ["value"] a_is_most e_is_most) (G_is_most : FnOk P w K mg base (L2.CX P w) 3 a_is_most e_is_most ["value"] (spD K mg d_is_most))
    {a_is_between : Addr} {e_is_between : FuncData} (C_is_between : Cd K mg "is_between" s_is_between ["value", "low", "high"] a_is_between e_is_between) (G_is_between : FnOk P w K mg base (L2.CX P w) 2 a_is_between e_is_between ["value", "low", "high"] (spD K mg d_is_between)) :
    FnOk P w K mg base (L2.CX P w) 4 f fd ["value"] (spD K mg d_is_each) :=
  fn_ok F sc_is_each rfl rfl fun cdv A outer s H vs E env0 hr => by
    exact (dss_cons (ds_if (dt_not (dt_val (de_call G_is_tuple_of (hr.mono (by decide)) (by rfl) C_is_tuple_of.g C_is_tuple_of.F.kp C_is_tuple_of.b (takes_of rfl rfl rfl rfl) (da_cons (de_var 0 (pv 0)) (da_cons de_int da_nil))))) (dss_one (ds_ret de_bl)) dss_nil)
    (dss_cons (ds_asg (de_var 0 (pv 0)) (dg_tup rfl (dgs_cons (dg_name (pg_name (i := 1) sc_is_each.nd rfl (by first | exact .inl rfl | exact .inr rfl))) (dgs_cons (dg_name (pg_name (i := 2) sc_is_each.nd rfl (by first | exact .inl rfl | exact .inr rfl))) (dgs_cons (dg_name (pg_name (i := 3) sc_is_each.nd rfl (by first | exact .inl rfl | exact .inr rfl))) (dgs_cons (dg_name (pg_name (i := 4) sc_is_each.nd rfl (by first | exact .inl rfl | exact .inr rfl))) dgs_nil))))))
    (dss_cons (ds_if (PW.pt (dt_or (dt_not (dt_val (de_call G_is_between (hr.mono (by decide)) (by rfl) C_is_between.g C_is_between.F.kp C_is_between.b (takes_of rfl rfl rfl rfl) (da_cons (de_var 2 (pv 2)) (da_cons de_int (da_cons de_int da_nil)))))) (dt_or1 (dt_not (dt_val (de_call G_is_between (hr.mono (by decide)) (by rfl) C_is_between.g C_is_between.F.kp C_is_between.b (takes_of rfl rfl rfl rfl) (da_cons (de_var 3 (pv 3)) (da_cons de_int (da_cons (de_var 2 (pv 2)) da_nil))))))))) (dss_one (ds_ret de_bl)) dss_nil)
    (dss_one (ds_ret (de_and (de_call G_is_most (hr.mono (by decide)) (by rfl) C_is_most.g C_is_most.F.kp C_is_most.b (takes_of rfl rfl rfl rfl) (da_cons (de_var 4 (pv 4)) da_nil)) (de_one (de_or (de_cmp op_nis d_nis (de_var 4 (pv 4)) de_non (nomark _)) (de_one (de_cmp op_le d_le (de_op op_mulA d_mulA de_int (de_var 3 (pv 3))) (de_var 2 (pv 2)) (nomark _)))))))))))
theorem ok_is_rule {f : Addr} {fd : FuncData} (B : Bl K mg) (F : Fun K "is_rule" "is_rule" s_is_rule f fd)
    {a_is_pack : Addr} {e_is_pack : FuncData} (C_is_pack : Cd K mg "is_pack" s_is_pack ["value", "many_goods"] a_is_pack e_is_pack) (G_is_pack : FnOk P w K mg base (L2.CX P w) 4 a_is_pack e_is_pack ["value", "many_goods"] (spD K mg d_is_pack))
    {a_is_from : Addr} {e_is_from : FuncData} (C_is_from : Cd K mg "is_from" s_is_from ["value", "many_goods"] a_is_from e_is_from) (G_is_from : FnOk P w K mg base (L2.CX P w) 3 a_is_from e_is_from ["value", "many_goods"] (spD K mg d_is_from))
    {a_is_over : Addr} {e_is_over : FuncData} (C_is_over : Cd K mg "is_over" s_is_over ["value"] a_is_over e_is_over) (G_is_over : FnOk P w K mg base (L2.CX P w) 3 a_is_over e_is_over ["value"] (spD K mg d_is_over))
    {a_is_each : Addr} {e_is_each : FuncData} (C_is_each : Cd K mg "is_each" s_is_each ["value"] a_is_each e_is_each) (G_is_each : FnOk P w K mg base (L2.CX P w) 4 a_is_each e_is_each ["value"] (spD K mg d_is_each)) :
    FnOk P w K mg base (L2.CX P w) 5 f fd ["value", "many_goods"] (spD K mg d_is_rule) :=
  fn_ok F sc_is_rule rfl rfl fun cdv A outer s H vs E env0 hr => by
    exact (dss_cons (ds_if (PW.pt (dt_or (dt_not (dt_val (de_isi (by rfl) B.b_isinstance (de_var 0 (pv 0)) (pe_bltn (by rfl) B.b_tuple bo_tuple rfl)))) (dt_or1 (dt_cmp (op_eqA hr.units) d_eqA (de_b d_len call_lenA (by rfl) B.b_len bo_len (da_cons (de_var 0 (pv 0)) da_nil)) de_int (nomark _))))) (dss_one (ds_ret de_bl)) dss_nil)
    (dss_cons (ds_set (i := 2) sc_is_rule.nd rfl (by first | exact .inl rfl | exact .inr rfl) (de_ix (de_var 0 (pv 0)) de_int (fun _ _ => rfl)))
    (dss_cons (ds_if (dt_not (dt_val (de_isi (by rfl) B.b_isinstance (de_var 2 (pv 2)) (pe_bltn (by rfl) B.b_str bo_str rfl)))) (dss_one (ds_ret de_bl)) dss_nil)
    (dss_cons (ds_if (dt_cmp (op_eqA hr.units) d_eqA (de_var 2 (pv 2)) de_str (nomark _)) (dss_one (ds_ret (de_call G_is_pack (hr.mono (by decide)) (by rfl) C_is_pack.g C_is_pack.F.kp C_is_pack.b (takes_of rfl rfl rfl rfl) (da_cons (de_var 0 (pv 0)) (da_cons (de_var 1 (pv 1)) da_nil))))) dss_nil)
    (dss_cons (ds_if (dt_cmp (op_eqA hr.units) d_eqA (de_var 2 (pv 2)) de_str (nomark _)) (dss_one (ds_ret (de_call G_is_from (hr.mono (by decide)) (by rfl) C_is_from.g C_is_from.F.kp C_is_from.b (takes_of rfl rfl rfl rfl) (da_cons (de_var 0 (pv 0)) (da_cons (de_var 1 (pv 1)) da_nil))))) dss_nil)
    (dss_cons (ds_if (dt_cmp (op_eqA hr.units) d_eqA (de_var 2 (pv 2)) de_str (nomark _)) (dss_one (ds_ret (de_call G_is_over (hr.mono (by decide)) (by rfl) C_is_over.g C_is_over.F.kp C_is_over.b (takes_of rfl rfl rfl rfl) (da_cons (de_var 0 (pv 0)) da_nil)))) dss_nil)
    (dss_one (ds_ret (de_and (de_cmp (op_eqA hr.units) d_eqA (de_var 2 (pv 2)) de_str (nomark _)) (de_one (de_call G_is_each (hr.mono (by decide)) (by rfl) C_is_each.g C_is_each.F.kp C_is_each.b (takes_of rfl rfl rfl rfl) (da_cons (de_var 0 (pv 0)) da_nil))))))))))))
theorem ok_is_endless_each {f : Addr} {fd : FuncData} (B : Bl K mg) (F : Fun K "is_endless_each" "is_endless_each" s_is_endless_each f fd) :
    FnOk P w K mg base (L2.CX P w) 1 f fd ["rule"] (spD K mg d_is_endless_each) :=
  fn_ok F sc_is_endless_each rfl rfl fun cdv A outer s H vs E env0 hr => by
    exact (dss_one (ds_ret (de_and (de_cmp (op_eqA hr.units) d_eqA (de_ix (de_var 0 (pv 0)) de_int (fun _ _ => rfl)) de_str (nomark _)) (de_one (de_cmp op_is d_is (de_ix (de_var 0 (pv 0)) de_int (fun _ _ => rfl)) de_non (nomark _))))))
theorem ok_are_goods {f : Addr} {fd : FuncData} (B : Bl K mg) (F : Fun K "are_goods" "are_goods" s_are_goods f fd)
    {a_is_good : Addr} {e_is_good : FuncData} (C_is_good : Cd K mg "is_good" s_is_good ["value"] a_is_good e_is_good) (G_is_good : FnOk P w K mg base (L2.CX P w) 3 a_is_good e_is_good ["value"] (spD K mg d_is_good)) :
    FnOk P w K mg base (L2.CX P w) 4 f fd ["value"] (spD K mg d_are_goods) :=
  fn_ok F sc_are_goods rfl rfl fun cdv A outer s H vs E env0 hr => by
    exact (dss_cons (ds_if (PW.pt (dt_or (dt_not (dt_val (de_isi (by rfl) B.b_isinstance (de_var 0 (pv 0)) (pe_bltn (by rfl) B.b_tuple bo_tuple rfl)))) (dt_or1 (dt_not (dt_chain op_le d_le op_le d_le de_int (de_b d_len call_lenA (by rfl) B.b_len bo_len (da_cons (de_var 0 (pv 0)) da_nil)) (de_gc (by rfl) B.g_MOST_GOODS fun _ _ => .int _) (by rfl)))))) (dss_one (ds_ret de_bl)) dss_nil)
    (dss_one (ds_ret (de_b d_all (cr_all rfl) (by rfl) B.b_all bo_all (da_cons (de_lc (own := [("good", 1)]) (t := (.one 1)) rfl sc_are_goods.nd (di_tup (de_var 0 (pv 0))) (blkOk_by (own := [("good", 1)]) (N := ["value", "good"]) (sc := defScope s_are_goods) (by first | decide +kernel | (dsimp only [Cx.blk, compEnvC]; rw [relabel_is]; dsimp only [cxOf, PyProof.Rows.envOfC]; decide +kernel))) (fun _ _ _ _ _ => (pg_name (i := 1) sc_are_goods.nd rfl (by first | exact .inl rfl | exact .inr rfl))) (fun _ _ _ _ _ => dts_nil) (fun _ _ _ _ _ => (de_call G_is_good (hr.mono (by decide)) (by rfl) C_is_good.g C_is_good.F.kp C_is_good.b takes0 (da_cons (de_var 1 (pv 1)) da_nil))) (by simp [CT.ins])) da_nil)))))
theorem ok_are_rules {f : Addr} {fd : FuncData} (B : Bl K mg) (F : Fun K "are_rules" "are_rules" s_are_rules f fd)
    {a_is_rule : Addr} {e_is_rule : FuncData} (C_is_rule : Cd K mg "is_rule" s_is_rule ["value", "many_goods"] a_is_rule e_is_rule) (G_is_rule : FnOk P w K mg base (L2.CX P w) 5 a_is_rule e_is_rule ["value", "many_goods"] (spD K mg d_is_rule))
    {a_is_endless_each : Addr} {e_is_endless_each : FuncData} (C_is_endless_each : Cd K mg "is_endless_each" s_is_endless_each ["rule"] a_is_endless_each e_is_endless_each) (G_is_endless_each : FnOk P w K mg base (L2.CX P w) 1 a_is_endless_each e_is_endless_each ["rule"] (spD K mg d_is_endless_each)) :
    FnOk P w K mg base (L2.CX P w) 6 f fd ["value", "many_goods"] (spD K mg d_are_rules) :=
  fn_ok F sc_are_rules rfl rfl fun cdv A outer s H vs E env0 hr => by
    exact (dss_cons (ds_if (PW.pt (dt_or (dt_not (dt_val (de_isi (by rfl) B.b_isinstance (de_var 0 (pv 0)) (pe_bltn (by rfl) B.b_tuple bo_tuple rfl)))) (dt_or1 (dt_cmp op_gt d_gt (de_b d_len call_lenA (by rfl) B.b_len bo_len (da_cons (de_var 0 (pv 0)) da_nil)) (de_gc (by rfl) B.g_MOST_RULES fun _ _ => .int _) (nomark _))))) (dss_one (ds_ret de_bl)) dss_nil)
    (dss_cons (ds_if (dt_not (dt_val (de_b d_all (cr_all rfl) (by rfl) B.b_all bo_all (da_cons (de_lc (own := [("rule", 2)]) (t := (.one 2)) rfl sc_are_rules.nd (di_tup (de_var 0 (pv 0))) (blkOk_by (own := [("rule", 2)]) (N := ["value", "many_goods", "rule"]) (sc := defScope s_are_rules) (by first | decide +kernel | (dsimp only [Cx.blk, compEnvC]; rw [relabel_is]; dsimp only [cxOf, PyProof.Rows.envOfC]; decide +kernel))) (fun _ _ _ _ _ => (pg_name (i := 2) sc_are_rules.nd rfl (by first | exact .inl rfl | exact .inr rfl))) (fun _ _ _ _ _ => dts_nil) (fun _ _ _ _ _ => (de_call G_is_rule (hr.mono (by decide)) (by rfl) C_is_rule.g C_is_rule.F.kp C_is_rule.b takes0 (da_cons (de_var 2 (pv 2)) (da_cons (de_var 1 (pv 1)) da_nil)))) (by simp [CT.ins])) da_nil)))) (dss_one (ds_ret de_bl)) dss_nil)
    (dss_one (ds_ret (de_cmp op_le d_le (de_b d_len call_lenA (by rfl) B.b_len bo_len (da_cons (de_lc (own := [("rule", 2)]) (t := (.one 2)) rfl sc_are_rules.nd (di_tup (de_var 0 (pv 0))) (blkOk_by (own := [("rule", 2)]) (N := ["value", "many_goods", "rule"]) (sc := defScope s_are_rules) (by first | decide +kernel | (dsimp only [Cx.blk, compEnvC]; rw [relabel_is]; dsimp only [cxOf, PyProof.Rows.envOfC]; decide +kernel))) (fun _ _ _ _ _ => (pg_name (i := 2) sc_are_rules.nd rfl (by first | exact .inl rfl | exact .inr rfl))) (fun _ _ _ _ _ => (dts_one (dt_val (de_call G_is_endless_each (hr.mono (by decide)) (by rfl) C_is_endless_each.g C_is_endless_each.F.kp C_is_endless_each.b takes0 (da_cons (de_var 2 (pv 2)) da_nil))))) (fun _ _ _ _ _ => (de_var 2 (pv 2))) (by simp [CT.ins])) da_nil)) de_int (nomark _))))))
theorem ok_is_shop {f : Addr} {fd : FuncData} (B : Bl K mg) (F : Fun K "is_shop" "is_shop" s_is_shop f fd)
    {a_is_tuple_of : Addr} {e_is_tuple_of : FuncData} (C_is_tuple_of : Cd K mg "is_tuple_of" s_is_tuple_of ["value", "length"] a_is_tuple_of e_is_tuple_of) (G_is_tuple_of : FnOk P w K mg base (L2.CX P w) 1 a_is_tuple_of e_is_tuple_of ["value", "length"] (spD K mg d_is_tuple_of))
    {a_are_goods : Addr} {e_are_goods : FuncData} (C_are_goods : Cd K mg "are_goods" s_are_goods ["value"] a_are_goods e_are_goods) (G_are_goods : FnOk P w K mg base (L2.CX P w) 4 a_are_goods e_are_goods ["value"] (spD K mg d_are_goods))
    {a_are_rules : Addr} {e_are_rules : FuncData} (C_are_rules : Cd K mg "are_rules" s_are_rules ["value", "many_goods"] a_are_rules e_are_rules) (G_are_rules : FnOk P w K mg base (L2.CX P w) 6 a_are_rules e_are_rules ["value", "many_goods"] (spD K mg d_are_rules)) :
    FnOk P w K mg base (L2.CX P w) 7 f fd ["value"] (spD K mg d_is_shop) :=
  fn_ok F sc_is_shop rfl rfl fun cdv A outer s H vs E env0 hr => by
    exact (dss_cons (ds_if (dt_not (dt_val (de_call G_is_tuple_of (hr.mono (by decide)) (by rfl) C_is_tuple_of.g C_is_tuple_of.F.kp C_is_tuple_of.b (takes_of rfl rfl rfl rfl) (da_cons (de_var 0 (pv 0)) (da_cons de_int da_nil))))) (dss_one (ds_ret de_bl)) dss_nil)
    (dss_cons (ds_asg (de_var 0 (pv 0)) (dg_tup rfl (dgs_cons (dg_name (pg_name (i := 1) sc_is_shop.nd rfl (by first | exact .inl rfl | exact .inr rfl))) (dgs_cons (dg_name (pg_name (i := 2) sc_is_shop.nd rfl (by first | exact .inl rfl | exact .inr rfl))) dgs_nil))))
    (dss_one (ds_ret (de_and (de_call G_are_goods (hr.mono (by decide)) (by rfl) C_are_goods.g C_are_goods.F.kp C_are_goods.b (takes_of rfl rfl rfl rfl) (da_cons (de_var 1 (pv 1)) da_nil)) (de_one (de_call G_are_rules (hr.mono (by decide)) (by rfl) C_are_rules.g C_are_rules.F.kp C_are_rules.b (takes_of rfl rfl rfl rfl) (da_cons (de_var 2 (pv 2)) (da_cons (de_b d_len call_lenA (by rfl) B.b_len bo_len (da_cons (de_var 1 (pv 1)) da_nil)) da_nil)))))))))
theorem ok_check_shop {f : Addr} {fd : FuncData} (B : Bl K mg) (F : Fun K "check_shop" "check_shop" s_check_shop f fd)
    {a_is_shop : Addr} {e_is_shop : FuncData} (C_is_shop : Cd K mg "is_shop" s_is_shop ["value"] a_is_shop e_is_shop) (G_is_shop : FnOk P w K mg base (L2.CX P w) 7 a_is_shop e_is_shop ["value"] (spD K mg d_is_shop)) :
    FnOk P w K mg base (L2.CX P w) 8 f fd ["shop"] (spD K mg d_check_shop) :=
  fn_ok F sc_check_shop rfl rfl fun cdv A outer s H vs E env0 hr => by
    exact (dss_one (ds_if (dt_not (dt_val (de_call G_is_shop (hr.mono (by decide)) (by rfl) C_is_shop.g C_is_shop.F.kp C_is_shop.b (takes_of rfl rfl rfl rfl) (da_cons (de_var 0 (pv 0)) da_nil)))) (dss_one (ds_raise rfl (takes_of rfl rfl rfl rfl) B.k_InvalidShop (by rfl))) dss_nil))
theorem ok_are_pieces {f : Addr} {fd : FuncData} (B : Bl K mg) (F : Fun K "are_pieces" "are_pieces" s_are_pieces f fd)
    {a_is_tuple_of : Addr} {e_is_tuple_of : FuncData} (C_is_tuple_of : Cd K mg "is_tuple_of" s_is_tuple_of ["value", "length"] a_is_tuple_of e_is_tuple_of) (G_is_tuple_of : FnOk P w K mg base (L2.CX P w) 1 a_is_tuple_of e_is_tuple_of ["value", "length"] (spD K mg d_is_tuple_of))
    {a_is_integer : Addr} {e_is_integer : FuncData} (C_is_integer : Cd K mg "is_integer" s_is_integer ["value"] a_is_integer e_is_integer) (G_is_integer : FnOk P w K mg base (L2.CX P w) 1 a_is_integer e_is_integer ["value"] (spD K mg d_is_integer)) :
    FnOk P w K mg base (L2.CX P w) 2 f fd ["shop", "value"] (spD K mg d_are_pieces) :=
  fn_ok F sc_are_pieces rfl rfl fun cdv A outer s H vs E env0 hr => by
    exact (dss_cons (ds_if (dt_not (dt_val (de_call G_is_tuple_of (hr.mono (by decide)) (by rfl) C_is_tuple_of.g C_is_tuple_of.F.kp C_is_tuple_of.b (takes_of rfl rfl rfl rfl) (da_cons (de_var 1 (pv 1)) (da_cons (de_b d_len call_lenA (by rfl) B.b_len bo_len (da_cons (de_ix (de_var 0 (pv 0)) de_int (fun _ _ => rfl)) da_nil)) da_nil))))) (dss_one (ds_ret de_bl)) dss_nil)
    (dss_one (ds_ret (de_b d_all (cr_all rfl) (by rfl) B.b_all bo_all (da_cons (de_lc (own := [("pieces", 2)]) (t := (.one 2)) rfl sc_are_pieces.nd (di_tup (de_var 1 (pv 1))) (blkOk_by (own := [("pieces", 2)]) (N := ["shop", "value", "pieces"]) (sc := defScope s_are_pieces) (by first | decide +kernel | (dsimp only [Cx.blk, compEnvC]; rw [relabel_is]; dsimp only [cxOf, PyProof.Rows.envOfC]; decide +kernel))) (fun _ _ _ _ _ => (pg_name (i := 2) sc_are_pieces.nd rfl (by first | exact .inl rfl | exact .inr rfl))) (fun _ _ _ _ _ => dts_nil) (fun _ _ _ _ _ => (de_and (de_call G_is_integer (hr.mono (by decide)) (by rfl) C_is_integer.g C_is_integer.F.kp C_is_integer.b takes0 (da_cons (de_var 2 (pv 2)) da_nil)) (de_one (de_cmp op_ge d_ge (de_var 2 (pv 2)) de_int (nomark _))))) (by simp [CT.ins])) da_nil)))))
theorem ok_is_basket {f : Addr} {fd : FuncData} (B : Bl K mg) (F : Fun K "is_basket" "is_basket" s_is_basket f fd)
    {a_check_shop : Addr} {e_check_shop : FuncData} (C_check_shop : Cd K mg "check_shop" s_check_shop ["shop"] a_check_shop e_check_shop) (G_check_shop : FnOk P w K mg base (L2.CX P w) 8 a_check_shop e_check_shop ["shop"] (spD K mg d_check_shop))
    {a_are_pieces : Addr} {e_are_pieces : FuncData} (C_are_pieces : Cd K mg "are_pieces" s_are_pieces ["shop", "value"] a_are_pieces e_are_pieces) (G_are_pieces : FnOk P w K mg base (L2.CX P w) 2 a_are_pieces e_are_pieces ["shop", "value"] (spD K mg d_are_pieces)) :
    FnOk P w K mg base (L2.CX P w) 9 f fd ["shop", "value"] (spD K mg d_is_basket) :=
  fn_ok F sc_is_basket rfl rfl fun cdv A outer s H vs E env0 hr => by
    exact (dss_cons (ds_expr (de_call G_check_shop (hr.mono (by decide)) (by rfl) C_check_shop.g C_check_shop.F.kp C_check_shop.b (takes_of rfl rfl rfl rfl) (da_cons (de_var 0 (pv 0)) da_nil)))
    (dss_one (ds_ret (de_and (de_call G_are_pieces (hr.mono (by decide)) (by rfl) C_are_pieces.g C_are_pieces.F.kp C_are_pieces.b (takes_of rfl rfl rfl rfl) (da_cons (de_var 0 (pv 0)) (da_cons (de_var 1 (pv 1)) da_nil))) (de_one (de_cmp op_le d_le (de_b d_max1 (call_maxA rfl hr.units) (by rfl) B.b_max bo_max (da_cons (de_var 1 (pv 1)) da_nil)) (de_gc (by rfl) B.g_MOST_PIECES fun _ _ => .int _) (nomark _)))))))
theorem ok_check_basket {f : Addr} {fd : FuncData} (B : Bl K mg) (F : Fun K "check_basket" "check_basket" s_check_basket f fd)
    {a_is_basket : Addr} {e_is_basket : FuncData} (C_is_basket : Cd K mg "is_basket" s_is_basket ["shop", "value"] a_is_basket e_is_basket) (G_is_basket : FnOk P w K mg base (L2.CX P w) 9 a_is_basket e_is_basket ["shop", "value"] (spD K mg d_is_basket)) :
    FnOk P w K mg base (L2.CX P w) 10 f fd ["shop", "basket"] (spD K mg d_check_basket) :=
  fn_ok F sc_check_basket rfl rfl fun cdv A outer s H vs E env0 hr => by
    exact (dss_one (ds_if (dt_not (dt_val (de_call G_is_basket (hr.mono (by decide)) (by rfl) C_is_basket.g C_is_basket.F.kp C_is_basket.b (takes_of rfl rfl rfl rfl) (da_cons (de_var 0 (pv 0)) (da_cons (de_var 1 (pv 1)) da_nil))))) (dss_one (ds_raise rfl (takes_of rfl rfl rfl rfl) B.k_InvalidBasket (by rfl))) dss_nil))
theorem ok_full_times {f : Addr} {fd : FuncData} (B : Bl K mg) (F : Fun K "full_times" "full_times" s_full_times f fd) :
    FnOk P w K mg base (L2.CX P w) 1 f fd ["whole", "part", "most"] (spD K mg d_full_times) :=
  fn_ok F sc_full_times rfl rfl fun cdv A outer s H vs E env0 hr => by
    exact (dss_cons (ds_set (i := 3) sc_full_times.nd rfl (by first | exact .inl rfl | exact .inr rfl) (de_op op_fdiv d_fdiv (de_var 0 (pv 0)) (de_var 1 (pv 1))))
    (dss_one (ds_ret (de_if (dt_cmp op_is d_is (de_var 2 (pv 2)) de_non (nomark _)) (de_var 3 (pv 3)) (de_b d_min2 (call_min2 rfl) (by rfl) B.b_min bo_min (da_cons (de_var 3 (pv 3)) (da_cons (de_var 2 (pv 2)) da_nil)))))))
theorem ok_fitting_rule {f : Addr} {fd : FuncData} (B : Bl K mg) (F : Fun K "fitting_rule" "fitting_rule" s_fitting_rule f fd) :
    FnOk P w K mg base (L2.CX P w) 1 f fd ["rules", "good", "pieces"] (spD K mg d_fitting_rule) :=
  fn_ok F sc_fitting_rule rfl rfl fun cdv A outer s H vs E env0 hr => by
    exact (dss_cons (ds_for (passes_of rfl) rfl (di_enum true (by rfl) B.b_enumerate (da_cons (de_var 0 (pv 0)) da_nil)) (dg_tup rfl (dgs_cons (dg_name (pg_name (i := 3) sc_fitting_rule.nd rfl (by first | exact .inl rfl | exact .inr rfl))) (dgs_cons (dg_name (pg_name (i := 4) sc_fitting_rule.nd rfl (by first | exact .inl rfl | exact .inr rfl))) dgs_nil))) (dss_one (ds_if (PW.pt (dt_and (dt_cmp op_notIn_seq (d_in true) (de_ix (de_var 4 (pv 4)) de_int (fun _ _ => rfl)) (de_gt (by rfl) B.g_SUM_WORDS) (by with_unfolding_all rfl)) (dt_and (dt_cmp (op_eqA hr.units) d_eqA (de_ix (de_var 4 (pv 4)) de_int (fun _ _ => rfl)) (de_var 1 (pv 1)) (nomark _)) (dt_and1 (dt_cmp op_ge d_ge (de_var 2 (pv 2)) (de_ix (de_var 4 (pv 4)) de_int (fun _ _ => rfl)) (nomark _)))))) (dss_one (ds_ret (de_var 3 (pv 3)))) dss_nil)))
    (dss_one (ds_ret de_non)))
theorem ok_pack_times {f : Addr} {fd : FuncData} (B : Bl K mg) (F : Fun K "pack_times" "pack_times" s_pack_times f fd)
    {a_full_times : Addr} {e_full_times : FuncData} (C_full_times : Cd K mg "full_times" s_full_times ["whole", "part", "most"] a_full_times e_full_times) (G_full_times : FnOk P w K mg base (L2.CX P w) 1 a_full_times e_full_times ["whole", "part", "most"] (spD K mg d_full_times)) :
    FnOk P w K mg base (L2.CX P w) 2 f fd ["rule", "pieces"] (spD K mg d_pack_times) :=
  fn_ok F sc_pack_times rfl rfl fun cdv A outer s H vs E env0 hr => by
    exact (dss_cons (ds_asg (de_var 0 (pv 0)) (dg_tup rfl (dgs_cons (dg_name (pg_name (i := 2) sc_pack_times.nd rfl (by first | exact .inl rfl | exact .inr rfl))) (dgs_cons (dg_name (pg_name (i := 2) sc_pack_times.nd rfl (by first | exact .inl rfl | exact .inr rfl))) (dgs_cons (dg_name (pg_name (i := 3) sc_pack_times.nd rfl (by first | exact .inl rfl | exact .inr rfl))) (dgs_cons (dg_name (pg_name (i := 2) sc_pack_times.nd rfl (by first | exact .inl rfl | exact .inr rfl))) (dgs_cons (dg_name (pg_name (i := 4) sc_pack_times.nd rfl (by first | exact .inl rfl | exact .inr rfl))) dgs_nil)))))))
    (dss_one (ds_ret (de_call G_full_times (hr.mono (by decide)) (by rfl) C_full_times.g C_full_times.F.kp C_full_times.b (takes_of rfl rfl rfl rfl) (da_cons (de_var 1 (pv 1)) (da_cons (de_var 3 (pv 3)) (da_cons (de_var 4 (pv 4)) da_nil)))))))
theorem ok_pack_amount {f : Addr} {fd : FuncData} (B : Bl K mg) (F : Fun K "pack_amount" "pack_amount" s_pack_amount f fd)
    {a_pack_times : Addr} {e_pack_times : FuncData} (C_pack_times : Cd K mg "pack_times" s_pack_times ["rule", "pieces"] a_pack_times e_pack_times) (G_pack_times : FnOk P w K mg base (L2.CX P w) 2 a_pack_times e_pack_times ["rule", "pieces"] (spD K mg d_pack_times)) :
    FnOk P w K mg base (L2.CX P w) 3 f fd ["rule", "price", "pieces"] (spD K mg d_pack_amount) :=
  fn_ok F sc_pack_amount rfl rfl fun cdv A outer s H vs E env0 hr => by
    exact (dss_cons (ds_asg (de_var 0 (pv 0)) (dg_tup rfl (dgs_cons (dg_name (pg_name (i := 4) sc_pack_amount.nd rfl (by first | exact .inl rfl | exact .inr rfl))) (dgs_cons (dg_name (pg_name (i := 4) sc_pack_amount.nd rfl (by first | exact .inl rfl | exact .inr rfl))) (dgs_cons (dg_name (pg_name (i := 5) sc_pack_amount.nd rfl (by first | exact .inl rfl | exact .inr rfl))) (dgs_cons (dg_name (pg_name (i := 6) sc_pack_amount.nd rfl (by first | exact .inl rfl | exact .inr rfl))) (dgs_cons (dg_name (pg_name (i := 4) sc_pack_amount.nd rfl (by first | exact .inl rfl | exact .inr rfl))) dgs_nil)))))))
    (dss_cons (ds_set (i := 3) sc_pack_amount.nd rfl (by first | exact .inl rfl | exact .inr rfl) (de_call G_pack_times (hr.mono (by decide)) (by rfl) C_pack_times.g C_pack_times.F.kp C_pack_times.b (takes_of rfl rfl rfl rfl) (da_cons (de_var 0 (pv 0)) (da_cons (de_var 2 (pv 2)) da_nil))))
    (dss_one (ds_ret (de_op op_addA d_add (de_op op_mulA d_mulA (de_var 3 (pv 3)) (de_var 6 (pv 6))) (de_op op_mulA d_mulA (de_op op_sub d_sub (de_var 2 (pv 2)) (de_op op_mulA d_mulA (de_var 3 (pv 3)) (de_var 5 (pv 5)))) (de_var 1 (pv 1))))))))
theorem ok_good_amount {f : Addr} {fd : FuncData} (B : Bl K mg) (F : Fun K "good_amount" "good_amount" s_good_amount f fd)
    {a_fitting_rule : Addr} {e_fitting_rule : FuncData} (C_fitting_rule : Cd K mg "fitting_rule" s_fitting_rule ["rules", "good", "pieces"] a_fitting_rule e_fitting_rule) (G_fitting_rule : FnOk P w K mg base (L2.CX P w) 1 a_fitting_rule e_fitting_rule ["rules", "good", "pieces"] (spD K mg d_fitting_rule))
    {a_pack_amount : Addr} {e_pack_amount : FuncData} (C_pack_amount : Cd K mg "pack_amount" s_pack_amount ["rule", "price", "pieces"] a_pack_amount e_pack_amount) (G_pack_amount : FnOk P w K mg base (L2.CX P w) 3 a_pack_amount e_pack_amount ["rule", "price", "pieces"] (spD K mg d_pack_amount)) :
    FnOk P w K mg base (L2.CX P w) 4 f fd ["shop", "good", "pieces"] (spD K mg d_good_amount) :=
  fn_ok F sc_good_amount rfl rfl fun cdv A outer s H vs E env0 hr => by
    exact (dss_cons (ds_asg (de_var 0 (pv 0)) (dg_tup rfl (dgs_cons (dg_name (pg_name (i := 5) sc_good_amount.nd rfl (by first | exact .inl rfl | exact .inr rfl))) (dgs_cons (dg_name (pg_name (i := 6) sc_good_amount.nd rfl (by first | exact .inl rfl | exact .inr rfl))) dgs_nil))))
    (dss_cons (ds_asg (de_ix (de_var 5 (pv 5)) (de_var 1 (pv 1)) (fun _ _ => rfl)) (dg_tup rfl (dgs_cons (dg_name (pg_name (i := 7) sc_good_amount.nd rfl (by first | exact .inl rfl | exact .inr rfl))) (dgs_cons (dg_name (pg_name (i := 8) sc_good_amount.nd rfl (by first | exact .inl rfl | exact .inr rfl))) dgs_nil))))
    (dss_cons (ds_set (i := 3) sc_good_amount.nd rfl (by first | exact .inl rfl | exact .inr rfl) (de_call G_fitting_rule (hr.mono (by decide)) (by rfl) C_fitting_rule.g C_fitting_rule.F.kp C_fitting_rule.b (takes_of rfl rfl rfl rfl) (da_cons (de_var 6 (pv 6)) (da_cons (de_var 1 (pv 1)) (da_cons (de_var 2 (pv 2)) da_nil)))))
    (dss_cons (ds_if (dt_cmp op_is d_is (de_var 3 (pv 3)) de_non (nomark _)) (dss_one (ds_ret (de_op op_mulA d_mulA (de_var 2 (pv 2)) (de_var 7 (pv 7))))) dss_nil)
    (dss_cons (ds_set (i := 4) sc_good_amount.nd rfl (by first | exact .inl rfl | exact .inr rfl) (de_ix (de_var 6 (pv 6)) (de_var 3 (pv 3)) (fun _ _ => rfl)))
    (dss_cons (ds_if (dt_cmp (op_eqA hr.units) d_eqA (de_ix (de_var 4 (pv 4)) de_int (fun _ _ => rfl)) de_str (nomark _)) (dss_one (ds_ret (de_call G_pack_amount (hr.mono (by decide)) (by rfl) C_pack_amount.g C_pack_amount.F.kp C_pack_amount.b (takes_of rfl rfl rfl rfl) (da_cons (de_var 4 (pv 4)) (da_cons (de_var 7 (pv 7)) (da_cons (de_var 2 (pv 2)) da_nil)))))) dss_nil)
    (dss_one (ds_ret (de_op op_mulA d_mulA (de_var 2 (pv 2)) (de_ix (de_var 4 (pv 4)) de_int (fun _ _ => rfl)))))))))))
theorem ok_off_times {f : Addr} {fd : FuncData} (B : Bl K mg) (F : Fun K "off_times" "off_times" s_off_times f fd)
    {a_full_times : Addr} {e_full_times : FuncData} (C_full_times : Cd K mg "full_times" s_full_times ["whole", "part", "most"] a_full_times e_full_times) (G_full_times : FnOk P w K mg base (L2.CX P w) 1 a_full_times e_full_times ["whole", "part", "most"] (spD K mg d_full_times)) :
    FnOk P w K mg base (L2.CX P w) 2 f fd ["rule", "left"] (spD K mg d_off_times) :=
  fn_ok F sc_off_times rfl rfl fun cdv A outer s H vs E env0 hr => by
    exact (dss_cons (ds_if (dt_cmp (op_eqA hr.units) d_eqA (de_ix (de_var 0 (pv 0)) de_int (fun _ _ => rfl)) de_str (nomark _)) (dss_one (ds_ret (de_if (dt_cmp op_ge d_ge (de_var 1 (pv 1)) (de_ix (de_var 0 (pv 0)) de_int (fun _ _ => rfl)) (nomark _)) de_int de_int))) dss_nil)
    (dss_cons (ds_if (dt_cmp (op_eqA hr.units) d_eqA (de_ix (de_var 0 (pv 0)) de_int (fun _ _ => rfl)) de_str (nomark _)) (dss_one (ds_ret (de_call G_full_times (hr.mono (by decide)) (by rfl) C_full_times.g C_full_times.F.kp C_full_times.b (takes_of rfl rfl rfl rfl) (da_cons (de_var 1 (pv 1)) (da_cons (de_ix (de_var 0 (pv 0)) de_int (fun _ _ => rfl)) (da_cons (de_ix (de_var 0 (pv 0)) de_int (fun _ _ => rfl)) da_nil)))))) dss_nil)
    (dss_one (ds_ret de_int))))
theorem ok_apply_sums {f : Addr} {fd : FuncData} (B : Bl K mg) (F : Fun K "apply_sums" "apply_sums" s_apply_sums f fd)
    {a_off_times : Addr} {e_off_times : FuncData} (C_off_times : Cd K mg "off_times" s_off_times ["rule", "left"] a_off_times e_off_times) (G_off_times : FnOk P w K mg base (L2.CX P w) 2 a_off_times e_off_times ["rule", "left"] (spD K mg d_off_times)) :
    FnOk P w K mg base (L2.CX P w) 3 f fd ["rules", "total"] (spD K mg d_apply_sums) :=
  fn_ok F sc_apply_sums rfl rfl fun cdv A outer s H vs E env0 hr => by
    exact (dss_cons (ds_set (i := 2) sc_apply_sums.nd rfl (by first | exact .inl rfl | exact .inr rfl) (de_var 1 (pv 1)))
    (dss_cons (ds_set (i := 3) sc_apply_sums.nd rfl (by first | exact .inl rfl | exact .inr rfl) (de_lst da_nil))
    (dss_cons (ds_for (passes_of rfl) rfl (di_tup (de_var 0 (pv 0))) (dg_name (pg_name (i := 4) sc_apply_sums.nd rfl (by first | exact .inl rfl | exact .inr rfl))) (dss_cons (ds_set (i := 5) sc_apply_sums.nd rfl (by first | exact .inl rfl | exact .inr rfl) (de_call G_off_times (hr.mono (by decide)) (by rfl) C_off_times.g C_off_times.F.kp C_off_times.b (takes_of rfl rfl rfl rfl) (da_cons (de_var 4 (pv 4)) (da_cons (de_var 2 (pv 2)) da_nil))))
    (dss_cons (ds_aug (i := 2) sc_apply_sums.nd rfl (by first | exact .inl rfl | exact .inr rfl) iop_sub d_sub (de_op op_mulA d_mulA (de_var 5 (pv 5)) (de_ix (de_var 4 (pv 4)) de_int (fun _ _ => rfl))))
    (dss_one (ds_expr (de_met m_app PySem.F.slot_list_append PySem.F.type_list_append mt_append (de_var 3 (pv 3)) (da_cons (de_var 5 (pv 5)) da_nil)))))))
    (dss_one (ds_ret (de_tup (da_cons (de_var 2 (pv 2)) (da_cons (de_var 3 (pv 3)) da_nil))))))))
theorem ok_amounts_of {f : Addr} {fd : FuncData} (B : Bl K mg) (F : Fun K "amounts_of" "amounts_of" s_amounts_of f fd)
    {a_good_amount : Addr} {e_good_amount : FuncData} (C_good_amount : Cd K mg "good_amount" s_good_amount ["shop", "good", "pieces"] a_good_amount e_good_amount) (G_good_amount : FnOk P w K mg base (L2.CX P w) 4 a_good_amount e_good_amount ["shop", "good", "pieces"] (spD K mg d_good_amount)) :
    FnOk P w K mg base (L2.CX P w) 5 f fd ["shop", "basket"] (spD K mg d_amounts_of) :=
  fn_ok F sc_amounts_of rfl rfl fun cdv A outer s H vs E env0 hr => by
    exact (dss_one (ds_ret (de_ty d_tuple call_tuple_of (by rfl) B.b_tuple bo_tuple (da_cons (de_lc (own := [("good", 2), ("pieces", 3)]) (t := (.tup [2, 3])) rfl sc_amounts_of.nd (di_enum false (by rfl) B.b_enumerate (da_cons (de_var 1 (pv 1)) da_nil)) (blkOk_by (own := [("good", 2), ("pieces", 3)]) (N := ["shop", "basket", "good", "pieces"]) (sc := defScope s_amounts_of) (by first | decide +kernel | (dsimp only [Cx.blk, compEnvC]; rw [relabel_is]; dsimp only [cxOf, PyProof.Rows.envOfC]; decide +kernel))) (fun _ _ _ _ _ => (pg_tup rfl (pgs_cons (pg_name (i := 2) sc_amounts_of.nd rfl (by first | exact .inl rfl | exact .inr rfl)) (pgs_cons (pg_name (i := 3) sc_amounts_of.nd rfl (by first | exact .inl rfl | exact .inr rfl)) pgs_nil)))) (fun _ _ _ _ _ => dts_nil) (fun _ _ _ _ _ => (de_call G_good_amount (hr.mono (by decide)) (by rfl) C_good_amount.g C_good_amount.F.kp C_good_amount.b takes0 (da_cons (de_var 0 (pv 0)) (da_cons (de_var 2 (pv 2)) (da_cons (de_var 3 (pv 3)) da_nil))))) (by simp [CT.ins])) da_nil))))
theorem ok_left_of {f : Addr} {fd : FuncData} (B : Bl K mg) (F : Fun K "left_of" "left_of" s_left_of f fd)
    {a_apply_sums : Addr} {e_apply_sums : FuncData} (C_apply_sums : Cd K mg "apply_sums" s_apply_sums ["rules", "total"] a_apply_sums e_apply_sums) (G_apply_sums : FnOk P w K mg base (L2.CX P w) 3 a_apply_sums e_apply_sums ["rules", "total"] (spD K mg d_apply_sums)) :
    FnOk P w K mg base (L2.CX P w) 4 f fd ["rules", "total"] (spD K mg d_left_of) :=
  fn_ok F sc_left_of rfl rfl fun cdv A outer s H vs E env0 hr => by
    exact (dss_cons (ds_asg (de_call G_apply_sums (hr.mono (by decide)) (by rfl) C_apply_sums.g C_apply_sums.F.kp C_apply_sums.b (takes_of rfl rfl rfl rfl) (da_cons (de_var 0 (pv 0)) (da_cons (de_var 1 (pv 1)) da_nil))) (dg_tup rfl (dgs_cons (dg_name (pg_name (i := 2) sc_left_of.nd rfl (by first | exact .inl rfl | exact .inr rfl))) (dgs_cons (dg_name (pg_name (i := 3) sc_left_of.nd rfl (by first | exact .inl rfl | exact .inr rfl))) dgs_nil))))
    (dss_one (ds_ret (de_var 2 (pv 2)))))
theorem ok_charge_of {f : Addr} {fd : FuncData} (B : Bl K mg) (F : Fun K "charge_of" "charge_of" s_charge_of f fd)
    {a_left_of : Addr} {e_left_of : FuncData} (C_left_of : Cd K mg "left_of" s_left_of ["rules", "total"] a_left_of e_left_of) (G_left_of : FnOk P w K mg base (L2.CX P w) 4 a_left_of e_left_of ["rules", "total"] (spD K mg d_left_of))
    {a_amounts_of : Addr} {e_amounts_of : FuncData} (C_amounts_of : Cd K mg "amounts_of" s_amounts_of ["shop", "basket"] a_amounts_of e_amounts_of) (G_amounts_of : FnOk P w K mg base (L2.CX P w) 5 a_amounts_of e_amounts_of ["shop", "basket"] (spD K mg d_amounts_of)) :
    FnOk P w K mg base (L2.CX P w) 6 f fd ["shop", "basket"] (spD K mg d_charge_of) :=
  fn_ok F sc_charge_of rfl rfl fun cdv A outer s H vs E env0 hr => by
    exact (dss_one (ds_ret (de_call G_left_of (hr.mono (by decide)) (by rfl) C_left_of.g C_left_of.F.kp C_left_of.b (takes_of rfl rfl rfl rfl) (da_cons (de_ix (de_var 0 (pv 0)) de_int (fun _ _ => rfl)) (da_cons (de_b d_sum (call_sumA rfl) (by rfl) B.b_sum bo_sum (da_cons (de_call G_amounts_of (hr.mono (by decide)) (by rfl) C_amounts_of.g C_amounts_of.F.kp C_amounts_of.b (takes_of rfl rfl rfl rfl) (da_cons (de_var 0 (pv 0)) (da_cons (de_var 1 (pv 1)) da_nil))) da_nil)) da_nil)))))
theorem ok_uses_of {f : Addr} {fd : FuncData} (B : Bl K mg) (F : Fun K "uses_of" "uses_of" s_uses_of f fd)
    {a_apply_sums : Addr} {e_apply_sums : FuncData} (C_apply_sums : Cd K mg "apply_sums" s_apply_sums ["rules", "total"] a_apply_sums e_apply_sums) (G_apply_sums : FnOk P w K mg base (L2.CX P w) 3 a_apply_sums e_apply_sums ["rules", "total"] (spD K mg d_apply_sums))
    {a_fitting_rule : Addr} {e_fitting_rule : FuncData} (C_fitting_rule : Cd K mg "fitting_rule" s_fitting_rule ["rules", "good", "pieces"] a_fitting_rule e_fitting_rule) (G_fitting_rule : FnOk P w K mg base (L2.CX P w) 1 a_fitting_rule e_fitting_rule ["rules", "good", "pieces"] (spD K mg d_fitting_rule))
    {a_amounts_of : Addr} {e_amounts_of : FuncData} (C_amounts_of : Cd K mg "amounts_of" s_amounts_of ["shop", "basket"] a_amounts_of e_amounts_of) (G_amounts_of : FnOk P w K mg base (L2.CX P w) 5 a_amounts_of e_amounts_of ["shop", "basket"] (spD K mg d_amounts_of))
    {a_pack_times : Addr} {e_pack_times : FuncData} (C_pack_times : Cd K mg "pack_times" s_pack_times ["rule", "pieces"] a_pack_times e_pack_times) (G_pack_times : FnOk P w K mg base (L2.CX P w) 2 a_pack_times e_pack_times ["rule", "pieces"] (spD K mg d_pack_times)) :
    FnOk P w K mg base (L2.CX P w) 6 f fd ["shop", "basket"] (spD K mg d_uses_of) :=
  fn_ok F sc_uses_of rfl rfl fun cdv A outer s H vs E env0 hr => by
    exact (dss_cons (ds_set (i := 2) sc_uses_of.nd rfl (by first | exact .inl rfl | exact .inr rfl) (de_ix (de_var 0 (pv 0)) de_int (fun _ _ => rfl)))
    (dss_cons (ds_asg (de_call G_apply_sums (hr.mono (by decide)) (by rfl) C_apply_sums.g C_apply_sums.F.kp C_apply_sums.b (takes_of rfl rfl rfl rfl) (da_cons (de_var 2 (pv 2)) (da_cons (de_b d_sum (call_sumA rfl) (by rfl) B.b_sum bo_sum (da_cons (de_call G_amounts_of (hr.mono (by decide)) (by rfl) C_amounts_of.g C_amounts_of.F.kp C_amounts_of.b (takes_of rfl rfl rfl rfl) (da_cons (de_var 0 (pv 0)) (da_cons (de_var 1 (pv 1)) da_nil))) da_nil)) da_nil))) (dg_tup rfl (dgs_cons (dg_name (pg_name (i := 3) sc_uses_of.nd rfl (by first | exact .inl rfl | exact .inr rfl))) (dgs_cons (dg_name (pg_name (i := 4) sc_uses_of.nd rfl (by first | exact .inl rfl | exact .inr rfl))) dgs_nil))))
    (dss_cons (ds_for (passes_of rfl) rfl (di_enum true (by rfl) B.b_enumerate (da_cons (de_var 1 (pv 1)) da_nil)) (dg_tup rfl (dgs_cons (dg_name (pg_name (i := 5) sc_uses_of.nd rfl (by first | exact .inl rfl | exact .inr rfl))) (dgs_cons (dg_name (pg_name (i := 6) sc_uses_of.nd rfl (by first | exact .inl rfl | exact .inr rfl))) dgs_nil))) (dss_cons (ds_set (i := 7) sc_uses_of.nd rfl (by first | exact .inl rfl | exact .inr rfl) (de_call G_fitting_rule (hr.mono (by decide)) (by rfl) C_fitting_rule.g C_fitting_rule.F.kp C_fitting_rule.b (takes_of rfl rfl rfl rfl) (da_cons (de_var 2 (pv 2)) (da_cons (de_var 5 (pv 5)) (da_cons (de_var 6 (pv 6)) da_nil)))))
    (dss_one (ds_if (dt_cmp op_nis d_nis (de_var 7 (pv 7)) de_non (nomark _)) (dss_cons (ds_set (i := 8) sc_uses_of.nd rfl (by first | exact .inl rfl | exact .inr rfl) (de_ix (de_var 2 (pv 2)) (de_var 7 (pv 7)) (fun _ _ => rfl)))
    (dss_one (ds_asg (de_if (dt_cmp (op_eqA hr.units) d_eqA (de_ix (de_var 8 (pv 8)) de_int (fun _ _ => rfl)) de_str (nomark _)) (de_call G_pack_times (hr.mono (by decide)) (by rfl) C_pack_times.g C_pack_times.F.kp C_pack_times.b (takes_of rfl rfl rfl rfl) (da_cons (de_var 8 (pv 8)) (da_cons (de_var 6 (pv 6)) da_nil))) de_int) (dg_sub (W := WF) (de_var 4 (pv 4)) (de_var 7 (pv 7)))))) dss_nil))))
    (dss_one (ds_ret (de_ty d_tuple call_tuple_of (by rfl) B.b_tuple bo_tuple (da_cons (de_var 4 (pv 4)) da_nil)))))))
theorem ok_costs_of {f : Addr} {fd : FuncData} (B : Bl K mg) (F : Fun K "costs_of" "costs_of" s_costs_of f fd) :
    FnOk P w K mg base (L2.CX P w) 1 f fd ["shop", "basket"] (spD K mg d_costs_of) :=
  fn_ok F sc_costs_of rfl rfl fun cdv A outer s H vs E env0 hr => by
    exact (dss_one (ds_ret (de_b d_sum (call_sumA rfl) (by rfl) B.b_sum bo_sum (da_cons (de_lc (own := [("good", 2), ("pieces", 3)]) (t := (.tup [2, 3])) rfl sc_costs_of.nd (di_zip false (by rfl) B.b_zip (da_cons (de_ix (de_var 0 (pv 0)) de_int (fun _ _ => rfl)) (da_cons (de_var 1 (pv 1)) da_nil))) (blkOk_by (own := [("good", 2), ("pieces", 3)]) (N := ["shop", "basket", "good", "pieces"]) (sc := defScope s_costs_of) (by first | decide +kernel | (dsimp only [Cx.blk, compEnvC]; rw [relabel_is]; dsimp only [cxOf, PyProof.Rows.envOfC]; decide +kernel))) (fun _ _ _ _ _ => (pg_tup rfl (pgs_cons (pg_name (i := 2) sc_costs_of.nd rfl (by first | exact .inl rfl | exact .inr rfl)) (pgs_cons (pg_name (i := 3) sc_costs_of.nd rfl (by first | exact .inl rfl | exact .inr rfl)) pgs_nil)))) (fun _ _ _ _ _ => dts_nil) (fun _ _ _ _ _ => (de_op op_mulA d_mulA (de_ix (de_var 2 (pv 2)) de_int (fun _ _ => rfl)) (de_var 3 (pv 3)))) (by simp [CT.ins])) da_nil))))
theorem ok_gain_of {f : Addr} {fd : FuncData} (B : Bl K mg) (F : Fun K "gain_of" "gain_of" s_gain_of f fd)
    {a_charge_of : Addr} {e_charge_of : FuncData} (C_charge_of : Cd K mg "charge_of" s_charge_of ["shop", "basket"] a_charge_of e_charge_of) (G_charge_of : FnOk P w K mg base (L2.CX P w) 6 a_charge_of e_charge_of ["shop", "basket"] (spD K mg d_charge_of))
    {a_costs_of : Addr} {e_costs_of : FuncData} (C_costs_of : Cd K mg "costs_of" s_costs_of ["shop", "basket"] a_costs_of e_costs_of) (G_costs_of : FnOk P w K mg base (L2.CX P w) 1 a_costs_of e_costs_of ["shop", "basket"] (spD K mg d_costs_of)) :
    FnOk P w K mg base (L2.CX P w) 7 f fd ["shop", "basket"] (spD K mg d_gain_of) :=
  fn_ok F sc_gain_of rfl rfl fun cdv A outer s H vs E env0 hr => by
    exact (dss_one (ds_ret (de_op op_sub d_sub (de_call G_charge_of (hr.mono (by decide)) (by rfl) C_charge_of.g C_charge_of.F.kp C_charge_of.b (takes_of rfl rfl rfl rfl) (da_cons (de_var 0 (pv 0)) (da_cons (de_var 1 (pv 1)) da_nil))) (de_call G_costs_of (hr.mono (by decide)) (by rfl) C_costs_of.g C_costs_of.F.kp C_costs_of.b (takes_of rfl rfl rfl rfl) (da_cons (de_var 0 (pv 0)) (da_cons (de_var 1 (pv 1)) da_nil))))))
theorem ok_amounts {f : Addr} {fd : FuncData} (B : Bl K mg) (F : Fun K "amounts" "amounts" s_amounts f fd)
    {a_check_basket : Addr} {e_check_basket : FuncData} (C_check_basket : Cd K mg "check_basket" s_check_basket ["shop", "basket"] a_check_basket e_check_basket) (G_check_basket : FnOk P w K mg base (L2.CX P w) 10 a_check_basket e_check_basket ["shop", "basket"] (spD K mg d_check_basket))
    {a_amounts_of : Addr} {e_amounts_of : FuncData} (C_amounts_of : Cd K mg "amounts_of" s_amounts_of ["shop", "basket"] a_amounts_of e_amounts_of) (G_amounts_of : FnOk P w K mg base (L2.CX P w) 5 a_amounts_of e_amounts_of ["shop", "basket"] (spD K mg d_amounts_of)) :
    FnOk P w K mg base (L2.CX P w) 11 f fd ["shop", "basket"] (spD K mg d_amounts) :=
  fn_ok F sc_amounts rfl rfl fun cdv A outer s H vs E env0 hr => by
    exact (dss_cons (ds_expr (de_call G_check_basket (hr.mono (by decide)) (by rfl) C_check_basket.g C_check_basket.F.kp C_check_basket.b (takes_of rfl rfl rfl rfl) (da_cons (de_var 0 (pv 0)) (da_cons (de_var 1 (pv 1)) da_nil))))
    (dss_one (ds_ret (de_call G_amounts_of (hr.mono (by decide)) (by rfl) C_amounts_of.g C_amounts_of.F.kp C_amounts_of.b (takes_of rfl rfl rfl rfl) (da_cons (de_var 0 (pv 0)) (da_cons (de_var 1 (pv 1)) da_nil))))))
theorem ok_charge {f : Addr} {fd : FuncData} (B : Bl K mg) (F : Fun K "charge" "charge" s_charge f fd)
    {a_check_basket : Addr} {e_check_basket : FuncData} (C_check_basket : Cd K mg "check_basket" s_check_basket ["shop", "basket"] a_check_basket e_check_basket) (G_check_basket : FnOk P w K mg base (L2.CX P w) 10 a_check_basket e_check_basket ["shop", "basket"] (spD K mg d_check_basket))
    {a_charge_of : Addr} {e_charge_of : FuncData} (C_charge_of : Cd K mg "charge_of" s_charge_of ["shop", "basket"] a_charge_of e_charge_of) (G_charge_of : FnOk P w K mg base (L2.CX P w) 6 a_charge_of e_charge_of ["shop", "basket"] (spD K mg d_charge_of)) :
    FnOk P w K mg base (L2.CX P w) 11 f fd ["shop", "basket"] (spD K mg d_charge) :=
  fn_ok F sc_charge rfl rfl fun cdv A outer s H vs E env0 hr => by
    exact (dss_cons (ds_expr (de_call G_check_basket (hr.mono (by decide)) (by rfl) C_check_basket.g C_check_basket.F.kp C_check_basket.b (takes_of rfl rfl rfl rfl) (da_cons (de_var 0 (pv 0)) (da_cons (de_var 1 (pv 1)) da_nil))))
    (dss_one (ds_ret (de_call G_charge_of (hr.mono (by decide)) (by rfl) C_charge_of.g C_charge_of.F.kp C_charge_of.b (takes_of rfl rfl rfl rfl) (da_cons (de_var 0 (pv 0)) (da_cons (de_var 1 (pv 1)) da_nil))))))
theorem ok_uses {f : Addr} {fd : FuncData} (B : Bl K mg) (F : Fun K "uses" "uses" s_uses f fd)
    {a_check_basket : Addr} {e_check_basket : FuncData} (C_check_basket : Cd K mg "check_basket" s_check_basket ["shop", "basket"] a_check_basket e_check_basket) (G_check_basket : FnOk P w K mg base (L2.CX P w) 10 a_check_basket e_check_basket ["shop", "basket"] (spD K mg d_check_basket))
    {a_uses_of : Addr} {e_uses_of : FuncData} (C_uses_of : Cd K mg "uses_of" s_uses_of ["shop", "basket"] a_uses_of e_uses_of) (G_uses_of : FnOk P w K mg base (L2.CX P w) 6 a_uses_of e_uses_of ["shop", "basket"] (spD K mg d_uses_of)) :
    FnOk P w K mg base (L2.CX P w) 11 f fd ["shop", "basket"] (spD K mg d_uses) :=
  fn_ok F sc_uses rfl rfl fun cdv A outer s H vs E env0 hr => by
    exact (dss_cons (ds_expr (de_call G_check_basket (hr.mono (by decide)) (by rfl) C_check_basket.g C_check_basket.F.kp C_check_basket.b (takes_of rfl rfl rfl rfl) (da_cons (de_var 0 (pv 0)) (da_cons (de_var 1 (pv 1)) da_nil))))
    (dss_one (ds_ret (de_call G_uses_of (hr.mono (by decide)) (by rfl) C_uses_of.g C_uses_of.F.kp C_uses_of.b (takes_of rfl rfl rfl rfl) (da_cons (de_var 0 (pv 0)) (da_cons (de_var 1 (pv 1)) da_nil))))))
theorem ok_gain {f : Addr} {fd : FuncData} (B : Bl K mg) (F : Fun K "gain" "gain" s_gain f fd)
    {a_check_basket : Addr} {e_check_basket : FuncData} (C_check_basket : Cd K mg "check_basket" s_check_basket ["shop", "basket"] a_check_basket e_check_basket) (G_check_basket : FnOk P w K mg base (L2.CX P w) 10 a_check_basket e_check_basket ["shop", "basket"] (spD K mg d_check_basket))
    {a_gain_of : Addr} {e_gain_of : FuncData} (C_gain_of : Cd K mg "gain_of" s_gain_of ["shop", "basket"] a_gain_of e_gain_of) (G_gain_of : FnOk P w K mg base (L2.CX P w) 7 a_gain_of e_gain_of ["shop", "basket"] (spD K mg d_gain_of)) :
    FnOk P w K mg base (L2.CX P w) 11 f fd ["shop", "basket"] (spD K mg d_gain) :=
  fn_ok F sc_gain rfl rfl fun cdv A outer s H vs E env0 hr => by
    exact (dss_cons (ds_expr (de_call G_check_basket (hr.mono (by decide)) (by rfl) C_check_basket.g C_check_basket.F.kp C_check_basket.b (takes_of rfl rfl rfl rfl) (da_cons (de_var 0 (pv 0)) (da_cons (de_var 1 (pv 1)) da_nil))))
    (dss_one (ds_ret (de_call G_gain_of (hr.mono (by decide)) (by rfl) C_gain_of.g C_gain_of.F.kp C_gain_of.b (takes_of rfl rfl rfl rfl) (da_cons (de_var 0 (pv 0)) (da_cons (de_var 1 (pv 1)) da_nil))))))
theorem ok_without_rule {f : Addr} {fd : FuncData} (B : Bl K mg) (F : Fun K "without_rule" "without_rule" s_without_rule f fd) :
    FnOk P w K mg base (L2.CX P w) 1 f fd ["shop", "number"] (spD K mg d_without_rule) :=
  fn_ok F sc_without_rule rfl rfl fun cdv A outer s H vs E env0 hr => by
    exact (dss_cons (ds_asg (de_var 0 (pv 0)) (dg_tup rfl (dgs_cons (dg_name (pg_name (i := 2) sc_without_rule.nd rfl (by first | exact .inl rfl | exact .inr rfl))) (dgs_cons (dg_name (pg_name (i := 3) sc_without_rule.nd rfl (by first | exact .inl rfl | exact .inr rfl))) dgs_nil))))
    (dss_one (ds_ret (de_tup (da_cons (de_var 2 (pv 2)) (da_cons (de_op op_addA d_add (de_slice (de_var 3 (pv 3)) do_none (do_some (de_var 1 (pv 1)))) (de_slice (de_var 3 (pv 3)) (do_some (de_op op_addA d_add (de_var 1 (pv 1)) de_int)) do_none)) da_nil))))))
theorem ok_effects {f : Addr} {fd : FuncData} (B : Bl K mg) (F : Fun K "effects" "effects" s_effects f fd)
    {a_check_basket : Addr} {e_check_basket : FuncData} (C_check_basket : Cd K mg "check_basket" s_check_basket ["shop", "basket"] a_check_basket e_check_basket) (G_check_basket : FnOk P w K mg base (L2.CX P w) 10 a_check_basket e_check_basket ["shop", "basket"] (spD K mg d_check_basket))
    {a_charge_of : Addr} {e_charge_of : FuncData} (C_charge_of : Cd K mg "charge_of" s_charge_of ["shop", "basket"] a_charge_of e_charge_of) (G_charge_of : FnOk P w K mg base (L2.CX P w) 6 a_charge_of e_charge_of ["shop", "basket"] (spD K mg d_charge_of))
    {a_without_rule : Addr} {e_without_rule : FuncData} (C_without_rule : Cd K mg "without_rule" s_without_rule ["shop", "number"] a_without_rule e_without_rule) (G_without_rule : FnOk P w K mg base (L2.CX P w) 1 a_without_rule e_without_rule ["shop", "number"] (spD K mg d_without_rule)) :
    FnOk P w K mg base (L2.CX P w) 11 f fd ["shop", "basket"] (spD K mg d_effects) :=
  fn_ok F sc_effects rfl rfl fun cdv A outer s H vs E env0 hr => by
    exact (dss_cons (ds_expr (de_call G_check_basket (hr.mono (by decide)) (by rfl) C_check_basket.g C_check_basket.F.kp C_check_basket.b (takes_of rfl rfl rfl rfl) (da_cons (de_var 0 (pv 0)) (da_cons (de_var 1 (pv 1)) da_nil))))
    (dss_cons (ds_set (i := 2) sc_effects.nd rfl (by first | exact .inl rfl | exact .inr rfl) (de_call G_charge_of (hr.mono (by decide)) (by rfl) C_charge_of.g C_charge_of.F.kp C_charge_of.b (takes_of rfl rfl rfl rfl) (da_cons (de_var 0 (pv 0)) (da_cons (de_var 1 (pv 1)) da_nil))))
    (dss_one (ds_ret (de_lc (own := [("number", 3)]) (t := (.one 3)) rfl sc_effects.nd (di_range1 (by rfl) B.b_range (da_cons (de_b d_len call_lenA (by rfl) B.b_len bo_len (da_cons (de_ix (de_var 0 (pv 0)) de_int (fun _ _ => rfl)) da_nil)) da_nil)) (blkOk_by (own := [("number", 3)]) (N := ["shop", "basket", "charged", "number"]) (sc := defScope s_effects) (by first | decide +kernel | (dsimp only [Cx.blk, compEnvC]; rw [relabel_is]; dsimp only [cxOf, PyProof.Rows.envOfC]; decide +kernel))) (fun _ _ _ _ _ => (pg_name (i := 3) sc_effects.nd rfl (by first | exact .inl rfl | exact .inr rfl))) (fun _ _ _ _ _ => dts_nil) (fun _ _ _ _ _ => (de_op op_sub d_sub (de_call G_charge_of (hr.mono (by decide)) (by rfl) C_charge_of.g C_charge_of.F.kp C_charge_of.b takes0 (da_cons (de_call G_without_rule (hr.mono (by decide)) (by rfl) C_without_rule.g C_without_rule.F.kp C_without_rule.b takes0 (da_cons (de_var 0 (pv 0)) (da_cons (de_var 3 (pv 3)) da_nil))) (da_cons (de_var 1 (pv 1)) da_nil))) (de_var 2 (pv 2)))) (by simp [CT.ins]))))))
theorem ok_baskets_of {f : Addr} {fd : FuncData} (B : Bl K mg) (F : Fun K "baskets_of" "baskets_of" s_baskets_of f fd) :
    FnOk P w K mg base (L2.CX P w) 1 f fd ["pieces", "limits"] (spD K mg d_baskets_of) :=
  fn_ok F sc_baskets_of rfl rfl fun cdv A outer s H vs E env0 hr => by
    exact (dss_cons (ds_if (dt_cmp (op_eqA hr.units) d_eqA (de_b d_len call_lenA (by rfl) B.b_len bo_len (da_cons (de_var 1 (pv 1)) da_nil)) de_int (nomark _)) (dss_one (ds_ret (de_if (dt_cmp op_le d_le (de_var 0 (pv 0)) (de_ix (de_var 1 (pv 1)) de_int (fun _ _ => rfl)) (nomark _)) (de_lst (da_cons (de_tup (da_cons (de_var 0 (pv 0)) da_nil)) da_nil)) (de_lst da_nil)))) dss_nil)
    (dss_cons (ds_asg (de_var 1 (pv 1)) (dg_any rfl (dgs_cons (dg_name (pg_name (i := 3) sc_baskets_of.nd rfl (by first | exact .inl rfl | exact .inr rfl))) (dgs_cons (dg_name (pg_name (i := 4) sc_baskets_of.nd rfl (by first | exact .inl rfl | exact .inr rfl))) dgs_nil))))
    (dss_rngC (i := 2) (own := [("count", 5)]) (t := (.one 5)) rfl sc_baskets_of.nd rfl (by first | exact .inl rfl | exact .inr rfl) (by rfl) B.b_range (da_cons (de_b d_max2 (call_max2 rfl) (by rfl) B.b_max bo_max (da_cons de_int (da_cons (de_op op_sub d_sub (de_var 0 (pv 0)) (de_var 4 (pv 4))) da_nil))) (da_cons (de_op op_addA d_add (de_b d_min2 (call_min2 rfl) (by rfl) B.b_min bo_min (da_cons (de_var 0 (pv 0)) (da_cons (de_var 3 (pv 3)) da_nil))) de_int) da_nil)) (pv 2) (blkOk_by (own := [("count", 5)]) (N := ["pieces", "limits", "counts", "first", "second", "count"]) (sc := defScope s_baskets_of) (by decide +kernel)) (fun _ _ _ _ _ => (pg_name (i := 5) sc_baskets_of.nd rfl (by first | exact .inl rfl | exact .inr rfl))) (fun _ _ _ _ _ => dts_nil) (fun _ _ _ _ _ => (de_tup (da_cons (de_var 5 (pv 5)) (da_cons (de_op op_sub d_sub (de_var 0 (pv 0)) (de_var 5 (pv 5))) da_nil)))) (by simp [CT.ins]))))
theorem ok_baskets_within {f : Addr} {fd : FuncData} (B : Bl K mg) (F : Fun K "baskets_within" "baskets_within" s_baskets_within f fd)
    {a_baskets_of : Addr} {e_baskets_of : FuncData} (C_baskets_of : Cd K mg "baskets_of" s_baskets_of ["pieces", "limits"] a_baskets_of e_baskets_of) (G_baskets_of : FnOk P w K mg base (L2.CX P w) 1 a_baskets_of e_baskets_of ["pieces", "limits"] (spD K mg d_baskets_of)) :
    FnOk P w K mg base (L2.CX P w) 2 f fd ["limits"] (spD K mg d_baskets_within) :=
  fn_ok F sc_baskets_within rfl rfl fun cdv A outer s H vs E env0 hr => by
    exact (dss_one (ds_ret (de_lc2 (own := [("pieces", 1), ("basket", 2)]) (t := (.one 1)) (t1 := (.one 2)) (vs1 := [2]) rfl sc_baskets_within.nd (di_range1 (by rfl) B.b_range (da_cons (de_op op_addA d_add (de_b d_sum (call_sumA rfl) (by rfl) B.b_sum bo_sum (da_cons (de_var 0 (pv 0)) da_nil)) de_int) da_nil)) (blkOk_by (own := [("pieces", 1), ("basket", 2)]) (N := ["limits", "pieces", "basket"]) (sc := defScope s_baskets_within) (by decide +kernel)) (fun _ _ _ _ _ => (pg_name (i := 1) sc_baskets_within.nd rfl (by first | exact .inl rfl | exact .inr rfl))) (fun _ _ _ _ _ => dts_nil) (fun _ _ _ _ _ => (di2_list (de_call G_baskets_of (hr.mono (by decide)) (by rfl) C_baskets_of.g C_baskets_of.F.kp C_baskets_of.b takes0 (da_cons (de_var 1 (pv 1)) (da_cons (de_var 0 (pv 0)) da_nil))))) (fun _ _ _ _ _ => (pg_name (i := 2) sc_baskets_within.nd rfl (by first | exact .inl rfl | exact .inr rfl))) (fun _ _ _ _ _ => dts_nil) (fun _ _ _ _ _ => (de_var 2 (pv 2))) (by simp [CT.ins]) (by simp [CT.ins]) (by decide))))
theorem ok_sums_within {f : Addr} {fd : FuncData} (B : Bl K mg) (F : Fun K "sums_within" "sums_within" s_sums_within f fd)
    {a_good_amount : Addr} {e_good_amount : FuncData} (C_good_amount : Cd K mg "good_amount" s_good_amount ["shop", "good", "pieces"] a_good_amount e_good_amount) (G_good_amount : FnOk P w K mg base (L2.CX P w) 4 a_good_amount e_good_amount ["shop", "good", "pieces"] (spD K mg d_good_amount)) :
    FnOk P w K mg base (L2.CX P w) 5 f fd ["shop", "limits"] (spD K mg d_sums_within) :=
  fn_ok F sc_sums_within rfl rfl fun cdv A outer s H vs E env0 hr => by
    exact (dss_cons (ds_set (i := 2) sc_sums_within.nd rfl (by first | exact .inl rfl | exact .inr rfl) (de_disp1 (u0 hr) (de_tup da_nil) de_int))
    (dss_cons (ds_for (passes_of rfl) rfl (di_enum true (by rfl) B.b_enumerate (da_cons (de_var 1 (pv 1)) da_nil)) (dg_tup rfl (dgs_cons (dg_name (pg_name (i := 3) sc_sums_within.nd rfl (by first | exact .inl rfl | exact .inr rfl))) (dgs_cons (dg_name (pg_name (i := 4) sc_sums_within.nd rfl (by first | exact .inl rfl | exact .inr rfl))) dgs_nil))) (dss_cons (ds_set (i := 5) sc_sums_within.nd rfl (by first | exact .inl rfl | exact .inr rfl) (de_lc (own := [("pieces", 7)]) (t := (.one 7)) rfl sc_sums_within.nd (di_range1 (by rfl) B.b_range (da_cons (de_op op_addA d_add (de_var 4 (pv 4)) de_int) da_nil)) (blkOk_by (own := [("pieces", 7)]) (N := ["shop", "limits", "sums", "good", "limit", "table", "longer", "pieces", "basket", "total", "amount"]) (sc := defScope s_sums_within) (by first | decide +kernel | (dsimp only [Cx.blk, compEnvC]; rw [relabel_is]; dsimp only [cxOf, PyProof.Rows.envOfC]; decide +kernel))) (fun _ _ _ _ _ => (pg_name (i := 7) sc_sums_within.nd rfl (by first | exact .inl rfl | exact .inr rfl))) (fun _ _ _ _ _ => dts_nil) (fun _ _ _ _ _ => (de_call G_good_amount (hr.mono (by decide)) (by rfl) C_good_amount.g C_good_amount.F.kp C_good_amount.b takes0 (da_cons (de_var 0 (pv 0)) (da_cons (de_var 3 (pv 3)) (da_cons (de_var 7 (pv 7)) da_nil))))) (by simp [CT.ins])))
    (dss_cons (ds_setDcII (i := 6) (own := [("basket", 8), ("total", 9), ("pieces", 7), ("amount", 10)]) (t := (.tup [8, 9])) (t1 := (.tup [7, 10])) (vs1 := [7, 10]) rfl (u0 hr) sc_sums_within.nd rfl rfl (by rfl) (di_itD (de_var 2 (pv 2))) (blkOk_by (own := [("basket", 8), ("total", 9), ("pieces", 7), ("amount", 10)]) (N := ["shop", "limits", "sums", "good", "limit", "table", "longer", "pieces", "basket", "total", "amount"]) (sc := defScope s_sums_within) (by decide +kernel)) (fun _ _ _ _ _ => (pg_tup rfl (pgs_cons (pg_name (i := 8) sc_sums_within.nd rfl (by first | exact .inl rfl | exact .inr rfl)) (pgs_cons (pg_name (i := 9) sc_sums_within.nd rfl (by first | exact .inl rfl | exact .inr rfl)) pgs_nil)))) (fun _ _ _ _ _ => dts_nil) (fun _ _ _ _ _ => (di2_enum (by rfl) B.b_enumerate (da_cons (de_var 5 (pv 5)) da_nil))) (fun _ _ _ _ _ => (pg_tup rfl (pgs_cons (pg_name (i := 7) sc_sums_within.nd rfl (by first | exact .inl rfl | exact .inr rfl)) (pgs_cons (pg_name (i := 10) sc_sums_within.nd rfl (by first | exact .inl rfl | exact .inr rfl)) pgs_nil)))) (fun _ _ _ _ _ => dts_nil) (fun _ _ _ _ _ => (de_op op_addA d_add (de_var 8 (pv 8)) (de_tup (da_cons (de_var 7 (pv 7)) da_nil)))) (fun _ _ _ _ _ => (de_op op_addA d_add (de_var 9 (pv 9)) (de_var 10 (pv 10)))) (by simp [CT.ins]) (by simp [CT.ins]) (by decide))
    (dss_one (ds_set (i := 2) sc_sums_within.nd rfl (by first | exact .inl rfl | exact .inr rfl) (de_var 6 (pv 6)))))))
    (dss_one (ds_ret (de_var 2 (pv 2))))))
theorem ok_charges_within {f : Addr} {fd : FuncData} (B : Bl K mg) (F : Fun K "charges_within" "charges_within" s_charges_within f fd)
    {a_sums_within : Addr} {e_sums_within : FuncData} (C_sums_within : Cd K mg "sums_within" s_sums_within ["shop", "limits"] a_sums_within e_sums_within) (G_sums_within : FnOk P w K mg base (L2.CX P w) 5 a_sums_within e_sums_within ["shop", "limits"] (spD K mg d_sums_within))
    {a_left_of : Addr} {e_left_of : FuncData} (C_left_of : Cd K mg "left_of" s_left_of ["rules", "total"] a_left_of e_left_of) (G_left_of : FnOk P w K mg base (L2.CX P w) 4 a_left_of e_left_of ["rules", "total"] (spD K mg d_left_of)) :
    FnOk P w K mg base (L2.CX P w) 6 f fd ["shop", "limits"] (spD K mg d_charges_within) :=
  fn_ok F sc_charges_within rfl rfl fun cdv A outer s H vs E env0 hr => by
    exact (dss_cons (ds_set (i := 2) sc_charges_within.nd rfl (by first | exact .inl rfl | exact .inr rfl) (de_call G_sums_within (hr.mono (by decide)) (by rfl) C_sums_within.g C_sums_within.F.kp C_sums_within.b (takes_of rfl rfl rfl rfl) (da_cons (de_var 0 (pv 0)) (da_cons (de_var 1 (pv 1)) da_nil))))
    (dss_cons (ds_set (i := 3) sc_charges_within.nd rfl (by first | exact .inl rfl | exact .inr rfl) (de_lc (own := [("total", 4)]) (t := (.one 4)) rfl sc_charges_within.nd (di_range1 (by rfl) B.b_range (da_cons (de_op op_addA d_add (de_dmax (by rfl) B.b_max (de_var 2 (pv 2))) de_int) da_nil)) (blkOk_by (own := [("total", 4)]) (N := ["shop", "limits", "sums", "left", "total", "basket"]) (sc := defScope s_charges_within) (by first | decide +kernel | (dsimp only [Cx.blk, compEnvC]; rw [relabel_is]; dsimp only [cxOf, PyProof.Rows.envOfC]; decide +kernel))) (fun _ _ _ _ _ => (pg_name (i := 4) sc_charges_within.nd rfl (by first | exact .inl rfl | exact .inr rfl))) (fun _ _ _ _ _ => dts_nil) (fun _ _ _ _ _ => (de_call G_left_of (hr.mono (by decide)) (by rfl) C_left_of.g C_left_of.F.kp C_left_of.b takes0 (da_cons (de_ix (de_var 0 (pv 0)) de_int (fun _ _ => rfl)) (da_cons (de_var 4 (pv 4)) da_nil)))) (by simp [CT.ins])))
    (dss_one (ds_ret (de_dcI (own := [("basket", 5), ("total", 4)]) (t := (.tup [5, 4])) rfl (u0 hr) sc_charges_within.nd (di_itD (de_var 2 (pv 2))) (blkOk_by (own := [("basket", 5), ("total", 4)]) (N := ["shop", "limits", "sums", "left", "total", "basket"]) (sc := defScope s_charges_within) (by decide +kernel)) (fun _ _ _ _ _ => (pg_tup rfl (pgs_cons (pg_name (i := 5) sc_charges_within.nd rfl (by first | exact .inl rfl | exact .inr rfl)) (pgs_cons (pg_name (i := 4) sc_charges_within.nd rfl (by first | exact .inl rfl | exact .inr rfl)) pgs_nil)))) (fun _ _ _ _ _ => dts_nil) (fun _ _ _ _ _ => (de_var 5 (pv 5))) (fun _ _ _ _ _ => (de_ix (de_var 3 (pv 3)) (de_var 4 (pv 4)) (fun _ _ => rfl))) (by simp [CT.ins]))))))
theorem ok_rounded_up {f : Addr} {fd : FuncData} (B : Bl K mg) (F : Fun K "rounded_up" "rounded_up" s_rounded_up f fd) :
    FnOk P w K mg base (L2.CX P w) 1 f fd ["whole", "part"] (spD K mg d_rounded_up) :=
  fn_ok F sc_rounded_up rfl rfl fun cdv A outer s H vs E env0 hr => by
    exact (dss_one (ds_ret (de_op op_fdiv d_fdiv (de_op op_sub d_sub (de_op op_addA d_add (de_var 0 (pv 0)) (de_var 1 (pv 1))) de_int) (de_var 1 (pv 1)))))
theorem ok_sum_growth {f : Addr} {fd : FuncData} (B : Bl K mg) (F : Fun K "sum_growth" "sum_growth" s_sum_growth f fd)
    {a_rounded_up : Addr} {e_rounded_up : FuncData} (C_rounded_up : Cd K mg "rounded_up" s_rounded_up ["whole", "part"] a_rounded_up e_rounded_up) (G_rounded_up : FnOk P w K mg base (L2.CX P w) 1 a_rounded_up e_rounded_up ["whole", "part"] (spD K mg d_rounded_up)) :
    FnOk P w K mg base (L2.CX P w) 2 f fd ["rules"] (spD K mg d_sum_growth) :=
  fn_ok F sc_sum_growth rfl rfl fun cdv A outer s H vs E env0 hr => by
    exact (dss_cons (ds_asg (de_tup (da_cons de_int (da_cons de_int (da_cons de_int da_nil)))) (dg_tup rfl (dgs_cons (dg_name (pg_name (i := 2) sc_sum_growth.nd rfl (by first | exact .inl rfl | exact .inr rfl))) (dgs_cons (dg_name (pg_name (i := 3) sc_sum_growth.nd rfl (by first | exact .inl rfl | exact .inr rfl))) (dgs_cons (dg_name (pg_name (i := 4) sc_sum_growth.nd rfl (by first | exact .inl rfl | exact .inr rfl))) dgs_nil)))))
    (dss_cons (ds_for (passes_of rfl) rfl (di_rev (by rfl) B.b_reversed (de_var 0 (pv 0))) (dg_name (pg_name (i := 1) sc_sum_growth.nd rfl (by first | exact .inl rfl | exact .inr rfl))) (dss_one (ds_if (dt_cmp (op_eqA hr.units) d_eqA (de_ix (de_var 1 (pv 1)) de_int (fun _ _ => rfl)) de_str (nomark _)) (dss_cons (ds_asg (de_var 1 (pv 1)) (dg_tup rfl (dgs_cons (dg_name (pg_name (i := 5) sc_sum_growth.nd rfl (by first | exact .inl rfl | exact .inr rfl))) (dgs_cons (dg_name (pg_name (i := 6) sc_sum_growth.nd rfl (by first | exact .inl rfl | exact .inr rfl))) (dgs_cons (dg_name (pg_name (i := 7) sc_sum_growth.nd rfl (by first | exact .inl rfl | exact .inr rfl))) dgs_nil)))))
    (dss_one (ds_set (i := 2) sc_sum_growth.nd rfl (by first | exact .inl rfl | exact .inr rfl) (de_b d_max2 (call_max2 rfl) (by rfl) B.b_max bo_max (da_cons (de_var 6 (pv 6)) (da_cons (de_op op_addA d_add (de_var 2 (pv 2)) (de_var 7 (pv 7))) da_nil)))))) (dss_one (ds_if (dt_cmp (op_eqA hr.units) d_eqA (de_ix (de_var 1 (pv 1)) de_int (fun _ _ => rfl)) de_str (nomark _)) (dss_cons (ds_asg (de_var 1 (pv 1)) (dg_tup rfl (dgs_cons (dg_name (pg_name (i := 5) sc_sum_growth.nd rfl (by first | exact .inl rfl | exact .inr rfl))) (dgs_cons (dg_name (pg_name (i := 6) sc_sum_growth.nd rfl (by first | exact .inl rfl | exact .inr rfl))) (dgs_cons (dg_name (pg_name (i := 7) sc_sum_growth.nd rfl (by first | exact .inl rfl | exact .inr rfl))) (dgs_cons (dg_name (pg_name (i := 8) sc_sum_growth.nd rfl (by first | exact .inl rfl | exact .inr rfl))) dgs_nil))))))
    (dss_one (ds_if (dt_cmp op_is d_is (de_var 8 (pv 8)) de_non (nomark _)) (dss_cons (ds_par (i := 3) (j := 4) rfl sc_sum_growth.nd rfl rfl (by decide) rfl rfl (da_cons (de_var 6 (pv 6)) (da_cons (de_op op_sub d_sub (de_var 6 (pv 6)) (de_var 7 (pv 7))) da_nil)))
    (dss_one (ds_set (i := 2) sc_sum_growth.nd rfl (by first | exact .inl rfl | exact .inr rfl) (de_op op_mulA d_mulA (de_var 6 (pv 6)) (de_call G_rounded_up (hr.mono (by decide)) (by rfl) C_rounded_up.g C_rounded_up.F.kp C_rounded_up.b (takes_of rfl rfl rfl rfl) (da_cons (de_var 2 (pv 2)) (da_cons (de_var 4 (pv 4)) da_nil))))))) (dss_one (ds_set (i := 2) sc_sum_growth.nd rfl (by first | exact .inl rfl | exact .inr rfl) (de_b d_max2 (call_max2 rfl) (by rfl) B.b_max bo_max (da_cons (de_op op_mulA d_mulA (de_var 8 (pv 8)) (de_var 6 (pv 6))) (da_cons (de_op op_addA d_add (de_var 2 (pv 2)) (de_op op_mulA d_mulA (de_var 8 (pv 8)) (de_var 7 (pv 7)))) da_nil)))))))) dss_nil)))))
    (dss_one (ds_ret (de_tup (da_cons (de_var 2 (pv 2)) (da_cons (de_var 3 (pv 3)) (da_cons (de_var 4 (pv 4)) da_nil))))))))
theorem ok_good_growth {f : Addr} {fd : FuncData} (B : Bl K mg) (F : Fun K "good_growth" "good_growth" s_good_growth f fd)
    {a_fitting_rule : Addr} {e_fitting_rule : FuncData} (C_fitting_rule : Cd K mg "fitting_rule" s_fitting_rule ["rules", "good", "pieces"] a_fitting_rule e_fitting_rule) (G_fitting_rule : FnOk P w K mg base (L2.CX P w) 1 a_fitting_rule e_fitting_rule ["rules", "good", "pieces"] (spD K mg d_fitting_rule)) :
    FnOk P w K mg base (L2.CX P w) 2 f fd ["shop", "good"] (spD K mg d_good_growth) :=
  fn_ok F sc_good_growth rfl rfl fun cdv A outer s H vs E env0 hr => by
    exact (dss_cons (ds_asg (de_var 0 (pv 0)) (dg_tup rfl (dgs_cons (dg_name (pg_name (i := 4) sc_good_growth.nd rfl (by first | exact .inl rfl | exact .inr rfl))) (dgs_cons (dg_name (pg_name (i := 5) sc_good_growth.nd rfl (by first | exact .inl rfl | exact .inr rfl))) dgs_nil))))
    (dss_cons (ds_asg (de_ix (de_var 4 (pv 4)) (de_var 1 (pv 1)) (fun _ _ => rfl)) (dg_tup rfl (dgs_cons (dg_name (pg_name (i := 6) sc_good_growth.nd rfl (by first | exact .inl rfl | exact .inr rfl))) (dgs_cons (dg_name (pg_name (i := 7) sc_good_growth.nd rfl (by first | exact .inl rfl | exact .inr rfl))) dgs_nil))))
    (dss_cons (ds_set (i := 2) sc_good_growth.nd rfl (by first | exact .inl rfl | exact .inr rfl) (de_call G_fitting_rule (hr.mono (by decide)) (by rfl) C_fitting_rule.g C_fitting_rule.F.kp C_fitting_rule.b (takes_of rfl rfl rfl rfl) (da_cons (de_var 5 (pv 5)) (da_cons (de_var 1 (pv 1)) (da_cons (de_gc (by rfl) B.g_MOST_PIECES fun _ _ => .int _) da_nil)))))
    (dss_cons (ds_if (dt_cmp op_is d_is (de_var 2 (pv 2)) de_non (nomark _)) (dss_one (ds_ret (de_tup (da_cons de_int (da_cons de_int (da_cons (de_var 6 (pv 6)) da_nil)))))) dss_nil)
    (dss_cons (ds_set (i := 3) sc_good_growth.nd rfl (by first | exact .inl rfl | exact .inr rfl) (de_ix (de_var 5 (pv 5)) (de_var 2 (pv 2)) (fun _ _ => rfl)))
    (dss_cons (ds_if (dt_cmp (op_eqA hr.units) d_eqA (de_ix (de_var 3 (pv 3)) de_int (fun _ _ => rfl)) de_str (nomark _)) (dss_one (ds_ret (de_tup (da_cons (de_ix (de_var 3 (pv 3)) de_int (fun _ _ => rfl)) (da_cons de_int (da_cons (de_ix (de_var 3 (pv 3)) de_int (fun _ _ => rfl)) da_nil)))))) dss_nil)
    (dss_cons (ds_asg (de_var 3 (pv 3)) (dg_tup rfl (dgs_cons (dg_name (pg_name (i := 7) sc_good_growth.nd rfl (by first | exact .inl rfl | exact .inr rfl))) (dgs_cons (dg_name (pg_name (i := 7) sc_good_growth.nd rfl (by first | exact .inl rfl | exact .inr rfl))) (dgs_cons (dg_name (pg_name (i := 8) sc_good_growth.nd rfl (by first | exact .inl rfl | exact .inr rfl))) (dgs_cons (dg_name (pg_name (i := 9) sc_good_growth.nd rfl (by first | exact .inl rfl | exact .inr rfl))) (dgs_cons (dg_name (pg_name (i := 10) sc_good_growth.nd rfl (by first | exact .inl rfl | exact .inr rfl))) dgs_nil)))))))
    (dss_cons (ds_if (dt_cmp op_is d_is (de_var 10 (pv 10)) de_non (nomark _)) (dss_one (ds_ret (de_tup (da_cons (de_var 8 (pv 8)) (da_cons (de_var 8 (pv 8)) (da_cons (de_var 9 (pv 9)) da_nil)))))) dss_nil)
    (dss_one (ds_ret (de_tup (da_cons (de_op op_mulA d_mulA (de_var 10 (pv 10)) (de_var 8 (pv 8))) (da_cons de_int (da_cons (de_var 6 (pv 6)) da_nil))))))))))))))
theorem ok_settled_pieces {f : Addr} {fd : FuncData} (B : Bl K mg) (F : Fun K "settled_pieces" "settled_pieces" s_settled_pieces f fd)
    {a_good_growth : Addr} {e_good_growth : FuncData} (C_good_growth : Cd K mg "good_growth" s_good_growth ["shop", "good"] a_good_growth e_good_growth) (G_good_growth : FnOk P w K mg base (L2.CX P w) 2 a_good_growth e_good_growth ["shop", "good"] (spD K mg d_good_growth))
    {a_good_amount : Addr} {e_good_amount : FuncData} (C_good_amount : Cd K mg "good_amount" s_good_amount ["shop", "good", "pieces"] a_good_amount e_good_amount) (G_good_amount : FnOk P w K mg base (L2.CX P w) 4 a_good_amount e_good_amount ["shop", "good", "pieces"] (spD K mg d_good_amount))
    {a_rounded_up : Addr} {e_rounded_up : FuncData} (C_rounded_up : Cd K mg "rounded_up" s_rounded_up ["whole", "part"] a_rounded_up e_rounded_up) (G_rounded_up : FnOk P w K mg base (L2.CX P w) 1 a_rounded_up e_rounded_up ["whole", "part"] (spD K mg d_rounded_up)) :
    FnOk P w K mg base (L2.CX P w) 5 f fd ["shop", "good", "total"] (spD K mg d_settled_pieces) :=
  fn_ok F sc_settled_pieces rfl rfl fun cdv A outer s H vs E env0 hr => by
    exact (dss_cons (ds_asg (de_call G_good_growth (hr.mono (by decide)) (by rfl) C_good_growth.g C_good_growth.F.kp C_good_growth.b (takes_of rfl rfl rfl rfl) (da_cons (de_var 0 (pv 0)) (da_cons (de_var 1 (pv 1)) da_nil))) (dg_tup rfl (dgs_cons (dg_name (pg_name (i := 4) sc_settled_pieces.nd rfl (by first | exact .inl rfl | exact .inr rfl))) (dgs_cons (dg_name (pg_name (i := 5) sc_settled_pieces.nd rfl (by first | exact .inl rfl | exact .inr rfl))) (dgs_cons (dg_name (pg_name (i := 6) sc_settled_pieces.nd rfl (by first | exact .inl rfl | exact .inr rfl))) dgs_nil)))))
    (dss_cons (ds_set (i := 3) sc_settled_pieces.nd rfl (by first | exact .inl rfl | exact .inr rfl) (de_b d_min1 (call_minA rfl hr.units) (by rfl) B.b_min bo_min (da_cons (de_lc (own := [("extra", 7)]) (t := (.one 7)) rfl sc_settled_pieces.nd (di_range1 (by rfl) B.b_range (da_cons (de_var 5 (pv 5)) da_nil)) (blkOk_by (own := [("extra", 7)]) (N := ["shop", "good", "total", "least", "start", "step", "more", "extra"]) (sc := defScope s_settled_pieces) (by first | decide +kernel | (dsimp only [Cx.blk, compEnvC]; rw [relabel_is]; dsimp only [cxOf, PyProof.Rows.envOfC]; decide +kernel))) (fun _ _ _ _ _ => (pg_name (i := 7) sc_settled_pieces.nd rfl (by first | exact .inl rfl | exact .inr rfl))) (fun _ _ _ _ _ => dts_nil) (fun _ _ _ _ _ => (de_call G_good_amount (hr.mono (by decide)) (by rfl) C_good_amount.g C_good_amount.F.kp C_good_amount.b takes0 (da_cons (de_var 0 (pv 0)) (da_cons (de_var 1 (pv 1)) (da_cons (de_op op_addA d_add (de_var 4 (pv 4)) (de_var 7 (pv 7))) da_nil))))) (by simp [CT.ins])) da_nil)))
    (dss_one (ds_ret (de_op op_addA d_add (de_var 4 (pv 4)) (de_op op_mulA d_mulA (de_var 5 (pv 5)) (de_call G_rounded_up (hr.mono (by decide)) (by rfl) C_rounded_up.g C_rounded_up.F.kp C_rounded_up.b (takes_of rfl rfl rfl rfl) (da_cons (de_b d_max2 (call_max2 rfl) (by rfl) B.b_max bo_max (da_cons de_int (da_cons (de_op op_sub d_sub (de_var 2 (pv 2)) (de_var 3 (pv 3))) da_nil))) (da_cons (de_var 6 (pv 6)) da_nil)))))))))
theorem ok_cycle {f : Addr} {fd : FuncData} (B : Bl K mg) (F : Fun K "cycle" "cycle" s_cycle f fd)
    {a_sum_growth : Addr} {e_sum_growth : FuncData} (C_sum_growth : Cd K mg "sum_growth" s_sum_growth ["rules"] a_sum_growth e_sum_growth) (G_sum_growth : FnOk P w K mg base (L2.CX P w) 2 a_sum_growth e_sum_growth ["rules"] (spD K mg d_sum_growth))
    {a_good_growth : Addr} {e_good_growth : FuncData} (C_good_growth : Cd K mg "good_growth" s_good_growth ["shop", "good"] a_good_growth e_good_growth) (G_good_growth : FnOk P w K mg base (L2.CX P w) 2 a_good_growth e_good_growth ["shop", "good"] (spD K mg d_good_growth))
    {a_settled_pieces : Addr} {e_settled_pieces : FuncData} (C_settled_pieces : Cd K mg "settled_pieces" s_settled_pieces ["shop", "good", "total"] a_settled_pieces e_settled_pieces) (G_settled_pieces : FnOk P w K mg base (L2.CX P w) 5 a_settled_pieces e_settled_pieces ["shop", "good", "total"] (spD K mg d_settled_pieces)) :
    FnOk P w K mg base (L2.CX P w) 6 f fd ["shop", "good"] (spD K mg d_cycle) :=
  fn_ok F sc_cycle rfl rfl fun cdv A outer s H vs E env0 hr => by
    exact (dss_cons (ds_asg (de_call G_sum_growth (hr.mono (by decide)) (by rfl) C_sum_growth.g C_sum_growth.F.kp C_sum_growth.b (takes_of rfl rfl rfl rfl) (da_cons (de_ix (de_var 0 (pv 0)) de_int (fun _ _ => rfl)) da_nil)) (dg_tup rfl (dgs_cons (dg_name (pg_name (i := 2) sc_cycle.nd rfl (by first | exact .inl rfl | exact .inr rfl))) (dgs_cons (dg_name (pg_name (i := 3) sc_cycle.nd rfl (by first | exact .inl rfl | exact .inr rfl))) (dgs_cons (dg_name (pg_name (i := 4) sc_cycle.nd rfl (by first | exact .inl rfl | exact .inr rfl))) dgs_nil)))))
    (dss_cons (ds_asg (de_call G_good_growth (hr.mono (by decide)) (by rfl) C_good_growth.g C_good_growth.F.kp C_good_growth.b (takes_of rfl rfl rfl rfl) (da_cons (de_var 0 (pv 0)) (da_cons (de_var 1 (pv 1)) da_nil))) (dg_tup rfl (dgs_cons (dg_name (pg_name (i := 5) sc_cycle.nd rfl (by first | exact .inl rfl | exact .inr rfl))) (dgs_cons (dg_name (pg_name (i := 6) sc_cycle.nd rfl (by first | exact .inl rfl | exact .inr rfl))) (dgs_cons (dg_name (pg_name (i := 7) sc_cycle.nd rfl (by first | exact .inl rfl | exact .inr rfl))) dgs_nil)))))
    (dss_one (ds_ret (de_tup (da_cons (de_call G_settled_pieces (hr.mono (by decide)) (by rfl) C_settled_pieces.g C_settled_pieces.F.kp C_settled_pieces.b (takes_of rfl rfl rfl rfl) (da_cons (de_var 0 (pv 0)) (da_cons (de_var 1 (pv 1)) (da_cons (de_var 2 (pv 2)) da_nil)))) (da_cons (de_op op_mulA d_mulA (de_var 6 (pv 6)) (de_var 3 (pv 3))) (da_cons (de_op op_mulA d_mulA (de_var 7 (pv 7)) (de_var 4 (pv 4))) da_nil))))))))
theorem ok_cycles {f : Addr} {fd : FuncData} (B : Bl K mg) (F : Fun K "cycles" "cycles" s_cycles f fd)
    {a_cycle : Addr} {e_cycle : FuncData} (C_cycle : Cd K mg "cycle" s_cycle ["shop", "good"] a_cycle e_cycle) (G_cycle : FnOk P w K mg base (L2.CX P w) 6 a_cycle e_cycle ["shop", "good"] (spD K mg d_cycle)) :
    FnOk P w K mg base (L2.CX P w) 7 f fd ["shop"] (spD K mg d_cycles) :=
  fn_ok F sc_cycles rfl rfl fun cdv A outer s H vs E env0 hr => by
    exact (dss_one (ds_ret (de_lc (own := [("good", 1)]) (t := (.one 1)) rfl sc_cycles.nd (di_range1 (by rfl) B.b_range (da_cons (de_b d_len call_lenA (by rfl) B.b_len bo_len (da_cons (de_ix (de_var 0 (pv 0)) de_int (fun _ _ => rfl)) da_nil)) da_nil)) (blkOk_by (own := [("good", 1)]) (N := ["shop", "good"]) (sc := defScope s_cycles) (by first | decide +kernel | (dsimp only [Cx.blk, compEnvC]; rw [relabel_is]; dsimp only [cxOf, PyProof.Rows.envOfC]; decide +kernel))) (fun _ _ _ _ _ => (pg_name (i := 1) sc_cycles.nd rfl (by first | exact .inl rfl | exact .inr rfl))) (fun _ _ _ _ _ => dts_nil) (fun _ _ _ _ _ => (de_call G_cycle (hr.mono (by decide)) (by rfl) C_cycle.g C_cycle.F.kp C_cycle.b takes0 (da_cons (de_var 0 (pv 0)) (da_cons (de_var 1 (pv 1)) da_nil)))) (by simp [CT.ins]))))
theorem ok_check_few {f : Addr} {fd : FuncData} (B : Bl K mg) (F : Fun K "check_few" "check_few" s_check_few f fd)
    {a_check_basket : Addr} {e_check_basket : FuncData} (C_check_basket : Cd K mg "check_basket" s_check_basket ["shop", "basket"] a_check_basket e_check_basket) (G_check_basket : FnOk P w K mg base (L2.CX P w) 10 a_check_basket e_check_basket ["shop", "basket"] (spD K mg d_check_basket)) :
    FnOk P w K mg base (L2.CX P w) 11 f fd ["shop", "basket"] (spD K mg d_check_few) :=
  fn_ok F sc_check_few rfl rfl fun cdv A outer s H vs E env0 hr => by
    exact (dss_cons (ds_expr (de_call G_check_basket (hr.mono (by decide)) (by rfl) C_check_basket.g C_check_basket.F.kp C_check_basket.b (takes_of rfl rfl rfl rfl) (da_cons (de_var 0 (pv 0)) (da_cons (de_var 1 (pv 1)) da_nil))))
    (dss_one (ds_if (dt_cmp op_gt d_gt (de_b d_sum (call_sumA rfl) (by rfl) B.b_sum bo_sum (da_cons (de_var 1 (pv 1)) da_nil)) (de_gc (by rfl) B.g_MOST_IN_ALL fun _ _ => .int _) (nomark _)) (dss_one (ds_raise rfl (takes_of rfl rfl rfl rfl) B.k_InvalidBasket (by rfl))) dss_nil)))
theorem ok_contains {f : Addr} {fd : FuncData} (B : Bl K mg) (F : Fun K "contains" "contains" s_contains f fd) :
    FnOk P w K mg base (L2.CX P w) 1 f fd ["greater", "basket"] (spD K mg d_contains) :=
  fn_ok F sc_contains rfl rfl fun cdv A outer s H vs E env0 hr => by
    exact (dss_one (ds_ret (de_b d_all (cr_all rfl) (by rfl) B.b_all bo_all (da_cons (de_lc (own := [("more", 2), ("pieces", 3)]) (t := (.tup [2, 3])) rfl sc_contains.nd (di_zip false (by rfl) B.b_zip (da_cons (de_var 0 (pv 0)) (da_cons (de_var 1 (pv 1)) da_nil))) (blkOk_by (own := [("more", 2), ("pieces", 3)]) (N := ["greater", "basket", "more", "pieces"]) (sc := defScope s_contains) (by first | decide +kernel | (dsimp only [Cx.blk, compEnvC]; rw [relabel_is]; dsimp only [cxOf, PyProof.Rows.envOfC]; decide +kernel))) (fun _ _ _ _ _ => (pg_tup rfl (pgs_cons (pg_name (i := 2) sc_contains.nd rfl (by first | exact .inl rfl | exact .inr rfl)) (pgs_cons (pg_name (i := 3) sc_contains.nd rfl (by first | exact .inl rfl | exact .inr rfl)) pgs_nil)))) (fun _ _ _ _ _ => dts_nil) (fun _ _ _ _ _ => (de_cmp op_ge d_ge (de_var 2 (pv 2)) (de_var 3 (pv 3)) (nomark _))) (by simp [CT.ins])) da_nil))))
theorem ok_limits_above {f : Addr} {fd : FuncData} (B : Bl K mg) (F : Fun K "limits_above" "limits_above" s_limits_above f fd)
    {a_cycles : Addr} {e_cycles : FuncData} (C_cycles : Cd K mg "cycles" s_cycles ["shop"] a_cycles e_cycles) (G_cycles : FnOk P w K mg base (L2.CX P w) 7 a_cycles e_cycles ["shop"] (spD K mg d_cycles)) :
    FnOk P w K mg base (L2.CX P w) 8 f fd ["shop", "basket"] (spD K mg d_limits_above) :=
  fn_ok F sc_limits_above rfl rfl fun cdv A outer s H vs E env0 hr => by
    exact (dss_one (ds_ret (de_lc (own := [("start", 3), ("more", 4), ("_", 5), ("pieces", 2)]) (t := (.nest [3, 4, 5] 2)) rfl sc_limits_above.nd (di_zipM true false ⟨_, _, _, rfl⟩ (by rfl) B.b_zip (da_cons (de_call G_cycles (hr.mono (by decide)) (by rfl) C_cycles.g C_cycles.F.kp C_cycles.b (takes_of rfl rfl rfl rfl) (da_cons (de_var 0 (pv 0)) da_nil)) (da_cons (de_var 1 (pv 1)) da_nil))) (blkOk_by (own := [("start", 3), ("more", 4), ("_", 5), ("pieces", 2)]) (N := ["shop", "basket", "pieces", "start", "more", "_"]) (sc := defScope s_limits_above) (by first | decide +kernel | (dsimp only [Cx.blk, compEnvC]; rw [relabel_is]; dsimp only [cxOf, PyProof.Rows.envOfC]; decide +kernel))) (fun _ _ _ _ _ => (pg_tup rfl (pgs_cons (pg_tup rfl (pgs_cons (pg_name (i := 3) sc_limits_above.nd rfl (by first | exact .inl rfl | exact .inr rfl)) (pgs_cons (pg_name (i := 4) sc_limits_above.nd rfl (by first | exact .inl rfl | exact .inr rfl)) (pgs_cons (pg_name (i := 5) sc_limits_above.nd rfl (by first | exact .inl rfl | exact .inr rfl)) pgs_nil)))) (pgs_cons (pg_name (i := 2) sc_limits_above.nd rfl (by first | exact .inl rfl | exact .inr rfl)) pgs_nil)))) (fun _ _ _ _ _ => dts_nil) (fun _ _ _ _ _ => (de_op op_sub d_sub (de_op op_addA d_add (de_b d_max2 (call_max2 rfl) (by rfl) B.b_max bo_max (da_cons (de_var 3 (pv 3)) (da_cons (de_var 2 (pv 2)) da_nil))) (de_var 4 (pv 4))) de_int)) (by simp [CT.ins]))))
theorem ok_charges_above {f : Addr} {fd : FuncData} (B : Bl K mg) (F : Fun K "charges_above" "charges_above" s_charges_above f fd)
    {a_limits_above : Addr} {e_limits_above : FuncData} (C_limits_above : Cd K mg "limits_above" s_limits_above ["shop", "basket"] a_limits_above e_limits_above) (G_limits_above : FnOk P w K mg base (L2.CX P w) 8 a_limits_above e_limits_above ["shop", "basket"] (spD K mg d_limits_above))
    {a_charges_within : Addr} {e_charges_within : FuncData} (C_charges_within : Cd K mg "charges_within" s_charges_within ["shop", "limits"] a_charges_within e_charges_within) (G_charges_within : FnOk P w K mg base (L2.CX P w) 6 a_charges_within e_charges_within ["shop", "limits"] (spD K mg d_charges_within))
    {a_baskets_within : Addr} {e_baskets_within : FuncData} (C_baskets_within : Cd K mg "baskets_within" s_baskets_within ["limits"] a_baskets_within e_baskets_within) (G_baskets_within : FnOk P w K mg base (L2.CX P w) 2 a_baskets_within e_baskets_within ["limits"] (spD K mg d_baskets_within))
    {a_contains : Addr} {e_contains : FuncData} (C_contains : Cd K mg "contains" s_contains ["greater", "basket"] a_contains e_contains) (G_contains : FnOk P w K mg base (L2.CX P w) 1 a_contains e_contains ["greater", "basket"] (spD K mg d_contains)) :
    FnOk P w K mg base (L2.CX P w) 9 f fd ["shop", "basket"] (spD K mg d_charges_above) :=
  fn_ok F sc_charges_above rfl rfl fun cdv A outer s H vs E env0 hr => by
    exact (dss_cons (ds_set (i := 2) sc_charges_above.nd rfl (by first | exact .inl rfl | exact .inr rfl) (de_call G_limits_above (hr.mono (by decide)) (by rfl) C_limits_above.g C_limits_above.F.kp C_limits_above.b (takes_of rfl rfl rfl rfl) (da_cons (de_var 0 (pv 0)) (da_cons (de_var 1 (pv 1)) da_nil))))
    (dss_cons (ds_set (i := 3) sc_charges_above.nd rfl (by first | exact .inl rfl | exact .inr rfl) (de_call G_charges_within (hr.mono (by decide)) (by rfl) C_charges_within.g C_charges_within.F.kp C_charges_within.b (takes_of rfl rfl rfl rfl) (da_cons (de_var 0 (pv 0)) (da_cons (de_var 2 (pv 2)) da_nil))))
    (dss_one (ds_ret (de_lc (own := [("greater", 4)]) (t := (.one 4)) rfl sc_charges_above.nd (di_list false (de_call G_baskets_within (hr.mono (by decide)) (by rfl) C_baskets_within.g C_baskets_within.F.kp C_baskets_within.b (takes_of rfl rfl rfl rfl) (da_cons (de_var 2 (pv 2)) da_nil))) (blkOk_by (own := [("greater", 4)]) (N := ["shop", "basket", "limits", "charges", "greater"]) (sc := defScope s_charges_above) (by first | decide +kernel | (dsimp only [Cx.blk, compEnvC]; rw [relabel_is]; dsimp only [cxOf, PyProof.Rows.envOfC]; decide +kernel))) (fun _ _ _ _ _ => (pg_name (i := 4) sc_charges_above.nd rfl (by first | exact .inl rfl | exact .inr rfl))) (fun _ _ _ _ _ => (dts_one (dt_val (de_call G_contains (hr.mono (by decide)) (by rfl) C_contains.g C_contains.F.kp C_contains.b takes0 (da_cons (de_var 4 (pv 4)) (da_cons (de_var 1 (pv 1)) da_nil)))))) (fun _ _ _ _ _ => (de_tup (da_cons (de_dix (u1 hr) (de_var 3 (pv 3)) (de_var 4 (pv 4)) (fun _ _ => rfl)) (da_cons (de_var 4 (pv 4)) da_nil)))) (by simp [CT.ins]))))))
theorem ok_least_above {f : Addr} {fd : FuncData} (B : Bl K mg) (F : Fun K "least_above" "least_above" s_least_above f fd)
    {a_check_few : Addr} {e_check_few : FuncData} (C_check_few : Cd K mg "check_few" s_check_few ["shop", "basket"] a_check_few e_check_few) (G_check_few : FnOk P w K mg base (L2.CX P w) 11 a_check_few e_check_few ["shop", "basket"] (spD K mg d_check_few))
    {a_charges_above : Addr} {e_charges_above : FuncData} (C_charges_above : Cd K mg "charges_above" s_charges_above ["shop", "basket"] a_charges_above e_charges_above) (G_charges_above : FnOk P w K mg base (L2.CX P w) 9 a_charges_above e_charges_above ["shop", "basket"] (spD K mg d_charges_above)) :
    FnOk P w K mg base (L2.CX P w) 12 f fd ["shop", "basket"] (spD K mg d_least_above) :=
  fn_ok F sc_least_above rfl rfl fun cdv A outer s H vs E env0 hr => by
    exact (dss_cons (ds_expr (de_call G_check_few (hr.mono (by decide)) (by rfl) C_check_few.g C_check_few.F.kp C_check_few.b (takes_of rfl rfl rfl rfl) (da_cons (de_var 0 (pv 0)) (da_cons (de_var 1 (pv 1)) da_nil))))
    (dss_cons (ds_set (i := 2) sc_least_above.nd rfl (by first | exact .inl rfl | exact .inr rfl) (de_call G_charges_above (hr.mono (by decide)) (by rfl) C_charges_above.g C_charges_above.F.kp C_charges_above.b (takes_of rfl rfl rfl rfl) (da_cons (de_var 0 (pv 0)) (da_cons (de_var 1 (pv 1)) da_nil))))
    (dss_cons (ds_set (i := 3) sc_least_above.nd rfl (by first | exact .inl rfl | exact .inr rfl) (de_b d_min1 (call_minA rfl hr.units) (by rfl) B.b_min bo_min (da_cons (de_lc (own := [("charged", 5), ("_", 7)]) (t := (.tup [5, 7])) rfl sc_least_above.nd (di_list false (de_var 2 (pv 2))) (blkOk_by (own := [("charged", 5), ("_", 7)]) (N := ["shop", "basket", "found", "least", "cheapest", "charged", "greater", "_"]) (sc := defScope s_least_above) (by first | decide +kernel | (dsimp only [Cx.blk, compEnvC]; rw [relabel_is]; dsimp only [cxOf, PyProof.Rows.envOfC]; decide +kernel))) (fun _ _ _ _ _ => (pg_tup rfl (pgs_cons (pg_name (i := 5) sc_least_above.nd rfl (by first | exact .inl rfl | exact .inr rfl)) (pgs_cons (pg_name (i := 7) sc_least_above.nd rfl (by first | exact .inl rfl | exact .inr rfl)) pgs_nil)))) (fun _ _ _ _ _ => dts_nil) (fun _ _ _ _ _ => (de_var 5 (pv 5))) (by simp [CT.ins])) da_nil)))
    (dss_cons (ds_setLc (i := 4) (own := [("charged", 5), ("greater", 6)]) (t := (.tup [5, 6])) rfl sc_least_above.nd rfl rfl (by rfl) (di_list false (de_var 2 (pv 2))) (blkOk_by (own := [("charged", 5), ("greater", 6)]) (N := ["shop", "basket", "found", "least", "cheapest", "charged", "greater", "_"]) (sc := defScope s_least_above) (by first | decide +kernel | (dsimp only [Cx.blk, compEnvC]; rw [relabel_is]; dsimp only [cxOf, PyProof.Rows.envOfC]; decide +kernel))) (fun _ _ _ _ _ => (pg_tup rfl (pgs_cons (pg_name (i := 5) sc_least_above.nd rfl (by first | exact .inl rfl | exact .inr rfl)) (pgs_cons (pg_name (i := 6) sc_least_above.nd rfl (by first | exact .inl rfl | exact .inr rfl)) pgs_nil)))) (fun _ _ _ _ _ => (dts_one (dt_cmp (op_eqA hr.units) d_eqA (de_var 5 (pv 5)) (de_var 3 (pv 3)) (nomark _)))) (fun _ _ _ _ _ => (de_var 6 (pv 6))) (by simp [CT.ins]))
    (dss_one (ds_ret (de_tup (da_cons (de_var 3 (pv 3)) (da_cons (de_ix (de_var 4 (pv 4)) de_int (fun _ _ => rfl)) da_nil)))))))))
theorem ok_fewest_more {f : Addr} {fd : FuncData} (B : Bl K mg) (F : Fun K "fewest_more" "fewest_more" s_fewest_more f fd)
    {a_check_few : Addr} {e_check_few : FuncData} (C_check_few : Cd K mg "check_few" s_check_few ["shop", "basket"] a_check_few e_check_few) (G_check_few : FnOk P w K mg base (L2.CX P w) 11 a_check_few e_check_few ["shop", "basket"] (spD K mg d_check_few))
    {a_charge_of : Addr} {e_charge_of : FuncData} (C_charge_of : Cd K mg "charge_of" s_charge_of ["shop", "basket"] a_charge_of e_charge_of) (G_charge_of : FnOk P w K mg base (L2.CX P w) 6 a_charge_of e_charge_of ["shop", "basket"] (spD K mg d_charge_of))
    {a_charges_above : Addr} {e_charges_above : FuncData} (C_charges_above : Cd K mg "charges_above" s_charges_above ["shop", "basket"] a_charges_above e_charges_above) (G_charges_above : FnOk P w K mg base (L2.CX P w) 9 a_charges_above e_charges_above ["shop", "basket"] (spD K mg d_charges_above)) :
    FnOk P w K mg base (L2.CX P w) 12 f fd ["shop", "basket"] (spD K mg d_fewest_more) :=
  fn_ok F sc_fewest_more rfl rfl fun cdv A outer s H vs E env0 hr => by
    exact (dss_cons (ds_expr (de_call G_check_few (hr.mono (by decide)) (by rfl) C_check_few.g C_check_few.F.kp C_check_few.b (takes_of rfl rfl rfl rfl) (da_cons (de_var 0 (pv 0)) (da_cons (de_var 1 (pv 1)) da_nil))))
    (dss_cons (ds_set (i := 2) sc_fewest_more.nd rfl (by first | exact .inl rfl | exact .inr rfl) (de_call G_charge_of (hr.mono (by decide)) (by rfl) C_charge_of.g C_charge_of.F.kp C_charge_of.b (takes_of rfl rfl rfl rfl) (da_cons (de_var 0 (pv 0)) (da_cons (de_var 1 (pv 1)) da_nil))))
    (dss_cons (ds_for (passes_of rfl) rfl (di_list true (de_call G_charges_above (hr.mono (by decide)) (by rfl) C_charges_above.g C_charges_above.F.kp C_charges_above.b (takes_of rfl rfl rfl rfl) (da_cons (de_var 0 (pv 0)) (da_cons (de_var 1 (pv 1)) da_nil)))) (dg_tup rfl (dgs_cons (dg_name (pg_name (i := 3) sc_fewest_more.nd rfl (by first | exact .inl rfl | exact .inr rfl))) (dgs_cons (dg_name (pg_name (i := 4) sc_fewest_more.nd rfl (by first | exact .inl rfl | exact .inr rfl))) dgs_nil))) (dss_one (ds_if (dt_cmp op_lt d_lt (de_var 3 (pv 3)) (de_var 2 (pv 2)) (nomark _)) (dss_one (ds_ret (de_var 4 (pv 4)))) dss_nil)))
    (dss_one (ds_ret de_non)))))
theorem ok__law_which {P0 : Addr} {cs : List Addr} (XS : Exn K mg P0 cs) {f : Addr} {fd : FuncData} (B : Bl K mg) (F : Fun K "_law_which" "_law_which" s__law_which f fd) :
    FnX P w K mg base (L2.CX P w) 1 f fd ["_law_e"] (spWhich cs) := by
  obtain ⟨oc, od, kV, doc, pm, an, cdv, ct, osl, rfl, lk, hcd⟩ := F.ex
  refine fn_ofX lk hcd sc__law_which spWhich_len fun A outer s H vs Q E p hr hsp => ?_
  obtain ⟨rfl, C, j, hj, hz, hfd, q⟩ := hsp
  have hu : (A.deeper (PyProof.Rows.envOfC "_law_which" (defScope s__law_which) s.heap.objs.size f cdv)).units + 65 < cLine := by have := hr.un; omega
  obtain ⟨c0, h0, g0, f0⟩ := XS.xs.get (j := 0) (x := "InvalidShop") rfl
  obtain ⟨c1, h1, g1, f1⟩ := XS.xs.get (j := 1) (x := "InvalidBasket") rfl
  obtain ⟨c2, h2, g2, f2⟩ := XS.xs.get (j := 2) (x := "InvalidActs") rfl
  obtain ⟨c3, h3, g3, f3⟩ := XS.xs.get (j := 3) (x := "InvalidAct") rfl
  obtain ⟨c4, h4, g4, f4⟩ := XS.xs.get (j := 4) (x := "InvalidOffers") rfl
  obtain ⟨c5, h5, g5, f5⟩ := XS.xs.get (j := 5) (x := "InvalidKinds") rfl
  obtain ⟨c6, h6, g6, f6⟩ := XS.xs.get (j := 6) (x := "InvalidNumber") rfl
  obtain ⟨c7, h7, g7, f7⟩ := XS.xs.get (j := 7) (x := "Different") rfl
  obtain ⟨c8, h8, g8, f8⟩ := XS.xs.get (j := 8) (x := "NoFault") rfl
  obtain ⟨c9, h9, g9, f9⟩ := XS.xs.get (j := 9) (x := "NotThere") rfl
  obtain ⟨c10, h10, g10, f10⟩ := XS.xs.get (j := 10) (x := "NothingToUndo") rfl
  obtain ⟨c11, h11, g11, f11⟩ := XS.xs.get (j := 11) (x := "ParseError") rfl
  have fC : XF K P0 C := XS.at hj
  have k0 := XS.kit hj h0 fC f0
  have k1 := XS.kit hj h1 fC f1
  have k2 := XS.kit hj h2 fC f2
  have k3 := XS.kit hj h3 fC f3
  have k4 := XS.kit hj h4 fC f4
  have k5 := XS.kit hj h5 fC f5
  have k6 := XS.kit hj h6 fC f6
  have k7 := XS.kit hj h7 fC f7
  have k8 := XS.kit hj h8 fC f8
  have k9 := XS.kit hj h9 fC f9
  have k10 := XS.kit hj h10 fC f10
  have k11 := XS.kit hj h11 fC f11
  have hcall := call_isX (X := L2H.cxH (L2.CX P w) P w K mg base ["_law_e", "_law_own"] "_law_which" (defScope s__law_which) f cdv A outer s H E p) (a := p.1) (oe := p.2) (List.mem_singleton.mpr rfl) (XS.excC fC) hz hfd
  refine ⟨_, pss_cons (ps_set (i := 1) sc__law_which.nd rfl (.inl rfl) (pe_lst (pa_cons (pe_callB hcall (by rfl) B.b_isinstance bo_isinstance (pa_cons (pv 0) (pa_cons (pe_glob (by rfl) g0 rel_me) pa_nil))) (pa_cons (pe_callB hcall (by rfl) B.b_isinstance bo_isinstance (pa_cons (pv 0) (pa_cons (pe_glob (by rfl) g1 rel_me) pa_nil))) (pa_cons (pe_callB hcall (by rfl) B.b_isinstance bo_isinstance (pa_cons (pv 0) (pa_cons (pe_glob (by rfl) g2 rel_me) pa_nil))) pa_nil)))))
    (pss_cons (ps_expr (pe_bm PySem.F.plainAttrs_list PySem.F.slot_list_extend PySem.F.type_list_extend mt_extend (pv 1) (pa_cons (pe_lst (pa_cons (pe_callB hcall (by rfl) B.b_isinstance bo_isinstance (pa_cons (pv 0) (pa_cons (pe_glob (by rfl) g3 rel_me) pa_nil))) (pa_cons (pe_callB hcall (by rfl) B.b_isinstance bo_isinstance (pa_cons (pv 0) (pa_cons (pe_glob (by rfl) g4 rel_me) pa_nil))) (pa_cons (pe_callB hcall (by rfl) B.b_isinstance bo_isinstance (pa_cons (pv 0) (pa_cons (pe_glob (by rfl) g5 rel_me) pa_nil))) pa_nil)))) pa_nil)))
    (pss_cons (ps_expr (pe_bm PySem.F.plainAttrs_list PySem.F.slot_list_extend PySem.F.type_list_extend mt_extend (pv 1) (pa_cons (pe_lst (pa_cons (pe_callB hcall (by rfl) B.b_isinstance bo_isinstance (pa_cons (pv 0) (pa_cons (pe_glob (by rfl) g6 rel_me) pa_nil))) (pa_cons (pe_callB hcall (by rfl) B.b_isinstance bo_isinstance (pa_cons (pv 0) (pa_cons (pe_glob (by rfl) g7 rel_me) pa_nil))) (pa_cons (pe_callB hcall (by rfl) B.b_isinstance bo_isinstance (pa_cons (pv 0) (pa_cons (pe_glob (by rfl) g8 rel_me) pa_nil))) pa_nil)))) pa_nil)))
    (pss_cons (ps_expr (pe_bm PySem.F.plainAttrs_list PySem.F.slot_list_extend PySem.F.type_list_extend mt_extend (pv 1) (pa_cons (pe_lst (pa_cons (pe_callB hcall (by rfl) B.b_isinstance bo_isinstance (pa_cons (pv 0) (pa_cons (pe_glob (by rfl) g9 rel_me) pa_nil))) (pa_cons (pe_callB hcall (by rfl) B.b_isinstance bo_isinstance (pa_cons (pv 0) (pa_cons (pe_glob (by rfl) g10 rel_me) pa_nil))) (pa_cons (pe_callB hcall (by rfl) B.b_isinstance bo_isinstance (pa_cons (pv 0) (pa_cons (pe_glob (by rfl) g11 rel_me) pa_nil))) pa_nil)))) pa_nil)))
    (pss_cons (ps_if (PW.pt (pw_or (pt_cmpR op_ne (pe_bm PySem.F.plainAttrs_list PySem.F.slot_list_count PySem.F.type_list_count (mt_countD hu) (pv 1) (pa_cons pe_bl pa_nil)) pe_int (nomark _)) (pw_or1 (pt_not (pt_val (pe_callB hcall (by rfl) B.b_isinstance bo_isinstance (pa_cons (pv 0) (pa_cons (pe_bltn (v := .ty "ValueError") (by rfl) B.b_ValueError bo_ValueError rfl) pa_nil)))))))) (pss_one (ps_ret (pe_tup (pa_cons pe_str (pa_cons (pe_un un_neg pe_int) pa_nil))))) pss_nil)
    (pss_one (ps_ret (pe_tup (pa_cons pe_str (pa_cons (pe_bm PySem.F.plainAttrs_list PySem.F.slot_list_index PySem.F.type_list_index (mt_indexD hu) (pv 1) (pa_cons pe_bl pa_nil)) pa_nil))))))))), ?_⟩
  exact which_reading (XS.len ▸ (List.getElem?_eq_some_iff.mp hj).1) k0 k1 k2 k3 k4 k5 k6 k7 k8 k9 k10 k11 (XS.kitV fC) q
theorem ok__law_cell_at {f : Addr} {fd : FuncData} (B : Bl K mg) (F : Fun K "_law_cell_at" "_law_cell_at" s__law_cell_at f fd) :
    FnOk P w K mg base (L2.CX P w) 1 f fd ["_law_script", "_law_k"] (spD K mg d__law_cell_at) :=
  fn_ok F sc__law_cell_at rfl rfl fun cdv A outer s H vs E env0 hr => by
    exact (dss_cons (ds_if (dt_cmp op_lt d_lt (de_var 1 (pv 1)) (de_b d_len call_lenA (by rfl) B.b_len bo_len (da_cons (de_var 0 (pv 0)) da_nil)) (nomark _)) (dss_one (ds_ret (de_ix (de_var 0 (pv 0)) (de_var 1 (pv 1)) (fun _ _ => rfl)))) dss_nil)
    (dss_cons (ds_if (dt_cmp (op_eqA hr.units) d_eqA (de_var 0 (pv 0)) (de_lst da_nil) (nomark _)) (dss_one (ds_ret de_int)) dss_nil)
    (dss_cons (ds_set (i := 2) sc__law_cell_at.nd rfl (by first | exact .inl rfl | exact .inr rfl) (de_ix (de_var 0 (pv 0)) (de_op op_mod d_mod (de_var 1 (pv 1)) (de_b d_len call_lenA (by rfl) B.b_len bo_len (da_cons (de_var 0 (pv 0)) da_nil))) (fun _ _ => rfl)))
    (dss_cons (ds_for (passes_of rfl) rfl (di_range1 (by rfl) B.b_range (da_cons (de_b d_min2 (call_min2 rfl) (by rfl) B.b_min bo_min (da_cons (de_op op_fdiv d_fdiv (de_var 1 (pv 1)) (de_b d_len call_lenA (by rfl) B.b_len bo_len (da_cons (de_var 0 (pv 0)) da_nil))) (da_cons de_int da_nil))) da_nil)) (dg_name (pg_name (i := 3) sc__law_cell_at.nd rfl (by first | exact .inl rfl | exact .inr rfl))) (dss_one (ds_set (i := 2) sc__law_cell_at.nd rfl (by first | exact .inl rfl | exact .inr rfl) (de_op op_fdiv d_fdiv (de_var 2 (pv 2)) de_int))))
    (dss_one (ds_ret (de_op op_addA d_add (de_op op_addA d_add (de_op op_mulA d_mulA (de_ix (de_var 0 (pv 0)) (de_op op_mod d_mod (de_var 1 (pv 1)) (de_b d_len call_lenA (by rfl) B.b_len bo_len (da_cons (de_var 0 (pv 0)) da_nil))) (fun _ _ => rfl)) de_int) (de_var 1 (pv 1))) (de_op op_mulA d_mulA (de_var 2 (pv 2)) de_int))))))))
theorem ok__law_mixed {f : Addr} {fd : FuncData} (B : Bl K mg) (F : Fun K "_law_mixed" "_law_mixed" s__law_mixed f fd)
    {a__law_cell_at : Addr} {e__law_cell_at : FuncData} (C__law_cell_at : Cd K mg "_law_cell_at" s__law_cell_at ["_law_script", "_law_k"] a__law_cell_at e__law_cell_at) (G__law_cell_at : FnOk P w K mg base (L2.CX P w) 1 a__law_cell_at e__law_cell_at ["_law_script", "_law_k"] (spD K mg d__law_cell_at)) :
    FnOk P w K mg base (L2.CX P w) 2 f fd ["_law_script", "_law_k", "_law_many"] (spD K mg d__law_mixed) :=
  fn_ok F sc__law_mixed rfl rfl fun cdv A outer s H vs E env0 hr => by
    exact (dss_cons (ds_set (i := 3) sc__law_mixed.nd rfl (by first | exact .inl rfl | exact .inr rfl) (de_op op_mod d_mod (de_op op_addA d_add (de_op op_addA d_add (de_op op_mulA d_mulA (de_call G__law_cell_at (hr.mono (by decide)) (by rfl) C__law_cell_at.g C__law_cell_at.F.kp C__law_cell_at.b (takes_of rfl rfl rfl rfl) (da_cons (de_var 0 (pv 0)) (da_cons (de_var 1 (pv 1)) da_nil))) de_int) (de_op op_mulA d_mulA de_int (de_var 1 (pv 1)))) de_int) de_int))
    (dss_one (ds_ret (de_op op_mod d_mod (de_op op_mod d_mod (de_op op_mod d_mod (de_op op_pow d_pow (de_var 3 (pv 3)) de_int) de_int) de_int) (de_var 2 (pv 2))))))
theorem ok__law_draw {f : Addr} {fd : FuncData} (B : Bl K mg) (F : Fun K "_law_draw" "_law_draw" s__law_draw f fd)
    {a__law_mixed : Addr} {e__law_mixed : FuncData} (C__law_mixed : Cd K mg "_law_mixed" s__law_mixed ["_law_script", "_law_k", "_law_many"] a__law_mixed e__law_mixed) (G__law_mixed : FnOk P w K mg base (L2.CX P w) 2 a__law_mixed e__law_mixed ["_law_script", "_law_k", "_law_many"] (spD K mg d__law_mixed)) :
    FnOk P w K mg base (L2.CX P w) 3 f fd ["_law_script", "_law_state", "_law_many"] (spD K mg d__law_draw) :=
  fn_ok F sc__law_draw rfl rfl fun cdv A outer s H vs E env0 hr => by
    exact (dss_cons (ds_expr (de_met m_app PySem.F.slot_list_append PySem.F.type_list_append mt_append (de_var 1 (pv 1)) (da_cons de_int da_nil)))
    (dss_one (ds_ret (de_call G__law_mixed (hr.mono (by decide)) (by rfl) C__law_mixed.g C__law_mixed.F.kp C__law_mixed.b (takes_of rfl rfl rfl rfl) (da_cons (de_var 0 (pv 0)) (da_cons (de_b d_len call_lenA (by rfl) B.b_len bo_len (da_cons (de_var 1 (pv 1)) da_nil)) (da_cons (de_var 2 (pv 2)) da_nil)))))))
theorem ok__law_pick {f : Addr} {fd : FuncData} (B : Bl K mg) (F : Fun K "_law_pick" "_law_pick" s__law_pick f fd)
    {a__law_draw : Addr} {e__law_draw : FuncData} (C__law_draw : Cd K mg "_law_draw" s__law_draw ["_law_script", "_law_state", "_law_many"] a__law_draw e__law_draw) (G__law_draw : FnOk P w K mg base (L2.CX P w) 3 a__law_draw e__law_draw ["_law_script", "_law_state", "_law_many"] (spD K mg d__law_draw)) :
    FnOk P w K mg base (L2.CX P w) 4 f fd ["_law_script", "_law_state", "_law_some"] (spD K mg d__law_pick) :=
  fn_ok F sc__law_pick rfl rfl fun cdv A outer s H vs E env0 hr => by
    exact (dss_one (ds_ret (de_ix (de_var 2 (pv 2)) (de_callI 1 G__law_draw (hr.mono (by decide)) (by rfl) C__law_draw.g C__law_draw.F.kp C__law_draw.b (takes_of rfl rfl rfl rfl) (da_cons (de_var 0 (pv 0)) (da_cons (de_var 1 (pv 1)) (da_cons (de_b d_len call_lenA (by rfl) B.b_len bo_len (da_cons (de_var 2 (pv 2)) da_nil)) da_nil)))) (fun _ _ => rfl))))
theorem ok__law_some_rule {f : Addr} {fd : FuncData} (B : Bl K mg) (F : Fun K "_law_some_rule" "_law_some_rule" s__law_some_rule f fd)
    {a__law_draw : Addr} {e__law_draw : FuncData} (C__law_draw : Cd K mg "_law_draw" s__law_draw ["_law_script", "_law_state", "_law_many"] a__law_draw e__law_draw) (G__law_draw : FnOk P w K mg base (L2.CX P w) 3 a__law_draw e__law_draw ["_law_script", "_law_state", "_law_many"] (spD K mg d__law_draw))
    {a__law_pick : Addr} {e__law_pick : FuncData} (C__law_pick : Cd K mg "_law_pick" s__law_pick ["_law_script", "_law_state", "_law_some"] a__law_pick e__law_pick) (G__law_pick : FnOk P w K mg base (L2.CX P w) 4 a__law_pick e__law_pick ["_law_script", "_law_state", "_law_some"] (spD K mg d__law_pick)) :
    FnOk P w K mg base (L2.CX P w) 5 f fd ["_law_script", "_law_state", "_law_goods", "_law_capped"] (spD K mg d__law_some_rule) :=
  fn_ok F sc__law_some_rule rfl rfl fun cdv A outer s H vs E env0 hr => by
    exact (dss_cons (ds_set (i := 4) sc__law_some_rule.nd rfl (by first | exact .inl rfl | exact .inr rfl) (de_callI 1 G__law_draw (hr.mono (by decide)) (by rfl) C__law_draw.g C__law_draw.F.kp C__law_draw.b (takes_of rfl rfl rfl rfl) (da_cons (de_var 0 (pv 0)) (da_cons (de_var 1 (pv 1)) (da_cons de_int da_nil)))))
    (dss_cons (ds_set (i := 5) sc__law_some_rule.nd rfl (by first | exact .inl rfl | exact .inr rfl) (de_callI 1 G__law_draw (hr.mono (by decide)) (by rfl) C__law_draw.g C__law_draw.F.kp C__law_draw.b (takes_of rfl rfl rfl rfl) (da_cons (de_var 0 (pv 0)) (da_cons (de_var 1 (pv 1)) (da_cons (de_b d_len call_lenA (by rfl) B.b_len bo_len (da_cons (de_var 2 (pv 2)) da_nil)) da_nil)))))
    (dss_cons (ds_set (i := 6) sc__law_some_rule.nd rfl (by first | exact .inl rfl | exact .inr rfl) (de_ix (de_ix (de_var 2 (pv 2)) (de_var 5 (pv 5)) (fun _ _ => rfl)) de_int (fun _ _ => rfl)))
    (dss_cons (ds_if (dt_cmp op_lt d_lt (de_var 4 (pv 4)) de_int (nomark _)) (dss_cons (ds_set (i := 9) sc__law_some_rule.nd rfl (by first | exact .inl rfl | exact .inr rfl) (de_op op_addA d_add de_int (de_callI 1 G__law_draw (hr.mono (by decide)) (by rfl) C__law_draw.g C__law_draw.F.kp C__law_draw.b (takes_of rfl rfl rfl rfl) (da_cons (de_var 0 (pv 0)) (da_cons (de_var 1 (pv 1)) (da_cons de_int da_nil))))))
    (dss_cons (ds_set (i := 10) sc__law_some_rule.nd rfl (by first | exact .inl rfl | exact .inr rfl) (de_b d_max2 (call_max2 rfl) (by rfl) B.b_max bo_max (da_cons (de_var 9 (pv 9)) (da_cons (de_op op_sub d_sub (de_op op_mulA d_mulA (de_var 9 (pv 9)) (de_var 6 (pv 6))) (de_callI 1 G__law_draw (hr.mono (by decide)) (by rfl) C__law_draw.g C__law_draw.F.kp C__law_draw.b (takes_of rfl rfl rfl rfl) (da_cons (de_var 0 (pv 0)) (da_cons (de_var 1 (pv 1)) (da_cons (de_op op_addA d_add (de_op op_mulA d_mulA de_int (de_var 9 (pv 9))) de_int) da_nil))))) da_nil))))
    (dss_one (ds_ret (de_tup (da_cons de_str (da_cons (de_var 5 (pv 5)) (da_cons (de_var 9 (pv 9)) (da_cons (de_var 10 (pv 10)) (da_cons (de_callI 1 G__law_pick (hr.mono (by decide)) (by rfl) C__law_pick.g C__law_pick.F.kp C__law_pick.b (takes_of rfl rfl rfl rfl) (da_cons (de_var 0 (pv 0)) (da_cons (de_var 1 (pv 1)) (da_cons (de_tup (da_cons de_non (da_cons de_non (da_cons de_int (da_cons de_int da_nil))))) da_nil)))) da_nil)))))))))) dss_nil)
    (dss_cons (ds_if (dt_cmp (op_eqA hr.units) d_eqA (de_var 4 (pv 4)) de_int (nomark _)) (dss_one (ds_ret (de_tup (da_cons de_str (da_cons (de_var 5 (pv 5)) (da_cons (de_op op_addA d_add de_int (de_callI 1 G__law_draw (hr.mono (by decide)) (by rfl) C__law_draw.g C__law_draw.F.kp C__law_draw.b (takes_of rfl rfl rfl rfl) (da_cons (de_var 0 (pv 0)) (da_cons (de_var 1 (pv 1)) (da_cons de_int da_nil))))) (da_cons (de_b d_max2 (call_max2 rfl) (by rfl) B.b_max bo_max (da_cons de_int (da_cons (de_op op_sub d_sub (de_var 6 (pv 6)) (de_callI 1 G__law_draw (hr.mono (by decide)) (by rfl) C__law_draw.g C__law_draw.F.kp C__law_draw.b (takes_of rfl rfl rfl rfl) (da_cons (de_var 0 (pv 0)) (da_cons (de_var 1 (pv 1)) (da_cons de_int da_nil))))) da_nil))) da_nil))))))) dss_nil)
    (dss_cons (ds_if (dt_cmp (op_eqA hr.units) d_eqA (de_var 4 (pv 4)) de_int (nomark _)) (dss_cons (ds_set (i := 7) sc__law_some_rule.nd rfl (by first | exact .inl rfl | exact .inr rfl) (de_op op_addA d_add de_int (de_callI 1 G__law_draw (hr.mono (by decide)) (by rfl) C__law_draw.g C__law_draw.F.kp C__law_draw.b (takes_of rfl rfl rfl rfl) (da_cons (de_var 0 (pv 0)) (da_cons (de_var 1 (pv 1)) (da_cons de_int da_nil))))))
    (dss_one (ds_ret (de_tup (da_cons de_str (da_cons (de_var 7 (pv 7)) (da_cons (de_op op_addA d_add de_int (de_callI 1 G__law_draw (hr.mono (by decide)) (by rfl) C__law_draw.g C__law_draw.F.kp C__law_draw.b (takes_of rfl rfl rfl rfl) (da_cons (de_var 0 (pv 0)) (da_cons (de_var 1 (pv 1)) (da_cons de_int da_nil))))) da_nil))))))) dss_nil)
    (dss_cons (ds_set (i := 7) sc__law_some_rule.nd rfl (by first | exact .inl rfl | exact .inr rfl) (de_op op_addA d_add de_int (de_callI 1 G__law_draw (hr.mono (by decide)) (by rfl) C__law_draw.g C__law_draw.F.kp C__law_draw.b (takes_of rfl rfl rfl rfl) (da_cons (de_var 0 (pv 0)) (da_cons (de_var 1 (pv 1)) (da_cons de_int da_nil))))))
    (dss_cons (ds_set (i := 8) sc__law_some_rule.nd rfl (by first | exact .inl rfl | exact .inr rfl) (de_callI 1 G__law_pick (hr.mono (by decide)) (by rfl) C__law_pick.g C__law_pick.F.kp C__law_pick.b (takes_of rfl rfl rfl rfl) (da_cons (de_var 0 (pv 0)) (da_cons (de_var 1 (pv 1)) (da_cons (de_if (dt_val (de_var 3 (pv 3))) (de_tup (da_cons de_int (da_cons de_int da_nil))) (de_tup (da_cons de_non (da_cons de_non (da_cons de_int (da_cons de_int da_nil)))))) da_nil)))))
    (dss_one (ds_ret (de_tup (da_cons de_str (da_cons (de_var 7 (pv 7)) (da_cons (de_op op_addA d_add de_int (de_callI 1 G__law_draw (hr.mono (by decide)) (by rfl) C__law_draw.g C__law_draw.F.kp C__law_draw.b (takes_of rfl rfl rfl rfl) (da_cons (de_var 0 (pv 0)) (da_cons (de_var 1 (pv 1)) (da_cons (de_op op_fdiv d_fdiv (de_var 7 (pv 7)) de_int) da_nil))))) (da_cons (de_var 8 (pv 8)) da_nil)))))))))))))))
theorem ok__law_some_goods {f : Addr} {fd : FuncData} (B : Bl K mg) (F : Fun K "_law_some_goods" "_law_some_goods" s__law_some_goods f fd)
    {a__law_draw : Addr} {e__law_draw : FuncData} (C__law_draw : Cd K mg "_law_draw" s__law_draw ["_law_script", "_law_state", "_law_many"] a__law_draw e__law_draw) (G__law_draw : FnOk P w K mg base (L2.CX P w) 3 a__law_draw e__law_draw ["_law_script", "_law_state", "_law_many"] (spD K mg d__law_draw)) :
    FnOk P w K mg base (L2.CX P w) 4 f fd ["_law_script", "_law_state"] (spD K mg d__law_some_goods) :=
  fn_ok F sc__law_some_goods rfl rfl fun cdv A outer s H vs E env0 hr => by
    exact (dss_cons (ds_set (i := 2) sc__law_some_goods.nd rfl (by first | exact .inl rfl | exact .inr rfl) (de_if (dt_cmp (op_eqA hr.units) d_eqA (de_callI 1 G__law_draw (hr.mono (by decide)) (by rfl) C__law_draw.g C__law_draw.F.kp C__law_draw.b (takes_of rfl rfl rfl rfl) (da_cons (de_var 0 (pv 0)) (da_cons (de_var 1 (pv 1)) (da_cons de_int da_nil)))) de_int (nomark _)) de_int de_int))
    (dss_one (ds_ret (de_ty d_tuple call_tuple_of (by rfl) B.b_tuple bo_tuple (da_cons (de_lc (own := [("_law_again", 3)]) (t := (.one 3)) rfl sc__law_some_goods.nd (di_range1 (by rfl) B.b_range (da_cons (de_var 2 (pv 2)) da_nil)) (blkOk_by (own := [("_law_again", 3)]) (N := ["_law_script", "_law_state", "_law_count", "_law_again"]) (sc := defScope s__law_some_goods) (by first | decide +kernel | (dsimp only [Cx.blk, compEnvC]; rw [relabel_is]; dsimp only [cxOf, PyProof.Rows.envOfC]; decide +kernel))) (fun _ _ _ _ _ => (pg_name (i := 3) sc__law_some_goods.nd rfl (by first | exact .inl rfl | exact .inr rfl))) (fun _ _ _ _ _ => dts_nil) (fun _ _ _ _ _ => (de_tup (da_cons (de_op op_addA d_add de_int (de_callI 1 G__law_draw (hr.mono (by decide)) (by rfl) C__law_draw.g C__law_draw.F.kp C__law_draw.b takes0 (da_cons (de_var 0 (pv 0)) (da_cons (de_var 1 (pv 1)) (da_cons de_int da_nil))))) (da_cons (de_callI 1 G__law_draw (hr.mono (by decide)) (by rfl) C__law_draw.g C__law_draw.F.kp C__law_draw.b takes0 (da_cons (de_var 0 (pv 0)) (da_cons (de_var 1 (pv 1)) (da_cons de_int da_nil)))) da_nil)))) (by simp [CT.ins])) da_nil)))))
theorem ok__law_some_shop {f : Addr} {fd : FuncData} (B : Bl K mg) (F : Fun K "_law_some_shop" "_law_some_shop" s__law_some_shop f fd)
    {a__law_some_goods : Addr} {e__law_some_goods : FuncData} (C__law_some_goods : Cd K mg "_law_some_goods" s__law_some_goods ["_law_script", "_law_state"] a__law_some_goods e__law_some_goods) (G__law_some_goods : FnOk P w K mg base (L2.CX P w) 4 a__law_some_goods e__law_some_goods ["_law_script", "_law_state"] (spD K mg d__law_some_goods))
    {a__law_draw : Addr} {e__law_draw : FuncData} (C__law_draw : Cd K mg "_law_draw" s__law_draw ["_law_script", "_law_state", "_law_many"] a__law_draw e__law_draw) (G__law_draw : FnOk P w K mg base (L2.CX P w) 3 a__law_draw e__law_draw ["_law_script", "_law_state", "_law_many"] (spD K mg d__law_draw))
    {a__law_some_rule : Addr} {e__law_some_rule : FuncData} (C__law_some_rule : Cd K mg "_law_some_rule" s__law_some_rule ["_law_script", "_law_state", "_law_goods", "_law_capped"] a__law_some_rule e__law_some_rule) (G__law_some_rule : FnOk P w K mg base (L2.CX P w) 5 a__law_some_rule e__law_some_rule ["_law_script", "_law_state", "_law_goods", "_law_capped"] (spD K mg d__law_some_rule)) :
    FnOk P w K mg base (L2.CX P w) 6 f fd ["_law_script", "_law_state"] (spD K mg d__law_some_shop) :=
  fn_ok F sc__law_some_shop rfl rfl fun cdv A outer s H vs E env0 hr => by
    exact (dss_cons (ds_par (i := 3) (j := 4) rfl sc__law_some_shop.nd rfl rfl (by decide) rfl rfl (da_cons (de_callI 1 G__law_some_goods (hr.mono (by decide)) (by rfl) C__law_some_goods.g C__law_some_goods.F.kp C__law_some_goods.b (takes_of rfl rfl rfl rfl) (da_cons (de_var 0 (pv 0)) (da_cons (de_var 1 (pv 1)) da_nil))) (da_cons (de_lst da_nil) da_nil)))
    (dss_cons (ds_for (passes_of rfl) rfl (di_range1 (by rfl) B.b_range (da_cons (de_callI 1 G__law_draw (hr.mono (by decide)) (by rfl) C__law_draw.g C__law_draw.F.kp C__law_draw.b (takes_of rfl rfl rfl rfl) (da_cons (de_var 0 (pv 0)) (da_cons (de_var 1 (pv 1)) (da_cons de_int da_nil)))) da_nil)) (dg_name (pg_name (i := 2) sc__law_some_shop.nd rfl (by first | exact .inl rfl | exact .inr rfl))) (dss_cons (ds_set (i := 5) sc__law_some_shop.nd rfl (by first | exact .inl rfl | exact .inr rfl) (de_b d_any (cr_any rfl) (by rfl) B.b_any bo_any (da_cons (de_lc (own := [("_law_rule", 6)]) (t := (.one 6)) rfl sc__law_some_shop.nd (di_list false (de_var 4 (pv 4))) (blkOk_by (own := [("_law_rule", 6)]) (N := ["_law_script", "_law_state", "_law_again", "_law_goods", "_law_rules", "_law_capped", "_law_rule"]) (sc := defScope s__law_some_shop) (by first | decide +kernel | (dsimp only [Cx.blk, compEnvC]; rw [relabel_is]; dsimp only [cxOf, PyProof.Rows.envOfC]; decide +kernel))) (fun _ _ _ _ _ => (pg_name (i := 6) sc__law_some_shop.nd rfl (by first | exact .inl rfl | exact .inr rfl))) (fun _ _ _ _ _ => dts_nil) (fun _ _ _ _ _ => (de_and (de_cmp (op_eqA hr.units) d_eqA (de_ix (de_var 6 (pv 6)) de_int (fun _ _ => rfl)) de_str (nomark _)) (de_one (de_cmp op_is d_is (de_ix (de_var 6 (pv 6)) de_int (fun _ _ => rfl)) de_non (nomark _))))) (by simp [CT.ins])) da_nil)))
    (dss_one (ds_expr (de_met m_app PySem.F.slot_list_append PySem.F.type_list_append mt_append (de_var 4 (pv 4)) (da_cons (de_callI 1 G__law_some_rule (hr.mono (by decide)) (by rfl) C__law_some_rule.g C__law_some_rule.F.kp C__law_some_rule.b (takes_of rfl rfl rfl rfl) (da_cons (de_var 0 (pv 0)) (da_cons (de_var 1 (pv 1)) (da_cons (de_var 3 (pv 3)) (da_cons (de_var 5 (pv 5)) da_nil))))) da_nil))))))
    (dss_one (ds_ret (de_tup (da_cons (de_var 3 (pv 3)) (da_cons (de_ty d_tuple call_tuple_of (by rfl) B.b_tuple bo_tuple (da_cons (de_var 4 (pv 4)) da_nil)) da_nil)))))))
theorem ok__law_told {P0 : Addr} {cs : List Addr} (XS : Exn K mg P0 cs) {f : Addr} {fd : FuncData} (B : Bl K mg) (F : Fun K "_law_told" "_law_told" s__law_told f fd)
    {a_charge : Addr} {e_charge : FuncData} (C_charge : Cd K mg "charge" s_charge ["shop", "basket"] a_charge e_charge) (G_charge : FnOk P w K mg base (L2.CX P w) 11 a_charge e_charge ["shop", "basket"] (spD K mg d_charge))
    {a_amounts : Addr} {e_amounts : FuncData} (C_amounts : Cd K mg "amounts" s_amounts ["shop", "basket"] a_amounts e_amounts) (G_amounts : FnOk P w K mg base (L2.CX P w) 11 a_amounts e_amounts ["shop", "basket"] (spD K mg d_amounts))
    {a_uses : Addr} {e_uses : FuncData} (C_uses : Cd K mg "uses" s_uses ["shop", "basket"] a_uses e_uses) (G_uses : FnOk P w K mg base (L2.CX P w) 11 a_uses e_uses ["shop", "basket"] (spD K mg d_uses))
    {a_gain : Addr} {e_gain : FuncData} (C_gain : Cd K mg "gain" s_gain ["shop", "basket"] a_gain e_gain) (G_gain : FnOk P w K mg base (L2.CX P w) 11 a_gain e_gain ["shop", "basket"] (spD K mg d_gain))
    {a_effects : Addr} {e_effects : FuncData} (C_effects : Cd K mg "effects" s_effects ["shop", "basket"] a_effects e_effects) (G_effects : FnOk P w K mg base (L2.CX P w) 11 a_effects e_effects ["shop", "basket"] (spD K mg d_effects))
    {a_least_above : Addr} {e_least_above : FuncData} (C_least_above : Cd K mg "least_above" s_least_above ["shop", "basket"] a_least_above e_least_above) (G_least_above : FnOk P w K mg base (L2.CX P w) 12 a_least_above e_least_above ["shop", "basket"] (spD K mg d_least_above))
    {a_fewest_more : Addr} {e_fewest_more : FuncData} (C_fewest_more : Cd K mg "fewest_more" s_fewest_more ["shop", "basket"] a_fewest_more e_fewest_more) (G_fewest_more : FnOk P w K mg base (L2.CX P w) 12 a_fewest_more e_fewest_more ["shop", "basket"] (spD K mg d_fewest_more))
    {a__law_which : Addr} {e__law_which : FuncData} (C__law_which : Cd K mg "_law_which" s__law_which ["_law_e"] a__law_which e__law_which) (G__law_which : FnX P w K mg base (L2.CX P w) 1 a__law_which e__law_which ["_law_e"] (spWhich cs)) :
    FnOk P w K mg base (L2.CX P w) 13 f fd ["_law_shop", "_law_basket", "_law_which_here"] (spD K mg d__law_told) :=
  fn_ok F sc__law_told rfl rfl fun cdv A outer s H vs E env0 hr => by
    exact (dss_one (ds_try (i := 3) G__law_which (L2H.roomH_of (hr.mono (by decide))) (by rfl) C__law_which.g C__law_which.F.kp C__law_which.b XS (by rfl) rfl rfl sc__law_told.nd rfl rfl (by first | exact Or.inl rfl | exact Or.inr (Or.inl rfl)) (by decide) (by decide) (takes_of rfl rfl rfl rfl) rfl (fun W pn xe tk po => (dss_cons (ds_if (dt_cmp (op_eqA hr.units) d_eqA (de_var 2 (pv 2)) de_int (nomark _)) (dss_one (ds_ret (de_call G_charge (hr.mono (by decide)) (by rfl) C_charge.g C_charge.F.kp C_charge.b tk (da_cons (de_var 0 (pv 0)) (da_cons (de_var 1 (pv 1)) da_nil))))) dss_nil)
    (dss_cons (ds_if (dt_cmp (op_eqA hr.units) d_eqA (de_var 2 (pv 2)) de_int (nomark _)) (dss_one (ds_ret (de_call G_amounts (hr.mono (by decide)) (by rfl) C_amounts.g C_amounts.F.kp C_amounts.b tk (da_cons (de_var 0 (pv 0)) (da_cons (de_var 1 (pv 1)) da_nil))))) dss_nil)
    (dss_cons (ds_if (dt_cmp (op_eqA hr.units) d_eqA (de_var 2 (pv 2)) de_int (nomark _)) (dss_one (ds_ret (de_call G_uses (hr.mono (by decide)) (by rfl) C_uses.g C_uses.F.kp C_uses.b tk (da_cons (de_var 0 (pv 0)) (da_cons (de_var 1 (pv 1)) da_nil))))) dss_nil)
    (dss_cons (ds_if (dt_cmp (op_eqA hr.units) d_eqA (de_var 2 (pv 2)) de_int (nomark _)) (dss_one (ds_ret (de_call G_gain (hr.mono (by decide)) (by rfl) C_gain.g C_gain.F.kp C_gain.b tk (da_cons (de_var 0 (pv 0)) (da_cons (de_var 1 (pv 1)) da_nil))))) dss_nil)
    (dss_cons (ds_if (dt_cmp (op_eqA hr.units) d_eqA (de_var 2 (pv 2)) de_int (nomark _)) (dss_one (ds_ret (de_call G_effects (hr.mono (by decide)) (by rfl) C_effects.g C_effects.F.kp C_effects.b tk (da_cons (de_var 0 (pv 0)) (da_cons (de_var 1 (pv 1)) da_nil))))) dss_nil)
    (dss_one (ds_ret (de_if (dt_cmp (op_eqA hr.units) d_eqA (de_var 2 (pv 2)) de_int (nomark _)) (de_call G_least_above (hr.mono (by decide)) (by rfl) C_least_above.g C_least_above.F.kp C_least_above.b tk (da_cons (de_var 0 (pv 0)) (da_cons (de_var 1 (pv 1)) da_nil))) (de_call G_fewest_more (hr.mono (by decide)) (by rfl) C_fewest_more.g C_fewest_more.F.kp C_fewest_more.b tk (da_cons (de_var 0 (pv 0)) (da_cons (de_var 1 (pv 1)) da_nil))))))))))))))
theorem ok_law {f : Addr} {fd : FuncData} (B : Bl K mg) (F : Fun K "law" "law" s_law f fd)
    {a__law_some_shop : Addr} {e__law_some_shop : FuncData} (C__law_some_shop : Cd K mg "_law_some_shop" s__law_some_shop ["_law_script", "_law_state"] a__law_some_shop e__law_some_shop) (G__law_some_shop : FnOk P w K mg base (L2.CX P w) 6 a__law_some_shop e__law_some_shop ["_law_script", "_law_state"] (spD K mg d__law_some_shop))
    {a__law_told : Addr} {e__law_told : FuncData} (C__law_told : Cd K mg "_law_told" s__law_told ["_law_shop", "_law_basket", "_law_which_here"] a__law_told e__law_told) (G__law_told : FnOk P w K mg base (L2.CX P w) 13 a__law_told e__law_told ["_law_shop", "_law_basket", "_law_which_here"] (spD K mg d__law_told)) :
    FnOk P w K mg base (L2.CX P w) 14 f fd ["_law_script"] (spD K mg d_law) :=
  fn_ok F sc_law rfl rfl fun cdv A outer s H vs E env0 hr => by
    exact (dss_cons (ds_set (i := 1) sc_law.nd rfl (by first | exact .inl rfl | exact .inr rfl) (de_lst da_nil))
    (dss_cons (ds_set (i := 2) sc_law.nd rfl (by first | exact .inl rfl | exact .inr rfl) (de_callI 1 G__law_some_shop (hr.mono (by decide)) (by rfl) C__law_some_shop.g C__law_some_shop.F.kp C__law_some_shop.b (takes_of rfl rfl rfl rfl) (da_cons (de_var 0 (pv 0)) (da_cons (de_var 1 (pv 1)) da_nil))))
    (dss_cons (ds_set (i := 3) sc_law.nd rfl (by first | exact .inl rfl | exact .inr rfl) (de_b d_len call_lenA (by rfl) B.b_len bo_len (da_cons (de_ix (de_var 2 (pv 2)) de_int (fun _ _ => rfl)) da_nil)))
    (dss_cons (ds_for (passes_of rfl) rfl (di_range1 (by rfl) B.b_range (da_cons de_int da_nil)) (dg_name (pg_name (i := 4) sc_law.nd rfl (by first | exact .inl rfl | exact .inr rfl))) (dss_cons (ds_for (passes_of rfl) rfl (di_tup (de_tup (da_cons de_non (da_cons (de_lst da_nil) (da_cons (de_tup (da_cons (de_ix (de_var 2 (pv 2)) de_int (fun _ _ => rfl)) da_nil)) (da_cons (de_ty d_list call_list_of (by rfl) B.b_list bo_list (da_cons (de_var 2 (pv 2)) da_nil)) (da_cons de_int da_nil))))))) (dg_name (pg_name (i := 6) sc_law.nd rfl (by first | exact .inl rfl | exact .inr rfl))) (dss_one (ds_if (dt_cmp (op_neA hr.units) d_neA (de_call G__law_told (hr.mono (by decide)) (by rfl) C__law_told.g C__law_told.F.kp C__law_told.b (takes_of rfl rfl rfl rfl) (da_cons (de_var 6 (pv 6)) (da_cons de_non (da_cons (de_var 4 (pv 4)) da_nil)))) (de_tup (da_cons de_str (da_cons de_int da_nil))) (nomark _)) (dss_one (ds_ret de_bl)) dss_nil)))
    (dss_cons (ds_set (i := 5) sc_law.nd rfl (by first | exact .inl rfl | exact .inr rfl) (de_op op_mulT d_mulT (de_tup (da_cons (de_op op_addA d_add (de_op op_pow d_pow de_int de_int) de_int) da_nil)) (de_var 3 (pv 3))))
    (dss_one (ds_for (passes_of rfl) rfl (di_tup (de_tup (da_cons de_non (da_cons (de_tup da_nil) (da_cons (de_op op_mulA d_mulA (de_lst (da_cons de_int da_nil)) (de_var 3 (pv 3))) (da_cons (de_op op_mulT d_mulT (de_tup (da_cons de_int da_nil)) (de_op op_addA d_add (de_var 3 (pv 3)) de_int)) (da_cons (de_op op_mulT d_mulT (de_tup (da_cons (de_un un_neg d_neg de_int) da_nil)) (de_var 3 (pv 3))) (da_cons (de_var 5 (pv 5)) (da_cons (de_op op_mulT d_mulT (de_tup (da_cons de_bl da_nil)) (de_var 3 (pv 3))) (da_cons de_int da_nil)))))))))) (dg_name (pg_name (i := 6) sc_law.nd rfl (by first | exact .inl rfl | exact .inr rfl))) (dss_one (ds_if (dt_cmp (op_neA hr.units) d_neA (de_call G__law_told (hr.mono (by decide)) (by rfl) C__law_told.g C__law_told.F.kp C__law_told.b (takes_of rfl rfl rfl rfl) (da_cons (de_var 2 (pv 2)) (da_cons (de_var 6 (pv 6)) (da_cons (de_var 4 (pv 4)) da_nil)))) (de_tup (da_cons de_str (da_cons de_int da_nil))) (nomark _)) (dss_one (ds_ret de_bl)) dss_nil)))))))
    (dss_cons (ds_set (i := 5) sc_law.nd rfl (by first | exact .inl rfl | exact .inr rfl) (de_op op_addA d_add (de_tup (da_cons de_int da_nil)) (de_op op_mulT d_mulT (de_tup (da_cons de_int da_nil)) (de_op op_sub d_sub (de_var 3 (pv 3)) de_int))))
    (dss_cons (ds_if (dt_cmp (op_neA hr.units) d_neA (de_lc (own := [("_law_which_here", 4)]) (t := (.one 4)) rfl sc_law.nd (di_tup (de_tup (da_cons de_int (da_cons de_int da_nil)))) (blkOk_by (own := [("_law_which_here", 4)]) (N := ["_law_script", "_law_state", "_law_shop", "_law_count", "_law_which_here", "_law_far", "_law_bad"]) (sc := defScope s_law) (by first | decide +kernel | (dsimp only [Cx.blk, compEnvC]; rw [relabel_is]; dsimp only [cxOf, PyProof.Rows.envOfC]; decide +kernel))) (fun _ _ _ _ _ => (pg_name (i := 4) sc_law.nd rfl (by first | exact .inl rfl | exact .inr rfl))) (fun _ _ _ _ _ => dts_nil) (fun _ _ _ _ _ => (de_call G__law_told (hr.mono (by decide)) (by rfl) C__law_told.g C__law_told.F.kp C__law_told.b takes0 (da_cons (de_var 2 (pv 2)) (da_cons (de_var 5 (pv 5)) (da_cons (de_var 4 (pv 4)) da_nil))))) (by simp [CT.ins])) (de_op op_mulA d_mulA (de_lst (da_cons (de_tup (da_cons de_str (da_cons de_int da_nil))) da_nil)) de_int) (nomark _)) (dss_one (ds_ret de_bl)) dss_nil)
    (dss_one (ds_ret (de_cmp op_le d_le (de_ix (de_call G__law_told (hr.mono (by decide)) (by rfl) C__law_told.g C__law_told.F.kp C__law_told.b (takes_of rfl rfl rfl rfl) (da_cons (de_var 2 (pv 2)) (da_cons (de_op op_addA d_add (de_tup (da_cons de_int da_nil)) (de_slice (de_var 5 (pv 5)) (do_some de_int) do_none)) (da_cons de_int da_nil)))) de_int (fun _ _ => rfl)) (de_call G__law_told (hr.mono (by decide)) (by rfl) C__law_told.g C__law_told.F.kp C__law_told.b (takes_of rfl rfl rfl rfl) (da_cons (de_var 2 (pv 2)) (da_cons (de_op op_addA d_add (de_tup (da_cons de_int da_nil)) (de_slice (de_var 5 (pv 5)) (do_some de_int) do_none)) (da_cons de_int da_nil)))) (nomark _))))))))))
end
end DL
namespace DL
open PySem PySem.Spec L2
theorem all_mk {l : PySem.W.OpenLaw} {w : World} {K : PySem.W.Frag} {h : Heap} {mg : Str → Option Value} {fa : Addr} (X : K.In h) (G : h.Ns mainGlobals mg) (hfa : mg "law" = some (.ref fa))
    {f0 f1 f2 f3 f4 f5 f6 f7 f8 f9 f10 f11 f12 f13 f14 f15 f16 f17 f18 f19 f20 f21 f22 f23 f24 f25 f26 f27 f28 f29 f30 f31 f32 f33 f34 f35 f36 f37 f38 f39 f40 f41 f42 f43 f44 f45 f46 f47 f48 f49 f50 f51 f52 f53 f54 f55 f56 f57 f58 f59 f60 f61 f62 : Addr} {od0 an0 od1 an1 od2 an2 od3 an3 od4 an4 od5 an5 od6 an6 od7 an7 od8 an8 od9 an9 od10 an10 od11 an11 od12 an12 od13 an13 od14 an14 od15 an15 od16 an16 od17 an17 od18 an18 od19 an19 od20 an20 od21 an21 od22 an22 od23 an23 od24 an24 od25 an25 od26 an26 od27 an27 od28 an28 od29 an29 od30 an30 od31 an31 od32 an32 od33 an33 od34 an34 od35 an35 od36 an36 od37 an37 od38 an38 od39 an39 od40 an40 od41 an41 od42 an42 od43 an43 od44 an44 od45 an45 od46 an46 od47 an47 od48 an48 od49 an49 od50 an50 od51 an51 od52 an52 od53 an53 od54 an54 od55 an55 od56 an56 od57 an57 od58 an58 od59 an59 od60 an60 od61 an61 od62 an62 : Option Addr} {sl0 sl1 sl2 sl3 sl4 sl5 sl6 sl7 sl8 sl9 sl10 sl11 sl12 sl13 sl14 sl15 sl16 sl17 sl18 sl19 sl20 sl21 sl22 sl23 sl24 sl25 sl26 sl27 sl28 sl29 sl30 sl31 sl32 sl33 sl34 sl35 sl36 sl37 sl38 sl39 sl40 sl41 sl42 sl43 sl44 sl45 sl46 sl47 sl48 sl49 sl50 sl51 sl52 sl53 sl54 sl55 sl56 sl57 sl58 sl59 sl60 sl61 sl62 : Array (Option Value)}
    {oc0 kV0 dc0 pm0 cd0 ct0 oc1 kV1 dc1 pm1 cd1 ct1 oc2 kV2 dc2 pm2 cd2 ct2 oc3 kV3 dc3 pm3 cd3 ct3 oc4 kV4 dc4 pm4 cd4 ct4 oc5 kV5 dc5 pm5 cd5 ct5 oc6 kV6 dc6 pm6 cd6 ct6 oc7 kV7 dc7 pm7 cd7 ct7 oc8 kV8 dc8 pm8 cd8 ct8 oc9 kV9 dc9 pm9 cd9 ct9 oc10 kV10 dc10 pm10 cd10 ct10 oc11 kV11 dc11 pm11 cd11 ct11 oc12 kV12 dc12 pm12 cd12 ct12 oc13 kV13 dc13 pm13 cd13 ct13 oc14 kV14 dc14 pm14 cd14 ct14 oc15 kV15 dc15 pm15 cd15 ct15 oc16 kV16 dc16 pm16 cd16 ct16 oc17 kV17 dc17 pm17 cd17 ct17 oc18 kV18 dc18 pm18 cd18 ct18 oc19 kV19 dc19 pm19 cd19 ct19 oc20 kV20 dc20 pm20 cd20 ct20 oc21 kV21 dc21 pm21 cd21 ct21 oc22 kV22 dc22 pm22 cd22 ct22 oc23 kV23 dc23 pm23 cd23 ct23 oc24 kV24 dc24 pm24 cd24 ct24 oc25 kV25 dc25 pm25 cd25 ct25 oc26 kV26 dc26 pm26 cd26 ct26 oc27 kV27 dc27 pm27 cd27 ct27 oc28 kV28 dc28 pm28 cd28 ct28 oc29 kV29 dc29 pm29 cd29 ct29 oc30 kV30 dc30 pm30 cd30 ct30 oc31 kV31 dc31 pm31 cd31 ct31 oc32 kV32 dc32 pm32 cd32 ct32 oc33 kV33 dc33 pm33 cd33 ct33 oc34 kV34 dc34 pm34 cd34 ct34 oc35 kV35 dc35 pm35 cd35 ct35 oc36 kV36 dc36 pm36 cd36 ct36 oc37 kV37 dc37 pm37 cd37 ct37 oc38 kV38 dc38 pm38 cd38 ct38 oc39 kV39 dc39 pm39 cd39 ct39 oc40 kV40 dc40 pm40 cd40 ct40 oc41 kV41 dc41 pm41 cd41 ct41 oc42 kV42 dc42 pm42 cd42 ct42 oc43 kV43 dc43 pm43 cd43 ct43 oc44 kV44 dc44 pm44 cd44 ct44 oc45 kV45 dc45 pm45 cd45 ct45 oc46 kV46 dc46 pm46 cd46 ct46 oc47 kV47 dc47 pm47 cd47 ct47 oc48 kV48 dc48 pm48 cd48 ct48 oc49 kV49 dc49 pm49 cd49 ct49 oc50 kV50 dc50 pm50 cd50 ct50 oc51 kV51 dc51 pm51 cd51 ct51 oc52 kV52 dc52 pm52 cd52 ct52 oc53 kV53 dc53 pm53 cd53 ct53 oc54 kV54 dc54 pm54 cd54 ct54 oc55 kV55 dc55 pm55 cd55 ct55 oc56 kV56 dc56 pm56 cd56 ct56 oc57 kV57 dc57 pm57 cd57 ct57 oc58 kV58 dc58 pm58 cd58 ct58 oc59 kV59 dc59 pm59 cd59 ct59 oc60 kV60 dc60 pm60 cd60 ct60 oc61 kV61 dc61 pm61 cd61 ct61 oc62 kV62 dc62 pm62 cd62 ct62 : Value}
    (a0 : PySem.W.nsIn K mainGlobals "is_integer" = some (some (.ref f0)))
    (l0 : K.lookup f0 = some ⟨oc0, od0, .func (PySem.W.fnOf "is_integer" "is_integer" (defArgs s_is_integer) (defBody s_is_integer) (defScope s_is_integer) .none kV0 dc0 pm0 an0 cd0 ct0), sl0⟩) (c0 : PySem.W.codeIn K cd0 "is_integer" = true) (k0 : PySem.W.keepIn K (.ref f0) = true)
    (a1 : PySem.W.nsIn K mainGlobals "is_between" = some (some (.ref f1)))
    (l1 : K.lookup f1 = some ⟨oc1, od1, .func (PySem.W.fnOf "is_between" "is_between" (defArgs s_is_between) (defBody s_is_between) (defScope s_is_between) .none kV1 dc1 pm1 an1 cd1 ct1), sl1⟩) (c1 : PySem.W.codeIn K cd1 "is_between" = true) (k1 : PySem.W.keepIn K (.ref f1) = true)
    (a2 : PySem.W.nsIn K mainGlobals "is_tuple_of" = some (some (.ref f2)))
    (l2 : K.lookup f2 = some ⟨oc2, od2, .func (PySem.W.fnOf "is_tuple_of" "is_tuple_of" (defArgs s_is_tuple_of) (defBody s_is_tuple_of) (defScope s_is_tuple_of) .none kV2 dc2 pm2 an2 cd2 ct2), sl2⟩) (c2 : PySem.W.codeIn K cd2 "is_tuple_of" = true) (k2 : PySem.W.keepIn K (.ref f2) = true)
    (a3 : PySem.W.nsIn K mainGlobals "is_most" = some (some (.ref f3)))
    (l3 : K.lookup f3 = some ⟨oc3, od3, .func (PySem.W.fnOf "is_most" "is_most" (defArgs s_is_most) (defBody s_is_most) (defScope s_is_most) .none kV3 dc3 pm3 an3 cd3 ct3), sl3⟩) (c3 : PySem.W.codeIn K cd3 "is_most" = true) (k3 : PySem.W.keepIn K (.ref f3) = true)
    (a4 : PySem.W.nsIn K mainGlobals "is_good" = some (some (.ref f4)))
    (l4 : K.lookup f4 = some ⟨oc4, od4, .func (PySem.W.fnOf "is_good" "is_good" (defArgs s_is_good) (defBody s_is_good) (defScope s_is_good) .none kV4 dc4 pm4 an4 cd4 ct4), sl4⟩) (c4 : PySem.W.codeIn K cd4 "is_good" = true) (k4 : PySem.W.keepIn K (.ref f4) = true)
    (a5 : PySem.W.nsIn K mainGlobals "is_pack" = some (some (.ref f5)))
    (l5 : K.lookup f5 = some ⟨oc5, od5, .func (PySem.W.fnOf "is_pack" "is_pack" (defArgs s_is_pack) (defBody s_is_pack) (defScope s_is_pack) .none kV5 dc5 pm5 an5 cd5 ct5), sl5⟩) (c5 : PySem.W.codeIn K cd5 "is_pack" = true) (k5 : PySem.W.keepIn K (.ref f5) = true)
    (a6 : PySem.W.nsIn K mainGlobals "is_from" = some (some (.ref f6)))
    (l6 : K.lookup f6 = some ⟨oc6, od6, .func (PySem.W.fnOf "is_from" "is_from" (defArgs s_is_from) (defBody s_is_from) (defScope s_is_from) .none kV6 dc6 pm6 an6 cd6 ct6), sl6⟩) (c6 : PySem.W.codeIn K cd6 "is_from" = true) (k6 : PySem.W.keepIn K (.ref f6) = true)
    (a7 : PySem.W.nsIn K mainGlobals "is_over" = some (some (.ref f7)))
    (l7 : K.lookup f7 = some ⟨oc7, od7, .func (PySem.W.fnOf "is_over" "is_over" (defArgs s_is_over) (defBody s_is_over) (defScope s_is_over) .none kV7 dc7 pm7 an7 cd7 ct7), sl7⟩) (c7 : PySem.W.codeIn K cd7 "is_over" = true) (k7 : PySem.W.keepIn K (.ref f7) = true)
    (a8 : PySem.W.nsIn K mainGlobals "is_each" = some (some (.ref f8)))
    (l8 : K.lookup f8 = some ⟨oc8, od8, .func (PySem.W.fnOf "is_each" "is_each" (defArgs s_is_each) (defBody s_is_each) (defScope s_is_each) .none kV8 dc8 pm8 an8 cd8 ct8), sl8⟩) (c8 : PySem.W.codeIn K cd8 "is_each" = true) (k8 : PySem.W.keepIn K (.ref f8) = true)
    (a9 : PySem.W.nsIn K mainGlobals "is_rule" = some (some (.ref f9)))
    (l9 : K.lookup f9 = some ⟨oc9, od9, .func (PySem.W.fnOf "is_rule" "is_rule" (defArgs s_is_rule) (defBody s_is_rule) (defScope s_is_rule) .none kV9 dc9 pm9 an9 cd9 ct9), sl9⟩) (c9 : PySem.W.codeIn K cd9 "is_rule" = true) (k9 : PySem.W.keepIn K (.ref f9) = true)
    (a10 : PySem.W.nsIn K mainGlobals "is_endless_each" = some (some (.ref f10)))
    (l10 : K.lookup f10 = some ⟨oc10, od10, .func (PySem.W.fnOf "is_endless_each" "is_endless_each" (defArgs s_is_endless_each) (defBody s_is_endless_each) (defScope s_is_endless_each) .none kV10 dc10 pm10 an10 cd10 ct10), sl10⟩) (c10 : PySem.W.codeIn K cd10 "is_endless_each" = true) (k10 : PySem.W.keepIn K (.ref f10) = true)
    (a11 : PySem.W.nsIn K mainGlobals "are_goods" = some (some (.ref f11)))
    (l11 : K.lookup f11 = some ⟨oc11, od11, .func (PySem.W.fnOf "are_goods" "are_goods" (defArgs s_are_goods) (defBody s_are_goods) (defScope s_are_goods) .none kV11 dc11 pm11 an11 cd11 ct11), sl11⟩) (c11 : PySem.W.codeIn K cd11 "are_goods" = true) (k11 : PySem.W.keepIn K (.ref f11) = true)
    (a12 : PySem.W.nsIn K mainGlobals "are_rules" = some (some (.ref f12)))
    (l12 : K.lookup f12 = some ⟨oc12, od12, .func (PySem.W.fnOf "are_rules" "are_rules" (defArgs s_are_rules) (defBody s_are_rules) (defScope s_are_rules) .none kV12 dc12 pm12 an12 cd12 ct12), sl12⟩) (c12 : PySem.W.codeIn K cd12 "are_rules" = true) (k12 : PySem.W.keepIn K (.ref f12) = true)
    (a13 : PySem.W.nsIn K mainGlobals "is_shop" = some (some (.ref f13)))
    (l13 : K.lookup f13 = some ⟨oc13, od13, .func (PySem.W.fnOf "is_shop" "is_shop" (defArgs s_is_shop) (defBody s_is_shop) (defScope s_is_shop) .none kV13 dc13 pm13 an13 cd13 ct13), sl13⟩) (c13 : PySem.W.codeIn K cd13 "is_shop" = true) (k13 : PySem.W.keepIn K (.ref f13) = true)
    (a14 : PySem.W.nsIn K mainGlobals "check_shop" = some (some (.ref f14)))
    (l14 : K.lookup f14 = some ⟨oc14, od14, .func (PySem.W.fnOf "check_shop" "check_shop" (defArgs s_check_shop) (defBody s_check_shop) (defScope s_check_shop) .none kV14 dc14 pm14 an14 cd14 ct14), sl14⟩) (c14 : PySem.W.codeIn K cd14 "check_shop" = true) (k14 : PySem.W.keepIn K (.ref f14) = true)
    (a15 : PySem.W.nsIn K mainGlobals "are_pieces" = some (some (.ref f15)))
    (l15 : K.lookup f15 = some ⟨oc15, od15, .func (PySem.W.fnOf "are_pieces" "are_pieces" (defArgs s_are_pieces) (defBody s_are_pieces) (defScope s_are_pieces) .none kV15 dc15 pm15 an15 cd15 ct15), sl15⟩) (c15 : PySem.W.codeIn K cd15 "are_pieces" = true) (k15 : PySem.W.keepIn K (.ref f15) = true)
    (a16 : PySem.W.nsIn K mainGlobals "is_basket" = some (some (.ref f16)))
    (l16 : K.lookup f16 = some ⟨oc16, od16, .func (PySem.W.fnOf "is_basket" "is_basket" (defArgs s_is_basket) (defBody s_is_basket) (defScope s_is_basket) .none kV16 dc16 pm16 an16 cd16 ct16), sl16⟩) (c16 : PySem.W.codeIn K cd16 "is_basket" = true) (k16 : PySem.W.keepIn K (.ref f16) = true)
    (a17 : PySem.W.nsIn K mainGlobals "check_basket" = some (some (.ref f17)))
    (l17 : K.lookup f17 = some ⟨oc17, od17, .func (PySem.W.fnOf "check_basket" "check_basket" (defArgs s_check_basket) (defBody s_check_basket) (defScope s_check_basket) .none kV17 dc17 pm17 an17 cd17 ct17), sl17⟩) (c17 : PySem.W.codeIn K cd17 "check_basket" = true) (k17 : PySem.W.keepIn K (.ref f17) = true)
    (a18 : PySem.W.nsIn K mainGlobals "full_times" = some (some (.ref f18)))
    (l18 : K.lookup f18 = some ⟨oc18, od18, .func (PySem.W.fnOf "full_times" "full_times" (defArgs s_full_times) (defBody s_full_times) (defScope s_full_times) .none kV18 dc18 pm18 an18 cd18 ct18), sl18⟩) (c18 : PySem.W.codeIn K cd18 "full_times" = true) (k18 : PySem.W.keepIn K (.ref f18) = true)
    (a19 : PySem.W.nsIn K mainGlobals "fitting_rule" = some (some (.ref f19)))
    (l19 : K.lookup f19 = some ⟨oc19, od19, .func (PySem.W.fnOf "fitting_rule" "fitting_rule" (defArgs s_fitting_rule) (defBody s_fitting_rule) (defScope s_fitting_rule) .none kV19 dc19 pm19 an19 cd19 ct19), sl19⟩) (c19 : PySem.W.codeIn K cd19 "fitting_rule" = true) (k19 : PySem.W.keepIn K (.ref f19) = true)
    (a20 : PySem.W.nsIn K mainGlobals "pack_times" = some (some (.ref f20)))
    (l20 : K.lookup f20 = some ⟨oc20, od20, .func (PySem.W.fnOf "pack_times" "pack_times" (defArgs s_pack_times) (defBody s_pack_times) (defScope s_pack_times) .none kV20 dc20 pm20 an20 cd20 ct20), sl20⟩) (c20 : PySem.W.codeIn K cd20 "pack_times" = true) (k20 : PySem.W.keepIn K (.ref f20) = true)
    (a21 : PySem.W.nsIn K mainGlobals "pack_amount" = some (some (.ref f21)))
    (l21 : K.lookup f21 = some ⟨oc21, od21, .func (PySem.W.fnOf "pack_amount" "pack_amount" (defArgs s_pack_amount) (defBody s_pack_amount) (defScope s_pack_amount) .none kV21 dc21 pm21 an21 cd21 ct21), sl21⟩) (c21 : PySem.W.codeIn K cd21 "pack_amount" = true) (k21 : PySem.W.keepIn K (.ref f21) = true)
    (a22 : PySem.W.nsIn K mainGlobals "good_amount" = some (some (.ref f22)))
    (l22 : K.lookup f22 = some ⟨oc22, od22, .func (PySem.W.fnOf "good_amount" "good_amount" (defArgs s_good_amount) (defBody s_good_amount) (defScope s_good_amount) .none kV22 dc22 pm22 an22 cd22 ct22), sl22⟩) (c22 : PySem.W.codeIn K cd22 "good_amount" = true) (k22 : PySem.W.keepIn K (.ref f22) = true)
    (a23 : PySem.W.nsIn K mainGlobals "off_times" = some (some (.ref f23)))
    (l23 : K.lookup f23 = some ⟨oc23, od23, .func (PySem.W.fnOf "off_times" "off_times" (defArgs s_off_times) (defBody s_off_times) (defScope s_off_times) .none kV23 dc23 pm23 an23 cd23 ct23), sl23⟩) (c23 : PySem.W.codeIn K cd23 "off_times" = true) (k23 : PySem.W.keepIn K (.ref f23) = true)
    (a24 : PySem.W.nsIn K mainGlobals "apply_sums" = some (some (.ref f24)))
    (l24 : K.lookup f24 = some ⟨oc24, od24, .func (PySem.W.fnOf "apply_sums" "apply_sums" (defArgs s_apply_sums) (defBody s_apply_sums) (defScope s_apply_sums) .none kV24 dc24 pm24 an24 cd24 ct24), sl24⟩) (c24 : PySem.W.codeIn K cd24 "apply_sums" = true) (k24 : PySem.W.keepIn K (.ref f24) = true)
    (a25 : PySem.W.nsIn K mainGlobals "amounts_of" = some (some (.ref f25)))
    (l25 : K.lookup f25 = some ⟨oc25, od25, .func (PySem.W.fnOf "amounts_of" "amounts_of" (defArgs s_amounts_of) (defBody s_amounts_of) (defScope s_amounts_of) .none kV25 dc25 pm25 an25 cd25 ct25), sl25⟩) (c25 : PySem.W.codeIn K cd25 "amounts_of" = true) (k25 : PySem.W.keepIn K (.ref f25) = true)
    (a26 : PySem.W.nsIn K mainGlobals "left_of" = some (some (.ref f26)))
    (l26 : K.lookup f26 = some ⟨oc26, od26, .func (PySem.W.fnOf "left_of" "left_of" (defArgs s_left_of) (defBody s_left_of) (defScope s_left_of) .none kV26 dc26 pm26 an26 cd26 ct26), sl26⟩) (c26 : PySem.W.codeIn K cd26 "left_of" = true) (k26 : PySem.W.keepIn K (.ref f26) = true)
    (a27 : PySem.W.nsIn K mainGlobals "charge_of" = some (some (.ref f27)))
    (l27 : K.lookup f27 = some ⟨oc27, od27, .func (PySem.W.fnOf "charge_of" "charge_of" (defArgs s_charge_of) (defBody s_charge_of) (defScope s_charge_of) .none kV27 dc27 pm27 an27 cd27 ct27), sl27⟩) (c27 : PySem.W.codeIn K cd27 "charge_of" = true) (k27 : PySem.W.keepIn K (.ref f27) = true)
    (a28 : PySem.W.nsIn K mainGlobals "uses_of" = some (some (.ref f28)))
    (l28 : K.lookup f28 = some ⟨oc28, od28, .func (PySem.W.fnOf "uses_of" "uses_of" (defArgs s_uses_of) (defBody s_uses_of) (defScope s_uses_of) .none kV28 dc28 pm28 an28 cd28 ct28), sl28⟩) (c28 : PySem.W.codeIn K cd28 "uses_of" = true) (k28 : PySem.W.keepIn K (.ref f28) = true)
    (a29 : PySem.W.nsIn K mainGlobals "costs_of" = some (some (.ref f29)))
    (l29 : K.lookup f29 = some ⟨oc29, od29, .func (PySem.W.fnOf "costs_of" "costs_of" (defArgs s_costs_of) (defBody s_costs_of) (defScope s_costs_of) .none kV29 dc29 pm29 an29 cd29 ct29), sl29⟩) (c29 : PySem.W.codeIn K cd29 "costs_of" = true) (k29 : PySem.W.keepIn K (.ref f29) = true)
    (a30 : PySem.W.nsIn K mainGlobals "gain_of" = some (some (.ref f30)))
    (l30 : K.lookup f30 = some ⟨oc30, od30, .func (PySem.W.fnOf "gain_of" "gain_of" (defArgs s_gain_of) (defBody s_gain_of) (defScope s_gain_of) .none kV30 dc30 pm30 an30 cd30 ct30), sl30⟩) (c30 : PySem.W.codeIn K cd30 "gain_of" = true) (k30 : PySem.W.keepIn K (.ref f30) = true)
    (a31 : PySem.W.nsIn K mainGlobals "amounts" = some (some (.ref f31)))
    (l31 : K.lookup f31 = some ⟨oc31, od31, .func (PySem.W.fnOf "amounts" "amounts" (defArgs s_amounts) (defBody s_amounts) (defScope s_amounts) .none kV31 dc31 pm31 an31 cd31 ct31), sl31⟩) (c31 : PySem.W.codeIn K cd31 "amounts" = true) (k31 : PySem.W.keepIn K (.ref f31) = true)
    (a32 : PySem.W.nsIn K mainGlobals "charge" = some (some (.ref f32)))
    (l32 : K.lookup f32 = some ⟨oc32, od32, .func (PySem.W.fnOf "charge" "charge" (defArgs s_charge) (defBody s_charge) (defScope s_charge) .none kV32 dc32 pm32 an32 cd32 ct32), sl32⟩) (c32 : PySem.W.codeIn K cd32 "charge" = true) (k32 : PySem.W.keepIn K (.ref f32) = true)
    (a33 : PySem.W.nsIn K mainGlobals "uses" = some (some (.ref f33)))
    (l33 : K.lookup f33 = some ⟨oc33, od33, .func (PySem.W.fnOf "uses" "uses" (defArgs s_uses) (defBody s_uses) (defScope s_uses) .none kV33 dc33 pm33 an33 cd33 ct33), sl33⟩) (c33 : PySem.W.codeIn K cd33 "uses" = true) (k33 : PySem.W.keepIn K (.ref f33) = true)
    (a34 : PySem.W.nsIn K mainGlobals "gain" = some (some (.ref f34)))
    (l34 : K.lookup f34 = some ⟨oc34, od34, .func (PySem.W.fnOf "gain" "gain" (defArgs s_gain) (defBody s_gain) (defScope s_gain) .none kV34 dc34 pm34 an34 cd34 ct34), sl34⟩) (c34 : PySem.W.codeIn K cd34 "gain" = true) (k34 : PySem.W.keepIn K (.ref f34) = true)
    (a35 : PySem.W.nsIn K mainGlobals "without_rule" = some (some (.ref f35)))
    (l35 : K.lookup f35 = some ⟨oc35, od35, .func (PySem.W.fnOf "without_rule" "without_rule" (defArgs s_without_rule) (defBody s_without_rule) (defScope s_without_rule) .none kV35 dc35 pm35 an35 cd35 ct35), sl35⟩) (c35 : PySem.W.codeIn K cd35 "without_rule" = true) (k35 : PySem.W.keepIn K (.ref f35) = true)
    (a36 : PySem.W.nsIn K mainGlobals "effects" = some (some (.ref f36)))
    (l36 : K.lookup f36 = some ⟨oc36, od36, .func (PySem.W.fnOf "effects" "effects" (defArgs s_effects) (defBody s_effects) (defScope s_effects) .none kV36 dc36 pm36 an36 cd36 ct36), sl36⟩) (c36 : PySem.W.codeIn K cd36 "effects" = true) (k36 : PySem.W.keepIn K (.ref f36) = true)
    (a37 : PySem.W.nsIn K mainGlobals "baskets_of" = some (some (.ref f37)))
    (l37 : K.lookup f37 = some ⟨oc37, od37, .func (PySem.W.fnOf "baskets_of" "baskets_of" (defArgs s_baskets_of) (defBody s_baskets_of) (defScope s_baskets_of) .none kV37 dc37 pm37 an37 cd37 ct37), sl37⟩) (c37 : PySem.W.codeIn K cd37 "baskets_of" = true) (k37 : PySem.W.keepIn K (.ref f37) = true)
    (a38 : PySem.W.nsIn K mainGlobals "baskets_within" = some (some (.ref f38)))
    (l38 : K.lookup f38 = some ⟨oc38, od38, .func (PySem.W.fnOf "baskets_within" "baskets_within" (defArgs s_baskets_within) (defBody s_baskets_within) (defScope s_baskets_within) .none kV38 dc38 pm38 an38 cd38 ct38), sl38⟩) (c38 : PySem.W.codeIn K cd38 "baskets_within" = true) (k38 : PySem.W.keepIn K (.ref f38) = true)
    (a39 : PySem.W.nsIn K mainGlobals "sums_within" = some (some (.ref f39)))
    (l39 : K.lookup f39 = some ⟨oc39, od39, .func (PySem.W.fnOf "sums_within" "sums_within" (defArgs s_sums_within) (defBody s_sums_within) (defScope s_sums_within) .none kV39 dc39 pm39 an39 cd39 ct39), sl39⟩) (c39 : PySem.W.codeIn K cd39 "sums_within" = true) (k39 : PySem.W.keepIn K (.ref f39) = true)
    (a40 : PySem.W.nsIn K mainGlobals "charges_within" = some (some (.ref f40)))
    (l40 : K.lookup f40 = some ⟨oc40, od40, .func (PySem.W.fnOf "charges_within" "charges_within" (defArgs s_charges_within) (defBody s_charges_within) (defScope s_charges_within) .none kV40 dc40 pm40 an40 cd40 ct40), sl40⟩) (c40 : PySem.W.codeIn K cd40 "charges_within" = true) (k40 : PySem.W.keepIn K (.ref f40) = true)
    (a41 : PySem.W.nsIn K mainGlobals "rounded_up" = some (some (.ref f41)))
    (l41 : K.lookup f41 = some ⟨oc41, od41, .func (PySem.W.fnOf "rounded_up" "rounded_up" (defArgs s_rounded_up) (defBody s_rounded_up) (defScope s_rounded_up) .none kV41 dc41 pm41 an41 cd41 ct41), sl41⟩) (c41 : PySem.W.codeIn K cd41 "rounded_up" = true) (k41 : PySem.W.keepIn K (.ref f41) = true)
    (a42 : PySem.W.nsIn K mainGlobals "sum_growth" = some (some (.ref f42)))
    (l42 : K.lookup f42 = some ⟨oc42, od42, .func (PySem.W.fnOf "sum_growth" "sum_growth" (defArgs s_sum_growth) (defBody s_sum_growth) (defScope s_sum_growth) .none kV42 dc42 pm42 an42 cd42 ct42), sl42⟩) (c42 : PySem.W.codeIn K cd42 "sum_growth" = true) (k42 : PySem.W.keepIn K (.ref f42) = true)
    (a43 : PySem.W.nsIn K mainGlobals "good_growth" = some (some (.ref f43)))
    (l43 : K.lookup f43 = some ⟨oc43, od43, .func (PySem.W.fnOf "good_growth" "good_growth" (defArgs s_good_growth) (defBody s_good_growth) (defScope s_good_growth) .none kV43 dc43 pm43 an43 cd43 ct43), sl43⟩) (c43 : PySem.W.codeIn K cd43 "good_growth" = true) (k43 : PySem.W.keepIn K (.ref f43) = true)
    (a44 : PySem.W.nsIn K mainGlobals "settled_pieces" = some (some (.ref f44)))
    (l44 : K.lookup f44 = some ⟨oc44, od44, .func (PySem.W.fnOf "settled_pieces" "settled_pieces" (defArgs s_settled_pieces) (defBody s_settled_pieces) (defScope s_settled_pieces) .none kV44 dc44 pm44 an44 cd44 ct44), sl44⟩) (c44 : PySem.W.codeIn K cd44 "settled_pieces" = true) (k44 : PySem.W.keepIn K (.ref f44) = true)
    (a45 : PySem.W.nsIn K mainGlobals "cycle" = some (some (.ref f45)))
    (l45 : K.lookup f45 = some ⟨oc45, od45, .func (PySem.W.fnOf "cycle" "cycle" (defArgs s_cycle) (defBody s_cycle) (defScope s_cycle) .none kV45 dc45 pm45 an45 cd45 ct45), sl45⟩) (c45 : PySem.W.codeIn K cd45 "cycle" = true) (k45 : PySem.W.keepIn K (.ref f45) = true)
    (a46 : PySem.W.nsIn K mainGlobals "cycles" = some (some (.ref f46)))
    (l46 : K.lookup f46 = some ⟨oc46, od46, .func (PySem.W.fnOf "cycles" "cycles" (defArgs s_cycles) (defBody s_cycles) (defScope s_cycles) .none kV46 dc46 pm46 an46 cd46 ct46), sl46⟩) (c46 : PySem.W.codeIn K cd46 "cycles" = true) (k46 : PySem.W.keepIn K (.ref f46) = true)
    (a47 : PySem.W.nsIn K mainGlobals "check_few" = some (some (.ref f47)))
    (l47 : K.lookup f47 = some ⟨oc47, od47, .func (PySem.W.fnOf "check_few" "check_few" (defArgs s_check_few) (defBody s_check_few) (defScope s_check_few) .none kV47 dc47 pm47 an47 cd47 ct47), sl47⟩) (c47 : PySem.W.codeIn K cd47 "check_few" = true) (k47 : PySem.W.keepIn K (.ref f47) = true)
    (a48 : PySem.W.nsIn K mainGlobals "contains" = some (some (.ref f48)))
    (l48 : K.lookup f48 = some ⟨oc48, od48, .func (PySem.W.fnOf "contains" "contains" (defArgs s_contains) (defBody s_contains) (defScope s_contains) .none kV48 dc48 pm48 an48 cd48 ct48), sl48⟩) (c48 : PySem.W.codeIn K cd48 "contains" = true) (k48 : PySem.W.keepIn K (.ref f48) = true)
    (a49 : PySem.W.nsIn K mainGlobals "limits_above" = some (some (.ref f49)))
    (l49 : K.lookup f49 = some ⟨oc49, od49, .func (PySem.W.fnOf "limits_above" "limits_above" (defArgs s_limits_above) (defBody s_limits_above) (defScope s_limits_above) .none kV49 dc49 pm49 an49 cd49 ct49), sl49⟩) (c49 : PySem.W.codeIn K cd49 "limits_above" = true) (k49 : PySem.W.keepIn K (.ref f49) = true)
    (a50 : PySem.W.nsIn K mainGlobals "charges_above" = some (some (.ref f50)))
    (l50 : K.lookup f50 = some ⟨oc50, od50, .func (PySem.W.fnOf "charges_above" "charges_above" (defArgs s_charges_above) (defBody s_charges_above) (defScope s_charges_above) .none kV50 dc50 pm50 an50 cd50 ct50), sl50⟩) (c50 : PySem.W.codeIn K cd50 "charges_above" = true) (k50 : PySem.W.keepIn K (.ref f50) = true)
    (a51 : PySem.W.nsIn K mainGlobals "least_above" = some (some (.ref f51)))
    (l51 : K.lookup f51 = some ⟨oc51, od51, .func (PySem.W.fnOf "least_above" "least_above" (defArgs s_least_above) (defBody s_least_above) (defScope s_least_above) .none kV51 dc51 pm51 an51 cd51 ct51), sl51⟩) (c51 : PySem.W.codeIn K cd51 "least_above" = true) (k51 : PySem.W.keepIn K (.ref f51) = true)
    (a52 : PySem.W.nsIn K mainGlobals "fewest_more" = some (some (.ref f52)))
    (l52 : K.lookup f52 = some ⟨oc52, od52, .func (PySem.W.fnOf "fewest_more" "fewest_more" (defArgs s_fewest_more) (defBody s_fewest_more) (defScope s_fewest_more) .none kV52 dc52 pm52 an52 cd52 ct52), sl52⟩) (c52 : PySem.W.codeIn K cd52 "fewest_more" = true) (k52 : PySem.W.keepIn K (.ref f52) = true)
    (a53 : PySem.W.nsIn K mainGlobals "_law_which" = some (some (.ref f53)))
    (l53 : K.lookup f53 = some ⟨oc53, od53, .func (PySem.W.fnOf "_law_which" "_law_which" (defArgs s__law_which) (defBody s__law_which) (defScope s__law_which) .none kV53 dc53 pm53 an53 cd53 ct53), sl53⟩) (c53 : PySem.W.codeIn K cd53 "_law_which" = true) (k53 : PySem.W.keepIn K (.ref f53) = true)
    (a54 : PySem.W.nsIn K mainGlobals "_law_cell_at" = some (some (.ref f54)))
    (l54 : K.lookup f54 = some ⟨oc54, od54, .func (PySem.W.fnOf "_law_cell_at" "_law_cell_at" (defArgs s__law_cell_at) (defBody s__law_cell_at) (defScope s__law_cell_at) .none kV54 dc54 pm54 an54 cd54 ct54), sl54⟩) (c54 : PySem.W.codeIn K cd54 "_law_cell_at" = true) (k54 : PySem.W.keepIn K (.ref f54) = true)
    (a55 : PySem.W.nsIn K mainGlobals "_law_mixed" = some (some (.ref f55)))
    (l55 : K.lookup f55 = some ⟨oc55, od55, .func (PySem.W.fnOf "_law_mixed" "_law_mixed" (defArgs s__law_mixed) (defBody s__law_mixed) (defScope s__law_mixed) .none kV55 dc55 pm55 an55 cd55 ct55), sl55⟩) (c55 : PySem.W.codeIn K cd55 "_law_mixed" = true) (k55 : PySem.W.keepIn K (.ref f55) = true)
    (a56 : PySem.W.nsIn K mainGlobals "_law_draw" = some (some (.ref f56)))
    (l56 : K.lookup f56 = some ⟨oc56, od56, .func (PySem.W.fnOf "_law_draw" "_law_draw" (defArgs s__law_draw) (defBody s__law_draw) (defScope s__law_draw) .none kV56 dc56 pm56 an56 cd56 ct56), sl56⟩) (c56 : PySem.W.codeIn K cd56 "_law_draw" = true) (k56 : PySem.W.keepIn K (.ref f56) = true)
    (a57 : PySem.W.nsIn K mainGlobals "_law_pick" = some (some (.ref f57)))
    (l57 : K.lookup f57 = some ⟨oc57, od57, .func (PySem.W.fnOf "_law_pick" "_law_pick" (defArgs s__law_pick) (defBody s__law_pick) (defScope s__law_pick) .none kV57 dc57 pm57 an57 cd57 ct57), sl57⟩) (c57 : PySem.W.codeIn K cd57 "_law_pick" = true) (k57 : PySem.W.keepIn K (.ref f57) = true)
    (a58 : PySem.W.nsIn K mainGlobals "_law_some_rule" = some (some (.ref f58)))
    (l58 : K.lookup f58 = some ⟨oc58, od58, .func (PySem.W.fnOf "_law_some_rule" "_law_some_rule" (defArgs s__law_some_rule) (defBody s__law_some_rule) (defScope s__law_some_rule) .none kV58 dc58 pm58 an58 cd58 ct58), sl58⟩) (c58 : PySem.W.codeIn K cd58 "_law_some_rule" = true) (k58 : PySem.W.keepIn K (.ref f58) = true)
    (a59 : PySem.W.nsIn K mainGlobals "_law_some_goods" = some (some (.ref f59)))
    (l59 : K.lookup f59 = some ⟨oc59, od59, .func (PySem.W.fnOf "_law_some_goods" "_law_some_goods" (defArgs s__law_some_goods) (defBody s__law_some_goods) (defScope s__law_some_goods) .none kV59 dc59 pm59 an59 cd59 ct59), sl59⟩) (c59 : PySem.W.codeIn K cd59 "_law_some_goods" = true) (k59 : PySem.W.keepIn K (.ref f59) = true)
    (a60 : PySem.W.nsIn K mainGlobals "_law_some_shop" = some (some (.ref f60)))
    (l60 : K.lookup f60 = some ⟨oc60, od60, .func (PySem.W.fnOf "_law_some_shop" "_law_some_shop" (defArgs s__law_some_shop) (defBody s__law_some_shop) (defScope s__law_some_shop) .none kV60 dc60 pm60 an60 cd60 ct60), sl60⟩) (c60 : PySem.W.codeIn K cd60 "_law_some_shop" = true) (k60 : PySem.W.keepIn K (.ref f60) = true)
    (a61 : PySem.W.nsIn K mainGlobals "_law_told" = some (some (.ref f61)))
    (l61 : K.lookup f61 = some ⟨oc61, od61, .func (PySem.W.fnOf "_law_told" "_law_told" (defArgs s__law_told) (defBody s__law_told) (defScope s__law_told) .none kV61 dc61 pm61 an61 cd61 ct61), sl61⟩) (c61 : PySem.W.codeIn K cd61 "_law_told" = true) (k61 : PySem.W.keepIn K (.ref f61) = true)
    (a62 : PySem.W.nsIn K mainGlobals "law" = some (some (.ref f62)))
    (l62 : K.lookup f62 = some ⟨oc62, od62, .func (PySem.W.fnOf "law" "law" (defArgs s_law) (defBody s_law) (defScope s_law) .none kV62 dc62 pm62 an62 cd62 ct62), sl62⟩) (c62 : PySem.W.codeIn K cd62 "law" = true) (k62 : PySem.W.keepIn K (.ref f62) = true)
    (z_ValueError : PySem.W.nsIn K mainGlobals "ValueError" = some none)
    (z_all : PySem.W.nsIn K mainGlobals "all" = some none)
    (z_any : PySem.W.nsIn K mainGlobals "any" = some none)
    (z_bool : PySem.W.nsIn K mainGlobals "bool" = some none)
    (z_enumerate : PySem.W.nsIn K mainGlobals "enumerate" = some none)
    (z_int : PySem.W.nsIn K mainGlobals "int" = some none)
    (z_isinstance : PySem.W.nsIn K mainGlobals "isinstance" = some none)
    (z_len : PySem.W.nsIn K mainGlobals "len" = some none)
    (z_list : PySem.W.nsIn K mainGlobals "list" = some none)
    (z_max : PySem.W.nsIn K mainGlobals "max" = some none)
    (z_min : PySem.W.nsIn K mainGlobals "min" = some none)
    (z_range : PySem.W.nsIn K mainGlobals "range" = some none)
    (z_reversed : PySem.W.nsIn K mainGlobals "reversed" = some none)
    (z_str : PySem.W.nsIn K mainGlobals "str" = some none)
    (z_sum : PySem.W.nsIn K mainGlobals "sum" = some none)
    (z_tuple : PySem.W.nsIn K mainGlobals "tuple" = some none)
    (z_zip : PySem.W.nsIn K mainGlobals "zip" = some none)
    {t_MOST_GOODS : Tok} (y_MOST_GOODS : PySem.W.nsIn K mainGlobals "MOST_GOODS" = some (some (.int 2 t_MOST_GOODS)))
    {t_MOST_IN_ALL : Tok} (y_MOST_IN_ALL : PySem.W.nsIn K mainGlobals "MOST_IN_ALL" = some (some (.int 100 t_MOST_IN_ALL)))
    {t_MOST_PIECES : Tok} (y_MOST_PIECES : PySem.W.nsIn K mainGlobals "MOST_PIECES" = some (some (.int 1000000 t_MOST_PIECES)))
    {t_MOST_RULES : Tok} (y_MOST_RULES : PySem.W.nsIn K mainGlobals "MOST_RULES" = some (some (.int 4 t_MOST_RULES)))
    {u_SUM_WORDS : Addr} {o_SUM_WORDS : Option Addr} {n_SUM_WORDS : Nat} {v_SUM_WORDS : Array (Option Value)} {p_SUM_WORDS_0 : Tok} {p_SUM_WORDS_1 : Tok} (y_SUM_WORDS : PySem.W.nsIn K mainGlobals "SUM_WORDS" = some (some (.ref u_SUM_WORDS))) (x_SUM_WORDS : K.lookup u_SUM_WORDS = some ⟨.type "tuple", o_SUM_WORDS, .seq #[.str "over" p_SUM_WORDS_0, .str "each" p_SUM_WORDS_1] n_SUM_WORDS, v_SUM_WORDS⟩)
    {c_Different : Addr} (e_Different : PySem.W.nsIn K mainGlobals "Different" = some (some (.ref c_Different)))
    {c_InvalidAct : Addr} (e_InvalidAct : PySem.W.nsIn K mainGlobals "InvalidAct" = some (some (.ref c_InvalidAct)))
    {c_InvalidActs : Addr} (e_InvalidActs : PySem.W.nsIn K mainGlobals "InvalidActs" = some (some (.ref c_InvalidActs)))
    {c_InvalidBasket : Addr} (e_InvalidBasket : PySem.W.nsIn K mainGlobals "InvalidBasket" = some (some (.ref c_InvalidBasket)))
    {c_InvalidKinds : Addr} (e_InvalidKinds : PySem.W.nsIn K mainGlobals "InvalidKinds" = some (some (.ref c_InvalidKinds)))
    {c_InvalidNumber : Addr} (e_InvalidNumber : PySem.W.nsIn K mainGlobals "InvalidNumber" = some (some (.ref c_InvalidNumber)))
    {c_InvalidOffers : Addr} (e_InvalidOffers : PySem.W.nsIn K mainGlobals "InvalidOffers" = some (some (.ref c_InvalidOffers)))
    {c_InvalidShop : Addr} (e_InvalidShop : PySem.W.nsIn K mainGlobals "InvalidShop" = some (some (.ref c_InvalidShop)))
    {c_NoFault : Addr} (e_NoFault : PySem.W.nsIn K mainGlobals "NoFault" = some (some (.ref c_NoFault)))
    {c_NotThere : Addr} (e_NotThere : PySem.W.nsIn K mainGlobals "NotThere" = some (some (.ref c_NotThere)))
    {c_NothingToUndo : Addr} (e_NothingToUndo : PySem.W.nsIn K mainGlobals "NothingToUndo" = some (some (.ref c_NothingToUndo)))
    {c_ParseError : Addr} (e_ParseError : PySem.W.nsIn K mainGlobals "ParseError" = some (some (.ref c_ParseError)))
    {c_PriceError : Addr} (e_PriceError : PySem.W.nsIn K mainGlobals "PriceError" = some (some (.ref c_PriceError)))
    (q_InvalidBasket : PySem.W.excIn K c_InvalidBasket [.type "ValueError", .type "Exception", .type "BaseException", .type "object"] "ValueError.__new__" = true) (p_InvalidBasket : PySem.W.keepIn K (.ref c_InvalidBasket) = true) (r_InvalidBasket : PySem.W.subIn K (.ref c_InvalidBasket) (.type "BaseException") = some true)
    (q_InvalidShop : PySem.W.excIn K c_InvalidShop [.type "ValueError", .type "Exception", .type "BaseException", .type "object"] "ValueError.__new__" = true) (p_InvalidShop : PySem.W.keepIn K (.ref c_InvalidShop) = true) (r_InvalidShop : PySem.W.subIn K (.ref c_InvalidShop) (.type "BaseException") = some true)
    (w_Different : PySem.W.typeIn K (.ref c_Different) = some (.type "type"))
    (w_InvalidAct : PySem.W.typeIn K (.ref c_InvalidAct) = some (.type "type"))
    (w_InvalidActs : PySem.W.typeIn K (.ref c_InvalidActs) = some (.type "type"))
    (w_InvalidBasket : PySem.W.typeIn K (.ref c_InvalidBasket) = some (.type "type"))
    (w_InvalidKinds : PySem.W.typeIn K (.ref c_InvalidKinds) = some (.type "type"))
    (w_InvalidNumber : PySem.W.typeIn K (.ref c_InvalidNumber) = some (.type "type"))
    (w_InvalidOffers : PySem.W.typeIn K (.ref c_InvalidOffers) = some (.type "type"))
    (w_InvalidShop : PySem.W.typeIn K (.ref c_InvalidShop) = some (.type "type"))
    (w_NoFault : PySem.W.typeIn K (.ref c_NoFault) = some (.type "type"))
    (w_NotThere : PySem.W.typeIn K (.ref c_NotThere) = some (.type "type"))
    (w_NothingToUndo : PySem.W.typeIn K (.ref c_NothingToUndo) = some (.type "type"))
    (w_ParseError : PySem.W.typeIn K (.ref c_ParseError) = some (.type "type"))
    (w_PriceError : PySem.W.typeIn K (.ref c_PriceError) = some (.type "type"))
    {d_InvalidShop : ClassData} (m_InvalidShop : PySem.W.clsIn K c_InvalidShop = some d_InvalidShop) (n_InvalidShop : d_InvalidShop.mro = [.ref c_InvalidShop, .ref c_PriceError, .type "ValueError", .type "Exception", .type "BaseException", .type "object"])
    (v_InvalidShop : PySem.W.findIn K (.ref c_InvalidShop) "__getattribute__" = some (some (.builtin "BaseException.__getattribute__"))) (j_InvalidShop : PySem.W.findIn K (.ref c_InvalidShop) "__getattr__" = some none) (o_InvalidShop : PySem.W.hasDictIn K c_InvalidShop = true) (i_InvalidShop : PySem.W.findIn K (.ref c_InvalidShop) "__class__" = some (some (.builtin "object.__class__")))
    {d_InvalidBasket : ClassData} (m_InvalidBasket : PySem.W.clsIn K c_InvalidBasket = some d_InvalidBasket) (n_InvalidBasket : d_InvalidBasket.mro = [.ref c_InvalidBasket, .ref c_PriceError, .type "ValueError", .type "Exception", .type "BaseException", .type "object"])
    (v_InvalidBasket : PySem.W.findIn K (.ref c_InvalidBasket) "__getattribute__" = some (some (.builtin "BaseException.__getattribute__"))) (j_InvalidBasket : PySem.W.findIn K (.ref c_InvalidBasket) "__getattr__" = some none) (o_InvalidBasket : PySem.W.hasDictIn K c_InvalidBasket = true) (i_InvalidBasket : PySem.W.findIn K (.ref c_InvalidBasket) "__class__" = some (some (.builtin "object.__class__")))
    {d_InvalidActs : ClassData} (m_InvalidActs : PySem.W.clsIn K c_InvalidActs = some d_InvalidActs) (n_InvalidActs : d_InvalidActs.mro = [.ref c_InvalidActs, .ref c_PriceError, .type "ValueError", .type "Exception", .type "BaseException", .type "object"])
    (v_InvalidActs : PySem.W.findIn K (.ref c_InvalidActs) "__getattribute__" = some (some (.builtin "BaseException.__getattribute__"))) (j_InvalidActs : PySem.W.findIn K (.ref c_InvalidActs) "__getattr__" = some none) (o_InvalidActs : PySem.W.hasDictIn K c_InvalidActs = true) (i_InvalidActs : PySem.W.findIn K (.ref c_InvalidActs) "__class__" = some (some (.builtin "object.__class__")))
    {d_InvalidAct : ClassData} (m_InvalidAct : PySem.W.clsIn K c_InvalidAct = some d_InvalidAct) (n_InvalidAct : d_InvalidAct.mro = [.ref c_InvalidAct, .ref c_PriceError, .type "ValueError", .type "Exception", .type "BaseException", .type "object"])
    (v_InvalidAct : PySem.W.findIn K (.ref c_InvalidAct) "__getattribute__" = some (some (.builtin "BaseException.__getattribute__"))) (j_InvalidAct : PySem.W.findIn K (.ref c_InvalidAct) "__getattr__" = some none) (o_InvalidAct : PySem.W.hasDictIn K c_InvalidAct = true) (i_InvalidAct : PySem.W.findIn K (.ref c_InvalidAct) "__class__" = some (some (.builtin "object.__class__")))
    {d_InvalidOffers : ClassData} (m_InvalidOffers : PySem.W.clsIn K c_InvalidOffers = some d_InvalidOffers) (n_InvalidOffers : d_InvalidOffers.mro = [.ref c_InvalidOffers, .ref c_PriceError, .type "ValueError", .type "Exception", .type "BaseException", .type "object"])
    (v_InvalidOffers : PySem.W.findIn K (.ref c_InvalidOffers) "__getattribute__" = some (some (.builtin "BaseException.__getattribute__"))) (j_InvalidOffers : PySem.W.findIn K (.ref c_InvalidOffers) "__getattr__" = some none) (o_InvalidOffers : PySem.W.hasDictIn K c_InvalidOffers = true) (i_InvalidOffers : PySem.W.findIn K (.ref c_InvalidOffers) "__class__" = some (some (.builtin "object.__class__")))
    {d_InvalidKinds : ClassData} (m_InvalidKinds : PySem.W.clsIn K c_InvalidKinds = some d_InvalidKinds) (n_InvalidKinds : d_InvalidKinds.mro = [.ref c_InvalidKinds, .ref c_PriceError, .type "ValueError", .type "Exception", .type "BaseException", .type "object"])
    (v_InvalidKinds : PySem.W.findIn K (.ref c_InvalidKinds) "__getattribute__" = some (some (.builtin "BaseException.__getattribute__"))) (j_InvalidKinds : PySem.W.findIn K (.ref c_InvalidKinds) "__getattr__" = some none) (o_InvalidKinds : PySem.W.hasDictIn K c_InvalidKinds = true) (i_InvalidKinds : PySem.W.findIn K (.ref c_InvalidKinds) "__class__" = some (some (.builtin "object.__class__")))
    {d_InvalidNumber : ClassData} (m_InvalidNumber : PySem.W.clsIn K c_InvalidNumber = some d_InvalidNumber) (n_InvalidNumber : d_InvalidNumber.mro = [.ref c_InvalidNumber, .ref c_PriceError, .type "ValueError", .type "Exception", .type "BaseException", .type "object"])
    (v_InvalidNumber : PySem.W.findIn K (.ref c_InvalidNumber) "__getattribute__" = some (some (.builtin "BaseException.__getattribute__"))) (j_InvalidNumber : PySem.W.findIn K (.ref c_InvalidNumber) "__getattr__" = some none) (o_InvalidNumber : PySem.W.hasDictIn K c_InvalidNumber = true) (i_InvalidNumber : PySem.W.findIn K (.ref c_InvalidNumber) "__class__" = some (some (.builtin "object.__class__")))
    {d_Different : ClassData} (m_Different : PySem.W.clsIn K c_Different = some d_Different) (n_Different : d_Different.mro = [.ref c_Different, .ref c_PriceError, .type "ValueError", .type "Exception", .type "BaseException", .type "object"])
    (v_Different : PySem.W.findIn K (.ref c_Different) "__getattribute__" = some (some (.builtin "BaseException.__getattribute__"))) (j_Different : PySem.W.findIn K (.ref c_Different) "__getattr__" = some none) (o_Different : PySem.W.hasDictIn K c_Different = true) (i_Different : PySem.W.findIn K (.ref c_Different) "__class__" = some (some (.builtin "object.__class__")))
    {d_NoFault : ClassData} (m_NoFault : PySem.W.clsIn K c_NoFault = some d_NoFault) (n_NoFault : d_NoFault.mro = [.ref c_NoFault, .ref c_PriceError, .type "ValueError", .type "Exception", .type "BaseException", .type "object"])
    (v_NoFault : PySem.W.findIn K (.ref c_NoFault) "__getattribute__" = some (some (.builtin "BaseException.__getattribute__"))) (j_NoFault : PySem.W.findIn K (.ref c_NoFault) "__getattr__" = some none) (o_NoFault : PySem.W.hasDictIn K c_NoFault = true) (i_NoFault : PySem.W.findIn K (.ref c_NoFault) "__class__" = some (some (.builtin "object.__class__")))
    {d_NotThere : ClassData} (m_NotThere : PySem.W.clsIn K c_NotThere = some d_NotThere) (n_NotThere : d_NotThere.mro = [.ref c_NotThere, .ref c_PriceError, .type "ValueError", .type "Exception", .type "BaseException", .type "object"])
    (v_NotThere : PySem.W.findIn K (.ref c_NotThere) "__getattribute__" = some (some (.builtin "BaseException.__getattribute__"))) (j_NotThere : PySem.W.findIn K (.ref c_NotThere) "__getattr__" = some none) (o_NotThere : PySem.W.hasDictIn K c_NotThere = true) (i_NotThere : PySem.W.findIn K (.ref c_NotThere) "__class__" = some (some (.builtin "object.__class__")))
    {d_NothingToUndo : ClassData} (m_NothingToUndo : PySem.W.clsIn K c_NothingToUndo = some d_NothingToUndo) (n_NothingToUndo : d_NothingToUndo.mro = [.ref c_NothingToUndo, .ref c_PriceError, .type "ValueError", .type "Exception", .type "BaseException", .type "object"])
    (v_NothingToUndo : PySem.W.findIn K (.ref c_NothingToUndo) "__getattribute__" = some (some (.builtin "BaseException.__getattribute__"))) (j_NothingToUndo : PySem.W.findIn K (.ref c_NothingToUndo) "__getattr__" = some none) (o_NothingToUndo : PySem.W.hasDictIn K c_NothingToUndo = true) (i_NothingToUndo : PySem.W.findIn K (.ref c_NothingToUndo) "__class__" = some (some (.builtin "object.__class__")))
    {d_ParseError : ClassData} (m_ParseError : PySem.W.clsIn K c_ParseError = some d_ParseError) (n_ParseError : d_ParseError.mro = [.ref c_ParseError, .ref c_PriceError, .type "ValueError", .type "Exception", .type "BaseException", .type "object"])
    (v_ParseError : PySem.W.findIn K (.ref c_ParseError) "__getattribute__" = some (some (.builtin "BaseException.__getattribute__"))) (j_ParseError : PySem.W.findIn K (.ref c_ParseError) "__getattr__" = some none) (o_ParseError : PySem.W.hasDictIn K c_ParseError = true) (i_ParseError : PySem.W.findIn K (.ref c_ParseError) "__class__" = some (some (.builtin "object.__class__")))
    (bP : PySem.W.subIn K (.ref c_PriceError) (.type "BaseException") = some true) (iP : PySem.W.isClsIn K c_PriceError = true)
    (hn : PySem.W.specialIn K (.builtin "object.__class__") "__get__" = some (some (.builtin "getset_descriptor.__get__"))) (ht : PySem.W.takesIn K (.builtin "object.__class__") = some true)
    (nd : [c_PriceError, c_InvalidShop, c_InvalidBasket, c_InvalidActs, c_InvalidAct, c_InvalidOffers, c_InvalidKinds, c_InvalidNumber, c_Different, c_NoFault, c_NotThere, c_NothingToUndo, c_ParseError].Nodup)
    (D0 : ∀ ns : List Int, ns.length ≤ 63 → ∃ o, d_law [.im (.fz (ns.map D.int))] = .ok (.im (.bl true)) o) :
    ∃ fd : FuncData, (∀ (s : Shared) (v : Value), BindsTo s fd ⟨[v], []⟩ [("_law_script", v)]) ∧ ∀ base : Heap, K.In base → base.Ns mainGlobals mg → FnOk l.prog w K mg base (L2.CX l.prog w) 14 fa fd ["_law_script"] (spLaw K) := by
  have e := hfa.symm.trans (PySem.W.mg_of X G a62)
  cases e
  have B : Bl K mg := ⟨PySem.W.mg_none_of X G z_ValueError, PySem.W.mg_none_of X G z_all, PySem.W.mg_none_of X G z_any, PySem.W.mg_none_of X G z_bool, PySem.W.mg_none_of X G z_enumerate, PySem.W.mg_none_of X G z_int, PySem.W.mg_none_of X G z_isinstance, PySem.W.mg_none_of X G z_len, PySem.W.mg_none_of X G z_list, PySem.W.mg_none_of X G z_max, PySem.W.mg_none_of X G z_min, PySem.W.mg_none_of X G z_range, PySem.W.mg_none_of X G z_reversed, PySem.W.mg_none_of X G z_str, PySem.W.mg_none_of X G z_sum, PySem.W.mg_none_of X G z_tuple, PySem.W.mg_none_of X G z_zip, ⟨_, PySem.W.mg_of X G y_MOST_GOODS, _, rfl⟩, ⟨_, PySem.W.mg_of X G y_MOST_IN_ALL, _, rfl⟩, ⟨_, PySem.W.mg_of X G y_MOST_PIECES, _, rfl⟩, ⟨_, PySem.W.mg_of X G y_MOST_RULES, _, rfl⟩, ⟨_, .ref u_SUM_WORDS, PySem.W.mg_of X G y_SUM_WORDS, rfl, fun _ _ => .tup (xs := [.str "over", .str "each"]) (.inr ⟨_, _, _, x_SUM_WORDS, rfl, rfl, by show (2 : Nat) ≤ sizeLine; decide, (.cons ⟨_, rfl⟩ (.cons ⟨_, rfl⟩ .nil))⟩) (.cons (.str _) (.cons (.str _) .nil))⟩, ⟨_, PySem.W.mg_of X G e_InvalidBasket, q_InvalidBasket, p_InvalidBasket, r_InvalidBasket, w_InvalidBasket⟩, ⟨_, PySem.W.mg_of X G e_InvalidShop, q_InvalidShop, p_InvalidShop, r_InvalidShop, w_InvalidShop⟩⟩
  have F0 := fun_mk (st := s_is_integer) l0 c0 k0
  have C0 : Cd K mg "is_integer" s_is_integer ["value"] _ _ := ⟨F0, PySem.W.mg_of X G a0, F0.binds (ps := ["value"]) fun _ _ _ _ _ _ us hl => match us, hl with | [_], _ => rfl⟩
  have F1 := fun_mk (st := s_is_between) l1 c1 k1
  have C1 : Cd K mg "is_between" s_is_between ["value", "low", "high"] _ _ := ⟨F1, PySem.W.mg_of X G a1, F1.binds (ps := ["value", "low", "high"]) fun _ _ _ _ _ _ us hl => match us, hl with | [_, _, _], _ => rfl⟩
  have F2 := fun_mk (st := s_is_tuple_of) l2 c2 k2
  have C2 : Cd K mg "is_tuple_of" s_is_tuple_of ["value", "length"] _ _ := ⟨F2, PySem.W.mg_of X G a2, F2.binds (ps := ["value", "length"]) fun _ _ _ _ _ _ us hl => match us, hl with | [_, _], _ => rfl⟩
  have F3 := fun_mk (st := s_is_most) l3 c3 k3
  have C3 : Cd K mg "is_most" s_is_most ["value"] _ _ := ⟨F3, PySem.W.mg_of X G a3, F3.binds (ps := ["value"]) fun _ _ _ _ _ _ us hl => match us, hl with | [_], _ => rfl⟩
  have F4 := fun_mk (st := s_is_good) l4 c4 k4
  have C4 : Cd K mg "is_good" s_is_good ["value"] _ _ := ⟨F4, PySem.W.mg_of X G a4, F4.binds (ps := ["value"]) fun _ _ _ _ _ _ us hl => match us, hl with | [_], _ => rfl⟩
  have F5 := fun_mk (st := s_is_pack) l5 c5 k5
  have C5 : Cd K mg "is_pack" s_is_pack ["value", "many_goods"] _ _ := ⟨F5, PySem.W.mg_of X G a5, F5.binds (ps := ["value", "many_goods"]) fun _ _ _ _ _ _ us hl => match us, hl with | [_, _], _ => rfl⟩
  have F6 := fun_mk (st := s_is_from) l6 c6 k6
  have C6 : Cd K mg "is_from" s_is_from ["value", "many_goods"] _ _ := ⟨F6, PySem.W.mg_of X G a6, F6.binds (ps := ["value", "many_goods"]) fun _ _ _ _ _ _ us hl => match us, hl with | [_, _], _ => rfl⟩
  have F7 := fun_mk (st := s_is_over) l7 c7 k7
  have C7 : Cd K mg "is_over" s_is_over ["value"] _ _ := ⟨F7, PySem.W.mg_of X G a7, F7.binds (ps := ["value"]) fun _ _ _ _ _ _ us hl => match us, hl with | [_], _ => rfl⟩
  have F8 := fun_mk (st := s_is_each) l8 c8 k8
  have C8 : Cd K mg "is_each" s_is_each ["value"] _ _ := ⟨F8, PySem.W.mg_of X G a8, F8.binds (ps := ["value"]) fun _ _ _ _ _ _ us hl => match us, hl with | [_], _ => rfl⟩
  have F9 := fun_mk (st := s_is_rule) l9 c9 k9
  have C9 : Cd K mg "is_rule" s_is_rule ["value", "many_goods"] _ _ := ⟨F9, PySem.W.mg_of X G a9, F9.binds (ps := ["value", "many_goods"]) fun _ _ _ _ _ _ us hl => match us, hl with | [_, _], _ => rfl⟩
  have F10 := fun_mk (st := s_is_endless_each) l10 c10 k10
  have C10 : Cd K mg "is_endless_each" s_is_endless_each ["rule"] _ _ := ⟨F10, PySem.W.mg_of X G a10, F10.binds (ps := ["rule"]) fun _ _ _ _ _ _ us hl => match us, hl with | [_], _ => rfl⟩
  have F11 := fun_mk (st := s_are_goods) l11 c11 k11
  have C11 : Cd K mg "are_goods" s_are_goods ["value"] _ _ := ⟨F11, PySem.W.mg_of X G a11, F11.binds (ps := ["value"]) fun _ _ _ _ _ _ us hl => match us, hl with | [_], _ => rfl⟩
  have F12 := fun_mk (st := s_are_rules) l12 c12 k12
  have C12 : Cd K mg "are_rules" s_are_rules ["value", "many_goods"] _ _ := ⟨F12, PySem.W.mg_of X G a12, F12.binds (ps := ["value", "many_goods"]) fun _ _ _ _ _ _ us hl => match us, hl with | [_, _], _ => rfl⟩
  have F13 := fun_mk (st := s_is_shop) l13 c13 k13
  have C13 : Cd K mg "is_shop" s_is_shop ["value"] _ _ := ⟨F13, PySem.W.mg_of X G a13, F13.binds (ps := ["value"]) fun _ _ _ _ _ _ us hl => match us, hl with | [_], _ => rfl⟩
  have F14 := fun_mk (st := s_check_shop) l14 c14 k14
  have C14 : Cd K mg "check_shop" s_check_shop ["shop"] _ _ := ⟨F14, PySem.W.mg_of X G a14, F14.binds (ps := ["shop"]) fun _ _ _ _ _ _ us hl => match us, hl with | [_], _ => rfl⟩
  have F15 := fun_mk (st := s_are_pieces) l15 c15 k15
  have C15 : Cd K mg "are_pieces" s_are_pieces ["shop", "value"] _ _ := ⟨F15, PySem.W.mg_of X G a15, F15.binds (ps := ["shop", "value"]) fun _ _ _ _ _ _ us hl => match us, hl with | [_, _], _ => rfl⟩
  have F16 := fun_mk (st := s_is_basket) l16 c16 k16
  have C16 : Cd K mg "is_basket" s_is_basket ["shop", "value"] _ _ := ⟨F16, PySem.W.mg_of X G a16, F16.binds (ps := ["shop", "value"]) fun _ _ _ _ _ _ us hl => match us, hl with | [_, _], _ => rfl⟩
  have F17 := fun_mk (st := s_check_basket) l17 c17 k17
  have C17 : Cd K mg "check_basket" s_check_basket ["shop", "basket"] _ _ := ⟨F17, PySem.W.mg_of X G a17, F17.binds (ps := ["shop", "basket"]) fun _ _ _ _ _ _ us hl => match us, hl with | [_, _], _ => rfl⟩
  have F18 := fun_mk (st := s_full_times) l18 c18 k18
  have C18 : Cd K mg "full_times" s_full_times ["whole", "part", "most"] _ _ := ⟨F18, PySem.W.mg_of X G a18, F18.binds (ps := ["whole", "part", "most"]) fun _ _ _ _ _ _ us hl => match us, hl with | [_, _, _], _ => rfl⟩
  have F19 := fun_mk (st := s_fitting_rule) l19 c19 k19
  have C19 : Cd K mg "fitting_rule" s_fitting_rule ["rules", "good", "pieces"] _ _ := ⟨F19, PySem.W.mg_of X G a19, F19.binds (ps := ["rules", "good", "pieces"]) fun _ _ _ _ _ _ us hl => match us, hl with | [_, _, _], _ => rfl⟩
  have F20 := fun_mk (st := s_pack_times) l20 c20 k20
  have C20 : Cd K mg "pack_times" s_pack_times ["rule", "pieces"] _ _ := ⟨F20, PySem.W.mg_of X G a20, F20.binds (ps := ["rule", "pieces"]) fun _ _ _ _ _ _ us hl => match us, hl with | [_, _], _ => rfl⟩
  have F21 := fun_mk (st := s_pack_amount) l21 c21 k21
  have C21 : Cd K mg "pack_amount" s_pack_amount ["rule", "price", "pieces"] _ _ := ⟨F21, PySem.W.mg_of X G a21, F21.binds (ps := ["rule", "price", "pieces"]) fun _ _ _ _ _ _ us hl => match us, hl with | [_, _, _], _ => rfl⟩
  have F22 := fun_mk (st := s_good_amount) l22 c22 k22
  have C22 : Cd K mg "good_amount" s_good_amount ["shop", "good", "pieces"] _ _ := ⟨F22, PySem.W.mg_of X G a22, F22.binds (ps := ["shop", "good", "pieces"]) fun _ _ _ _ _ _ us hl => match us, hl with | [_, _, _], _ => rfl⟩
  have F23 := fun_mk (st := s_off_times) l23 c23 k23
  have C23 : Cd K mg "off_times" s_off_times ["rule", "left"] _ _ := ⟨F23, PySem.W.mg_of X G a23, F23.binds (ps := ["rule", "left"]) fun _ _ _ _ _ _ us hl => match us, hl with | [_, _], _ => rfl⟩
  have F24 := fun_mk (st := s_apply_sums) l24 c24 k24
  have C24 : Cd K mg "apply_sums" s_apply_sums ["rules", "total"] _ _ := ⟨F24, PySem.W.mg_of X G a24, F24.binds (ps := ["rules", "total"]) fun _ _ _ _ _ _ us hl => match us, hl with | [_, _], _ => rfl⟩
  have F25 := fun_mk (st := s_amounts_of) l25 c25 k25
  have C25 : Cd K mg "amounts_of" s_amounts_of ["shop", "basket"] _ _ := ⟨F25, PySem.W.mg_of X G a25, F25.binds (ps := ["shop", "basket"]) fun _ _ _ _ _ _ us hl => match us, hl with | [_, _], _ => rfl⟩
  have F26 := fun_mk (st := s_left_of) l26 c26 k26
  have C26 : Cd K mg "left_of" s_left_of ["rules", "total"] _ _ := ⟨F26, PySem.W.mg_of X G a26, F26.binds (ps := ["rules", "total"]) fun _ _ _ _ _ _ us hl => match us, hl with | [_, _], _ => rfl⟩
  have F27 := fun_mk (st := s_charge_of) l27 c27 k27
  have C27 : Cd K mg "charge_of" s_charge_of ["shop", "basket"] _ _ := ⟨F27, PySem.W.mg_of X G a27, F27.binds (ps := ["shop", "basket"]) fun _ _ _ _ _ _ us hl => match us, hl with | [_, _], _ => rfl⟩
  have F28 := fun_mk (st := s_uses_of) l28 c28 k28
  have C28 : Cd K mg "uses_of" s_uses_of ["shop", "basket"] _ _ := ⟨F28, PySem.W.mg_of X G a28, F28.binds (ps := ["shop", "basket"]) fun _ _ _ _ _ _ us hl => match us, hl with | [_, _], _ => rfl⟩
  have F29 := fun_mk (st := s_costs_of) l29 c29 k29
  have C29 : Cd K mg "costs_of" s_costs_of ["shop", "basket"] _ _ := ⟨F29, PySem.W.mg_of X G a29, F29.binds (ps := ["shop", "basket"]) fun _ _ _ _ _ _ us hl => match us, hl with | [_, _], _ => rfl⟩
  have F30 := fun_mk (st := s_gain_of) l30 c30 k30
  have C30 : Cd K mg "gain_of" s_gain_of ["shop", "basket"] _ _ := ⟨F30, PySem.W.mg_of X G a30, F30.binds (ps := ["shop", "basket"]) fun _ _ _ _ _ _ us hl => match us, hl with | [_, _], _ => rfl⟩
  have F31 := fun_mk (st := s_amounts) l31 c31 k31
  have C31 : Cd K mg "amounts" s_amounts ["shop", "basket"] _ _ := ⟨F31, PySem.W.mg_of X G a31, F31.binds (ps := ["shop", "basket"]) fun _ _ _ _ _ _ us hl => match us, hl with | [_, _], _ => rfl⟩
  have F32 := fun_mk (st := s_charge) l32 c32 k32
  have C32 : Cd K mg "charge" s_charge ["shop", "basket"] _ _ := ⟨F32, PySem.W.mg_of X G a32, F32.binds (ps := ["shop", "basket"]) fun _ _ _ _ _ _ us hl => match us, hl with | [_, _], _ => rfl⟩
  have F33 := fun_mk (st := s_uses) l33 c33 k33
  have C33 : Cd K mg "uses" s_uses ["shop", "basket"] _ _ := ⟨F33, PySem.W.mg_of X G a33, F33.binds (ps := ["shop", "basket"]) fun _ _ _ _ _ _ us hl => match us, hl with | [_, _], _ => rfl⟩
  have F34 := fun_mk (st := s_gain) l34 c34 k34
  have C34 : Cd K mg "gain" s_gain ["shop", "basket"] _ _ := ⟨F34, PySem.W.mg_of X G a34, F34.binds (ps := ["shop", "basket"]) fun _ _ _ _ _ _ us hl => match us, hl with | [_, _], _ => rfl⟩
  have F35 := fun_mk (st := s_without_rule) l35 c35 k35
  have C35 : Cd K mg "without_rule" s_without_rule ["shop", "number"] _ _ := ⟨F35, PySem.W.mg_of X G a35, F35.binds (ps := ["shop", "number"]) fun _ _ _ _ _ _ us hl => match us, hl with | [_, _], _ => rfl⟩
  have F36 := fun_mk (st := s_effects) l36 c36 k36
  have C36 : Cd K mg "effects" s_effects ["shop", "basket"] _ _ := ⟨F36, PySem.W.mg_of X G a36, F36.binds (ps := ["shop", "basket"]) fun _ _ _ _ _ _ us hl => match us, hl with | [_, _], _ => rfl⟩
  have F37 := fun_mk (st := s_baskets_of) l37 c37 k37
  have C37 : Cd K mg "baskets_of" s_baskets_of ["pieces", "limits"] _ _ := ⟨F37, PySem.W.mg_of X G a37, F37.binds (ps := ["pieces", "limits"]) fun _ _ _ _ _ _ us hl => match us, hl with | [_, _], _ => rfl⟩
  have F38 := fun_mk (st := s_baskets_within) l38 c38 k38
  have C38 : Cd K mg "baskets_within" s_baskets_within ["limits"] _ _ := ⟨F38, PySem.W.mg_of X G a38, F38.binds (ps := ["limits"]) fun _ _ _ _ _ _ us hl => match us, hl with | [_], _ => rfl⟩
  have F39 := fun_mk (st := s_sums_within) l39 c39 k39
  have C39 : Cd K mg "sums_within" s_sums_within ["shop", "limits"] _ _ := ⟨F39, PySem.W.mg_of X G a39, F39.binds (ps := ["shop", "limits"]) fun _ _ _ _ _ _ us hl => match us, hl with | [_, _], _ => rfl⟩
  have F40 := fun_mk (st := s_charges_within) l40 c40 k40
  have C40 : Cd K mg "charges_within" s_charges_within ["shop", "limits"] _ _ := ⟨F40, PySem.W.mg_of X G a40, F40.binds (ps := ["shop", "limits"]) fun _ _ _ _ _ _ us hl => match us, hl with | [_, _], _ => rfl⟩
  have F41 := fun_mk (st := s_rounded_up) l41 c41 k41
  have C41 : Cd K mg "rounded_up" s_rounded_up ["whole", "part"] _ _ := ⟨F41, PySem.W.mg_of X G a41, F41.binds (ps := ["whole", "part"]) fun _ _ _ _ _ _ us hl => match us, hl with | [_, _], _ => rfl⟩
  have F42 := fun_mk (st := s_sum_growth) l42 c42 k42
  have C42 : Cd K mg "sum_growth" s_sum_growth ["rules"] _ _ := ⟨F42, PySem.W.mg_of X G a42, F42.binds (ps := ["rules"]) fun _ _ _ _ _ _ us hl => match us, hl with | [_], _ => rfl⟩
  have F43 := fun_mk (st := s_good_growth) l43 c43 k43
  have C43 : Cd K mg "good_growth" s_good_growth ["shop", "good"] _ _ := ⟨F43, PySem.W.mg_of X G a43, F43.binds (ps := ["shop", "good"]) fun _ _ _ _ _ _ us hl => match us, hl with | [_, _], _ => rfl⟩
  have F44 := fun_mk (st := s_settled_pieces) l44 c44 k44
  have C44 : Cd K mg "settled_pieces" s_settled_pieces ["shop", "good", "total"] _ _ := ⟨F44, PySem.W.mg_of X G a44, F44.binds (ps := ["shop", "good", "total"]) fun _ _ _ _ _ _ us hl => match us, hl with | [_, _, _], _ => rfl⟩
  have F45 := fun_mk (st := s_cycle) l45 c45 k45
  have C45 : Cd K mg "cycle" s_cycle ["shop", "good"] _ _ := ⟨F45, PySem.W.mg_of X G a45, F45.binds (ps := ["shop", "good"]) fun _ _ _ _ _ _ us hl => match us, hl with | [_, _], _ => rfl⟩
  have F46 := fun_mk (st := s_cycles) l46 c46 k46
  have C46 : Cd K mg "cycles" s_cycles ["shop"] _ _ := ⟨F46, PySem.W.mg_of X G a46, F46.binds (ps := ["shop"]) fun _ _ _ _ _ _ us hl => match us, hl with | [_], _ => rfl⟩
  have F47 := fun_mk (st := s_check_few) l47 c47 k47
  have C47 : Cd K mg "check_few" s_check_few ["shop", "basket"] _ _ := ⟨F47, PySem.W.mg_of X G a47, F47.binds (ps := ["shop", "basket"]) fun _ _ _ _ _ _ us hl => match us, hl with | [_, _], _ => rfl⟩
  have F48 := fun_mk (st := s_contains) l48 c48 k48
  have C48 : Cd K mg "contains" s_contains ["greater", "basket"] _ _ := ⟨F48, PySem.W.mg_of X G a48, F48.binds (ps := ["greater", "basket"]) fun _ _ _ _ _ _ us hl => match us, hl with | [_, _], _ => rfl⟩
  have F49 := fun_mk (st := s_limits_above) l49 c49 k49
  have C49 : Cd K mg "limits_above" s_limits_above ["shop", "basket"] _ _ := ⟨F49, PySem.W.mg_of X G a49, F49.binds (ps := ["shop", "basket"]) fun _ _ _ _ _ _ us hl => match us, hl with | [_, _], _ => rfl⟩
  have F50 := fun_mk (st := s_charges_above) l50 c50 k50
  have C50 : Cd K mg "charges_above" s_charges_above ["shop", "basket"] _ _ := ⟨F50, PySem.W.mg_of X G a50, F50.binds (ps := ["shop", "basket"]) fun _ _ _ _ _ _ us hl => match us, hl with | [_, _], _ => rfl⟩
  have F51 := fun_mk (st := s_least_above) l51 c51 k51
  have C51 : Cd K mg "least_above" s_least_above ["shop", "basket"] _ _ := ⟨F51, PySem.W.mg_of X G a51, F51.binds (ps := ["shop", "basket"]) fun _ _ _ _ _ _ us hl => match us, hl with | [_, _], _ => rfl⟩
  have F52 := fun_mk (st := s_fewest_more) l52 c52 k52
  have C52 : Cd K mg "fewest_more" s_fewest_more ["shop", "basket"] _ _ := ⟨F52, PySem.W.mg_of X G a52, F52.binds (ps := ["shop", "basket"]) fun _ _ _ _ _ _ us hl => match us, hl with | [_, _], _ => rfl⟩
  have F53 := fun_mk (st := s__law_which) l53 c53 k53
  have C53 : Cd K mg "_law_which" s__law_which ["_law_e"] _ _ := ⟨F53, PySem.W.mg_of X G a53, F53.binds (ps := ["_law_e"]) fun _ _ _ _ _ _ us hl => match us, hl with | [_], _ => rfl⟩
  have F54 := fun_mk (st := s__law_cell_at) l54 c54 k54
  have C54 : Cd K mg "_law_cell_at" s__law_cell_at ["_law_script", "_law_k"] _ _ := ⟨F54, PySem.W.mg_of X G a54, F54.binds (ps := ["_law_script", "_law_k"]) fun _ _ _ _ _ _ us hl => match us, hl with | [_, _], _ => rfl⟩
  have F55 := fun_mk (st := s__law_mixed) l55 c55 k55
  have C55 : Cd K mg "_law_mixed" s__law_mixed ["_law_script", "_law_k", "_law_many"] _ _ := ⟨F55, PySem.W.mg_of X G a55, F55.binds (ps := ["_law_script", "_law_k", "_law_many"]) fun _ _ _ _ _ _ us hl => match us, hl with | [_, _, _], _ => rfl⟩
  have F56 := fun_mk (st := s__law_draw) l56 c56 k56
  have C56 : Cd K mg "_law_draw" s__law_draw ["_law_script", "_law_state", "_law_many"] _ _ := ⟨F56, PySem.W.mg_of X G a56, F56.binds (ps := ["_law_script", "_law_state", "_law_many"]) fun _ _ _ _ _ _ us hl => match us, hl with | [_, _, _], _ => rfl⟩
  have F57 := fun_mk (st := s__law_pick) l57 c57 k57
  have C57 : Cd K mg "_law_pick" s__law_pick ["_law_script", "_law_state", "_law_some"] _ _ := ⟨F57, PySem.W.mg_of X G a57, F57.binds (ps := ["_law_script", "_law_state", "_law_some"]) fun _ _ _ _ _ _ us hl => match us, hl with | [_, _, _], _ => rfl⟩
  have F58 := fun_mk (st := s__law_some_rule) l58 c58 k58
  have C58 : Cd K mg "_law_some_rule" s__law_some_rule ["_law_script", "_law_state", "_law_goods", "_law_capped"] _ _ := ⟨F58, PySem.W.mg_of X G a58, F58.binds (ps := ["_law_script", "_law_state", "_law_goods", "_law_capped"]) fun _ _ _ _ _ _ us hl => match us, hl with | [_, _, _, _], _ => rfl⟩
  have F59 := fun_mk (st := s__law_some_goods) l59 c59 k59
  have C59 : Cd K mg "_law_some_goods" s__law_some_goods ["_law_script", "_law_state"] _ _ := ⟨F59, PySem.W.mg_of X G a59, F59.binds (ps := ["_law_script", "_law_state"]) fun _ _ _ _ _ _ us hl => match us, hl with | [_, _], _ => rfl⟩
  have F60 := fun_mk (st := s__law_some_shop) l60 c60 k60
  have C60 : Cd K mg "_law_some_shop" s__law_some_shop ["_law_script", "_law_state"] _ _ := ⟨F60, PySem.W.mg_of X G a60, F60.binds (ps := ["_law_script", "_law_state"]) fun _ _ _ _ _ _ us hl => match us, hl with | [_, _], _ => rfl⟩
  have F61 := fun_mk (st := s__law_told) l61 c61 k61
  have C61 : Cd K mg "_law_told" s__law_told ["_law_shop", "_law_basket", "_law_which_here"] _ _ := ⟨F61, PySem.W.mg_of X G a61, F61.binds (ps := ["_law_shop", "_law_basket", "_law_which_here"]) fun _ _ _ _ _ _ us hl => match us, hl with | [_, _, _], _ => rfl⟩
  have F62 := fun_mk (st := s_law) l62 c62 k62
  have C62 : Cd K mg "law" s_law ["_law_script"] _ _ := ⟨F62, PySem.W.mg_of X G a62, F62.binds (ps := ["_law_script"]) fun _ _ _ _ _ _ us hl => match us, hl with | [_], _ => rfl⟩
  refine ⟨PySem.W.fnOf "law" "law" (defArgs s_law) (defBody s_law) (defScope s_law) .none kV62 dc62 pm62 an62 cd62 ct62, fun s v => .of_eq rfl, fun base _ _ => ?_⟩
  have XS : Exn K mg c_PriceError [c_InvalidShop, c_InvalidBasket, c_InvalidActs, c_InvalidAct, c_InvalidOffers, c_InvalidKinds, c_InvalidNumber, c_Different, c_NoFault, c_NotThere, c_NothingToUndo, c_ParseError] := ⟨(.cons (PySem.W.mg_of X G e_InvalidShop) ⟨⟨_, m_InvalidShop, n_InvalidShop⟩, w_InvalidShop, v_InvalidShop, j_InvalidShop, o_InvalidShop, i_InvalidShop⟩ (.cons (PySem.W.mg_of X G e_InvalidBasket) ⟨⟨_, m_InvalidBasket, n_InvalidBasket⟩, w_InvalidBasket, v_InvalidBasket, j_InvalidBasket, o_InvalidBasket, i_InvalidBasket⟩ (.cons (PySem.W.mg_of X G e_InvalidActs) ⟨⟨_, m_InvalidActs, n_InvalidActs⟩, w_InvalidActs, v_InvalidActs, j_InvalidActs, o_InvalidActs, i_InvalidActs⟩ (.cons (PySem.W.mg_of X G e_InvalidAct) ⟨⟨_, m_InvalidAct, n_InvalidAct⟩, w_InvalidAct, v_InvalidAct, j_InvalidAct, o_InvalidAct, i_InvalidAct⟩ (.cons (PySem.W.mg_of X G e_InvalidOffers) ⟨⟨_, m_InvalidOffers, n_InvalidOffers⟩, w_InvalidOffers, v_InvalidOffers, j_InvalidOffers, o_InvalidOffers, i_InvalidOffers⟩ (.cons (PySem.W.mg_of X G e_InvalidKinds) ⟨⟨_, m_InvalidKinds, n_InvalidKinds⟩, w_InvalidKinds, v_InvalidKinds, j_InvalidKinds, o_InvalidKinds, i_InvalidKinds⟩ (.cons (PySem.W.mg_of X G e_InvalidNumber) ⟨⟨_, m_InvalidNumber, n_InvalidNumber⟩, w_InvalidNumber, v_InvalidNumber, j_InvalidNumber, o_InvalidNumber, i_InvalidNumber⟩ (.cons (PySem.W.mg_of X G e_Different) ⟨⟨_, m_Different, n_Different⟩, w_Different, v_Different, j_Different, o_Different, i_Different⟩ (.cons (PySem.W.mg_of X G e_NoFault) ⟨⟨_, m_NoFault, n_NoFault⟩, w_NoFault, v_NoFault, j_NoFault, o_NoFault, i_NoFault⟩ (.cons (PySem.W.mg_of X G e_NotThere) ⟨⟨_, m_NotThere, n_NotThere⟩, w_NotThere, v_NotThere, j_NotThere, o_NotThere, i_NotThere⟩ (.cons (PySem.W.mg_of X G e_NothingToUndo) ⟨⟨_, m_NothingToUndo, n_NothingToUndo⟩, w_NothingToUndo, v_NothingToUndo, j_NothingToUndo, o_NothingToUndo, i_NothingToUndo⟩ (.cons (PySem.W.mg_of X G e_ParseError) ⟨⟨_, m_ParseError, n_ParseError⟩, w_ParseError, v_ParseError, j_ParseError, o_ParseError, i_ParseError⟩ .nil)))))))))))), nd, PySem.W.mg_of X G e_PriceError, bP, iP, w_PriceError, hn, ht⟩
  have G0 := ok_is_integer (P := l.prog) (w := w) (base := base) B F0 
  have G1 := ok_is_between (P := l.prog) (w := w) (base := base) B F1 C0 G0
  have G2 := ok_is_tuple_of (P := l.prog) (w := w) (base := base) B F2 
  have G3 := ok_is_most (P := l.prog) (w := w) (base := base) B F3 C1 G1
  have G4 := ok_is_good (P := l.prog) (w := w) (base := base) B F4 C2 G2 C1 G1
  have G5 := ok_is_pack (P := l.prog) (w := w) (base := base) B F5 C2 G2 C1 G1 C3 G3
  have G6 := ok_is_from (P := l.prog) (w := w) (base := base) B F6 C2 G2 C1 G1
  have G7 := ok_is_over (P := l.prog) (w := w) (base := base) B F7 C2 G2 C1 G1
  have G8 := ok_is_each (P := l.prog) (w := w) (base := base) B F8 C2 G2 C3 G3 C1 G1
  have G9 := ok_is_rule (P := l.prog) (w := w) (base := base) B F9 C5 G5 C6 G6 C7 G7 C8 G8
  have G10 := ok_is_endless_each (P := l.prog) (w := w) (base := base) B F10 
  have G11 := ok_are_goods (P := l.prog) (w := w) (base := base) B F11 C4 G4
  have G12 := ok_are_rules (P := l.prog) (w := w) (base := base) B F12 C9 G9 C10 G10
  have G13 := ok_is_shop (P := l.prog) (w := w) (base := base) B F13 C2 G2 C11 G11 C12 G12
  have G14 := ok_check_shop (P := l.prog) (w := w) (base := base) B F14 C13 G13
  have G15 := ok_are_pieces (P := l.prog) (w := w) (base := base) B F15 C2 G2 C0 G0
  have G16 := ok_is_basket (P := l.prog) (w := w) (base := base) B F16 C14 G14 C15 G15
  have G17 := ok_check_basket (P := l.prog) (w := w) (base := base) B F17 C16 G16
  have G18 := ok_full_times (P := l.prog) (w := w) (base := base) B F18 
  have G19 := ok_fitting_rule (P := l.prog) (w := w) (base := base) B F19 
  have G20 := ok_pack_times (P := l.prog) (w := w) (base := base) B F20 C18 G18
  have G21 := ok_pack_amount (P := l.prog) (w := w) (base := base) B F21 C20 G20
  have G22 := ok_good_amount (P := l.prog) (w := w) (base := base) B F22 C19 G19 C21 G21
  have G23 := ok_off_times (P := l.prog) (w := w) (base := base) B F23 C18 G18
  have G24 := ok_apply_sums (P := l.prog) (w := w) (base := base) B F24 C23 G23
  have G25 := ok_amounts_of (P := l.prog) (w := w) (base := base) B F25 C22 G22
  have G26 := ok_left_of (P := l.prog) (w := w) (base := base) B F26 C24 G24
  have G27 := ok_charge_of (P := l.prog) (w := w) (base := base) B F27 C26 G26 C25 G25
  have G28 := ok_uses_of (P := l.prog) (w := w) (base := base) B F28 C24 G24 C19 G19 C25 G25 C20 G20
  have G29 := ok_costs_of (P := l.prog) (w := w) (base := base) B F29 
  have G30 := ok_gain_of (P := l.prog) (w := w) (base := base) B F30 C27 G27 C29 G29
  have G31 := ok_amounts (P := l.prog) (w := w) (base := base) B F31 C17 G17 C25 G25
  have G32 := ok_charge (P := l.prog) (w := w) (base := base) B F32 C17 G17 C27 G27
  have G33 := ok_uses (P := l.prog) (w := w) (base := base) B F33 C17 G17 C28 G28
  have G34 := ok_gain (P := l.prog) (w := w) (base := base) B F34 C17 G17 C30 G30
  have G35 := ok_without_rule (P := l.prog) (w := w) (base := base) B F35 
  have G36 := ok_effects (P := l.prog) (w := w) (base := base) B F36 C17 G17 C27 G27 C35 G35
  have G37 := ok_baskets_of (P := l.prog) (w := w) (base := base) B F37 
  have G38 := ok_baskets_within (P := l.prog) (w := w) (base := base) B F38 C37 G37
  have G39 := ok_sums_within (P := l.prog) (w := w) (base := base) B F39 C22 G22
  have G40 := ok_charges_within (P := l.prog) (w := w) (base := base) B F40 C39 G39 C26 G26
  have G41 := ok_rounded_up (P := l.prog) (w := w) (base := base) B F41 
  have G42 := ok_sum_growth (P := l.prog) (w := w) (base := base) B F42 C41 G41
  have G43 := ok_good_growth (P := l.prog) (w := w) (base := base) B F43 C19 G19
  have G44 := ok_settled_pieces (P := l.prog) (w := w) (base := base) B F44 C43 G43 C22 G22 C41 G41
  have G45 := ok_cycle (P := l.prog) (w := w) (base := base) B F45 C42 G42 C43 G43 C44 G44
  have G46 := ok_cycles (P := l.prog) (w := w) (base := base) B F46 C45 G45
  have G47 := ok_check_few (P := l.prog) (w := w) (base := base) B F47 C17 G17
  have G48 := ok_contains (P := l.prog) (w := w) (base := base) B F48 
  have G49 := ok_limits_above (P := l.prog) (w := w) (base := base) B F49 C46 G46
  have G50 := ok_charges_above (P := l.prog) (w := w) (base := base) B F50 C49 G49 C40 G40 C38 G38 C48 G48
  have G51 := ok_least_above (P := l.prog) (w := w) (base := base) B F51 C47 G47 C50 G50
  have G52 := ok_fewest_more (P := l.prog) (w := w) (base := base) B F52 C47 G47 C27 G27 C50 G50
  have G53 := ok__law_which (P := l.prog) (w := w) (base := base) XS B F53
  have G54 := ok__law_cell_at (P := l.prog) (w := w) (base := base) B F54 
  have G55 := ok__law_mixed (P := l.prog) (w := w) (base := base) B F55 C54 G54
  have G56 := ok__law_draw (P := l.prog) (w := w) (base := base) B F56 C55 G55
  have G57 := ok__law_pick (P := l.prog) (w := w) (base := base) B F57 C56 G56
  have G58 := ok__law_some_rule (P := l.prog) (w := w) (base := base) B F58 C56 G56 C57 G57
  have G59 := ok__law_some_goods (P := l.prog) (w := w) (base := base) B F59 C56 G56
  have G60 := ok__law_some_shop (P := l.prog) (w := w) (base := base) B F60 C59 G59 C56 G56 C58 G58
  have G61 := ok__law_told (P := l.prog) (w := w) (base := base) XS B F61 C32 G32 C31 G31 C33 G33 C34 G34 C36 G36 C51 G51 C52 G52 C53 G53
  have G62 := ok_law (P := l.prog) (w := w) (base := base) B F62 C60 G60 C61 G61
  exact law_ok G62 D0
end DL
namespace DL
open PySem PySem.Spec L2
theorem cb0 {v b : D} (h : isShop v = false) : d_check_basket [.im v, .im b] = .ex "InvalidShop" [.no, .no] := by
  have c := x_check_shop h
  have q : d_is_basket [.im v, .im b] = .ex "InvalidShop" [.no, .no] := by
    simp [d_is_basket, f_is_basket, c, finF, sEr, op2, op1, T.val, R.opt, toB, opL, vals, consT, disp, mvs, mkTup, callT, callI, argE, others, isAl, isAli, finT, outE, padE, runD, cpsOf, cpT, toI, slT, T.weak, metT, kApp, kExt, elemD, iT, iL, iR1, iR2, iE, iZ, onI]
  simp [d_check_basket, f_check_basket, q, finF, sEr, op2, op1, T.val, R.opt, toB, opL, vals, consT, disp, mvs, mkTup, callT, callI, argE, others, isAl, isAli, finT, outE, padE, runD, cpsOf, cpT, toI, slT, T.weak, metT, kApp, kExt, elemD, iT, iL, iR1, iR2, iE, iZ, onI]
section
variable {sh b : D} {x : Str} {o : En} (q : d_check_basket [.im sh, .im b] = .ex x o)
include q
theorem z0 : d_charge [.im sh, .im b] = .ex x [.no, .no] := by
  simp [d_charge, f_charge, q, finF, sEr, op2, op1, T.val, R.opt, toB, opL, vals, consT, disp, mvs, mkTup, callT, callI, argE, others, isAl, isAli, finT, outE, padE, runD, cpsOf, cpT, toI, slT, T.weak, metT, kApp, kExt, elemD, iT, iL, iR1, iR2, iE, iZ, onI]
theorem z1 : d_amounts [.im sh, .im b] = .ex x [.no, .no] := by
  simp [d_amounts, f_amounts, q, finF, sEr, op2, op1, T.val, R.opt, toB, opL, vals, consT, disp, mvs, mkTup, callT, callI, argE, others, isAl, isAli, finT, outE, padE, runD, cpsOf, cpT, toI, slT, T.weak, metT, kApp, kExt, elemD, iT, iL, iR1, iR2, iE, iZ, onI]
theorem z2 : d_uses [.im sh, .im b] = .ex x [.no, .no] := by
  simp [d_uses, f_uses, q, finF, sEr, op2, op1, T.val, R.opt, toB, opL, vals, consT, disp, mvs, mkTup, callT, callI, argE, others, isAl, isAli, finT, outE, padE, runD, cpsOf, cpT, toI, slT, T.weak, metT, kApp, kExt, elemD, iT, iL, iR1, iR2, iE, iZ, onI]
theorem z3 : d_gain [.im sh, .im b] = .ex x [.no, .no] := by
  simp [d_gain, f_gain, q, finF, sEr, op2, op1, T.val, R.opt, toB, opL, vals, consT, disp, mvs, mkTup, callT, callI, argE, others, isAl, isAli, finT, outE, padE, runD, cpsOf, cpT, toI, slT, T.weak, metT, kApp, kExt, elemD, iT, iL, iR1, iR2, iE, iZ, onI]
theorem z4 : d_effects [.im sh, .im b] = .ex x [.no, .no] := by
  simp [d_effects, f_effects, f_effects_1, q, finF, sEr, op2, op1, T.val, R.opt, toB, opL, vals, consT, disp, mvs, mkTup, callT, callI, argE, others, isAl, isAli, finT, outE, padE, runD, cpsOf, cpT, toI, slT, T.weak, metT, kApp, kExt, elemD, iT, iL, iR1, iR2, iE, iZ, onI]
theorem zf : d_check_few [.im sh, .im b] = .ex x [.no, .no] := by
  simp [d_check_few, f_check_few, f_check_few_1, q, finF, sEr, op2, op1, T.val, R.opt, toB, opL, vals, consT, disp, mvs, mkTup, callT, callI, argE, others, isAl, isAli, finT, outE, padE, runD, cpsOf, cpT, toI, slT, T.weak, metT, kApp, kExt, elemD, iT, iL, iR1, iR2, iE, iZ, onI]
end
section
variable {sh b : D} {x : Str} {o : En} (q : d_check_few [.im sh, .im b] = .ex x o)
include q
theorem z5 : d_least_above [.im sh, .im b] = .ex x [.no, .no] := by
  simp [d_least_above, f_least_above, f_least_above_1, q, finF, sEr, op2, op1, T.val, R.opt, toB, opL, vals, consT, disp, mvs, mkTup, callT, callI, argE, others, isAl, isAli, finT, outE, padE, runD, cpsOf, cpT, toI, slT, T.weak, metT, kApp, kExt, elemD, iT, iL, iR1, iR2, iE, iZ, onI]
theorem z6 : d_fewest_more [.im sh, .im b] = .ex x [.no, .no] := by
  simp [d_fewest_more, f_fewest_more, f_fewest_more_1, q, finF, sEr, op2, op1, T.val, R.opt, toB, opL, vals, consT, disp, mvs, mkTup, callT, callI, argE, others, isAl, isAli, finT, outE, padE, runD, cpsOf, cpT, toI, slT, T.weak, metT, kApp, kExt, elemD, iT, iL, iR1, iR2, iE, iZ, onI]
end
def tdAt (sh b : D) (k w : Int) : Prop := d__law_told [.im sh, .im b, .im (.int w)] = .ok (.im (rsd k)) [.no, .no, .no]
section
variable {sh b : D} {x : Str} {k : Nat} {o : En} (hx : xn.idxOf? x = some k)
include hx
theorem td0 (q : d_charge [.im sh, .im b] = .ex x o) : tdAt sh b k 0 := by
  refine fin4 (m := 0) (rest := [.im sh, .im b, .im (.int 0), .no]) rfl ?_ _ rfl
  show f__law_told [.im sh, .im b, .im (.int 0), .no] = _
  unfold f__law_told
  rw [try_ex (x := x) (e := [.im sh, .im b, .im (.int 0), .no]) (by simp [q, sEr, op2, op1, T.val, R.opt, toB, opL, vals, consT, disp, mvs, mkTup, callT, callI, argE, others, isAl, isAli, finT, outE, padE, runD, cpsOf, cpT, toI, slT, T.weak, metT, kApp, kExt, elemD, iT, iL, iR1, iR2, iE, iZ, onI]), te_of (show 3 < 4 by decide) hx]
theorem td1 (q : d_amounts [.im sh, .im b] = .ex x o) : tdAt sh b k 1 := by
  refine fin4 (m := 0) (rest := [.im sh, .im b, .im (.int 1), .no]) rfl ?_ _ rfl
  show f__law_told [.im sh, .im b, .im (.int 1), .no] = _
  unfold f__law_told
  rw [try_ex (x := x) (e := [.im sh, .im b, .im (.int 1), .no]) (by simp [q, sEr, op2, op1, T.val, R.opt, toB, opL, vals, consT, disp, mvs, mkTup, callT, callI, argE, others, isAl, isAli, finT, outE, padE, runD, cpsOf, cpT, toI, slT, T.weak, metT, kApp, kExt, elemD, iT, iL, iR1, iR2, iE, iZ, onI]), te_of (show 3 < 4 by decide) hx]
theorem td2 (q : d_uses [.im sh, .im b] = .ex x o) : tdAt sh b k 2 := by
  refine fin4 (m := 0) (rest := [.im sh, .im b, .im (.int 2), .no]) rfl ?_ _ rfl
  show f__law_told [.im sh, .im b, .im (.int 2), .no] = _
  unfold f__law_told
  rw [try_ex (x := x) (e := [.im sh, .im b, .im (.int 2), .no]) (by simp [q, sEr, op2, op1, T.val, R.opt, toB, opL, vals, consT, disp, mvs, mkTup, callT, callI, argE, others, isAl, isAli, finT, outE, padE, runD, cpsOf, cpT, toI, slT, T.weak, metT, kApp, kExt, elemD, iT, iL, iR1, iR2, iE, iZ, onI]), te_of (show 3 < 4 by decide) hx]
theorem td3 (q : d_gain [.im sh, .im b] = .ex x o) : tdAt sh b k 3 := by
  refine fin4 (m := 0) (rest := [.im sh, .im b, .im (.int 3), .no]) rfl ?_ _ rfl
  show f__law_told [.im sh, .im b, .im (.int 3), .no] = _
  unfold f__law_told
  rw [try_ex (x := x) (e := [.im sh, .im b, .im (.int 3), .no]) (by simp [q, sEr, op2, op1, T.val, R.opt, toB, opL, vals, consT, disp, mvs, mkTup, callT, callI, argE, others, isAl, isAli, finT, outE, padE, runD, cpsOf, cpT, toI, slT, T.weak, metT, kApp, kExt, elemD, iT, iL, iR1, iR2, iE, iZ, onI]), te_of (show 3 < 4 by decide) hx]
theorem td4 (q : d_effects [.im sh, .im b] = .ex x o) : tdAt sh b k 4 := by
  refine fin4 (m := 0) (rest := [.im sh, .im b, .im (.int 4), .no]) rfl ?_ _ rfl
  show f__law_told [.im sh, .im b, .im (.int 4), .no] = _
  unfold f__law_told
  rw [try_ex (x := x) (e := [.im sh, .im b, .im (.int 4), .no]) (by simp [q, sEr, op2, op1, T.val, R.opt, toB, opL, vals, consT, disp, mvs, mkTup, callT, callI, argE, others, isAl, isAli, finT, outE, padE, runD, cpsOf, cpT, toI, slT, T.weak, metT, kApp, kExt, elemD, iT, iL, iR1, iR2, iE, iZ, onI]), te_of (show 3 < 4 by decide) hx]
theorem td5 (q : d_least_above [.im sh, .im b] = .ex x o) : tdAt sh b k 5 := by
  refine fin4 (m := 0) (rest := [.im sh, .im b, .im (.int 5), .no]) rfl ?_ _ rfl
  show f__law_told [.im sh, .im b, .im (.int 5), .no] = _
  unfold f__law_told
  rw [try_ex (x := x) (e := [.im sh, .im b, .im (.int 5), .no]) (by simp [q, sEr, op2, op1, T.val, R.opt, toB, opL, vals, consT, disp, mvs, mkTup, callT, callI, argE, others, isAl, isAli, finT, outE, padE, runD, cpsOf, cpT, toI, slT, T.weak, metT, kApp, kExt, elemD, iT, iL, iR1, iR2, iE, iZ, onI]), te_of (show 3 < 4 by decide) hx]
theorem td6 (q : d_fewest_more [.im sh, .im b] = .ex x o) : tdAt sh b k 6 := by
  refine fin4 (m := 0) (rest := [.im sh, .im b, .im (.int 6), .no]) rfl ?_ _ rfl
  show f__law_told [.im sh, .im b, .im (.int 6), .no] = _
  unfold f__law_told
  rw [try_ex (x := x) (e := [.im sh, .im b, .im (.int 6), .no]) (by simp [q, sEr, op2, op1, T.val, R.opt, toB, opL, vals, consT, disp, mvs, mkTup, callT, callI, argE, others, isAl, isAli, finT, outE, padE, runD, cpsOf, cpT, toI, slT, T.weak, metT, kApp, kExt, elemD, iT, iL, iR1, iR2, iE, iZ, onI]), te_of (show 3 < 4 by decide) hx]
end
theorem td_all {sh b : D} {x : Str} {k : Nat} {o : En} (hx : xn.idxOf? x = some k) (q : d_check_basket [.im sh, .im b] = .ex x o) {w : Nat} (hw : w < 7) : tdAt sh b k w := by
  have c : w = 0 ∨ w = 1 ∨ w = 2 ∨ w = 3 ∨ w = 4 ∨ w = 5 ∨ w = 6 := by omega
  rcases c with rfl | rfl | rfl | rfl | rfl | rfl | rfl
  · exact td0 hx (z0 q)
  · exact td1 hx (z1 q)
  · exact td2 hx (z2 q)
  · exact td3 hx (z3 q)
  · exact td4 hx (z4 q)
  · exact td5 hx (z5 (zf q))
  · exact td6 hx (z6 (zf q))
abbrev E7' (a b c d e f g : Sl) : En := [a, b, c, d, e, f, g]
theorem b1 (s0 st sh ct fa : Sl) (w : Int) (v : D) (q : tdAt v .non 0 w) : b_law_1 (E7' s0 st sh ct (.im (.int w)) fa (.im v)) = .nx (E7' s0 st sh ct (.im (.int w)) fa (.im v)) := by
  have n := ne_rsd 0
  unfold tdAt at q
  simp [b_law_1, b_law_1_1, q, n, sEr, op2, op1, T.val, R.opt, toB, opL, vals, consT, disp, mvs, mkTup, callT, callI, argE, others, isAl, isAli, finT, outE, padE, runD, cpsOf, cpT, toI, slT, T.weak, metT, kApp, kExt, elemD, iT, iL, iR1, iR2, iE, iZ, onI]
theorem b2 (s0 st ct fa : Sl) (w : Int) (sh v : D) (q : tdAt sh v 1 w) : b_law_2 (E7' s0 st (.im sh) ct (.im (.int w)) fa (.im v)) = .nx (E7' s0 st (.im sh) ct (.im (.int w)) fa (.im v)) := by
  have n := ne_rsd 1
  unfold tdAt at q
  simp [b_law_2, b_law_2_1, q, n, sEr, op2, op1, T.val, R.opt, toB, opL, vals, consT, disp, mvs, mkTup, callT, callI, argE, others, isAl, isAli, finT, outE, padE, runD, cpsOf, cpT, toI, slT, T.weak, metT, kApp, kExt, elemD, iT, iL, iR1, iR2, iE, iZ, onI]
theorem lp1 (s0 st sh ct fa : Sl) (w : Int) : ∀ (vs : List D) (y : Sl), (∀ v ∈ vs, tdAt v .non 0 w) → ∃ y', loopF (gN 6) b_law_1 vs (E7' s0 st sh ct (.im (.int w)) fa y) = .nx (E7' s0 st sh ct (.im (.int w)) fa y')
  | [], y, _ => ⟨y, rfl⟩
  | v :: vs, y, h => by
    obtain ⟨y', q⟩ := lp1 s0 st sh ct fa w vs (.im v) fun u z => h u (List.mem_cons_of_mem _ z)
    refine ⟨y', ?_⟩
    unfold loopF
    rw [show gN 6 (.im v) (E7' s0 st sh ct (.im (.int w)) fa y) = .nx (E7' s0 st sh ct (.im (.int w)) fa (.im v)) from rfl]
    dsimp only
    rw [b1 _ _ _ _ _ _ _ (h v List.mem_cons_self)]
    exact q
theorem lp2 (s0 st ct fa : Sl) (sh : D) (w : Int) : ∀ (vs : List D) (y : Sl), (∀ v ∈ vs, tdAt sh v 1 w) → ∃ y', loopF (gN 6) b_law_2 vs (E7' s0 st (.im sh) ct (.im (.int w)) fa y) = .nx (E7' s0 st (.im sh) ct (.im (.int w)) fa y')
  | [], y, _ => ⟨y, rfl⟩
  | v :: vs, y, h => by
    obtain ⟨y', q⟩ := lp2 s0 st ct fa sh w vs (.im v) fun u z => h u (List.mem_cons_of_mem _ z)
    refine ⟨y', ?_⟩
    unfold loopF
    rw [show gN 6 (.im v) (E7' s0 st (.im sh) ct (.im (.int w)) fa y) = .nx (E7' s0 st (.im sh) ct (.im (.int w)) fa (.im v)) from rfl]
    dsimp only
    rw [b2 _ _ _ _ _ _ _ (h v List.mem_cons_self)]
    exact q
def bs1 (g r : D) : List D := [.non, .lst [], .tup [g], .lst [g, r], .int 5]
theorem fi1 (s0 st ct w fa y : Sl) (g r : D) : fiT (eTup (aCons (eC .non) (aCons (eLst aNil) (aCons (eTup (aCons (eOp dIx (eVar 2) (eC (.int 0))) aNil)) (aCons (eB dList (aCons (eVar 2) aNil)) (aCons (eC (.int 5)) aNil)))))) (E7' s0 st (.im (.tup [g, r])) ct w fa y) = .ok ⟨bs1 g r, none⟩ (E7' s0 st (.im (.tup [g, r])) ct w fa y) := by
  simp [dIx, bs1, sEr, op2, op1, T.val, R.opt, toB, opL, vals, consT, disp, mvs, mkTup, callT, callI, argE, others, isAl, isAli, finT, outE, padE, runD, cpsOf, cpT, toI, slT, T.weak, metT, kApp, kExt, elemD, iT, iL, iR1, iR2, iE, iZ, onI]
def bs2 (n : Nat) : List D := [.non, .tup [], .lst (List.replicate n (.int 1)), .tup (List.replicate (n + 1) (.int 1)), .tup (List.replicate n (.int (-1))), .tup (List.replicate n (.int 1000001)), .tup (List.replicate n (.bl true)), .int 7]
theorem m1 : ∀ n : Nat, 1 ≤ n ∧ n ≤ 3 → ∀ x : D, dMulT (.tup [x]) (.int n) = some (.im (.tup (List.replicate n x))) := fun n h x => by
  have c : n = 1 ∨ n = 2 ∨ n = 3 := by omega
  rcases c with rfl | rfl | rfl <;> rfl
theorem m2 : ∀ n : Nat, 1 ≤ n ∧ n ≤ 2 → dMulA (.lst [.int 1]) (.int n) = some (.fr (List.replicate n (.int 1))) := fun n h => by
  have c : n = 1 ∨ n = 2 := by omega
  rcases c with rfl | rfl <;> rfl
theorem pw6 : dPow (.int 10) (.int 6) = some (.im (.int 1000000)) := by simp [dPow]
theorem fa1g (s0 st sh w fa y : Sl) (n p : Int) (r : D) (hp : dPow (.int 10) (.int 6) = some (.im (.int p))) (q : dMulT (.tup [.int (p + 1)]) (.int n) = some (.im r)) : b_law_3_2 (E7' s0 st sh (.im (.int n)) w fa y) = .nx (E7' s0 st sh (.im (.int n)) w (.im r) y) := by
  simp [b_law_3_2, hp, q, -dPow, sEr, op2, op1, T.val, R.opt, toB, opL, vals, consT, disp, mvs, mkTup, callT, callI, argE, others, isAl, isAli, finT, outE, padE, runD, cpsOf, cpT, toI, slT, T.weak, metT, kApp, kExt, elemD, iT, iL, iR1, iR2, iE, iZ, onI]
theorem fa1 (s0 st sh w fa y : Sl) (n : Nat) (hn : 1 ≤ n ∧ n ≤ 2) : b_law_3_2 (E7' s0 st sh (.im (.int n)) w fa y) = .nx (E7' s0 st sh (.im (.int n)) w (.im (.tup (List.replicate n (.int 1000001)))) y) :=
  fa1g s0 st sh w fa y n 1000000 _ pw6 (m1 n (by omega) (.int (1000000 + 1)))
theorem fi2g (s0 st sh w y : Sl) (n : Int) (fd r1 r2 r3 : D) (l0 : List D) (q0 : dMulA (.lst [.int 1]) (.int n) = some (.fr l0)) (q1 : dMulT (.tup [.int 1]) (.int (n + 1)) = some (.im r1)) (q2 : dMulT (.tup [.int (-1)]) (.int n) = some (.im r2)) (q3 : dMulT (.tup [.bl true]) (.int n) = some (.im r3)) : fiT (eTup (aCons (eC .non) (aCons (eTup aNil) (aCons (eOp dMulA (eLst (aCons (eC (.int 1)) aNil)) (eVar 3)) (aCons (eOp dMulT (eTup (aCons (eC (.int 1)) aNil)) (eOp dAdd (eVar 3) (eC (.int 1)))) (aCons (eOp dMulT (eTup (aCons (eUn dNeg (eC (.int 1))) aNil)) (eVar 3)) (aCons (eVar 5) (aCons (eOp dMulT (eTup (aCons (eC (.bl true)) aNil)) (eVar 3)) (aCons (eC (.int 7)) aNil))))))))) (E7' s0 st sh (.im (.int n)) w (.im fd) y) = .ok ⟨[.non, .tup [], .lst l0, r1, r2, fd, r3, .int 7], none⟩ (E7' s0 st sh (.im (.int n)) w (.im fd) y) := by
  simp [q0, q1, q2, q3, sEr, op2, op1, T.val, R.opt, toB, opL, vals, consT, disp, mvs, mkTup, callT, callI, argE, others, isAl, isAli, finT, outE, padE, runD, cpsOf, cpT, toI, slT, T.weak, metT, kApp, kExt, elemD, iT, iL, iR1, iR2, iE, iZ, onI]
theorem fi2 (s0 st sh w y : Sl) (n : Nat) (hn : 1 ≤ n ∧ n ≤ 2) (fd : D) : fiT (eTup (aCons (eC .non) (aCons (eTup aNil) (aCons (eOp dMulA (eLst (aCons (eC (.int 1)) aNil)) (eVar 3)) (aCons (eOp dMulT (eTup (aCons (eC (.int 1)) aNil)) (eOp dAdd (eVar 3) (eC (.int 1)))) (aCons (eOp dMulT (eTup (aCons (eUn dNeg (eC (.int 1))) aNil)) (eVar 3)) (aCons (eVar 5) (aCons (eOp dMulT (eTup (aCons (eC (.bl true)) aNil)) (eVar 3)) (aCons (eC (.int 7)) aNil))))))))) (E7' s0 st sh (.im (.int n)) w (.im fd) y) = .ok ⟨[.non, .tup [], .lst (List.replicate n (.int 1)), .tup (List.replicate (n + 1) (.int 1)), .tup (List.replicate n (.int (-1))), fd, .tup (List.replicate n (.bl true)), .int 7], none⟩ (E7' s0 st sh (.im (.int n)) w (.im fd) y) := by
  have q1 := m1 (n + 1) (by omega) (.int 1)
  have e : ((n + 1 : Nat) : Int) = (n : Int) + 1 := by omega
  rw [e] at q1
  exact fi2g _ _ _ _ _ _ _ _ _ _ _ (m2 n hn) q1 (m1 n (by omega) (.int (-1))) (m1 n (by omega) (.bl true))
theorem bad2 {n : Nat} (hn : 1 ≤ n ∧ n ≤ 2) {v : D} (h : v ∈ bs2 n) : isBasket n v = false := by
  have c : n = 1 ∨ n = 2 := by omega
  rcases c with rfl | rfl <;> simp only [bs2, List.mem_cons, List.not_mem_nil, or_false] at h <;> rcases h with rfl | rfl | rfl | rfl | rfl | rfl | rfl | rfl <;> rfl
theorem turn {gi : List (Int × Int)} {us : List Ru} (h : Shp gi us) {w : Nat} (hw : w < 7) (s0 st fa y : Sl) : ∃ fa' y', b_law_3 (E7' s0 st (.im (shopD gi us)) (.im (.int gi.length)) (.im (.int w)) fa y) = .nx (E7' s0 st (.im (shopD gi us)) (.im (.int gi.length)) (.im (.int w)) fa' y') := by
  obtain ⟨y1, q1⟩ := lp1 s0 st (.im (shopD gi us)) (.im (.int gi.length)) fa w (bs1 (.tup (gi.map gd)) (.tup (us.map Ru.d))) y (fun v hv => by
    refine td_all xi0 (cb0 ?_) hw
    simp only [bs1, List.mem_cons, List.not_mem_nil, or_false] at hv
    rcases hv with rfl | rfl | rfl | rfl | rfl <;> rfl)
  obtain ⟨y2, q2⟩ := lp2 s0 st (.im (.int gi.length)) (.im (.tup (List.replicate gi.length (.int 1000001)))) (shopD gi us) w (bs2 gi.length) y1 (fun v hv => td_all xi1 (x_check_basket h (bad2 h.len hv)) hw)
  refine ⟨.im (.tup (List.replicate gi.length (.int 1000001))), y2, ?_⟩
  unfold b_law_3
  refine seq_of (e1 := E7' s0 st (.im (shopD gi us)) (.im (.int gi.length)) (.im (.int w)) fa y1) ?_ (seq_of (fa1 _ _ _ _ _ _ _ h.len) ?_)
  · unfold b_law_3_1
    rw [sFor_s, fi1, bindF_ok]
    exact q1
  · unfold b_law_3_3
    rw [sFor_s, fi2 _ _ _ _ _ _ h.len _, bindF_ok]
    exact q2
theorem lp3 {gi : List (Int × Int)} {us : List Ru} (h : Shp gi us) (s0 st : Sl) : ∀ (ws : List D) (w fa y : Sl), (∀ d ∈ ws, ∃ n : Nat, d = .int n ∧ n < 7) → ∃ w' fa' y', loopF (gN 4) b_law_3 ws (E7' s0 st (.im (shopD gi us)) (.im (.int gi.length)) w fa y) = .nx (E7' s0 st (.im (shopD gi us)) (.im (.int gi.length)) w' fa' y')
  | [], w, fa, y, _ => ⟨w, fa, y, rfl⟩
  | d :: ws, w, fa, y, hd => by
    obtain ⟨n, rfl, hn⟩ := hd d List.mem_cons_self
    obtain ⟨fa1, y1, q1⟩ := turn h hn s0 st fa y
    obtain ⟨w', fa', y', q⟩ := lp3 h s0 st ws (.im (.int n)) fa1 y1 fun u z => hd u (List.mem_cons_of_mem _ z)
    refine ⟨w', fa', y', ?_⟩
    unfold loopF
    rw [show gN 4 (.im (.int n)) (E7' s0 st (.im (shopD gi us)) (.im (.int gi.length)) w fa y) = .nx (E7' s0 st (.im (shopD gi us)) (.im (.int gi.length)) (.im (.int n)) fa y) from rfl]
    dsimp only
    rw [q1]
    exact q
theorem t1 (s0 : Sl) : f_law_1 (E7' s0 .no .no .no .no .no .no) = .nx (E7' s0 (.own false (rep0 0)) .no .no .no .no .no) := by
  simp [f_law_1, sEr, op2, op1, T.val, R.opt, toB, opL, vals, consT, disp, mvs, mkTup, callT, callI, argE, others, isAl, isAli, finT, outE, padE, runD, cpsOf, cpT, toI, slT, T.weak, metT, kApp, kExt, elemD, iT, iL, iR1, iR2, iE, iZ, onI]
theorem t2 (ns : List Int) (m : Nat) (sh : D) (e : d__law_some_shop [scr ns, .own true (rep0 0)] = .ok (.im sh) [.no, .own true (rep0 m)]) : f_law_2 (E7' (scr ns) (.own false (rep0 0)) .no .no .no .no .no) = .nx (E7' (scr ns) (.own false (rep0 m)) (.im sh) .no .no .no .no) := by
  simp [scr] at e
  simp [f_law_2, scr, e, sEr, op2, op1, T.val, R.opt, toB, opL, vals, consT, disp, mvs, mkTup, callT, callI, argE, others, isAl, isAli, finT, outE, padE, runD, cpsOf, cpT, toI, slT, T.weak, metT, kApp, kExt, elemD, iT, iL, iR1, iR2, iE, iZ, onI]
theorem t3 (s0 st : Sl) (g : List D) (r : D) (n : Int) (hn : (g.length : Int) = n) : f_law_3 (E7' s0 st (.im (.tup [.tup g, r])) .no .no .no .no) = .nx (E7' s0 st (.im (.tup [.tup g, r])) (.im (.int n)) .no .no .no) := by
  simp [f_law_3, dIx, hn, sEr, op2, op1, T.val, R.opt, toB, opL, vals, consT, disp, mvs, mkTup, callT, callI, argE, others, isAl, isAli, finT, outE, padE, runD, cpsOf, cpT, toI, slT, T.weak, metT, kApp, kExt, elemD, iT, iL, iR1, iR2, iE, iZ, onI]
theorem t4 (s0 st sh ct w fa y : Sl) (q : loopF (gN 4) b_law_3 (rngD 0 7) (E7' s0 st sh ct .no .no .no) = .nx (E7' s0 st sh ct w fa y)) : f_law_4 (E7' s0 st sh ct .no .no .no) = .nx (E7' s0 st sh ct w fa y) := by
  have fi : fiR1 (aCons (eC (.int 7)) aNil) (E7' s0 st sh ct .no .no .no) = .ok ⟨rngD 0 7, none⟩ (E7' s0 st sh ct .no .no .no) := by simp [sEr, op2, op1, T.val, R.opt, toB, opL, vals, consT, disp, mvs, mkTup, callT, callI, argE, others, isAl, isAli, finT, outE, padE, runD, cpsOf, cpT, toI, slT, T.weak, metT, kApp, kExt, elemD, iT, iL, iR1, iR2, iE, iZ, onI]
  unfold f_law_4
  rw [sFor_s, fi, bindF_ok]
  exact q
def farL (n : Nat) (x : Int) : List Int := x :: List.replicate (n - 1) 0
theorem t5 (s0 st sh w fa y : Sl) (n : Nat) (hn : 1 ≤ n ∧ n ≤ 2) : f_law_5 (E7' s0 st sh (.im (.int n)) w fa y) = .nx (E7' s0 st sh (.im (.int n)) w (.im (basD (farL n 101))) y) := by
  have c : n = 1 ∨ n = 2 := by omega
  have q0 : dMulT (.tup [.int 0]) (.int 0) = some (.im (.tup [])) := rfl
  have q1 : dMulT (.tup [.int 0]) (.int 1) = some (.im (.tup [.int 0])) := rfl
  rcases c with rfl | rfl
  · simp [f_law_5, q0, farL, sEr, op2, op1, T.val, R.opt, toB, opL, vals, consT, disp, mvs, mkTup, callT, callI, argE, others, isAl, isAli, finT, outE, padE, runD, cpsOf, cpT, toI, slT, T.weak, metT, kApp, kExt, elemD, iT, iL, iR1, iR2, iE, iZ, onI]
  · simp [f_law_5, q1, farL, sEr, op2, op1, T.val, R.opt, toB, opL, vals, consT, disp, mvs, mkTup, callT, callI, argE, others, isAl, isAli, finT, outE, padE, runD, cpsOf, cpT, toI, slT, T.weak, metT, kApp, kExt, elemD, iT, iL, iR1, iR2, iE, iZ, onI]
theorem eqvs_r2 : eqvs [rsd 1, rsd 1] [rsd 1, rsd 1] = true := by
  rw [eqvs_cc, eqv_rsd, eqvs_cc, eqv_rsd]
  rfl
theorem ne_r2 : dNeA (.lst [rsd 1, rsd 1]) (.lst [rsd 1, rsd 1]) = some (.im (.bl false)) := by
  have h : shp (.lst [rsd 1, rsd 1]) = true := by
    rw [shp_eq]
    simp [lay, lays, dep, deps, so_raised]
  unfold dNeA dNeS dNe
  dsimp only
  rw [if_pos ⟨h, h⟩, eqv_ll, eqvs_r2]
  rfl
theorem mul_r2 : dMulA (.lst [rsd 1]) (.int 2) = some (.fr [rsd 1, rsd 1]) := by
  unfold dMulA
  rfl
theorem t6a (s0 st ct y w : Sl) (sh fa : D) (q5 : tdAt sh fa 1 5) (q6 : tdAt sh fa 1 6) : eLc (fiT (eTup (aCons (eC (.int 5)) (aCons (eC (.int 6)) aNil)))) [4] (.one 4) tT (eCall d__law_told (aCons (eVar 2) (aCons (eVar 5) (aCons (eVar 4) aNil)))) (E7' s0 st (.im sh) ct w (.im fa) y) = .ok (.fr [rsd 1, rsd 1]) (E7' s0 st (.im sh) ct .no (.im fa) y) := by
  refine eLc_of (k := ⟨[.int 5, .int 6], none⟩) (e := E7' s0 st (.im sh) ct w (.im fa) y) (by simp [sEr, op2, op1, T.val, R.opt, toB, opL, vals, consT, disp, mvs, mkTup, callT, callI, argE, others, isAl, isAli, finT, outE, padE, runD, cpsOf, cpT, toI, slT, T.weak, metT, kApp, kExt, elemD, iT, iL, iR1, iR2, iE, iZ, onI]) ?_
  exact lc_map (k := ⟨[.int 5, .int 6], none⟩) (h := fun _ => rsd 1) (env := E7' s0 st (.im sh) ct .no (.im fa) y) trivial _ [] (small_size (by simp)) fun d hd => by
    refine ⟨E7' s0 st (.im sh) ct (.im d) (.im fa) y, .im (rsd 1), E7' s0 st (.im sh) ct (.im d) (.im fa) y, rfl, ?_, rfl, rfl⟩
    have q : d__law_told [.im sh, .im fa, .im d] = .ok (.im (rsd 1)) [.no, .no, .no] := by
      simp only [List.mem_cons, List.not_mem_nil, or_false] at hd
      rcases hd with rfl | rfl
      · exact q5
      · exact q6
    simp [q, sEr, op2, op1, T.val, R.opt, toB, opL, vals, consT, disp, mvs, mkTup, callT, callI, argE, others, isAl, isAli, finT, outE, padE, runD, cpsOf, cpT, toI, slT, T.weak, metT, kApp, kExt, elemD, iT, iL, iR1, iR2, iE, iZ, onI]
theorem t6 (s0 st sh ct w fa y : Sl) (q : eLc (fiT (eTup (aCons (eC (.int 5)) (aCons (eC (.int 6)) aNil)))) [4] (.one 4) tT (eCall d__law_told (aCons (eVar 2) (aCons (eVar 5) (aCons (eVar 4) aNil)))) (E7' s0 st sh ct w fa y) = .ok (.fr [rsd 1, rsd 1]) (E7' s0 st sh ct .no fa y)) : f_law_6 (E7' s0 st sh ct w fa y) = .nx (E7' s0 st sh ct .no fa y) := by
  have n := ne_r2
  have m := mul_r2
  simp [f_law_6, q, n, m, sEr, op2, op1, T.val, R.opt, toB, opL, vals, consT, disp, mvs, mkTup, callT, callI, argE, others, isAl, isAli, finT, outE, padE, runD, cpsOf, cpT, toI, slT, T.weak, metT, kApp, kExt, elemD, iT, iL, iR1, iR2, iE, iZ, onI]
theorem ct1 (xs : List D) : cutD xs (some 1) none = xs.drop 1 := by
  unfold cutD HT.sIx
  cases xs with
  | nil => rfl
  | cons x xs =>
    have : min 1 (x :: xs).length = 1 := by rw [List.length_cons]; omega
    simp
theorem t7 (s0 st ct w y : Sl) (sh : D) (fs tl : List D) (e : cutD fs (some 1) none = tl) (g : D) (m c : Int) (l : 1 + tl.length ≤ 1000000) (hle : m ≤ c) (q5 : d__law_told [.im sh, .im (.tup (.int 100 :: tl)), .im (.int 5)] = .ok (.im (.tup [.int m, g])) [.no, .no, .no]) (q0 : d__law_told [.im sh, .im (.tup (.int 100 :: tl)), .im (.int 0)] = .ok (.im (.int c)) [.no, .no, .no]) :
    f_law_7 (E7' s0 st (.im sh) ct w (.im (.tup fs)) y) = .rt (.im (.bl true)) (E7' s0 st (.im sh) ct w (.im (.tup fs)) y) := by
  simp [f_law_7, e, q5, q0, l, dIx, hle, sEr, op2, op1, T.val, R.opt, toB, opL, vals, consT, disp, mvs, mkTup, callT, callI, argE, others, isAl, isAli, finT, outE, padE, runD, cpsOf, cpT, toI, slT, T.weak, metT, kApp, kExt, elemD, iT, iL, iR1, iR2, iE, iZ, onI]
theorem td5v (sh b r : D) (q : d_least_above [.im sh, .im b] = .ok (.im r) [.no, .no]) : d__law_told [.im sh, .im b, .im (.int 5)] = .ok (.im r) [.no, .no, .no] := by
  refine fin4 (m := 0) (rest := [.im sh, .im b, .im (.int 5), .no]) rfl ?_ _ rfl
  show f__law_told [.im sh, .im b, .im (.int 5), .no] = _
  unfold f__law_told
  exact try_rt (by simp [q, sEr, op2, op1, T.val, R.opt, toB, opL, vals, consT, disp, mvs, mkTup, callT, callI, argE, others, isAl, isAli, finT, outE, padE, runD, cpsOf, cpT, toI, slT, T.weak, metT, kApp, kExt, elemD, iT, iL, iR1, iR2, iE, iZ, onI])
theorem td0v (sh b r : D) (q : d_charge [.im sh, .im b] = .ok (.im r) [.no, .no]) : d__law_told [.im sh, .im b, .im (.int 0)] = .ok (.im r) [.no, .no, .no] := by
  refine fin4 (m := 0) (rest := [.im sh, .im b, .im (.int 0), .no]) rfl ?_ _ rfl
  show f__law_told [.im sh, .im b, .im (.int 0), .no] = _
  unfold f__law_told
  exact try_rt (by simp [q, sEr, op2, op1, T.val, R.opt, toB, opL, vals, consT, disp, mvs, mkTup, callT, callI, argE, others, isAl, isAli, finT, outE, padE, runD, cpsOf, cpT, toI, slT, T.weak, metT, kApp, kExt, elemD, iT, iL, iR1, iR2, iE, iZ, onI])
theorem far_ok (n : Nat) (hn : 1 ≤ n ∧ n ≤ 2) (x : Int) (hx : 0 ≤ x) : (farL n x).length = n ∧ (∀ y ∈ farL n x, 0 ≤ y ∧ y ≤ x) ∧ (farL n x).sum = x := by
  have c : n = 1 ∨ n = 2 := by omega
  rcases c with rfl | rfl <;> simp [farL] <;> omega
theorem law_data (ns : List Int) (hl : ns.length ≤ 63) : ∃ o, d_law [.im (.fz (ns.map D.int))] = .ok (.im (.bl true)) o := by
  obtain ⟨gi, us, m, e, _, hm, h, hp, _⟩ := draw_shop ns 0 hl (by decide)
  obtain ⟨w, fa, y, q4⟩ := lp3 h (scr ns) (.own false (rep0 m)) (rngD 0 7) .no .no .no (fun d hd => by
    unfold rngD at hd
    obtain ⟨i, hi, rfl⟩ := List.mem_map.mp hd
    exact ⟨i, by simp, by simpa using hi⟩)
  obtain ⟨l1, l2, l3⟩ := far_ok gi.length h.len 101 (by decide)
  obtain ⟨k1, k2, k3⟩ := far_ok gi.length h.len 100 (by decide)
  have bf := cf_no (shopD gi us) (basD (farL gi.length 101)) 101 (bas_is h l1 fun x z => by have := l2 x z; omega) (by rw [sum_bas, l3]) (by decide)
  have q5 := td5 xi1 (z5 bf)
  have q6 := td6 xi1 (z6 bf)
  obtain ⟨mm, g, la, lmin, _⟩ := r_least_above h k1 k2 (by omega)
  have cv := r_charge h k1 (fun x z => by have := k2 x z; omega)
  have hle := lmin _ (own_above h k1 k2)
  have dr : ((farL gi.length 101).map D.int).drop 1 = ((farL gi.length 100).map D.int).drop 1 := rfl
  have eb : basD (farL gi.length 100) = .tup (.int 100 :: ((farL gi.length 101).map D.int).drop 1) := rfl
  rw [eb] at la cv
  refine ⟨[.no], fin4 (m := 0) (rest := E7' (scr ns) (.own false (rep0 m)) (.im (shopD gi us)) (.im (.int gi.length)) .no (.im (basD (farL gi.length 101))) y) rfl ?_ _ rfl⟩
  show f_law (padE 7 [scr ns]) = _
  unfold f_law
  refine seq_of (t1 (scr ns)) ?_
  refine seq_of (t2 ns m _ e) ?_
  refine seq_of (t3 _ _ _ _ gi.length (by rw [List.length_map])) ?_
  refine seq_of (t4 _ _ _ _ w fa y q4) ?_
  refine seq_of (t5 _ _ _ _ _ _ _ h.len) ?_
  refine seq_of (t6 _ _ _ _ _ _ _ (t6a _ _ _ _ _ _ _ q5 q6)) ?_
  exact t7 _ _ _ _ _ _ _ _ (ct1 _) _ mm _ (by rw [List.length_drop, List.length_map, l1]; have := h.len; omega) hle (td5v _ _ _ la) (td0v _ _ _ cv)

end DL
open PySem PySem.W PyProof.Rows
set_option maxRecDepth 100000 in
set_option maxHeartbeats 0 in
theorem PySem.Challenge.cw_sureprices_k07_charges_refused_holds : PySem.Challenge.rw_sureprices_k07_charges_refused.Holds := by
  w_on; o_law; k_head; (case hw => w_witness2)
  k_fill
  refine L2.walk_of (n := 63) (k := 14) (x := "_law_script") (CX := fun w => L2.CX PySem.Challenge.rw_sureprices_k07_charges_refused.prog w) (sp := fun w => DL.spLaw _) rfl (by decide) rfl ⟨rfl, by decide, by decide⟩ (fun w h Y => PySem.W.kIn_of Y) ?F (fun _ _ a ns hl hO hS => DL.law_hsp hl hO hS) (fun _ _ _ _ _ z => DL.law_cx z)
  case F =>
    intro w mg fa h KX G hmg
    refine' DL.all_mk KX G hmg ?a0 ?l0 ?c0 ?k0 ?a1 ?l1 ?c1 ?k1 ?a2 ?l2 ?c2 ?k2 ?a3 ?l3 ?c3 ?k3 ?a4 ?l4 ?c4 ?k4 ?a5 ?l5 ?c5 ?k5 ?a6 ?l6 ?c6 ?k6 ?a7 ?l7 ?c7 ?k7 ?a8 ?l8 ?c8 ?k8 ?a9 ?l9 ?c9 ?k9 ?a10 ?l10 ?c10 ?k10 ?a11 ?l11 ?c11 ?k11 ?a12 ?l12 ?c12 ?k12 ?a13 ?l13 ?c13 ?k13 ?a14 ?l14 ?c14 ?k14 ?a15 ?l15 ?c15 ?k15 ?a16 ?l16 ?c16 ?k16 ?a17 ?l17 ?c17 ?k17 ?a18 ?l18 ?c18 ?k18 ?a19 ?l19 ?c19 ?k19 ?a20 ?l20 ?c20 ?k20 ?a21 ?l21 ?c21 ?k21 ?a22 ?l22 ?c22 ?k22 ?a23 ?l23 ?c23 ?k23 ?a24 ?l24 ?c24 ?k24 ?a25 ?l25 ?c25 ?k25 ?a26 ?l26 ?c26 ?k26 ?a27 ?l27 ?c27 ?k27 ?a28 ?l28 ?c28 ?k28 ?a29 ?l29 ?c29 ?k29 ?a30 ?l30 ?c30 ?k30 ?a31 ?l31 ?c31 ?k31 ?a32 ?l32 ?c32 ?k32 ?a33 ?l33 ?c33 ?k33 ?a34 ?l34 ?c34 ?k34 ?a35 ?l35 ?c35 ?k35 ?a36 ?l36 ?c36 ?k36 ?a37 ?l37 ?c37 ?k37 ?a38 ?l38 ?c38 ?k38 ?a39 ?l39 ?c39 ?k39 ?a40 ?l40 ?c40 ?k40 ?a41 ?l41 ?c41 ?k41 ?a42 ?l42 ?c42 ?k42 ?a43 ?l43 ?c43 ?k43 ?a44 ?l44 ?c44 ?k44 ?a45 ?l45 ?c45 ?k45 ?a46 ?l46 ?c46 ?k46 ?a47 ?l47 ?c47 ?k47 ?a48 ?l48 ?c48 ?k48 ?a49 ?l49 ?c49 ?k49 ?a50 ?l50 ?c50 ?k50 ?a51 ?l51 ?c51 ?k51 ?a52 ?l52 ?c52 ?k52 ?a53 ?l53 ?c53 ?k53 ?a54 ?l54 ?c54 ?k54 ?a55 ?l55 ?c55 ?k55 ?a56 ?l56 ?c56 ?k56 ?a57 ?l57 ?c57 ?k57 ?a58 ?l58 ?c58 ?k58 ?a59 ?l59 ?c59 ?k59 ?a60 ?l60 ?c60 ?k60 ?a61 ?l61 ?c61 ?k61 ?a62 ?l62 ?c62 ?k62 ?z_ValueError ?z_all ?z_any ?z_bool ?z_enumerate ?z_int ?z_isinstance ?z_len ?z_list ?z_max ?z_min ?z_range ?z_reversed ?z_str ?z_sum ?z_tuple ?z_zip ?y_MOST_GOODS ?y_MOST_IN_ALL ?y_MOST_PIECES ?y_MOST_RULES ?y_SUM_WORDS ?x_SUM_WORDS ?e_Different ?e_InvalidAct ?e_InvalidActs ?e_InvalidBasket ?e_InvalidKinds ?e_InvalidNumber ?e_InvalidOffers ?e_InvalidShop ?e_NoFault ?e_NotThere ?e_NothingToUndo ?e_ParseError ?e_PriceError ?q_InvalidBasket ?p_InvalidBasket ?r_InvalidBasket ?q_InvalidShop ?p_InvalidShop ?r_InvalidShop ?w_Different ?w_InvalidAct ?w_InvalidActs ?w_InvalidBasket ?w_InvalidKinds ?w_InvalidNumber ?w_InvalidOffers ?w_InvalidShop ?w_NoFault ?w_NotThere ?w_NothingToUndo ?w_ParseError ?w_PriceError ?m_InvalidShop ?n_InvalidShop ?v_InvalidShop ?j_InvalidShop ?o_InvalidShop ?i_InvalidShop ?m_InvalidBasket ?n_InvalidBasket ?v_InvalidBasket ?j_InvalidBasket ?o_InvalidBasket ?i_InvalidBasket ?m_InvalidActs ?n_InvalidActs ?v_InvalidActs ?j_InvalidActs ?o_InvalidActs ?i_InvalidActs ?m_InvalidAct ?n_InvalidAct ?v_InvalidAct ?j_InvalidAct ?o_InvalidAct ?i_InvalidAct ?m_InvalidOffers ?n_InvalidOffers ?v_InvalidOffers ?j_InvalidOffers ?o_InvalidOffers ?i_InvalidOffers ?m_InvalidKinds ?n_InvalidKinds ?v_InvalidKinds ?j_InvalidKinds ?o_InvalidKinds ?i_InvalidKinds ?m_InvalidNumber ?n_InvalidNumber ?v_InvalidNumber ?j_InvalidNumber ?o_InvalidNumber ?i_InvalidNumber ?m_Different ?n_Different ?v_Different ?j_Different ?o_Different ?i_Different ?m_NoFault ?n_NoFault ?v_NoFault ?j_NoFault ?o_NoFault ?i_NoFault ?m_NotThere ?n_NotThere ?v_NotThere ?j_NotThere ?o_NotThere ?i_NotThere ?m_NothingToUndo ?n_NothingToUndo ?v_NothingToUndo ?j_NothingToUndo ?o_NothingToUndo ?i_NothingToUndo ?m_ParseError ?n_ParseError ?v_ParseError ?j_ParseError ?o_ParseError ?i_ParseError ?bP ?iP ?hn ?ht ?nd DL.law_data
    (case a0 => k_is)
    (case l0 => k_is)
    (case c0 => k_is)
    (case k0 => k_is)
    (case a1 => k_is)
    (case l1 => k_is)
    (case c1 => k_is)
    (case k1 => k_is)
    (case a2 => k_is)
    (case l2 => k_is)
    (case c2 => k_is)
    (case k2 => k_is)
    (case a3 => k_is)
    (case l3 => k_is)
    (case c3 => k_is)
    (case k3 => k_is)
    (case a4 => k_is)
    (case l4 => k_is)
    (case c4 => k_is)
    (case k4 => k_is)
    (case a5 => k_is)
    (case l5 => k_is)
    (case c5 => k_is)
    (case k5 => k_is)
    (case a6 => k_is)
    (case l6 => k_is)
    (case c6 => k_is)
    (case k6 => k_is)
    (case a7 => k_is)
    (case l7 => k_is)
    (case c7 => k_is)
    (case k7 => k_is)
    (case a8 => k_is)
    (case l8 => k_is)
    (case c8 => k_is)
    (case k8 => k_is)
    (case a9 => k_is)
    (case l9 => k_is)
    (case c9 => k_is)
    (case k9 => k_is)
    (case a10 => k_is)
    (case l10 => k_is)
    (case c10 => k_is)
    (case k10 => k_is)
    (case a11 => k_is)
    (case l11 => k_is)
    (case c11 => k_is)
    (case k11 => k_is)
    (case a12 => k_is)
    (case l12 => k_is)
    (case c12 => k_is)
    (case k12 => k_is)
    (case a13 => k_is)
    (case l13 => k_is)
    (case c13 => k_is)
    (case k13 => k_is)
    (case a14 => k_is)
    (case l14 => k_is)
    (case c14 => k_is)
    (case k14 => k_is)
    (case a15 => k_is)
    (case l15 => k_is)
    (case c15 => k_is)
    (case k15 => k_is)
    (case a16 => k_is)
    (case l16 => k_is)
    (case c16 => k_is)
    (case k16 => k_is)
    (case a17 => k_is)
    (case l17 => k_is)
    (case c17 => k_is)
    (case k17 => k_is)
    (case a18 => k_is)
    (case l18 => k_is)
    (case c18 => k_is)
    (case k18 => k_is)
    (case a19 => k_is)
    (case l19 => k_is)
    (case c19 => k_is)
    (case k19 => k_is)
    (case a20 => k_is)
    (case l20 => k_is)
    (case c20 => k_is)
    (case k20 => k_is)
    (case a21 => k_is)
    (case l21 => k_is)
    (case c21 => k_is)
    (case k21 => k_is)
    (case a22 => k_is)
    (case l22 => k_is)
    (case c22 => k_is)
    (case k22 => k_is)
    (case a23 => k_is)
    (case l23 => k_is)
    (case c23 => k_is)
    (case k23 => k_is)
    (case a24 => k_is)
    (case l24 => k_is)
    (case c24 => k_is)
    (case k24 => k_is)
    (case a25 => k_is)
    (case l25 => k_is)
    (case c25 => k_is)
    (case k25 => k_is)
    (case a26 => k_is)
    (case l26 => k_is)
    (case c26 => k_is)
    (case k26 => k_is)
    (case a27 => k_is)
    (case l27 => k_is)
    (case c27 => k_is)
    (case k27 => k_is)
    (case a28 => k_is)
    (case l28 => k_is)
    (case c28 => k_is)
    (case k28 => k_is)
    (case a29 => k_is)
    (case l29 => k_is)
    (case c29 => k_is)
    (case k29 => k_is)
    (case a30 => k_is)
    (case l30 => k_is)
    (case c30 => k_is)
    (case k30 => k_is)
    (case a31 => k_is)
    (case l31 => k_is)
    (case c31 => k_is)
    (case k31 => k_is)
    (case a32 => k_is)
    (case l32 => k_is)
    (case c32 => k_is)
    (case k32 => k_is)
    (case a33 => k_is)
    (case l33 => k_is)
    (case c33 => k_is)
    (case k33 => k_is)
    (case a34 => k_is)
    (case l34 => k_is)
    (case c34 => k_is)
    (case k34 => k_is)
    (case a35 => k_is)
    (case l35 => k_is)
    (case c35 => k_is)
    (case k35 => k_is)
    (case a36 => k_is)
    (case l36 => k_is)
    (case c36 => k_is)
    (case k36 => k_is)
    (case a37 => k_is)
    (case l37 => k_is)
    (case c37 => k_is)
    (case k37 => k_is)
    (case a38 => k_is)
    (case l38 => k_is)
    (case c38 => k_is)
    (case k38 => k_is)
    (case a39 => k_is)
    (case l39 => k_is)
    (case c39 => k_is)
    (case k39 => k_is)
    (case a40 => k_is)
    (case l40 => k_is)
    (case c40 => k_is)
    (case k40 => k_is)
    (case a41 => k_is)
    (case l41 => k_is)
    (case c41 => k_is)
    (case k41 => k_is)
    (case a42 => k_is)
    (case l42 => k_is)
    (case c42 => k_is)
    (case k42 => k_is)
    (case a43 => k_is)
    (case l43 => k_is)
    (case c43 => k_is)
    (case k43 => k_is)
    (case a44 => k_is)
    (case l44 => k_is)
    (case c44 => k_is)
    (case k44 => k_is)
    (case a45 => k_is)
    (case l45 => k_is)
    (case c45 => k_is)
    (case k45 => k_is)
    (case a46 => k_is)
    (case l46 => k_is)
    (case c46 => k_is)
    (case k46 => k_is)
    (case a47 => k_is)
    (case l47 => k_is)
    (case c47 => k_is)
    (case k47 => k_is)
    (case a48 => k_is)
    (case l48 => k_is)
    (case c48 => k_is)
    (case k48 => k_is)
    (case a49 => k_is)
    (case l49 => k_is)
    (case c49 => k_is)
    (case k49 => k_is)
    (case a50 => k_is)
    (case l50 => k_is)
    (case c50 => k_is)
    (case k50 => k_is)
    (case a51 => k_is)
    (case l51 => k_is)
    (case c51 => k_is)
    (case k51 => k_is)
    (case a52 => k_is)
    (case l52 => k_is)
    (case c52 => k_is)
    (case k52 => k_is)
    (case a53 => k_is)
    (case l53 => k_is)
    (case c53 => k_is)
    (case k53 => k_is)
    (case a54 => k_is)
    (case l54 => k_is)
    (case c54 => k_is)
    (case k54 => k_is)
    (case a55 => k_is)
    (case l55 => k_is)
    (case c55 => k_is)
    (case k55 => k_is)
    (case a56 => k_is)
    (case l56 => k_is)
    (case c56 => k_is)
    (case k56 => k_is)
    (case a57 => k_is)
    (case l57 => k_is)
    (case c57 => k_is)
    (case k57 => k_is)
    (case a58 => k_is)
    (case l58 => k_is)
    (case c58 => k_is)
    (case k58 => k_is)
    (case a59 => k_is)
    (case l59 => k_is)
    (case c59 => k_is)
    (case k59 => k_is)
    (case a60 => k_is)
    (case l60 => k_is)
    (case c60 => k_is)
    (case k60 => k_is)
    (case a61 => k_is)
    (case l61 => k_is)
    (case c61 => k_is)
    (case k61 => k_is)
    (case a62 => k_is)
    (case l62 => k_is)
    (case c62 => k_is)
    (case k62 => k_is)
    (case z_ValueError => k_is)
    (case z_all => k_is)
    (case z_any => k_is)
    (case z_bool => k_is)
    (case z_enumerate => k_is)
    (case z_int => k_is)
    (case z_isinstance => k_is)
    (case z_len => k_is)
    (case z_list => k_is)
    (case z_max => k_is)
    (case z_min => k_is)
    (case z_range => k_is)
    (case z_reversed => k_is)
    (case z_str => k_is)
    (case z_sum => k_is)
    (case z_tuple => k_is)
    (case z_zip => k_is)
    (case y_MOST_GOODS => k_is)
    (case y_MOST_IN_ALL => k_is)
    (case y_MOST_PIECES => k_is)
    (case y_MOST_RULES => k_is)
    (case y_SUM_WORDS => k_is)
    (case x_SUM_WORDS => k_is)
    (case e_Different => k_is)
    (case e_InvalidAct => k_is)
    (case e_InvalidActs => k_is)
    (case e_InvalidBasket => k_is)
    (case e_InvalidKinds => k_is)
    (case e_InvalidNumber => k_is)
    (case e_InvalidOffers => k_is)
    (case e_InvalidShop => k_is)
    (case e_NoFault => k_is)
    (case e_NotThere => k_is)
    (case e_NothingToUndo => k_is)
    (case e_ParseError => k_is)
    (case e_PriceError => k_is)
    (case q_InvalidBasket => k_exc)
    (case p_InvalidBasket => k_is)
    (case r_InvalidBasket => k_is)
    (case q_InvalidShop => k_exc)
    (case p_InvalidShop => k_is)
    (case r_InvalidShop => k_is)
    (case w_Different => k_is)
    (case w_InvalidAct => k_is)
    (case w_InvalidActs => k_is)
    (case w_InvalidBasket => k_is)
    (case w_InvalidKinds => k_is)
    (case w_InvalidNumber => k_is)
    (case w_InvalidOffers => k_is)
    (case w_InvalidShop => k_is)
    (case w_NoFault => k_is)
    (case w_NotThere => k_is)
    (case w_NothingToUndo => k_is)
    (case w_ParseError => k_is)
    (case w_PriceError => k_is)
    (case m_InvalidShop => k_is)
    (case n_InvalidShop => rfl)
    (case v_InvalidShop => k_is)
    (case j_InvalidShop => k_is)
    (case o_InvalidShop => k_is)
    (case i_InvalidShop => k_is)
    (case m_InvalidBasket => k_is)
    (case n_InvalidBasket => rfl)
    (case v_InvalidBasket => k_is)
    (case j_InvalidBasket => k_is)
    (case o_InvalidBasket => k_is)
    (case i_InvalidBasket => k_is)
    (case m_InvalidActs => k_is)
    (case n_InvalidActs => rfl)
    (case v_InvalidActs => k_is)
    (case j_InvalidActs => k_is)
    (case o_InvalidActs => k_is)
    (case i_InvalidActs => k_is)
    (case m_InvalidAct => k_is)
    (case n_InvalidAct => rfl)
    (case v_InvalidAct => k_is)
    (case j_InvalidAct => k_is)
    (case o_InvalidAct => k_is)
    (case i_InvalidAct => k_is)
    (case m_InvalidOffers => k_is)
    (case n_InvalidOffers => rfl)
    (case v_InvalidOffers => k_is)
    (case j_InvalidOffers => k_is)
    (case o_InvalidOffers => k_is)
    (case i_InvalidOffers => k_is)
    (case m_InvalidKinds => k_is)
    (case n_InvalidKinds => rfl)
    (case v_InvalidKinds => k_is)
    (case j_InvalidKinds => k_is)
    (case o_InvalidKinds => k_is)
    (case i_InvalidKinds => k_is)
    (case m_InvalidNumber => k_is)
    (case n_InvalidNumber => rfl)
    (case v_InvalidNumber => k_is)
    (case j_InvalidNumber => k_is)
    (case o_InvalidNumber => k_is)
    (case i_InvalidNumber => k_is)
    (case m_Different => k_is)
    (case n_Different => rfl)
    (case v_Different => k_is)
    (case j_Different => k_is)
    (case o_Different => k_is)
    (case i_Different => k_is)
    (case m_NoFault => k_is)
    (case n_NoFault => rfl)
    (case v_NoFault => k_is)
    (case j_NoFault => k_is)
    (case o_NoFault => k_is)
    (case i_NoFault => k_is)
    (case m_NotThere => k_is)
    (case n_NotThere => rfl)
    (case v_NotThere => k_is)
    (case j_NotThere => k_is)
    (case o_NotThere => k_is)
    (case i_NotThere => k_is)
    (case m_NothingToUndo => k_is)
    (case n_NothingToUndo => rfl)
    (case v_NothingToUndo => k_is)
    (case j_NothingToUndo => k_is)
    (case o_NothingToUndo => k_is)
    (case i_NothingToUndo => k_is)
    (case m_ParseError => k_is)
    (case n_ParseError => rfl)
    (case v_ParseError => k_is)
    (case j_ParseError => k_is)
    (case o_ParseError => k_is)
    (case i_ParseError => k_is)
    (case bP => k_is)
    (case iP => k_is)
    (case hn => k_is)
    (case ht => k_is)
    (case nd => decide)
