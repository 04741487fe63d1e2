import PyProof.Rows.All
import Wide.All
import OpenK.AllK
import Wide.FinOn
import HandS.ForMost
import HandS.Exc
import HandS.ExcOwn
import HandS.TryOnly
import HandS.WordsExc
import HandS.TupAny
import HandS.Style
import HandS.IsInst
import HandS.Deep
import KE.DataEq
import HandS.Text
import KE.GoesMore
import KE.GoesEnum
import HandS.Zip
import HandS.TupMul
import HandS.Rev
import KE.SortData
import KE.DataCmp
import KE.DataMinMax
import KE.DataFind
import KE.KRevSl
import HandS.HotCalls
import HandS.ExcIs
import HandS.NoneIn
import HandS.FStr
import HandS.StrMore
import HandS.RaiseMore
import HandS.ReplaceLit
import KE.KDictWalk
import KE.KDictKeyed
import HandS.TupSets
import HandS.DictSubView
import HandS.DictComp
import KE.KDictDisplayH
import HandS.Gcd
import KE.KMathGC
import HandS.Sort
import HandS.SortKw
import HandS.MakeKw
import KE.KDictZip
import KE.KItemsList
import PySem.Challenge.RW_sureprices_k38_whole_spoiled_texts
set_option Elab.async false
set_option linter.all false
set_option maxRecDepth 100000
set_option maxHeartbeats 2000000
namespace DL
open PySem PySem.Spec L2
inductive D where
  | non | bl (b : Bool) | int (i : Int) | str (x : Str) | tup (xs : List D) | lst (xs : List D) | fz (xs : List D) | dct (ks vs : List D)

def entT (x : List Int × Addr × Value) : DictEntry := ⟨reduceHash (Builtin.Tuple.tupleHashOf (x.1.map hashInt)), .ref x.2.1, x.2.2⟩
structure DcObj (a : Addr) (o : Obj) (kvs : List (List Int × Addr × V)) : Prop where
  sm : (a == sysModules) = false
  len : kvs.length ≤ sizeLine
  ex : o.ExactDict
  nd : (kvs.map (·.1)).Nodup
  dat : ∃ (es : Array DictEntry) (ep : Nat) (ys : List (List Int × Addr × Value)), o.data = .dict es ep ∧ Paired (fun x y => x.1 = y.1 ∧ x.2.1 = y.2.1 ∧ RelV x.2.2 y.2.2) kvs ys ∧ es.toList = ys.map entT

inductive Sl where
  | no | im (d : D) | own (io : Bool) (xs : List D)
abbrev En := List Sl
structure Cp where
  fr : Bool
  d : D
inductive T where
  | im (d : D) | al (i : Nat) | fr (ds : List D) | ft (cs : List Cp)
inductive R (α : Type) where
  | er | ex (c : Str) (e : En) | ok (a : α) (e : En)

def FzAt (K : PySem.W.Frag) (H : Hp) (a : Addr) (xs : List V) : Prop :=
  (∃ o, H a = some (.frz o (.lst xs))) ∨
    ∃ (o : Obj) (its : Array Value) (n : Nat), K.lookup a = some o ∧ o.cls = .type "list" ∧ o.dict = none ∧ o.data = .seq its n ∧ its.size ≤ sizeLine ∧ Vals xs its.toList
theorem FzAt.sql {K : PySem.W.Frag} {H : Hp} {a : Addr} {xs : List V} (h : FzAt K H a xs) : SqL K H a xs := by
  rcases h with ⟨o, h⟩ | h
  · exact .inl (.inr ⟨o, h⟩)
  · exact .inr h

mutual
inductive Rep (K : PySem.W.Frag) (G : Addr → Prop) (H : Hp) : V → D → Prop
  | non : Rep K G H .non .non
  | bl (b : Bool) : Rep K G H (.bl b) (.bl b)
  | int (i : Int) : Rep K G H (.int i) (.int i)
  | str (x : Str) : Rep K G H (.str x) (.str x)
  | tup {a xs ds} (h : SqT K H a xs) (r : Reps K G H xs ds) : Rep K G H (.ref a) (.tup ds)
  | lst {a xs ds} (g : G a) (h : H a = some (.lst xs)) (r : Reps K G H xs ds) : Rep K G H (.ref a) (.lst ds)
  | fz {a xs ds} (h : FzAt K H a xs) (r : Reps K G H xs ds) : Rep K G H (.ref a) (.fz ds)
  | dct {a o u} {kvs : List (List Int × Addr × V)} {ks vs} (h : H a = some (.frz o u)) (ho : DcObj a o kvs) (hq : ∀ x ∈ kvs, SqT K H x.2.1 (x.1.map V.int)) (hk : ks = kvs.map fun x => .tup (x.1.map .int)) (r : Reps K G H (kvs.map (·.2.2)) vs) : Rep K G H (.ref a) (.dct ks vs)
inductive Reps (K : PySem.W.Frag) (G : Addr → Prop) (H : Hp) : List V → List D → Prop
  | nil : Reps K G H [] []
  | cons {v d vs ds} (r : Rep K G H v d) (rs : Reps K G H vs ds) : Reps K G H (v :: vs) (d :: ds)
end
structure TK (H H' : Hp) : Prop where
  tup : ∀ b xs, H b = some (.tup xs) → H' b = some (.tup xs)
  frz : ∀ b o u, H b = some (.frz o u) → H' b = some (.frz o u)
theorem TK.refl (H : Hp) : TK H H := ⟨fun _ _ h => h, fun _ _ _ h => h⟩
theorem TK.sqt {K : PySem.W.Frag} {H H' : Hp} (k : TK H H') {a : Addr} {xs : List V} (h : SqT K H a xs) : SqT K H' a xs := by
  rcases h with (h | ⟨o, h⟩) | h
  · exact .inl (.inl (k.tup _ _ h))
  · exact .inl (.inr ⟨o, k.frz _ _ _ h⟩)
  · exact .inr h
theorem TK.fz {K : PySem.W.Frag} {H H' : Hp} (k : TK H H') {a : Addr} {xs : List V} (h : FzAt K H a xs) : FzAt K H' a xs := by
  rcases h with ⟨o, h⟩ | h
  · exact .inl ⟨o, k.frz _ _ _ h⟩
  · exact .inr h

section
variable {K : PySem.W.Frag} {G G' : Addr → Prop} {H H' : Hp}
mutual
theorem Rep.mono (k : TK H H') (g : ∀ a xs, G a → H a = some (.lst xs) → G' a ∧ H' a = some (.lst xs)) : ∀ {v d}, Rep K G H v d → Rep K G' H' v d
  | _, _, .non => .non
  | _, _, .bl b => .bl b
  | _, _, .int i => .int i
  | _, _, .str x => .str x
  | _, _, .tup h r => .tup (k.sqt h) (Reps.mono k g r)
  | _, _, .lst ga h r => .lst (g _ _ ga h).1 (g _ _ ga h).2 (Reps.mono k g r)
  | _, _, .fz h r => .fz (k.fz h) (Reps.mono k g r)
  | _, _, .dct h ho hq hk r => .dct (k.frz _ _ _ h) ho (fun x hx => k.sqt (hq x hx)) hk (Reps.mono k g r)
theorem Reps.mono (k : TK H H') (g : ∀ a xs, G a → H a = some (.lst xs) → G' a ∧ H' a = some (.lst xs)) : ∀ {vs ds}, Reps K G H vs ds → Reps K G' H' vs ds
  | _, _, .nil => .nil
  | _, _, .cons r rs => .cons (Rep.mono k g r) (Reps.mono k g rs)
end
theorem Reps.length {vs : List V} {ds : List D} : Reps K G H vs ds → vs.length = ds.length
  | .nil => rfl
  | .cons _ rs => congrArg (· + 1) (Reps.length rs)
theorem Reps.get {vs : List V} {ds : List D} {i : Nat} {d : D} : Reps K G H vs ds → ds[i]? = some d → ∃ v, vs[i]? = some v ∧ Rep K G H v d
  | .nil, h => by simp at h
  | .cons r rs, h => by
    cases i with
    | zero => simp at h; subst h; exact ⟨_, rfl, r⟩
    | succ i => simpa using Reps.get rs (by simpa using h)
theorem Reps.append {vs ws : List V} {ds es : List D} : Reps K G H vs ds → Reps K G H ws es → Reps K G H (vs ++ ws) (ds ++ es)
  | .nil, s => s
  | .cons r rs, s => .cons r (Reps.append rs s)
theorem Reps.take {vs : List V} {ds : List D} : ∀ (n : Nat), Reps K G H vs ds → Reps K G H (vs.take n) (ds.take n)
  | 0, _ => by simpa using Reps.nil
  | n + 1, .nil => .nil
  | n + 1, .cons r rs => .cons r (Reps.take n rs)
theorem Reps.drop {vs : List V} {ds : List D} : ∀ (n : Nat), Reps K G H vs ds → Reps K G H (vs.drop n) (ds.drop n)
  | 0, r => r
  | n + 1, .nil => .nil
  | n + 1, .cons r rs => Reps.drop n rs
theorem Reps.set {vs : List V} {ds : List D} {v : V} {d : D} (r : Rep K G H v d) : ∀ (i : Nat), Reps K G H vs ds → Reps K G H (vs.set i v) (ds.set i d)
  | _, .nil => .nil
  | 0, .cons _ rs => .cons r rs
  | i + 1, .cons r' rs => .cons r' (Reps.set r i rs)
theorem Reps.reverse {vs : List V} {ds : List D} : Reps K G H vs ds → Reps K G H vs.reverse ds.reverse
  | .nil => .nil
  | .cons r rs => by
    rw [List.reverse_cons, List.reverse_cons]
    exact Reps.append (Reps.reverse rs) (.cons r .nil)
theorem Reps.rep {vs : List V} {ds : List D} (h : Reps K G H vs ds) : ∀ k : Nat, Reps K G H (List.replicate k vs).flatten (List.replicate k ds).flatten
  | 0 => .nil
  | k + 1 => by
    rw [List.replicate_succ, List.replicate_succ, List.flatten_cons, List.flatten_cons]
    exact Reps.append h (Reps.rep h k)
theorem Reps.bls {vs : List V} : ∀ {ns : List Bool}, Reps K G H vs (ns.map .bl) → vs = ns.map .bl
  | [], h => by cases h; rfl
  | n :: ns, h => by
    cases h with
    | cons r rs => cases r; rw [Reps.bls rs]; rfl
theorem Reps.of_ints : ∀ (ns : List Int), Reps K G H (ns.map V.int) (ns.map D.int)
  | [] => .nil
  | n :: ns => .cons (.int n) (Reps.of_ints ns)
end
mutual
/-- no list within -/
def D.flat : D → Bool
  | .lst _ => false
  | .tup xs => D.flats xs
  | .fz xs => D.flats xs
  | .dct _ xs => D.flats xs
  | _ => true
def D.flats : List D → Bool
  | [] => true
  | x :: xs => D.flat x && D.flats xs
end
section
variable {K : PySem.W.Frag} {G G' : Addr → Prop} {H H' : Hp}
mutual
theorem Rep.flat : ∀ {v d}, Rep K G H v d → D.flat d = true → Rep K G' H v d
  | _, _, .non, _ => .non
  | _, _, .bl b, _ => .bl b
  | _, _, .int i, _ => .int i
  | _, _, .str x, _ => .str x
  | _, _, .tup h r, f => .tup h (Reps.flats r (by simpa [D.flat] using f))
  | _, _, .lst _ _ _, f => by simp [D.flat] at f
  | _, _, .fz h r, f => .fz h (Reps.flats r (by simpa [D.flat] using f))
  | _, _, .dct h ho hq hk r, f => .dct h ho hq hk (Reps.flats r (by simpa [D.flat] using f))
theorem Reps.flats : ∀ {vs ds}, Reps K G H vs ds → D.flats ds = true → Reps K G' H vs ds
  | _, _, .nil, _ => .nil
  | _, _, .cons r rs, f => by
    simp [D.flats] at f
    exact .cons (Rep.flat r f.1) (Reps.flats rs f.2)
end
end
structure Cc where
  K : PySem.W.Frag
  mg : Str → Option Value
  H0 : Hp
  Io : Addr → Prop
  vs : List V
def ownM (σ : St) (env : En) (a : Addr) : Prop := ∃ (i : Nat) (io : Bool) (ds : List D), env[i]? = some (Sl.own io ds) ∧ σ[i]? = some (some (V.ref a))
def Nn (σ : St) (env : En) (H : Hp) (a : Addr) : Prop := ownM σ env a ∨ H a = none
abbrev Av (L : Addr → Prop) (σ : St) (env : En) : Addr → Prop := fun a => ¬ L a ∧ ¬ ownM σ env a
structure RE (c : Cc) (L : Addr → Prop) (σ : St) (H : Hp) (env : En) : Prop where
  len : env.length = σ.length
  im : ∀ (i : Nat) (d : D), env[i]? = some (Sl.im d) → ∃ v, σ[i]? = some (some v) ∧ Rep c.K (Av L σ env) H v d
  own : ∀ (i : Nat) (io : Bool) (ds : List D), env[i]? = some (Sl.own io ds) → ∃ a xs, σ[i]? = some (some (V.ref a)) ∧ H a = some (.lst xs) ∧ Reps c.K (Av L σ env) H xs ds ∧ (io = false → c.H0 a = none) ∧ (io = true → c.Io a ∧ c.vs[i]? = some (.ref a))
  inj : ∀ (i j : Nat) (io jo : Bool) (ds es : List D) (a : Addr), env[i]? = some (Sl.own io ds) → env[j]? = some (Sl.own jo es) → σ[i]? = some (some (V.ref a)) → σ[j]? = some (some (V.ref a)) → i = j
  ext : ∀ a, L a → ¬ ownM σ env a ∧ ∃ xs, H a = some (.lst xs)
  fr : ∀ b o, ¬ c.Io b → c.H0 b = some o → H b = some o
  io : ∀ a, c.Io a → ∃ xs, H a = some (.lst xs)
def Stp (σ : St) (env : En) (H : Hp) (σ' : St) (env' : En) (H' : Hp) : Prop := ∀ b, ¬ Nn σ env H b → H' b = H b ∧ ¬ Nn σ' env' H' b
theorem Stp.refl {σ : St} {env : En} {H : Hp} : Stp σ env H σ env H := fun _ h => ⟨rfl, h⟩
theorem Stp.trans {σ σ1 σ2 : St} {env env1 env2 : En} {H H1 H2 : Hp} (a : Stp σ env H σ1 env1 H1) (b : Stp σ1 env1 H1 σ2 env2 H2) : Stp σ env H σ2 env2 H2 := fun x h => by
  obtain ⟨e1, n1⟩ := a x h
  obtain ⟨e2, n2⟩ := b x n1
  exact ⟨e2.trans e1, n2⟩
theorem Stp.back {σ σ' : St} {env env' : En} {H H' : Hp} (s : Stp σ env H σ' env' H') {a : Addr} (h : Nn σ' env' H' a) : Nn σ env H a := Classical.byContradiction fun n => (s a n).2 h
theorem Nn.not {σ : St} {env : En} {H : Hp} {a : Addr} {o : HO} (h : H a = some o) (n : ¬ ownM σ env a) : ¬ Nn σ env H a := fun z => z.elim n fun z => by rw [z] at h; cases h
theorem RE.tk {c : Cc} {L : Addr → Prop} {σ σ' : St} {env env' : En} {H H' : Hp} (h : RE c L σ H env) (s : Stp σ env H σ' env' H') : TK H H' := by
  have key : ∀ b o, H b = some o → (∀ xs, o ≠ .lst xs) → H' b = some o := fun b o e n => by
    have : ¬ ownM σ env b := fun ⟨i, io, ds, e1, e2⟩ => by
      obtain ⟨a, xs, e3, e4, _⟩ := h.own i io ds e1
      rw [e2] at e3
      cases e3
      rw [e] at e4
      cases e4
      exact n _ rfl
    rw [(s b (Nn.not e this)).1, e]
  exact ⟨fun b xs e => key b _ e (fun _ z => nomatch z), fun b o u e => key b _ e (fun _ z => nomatch z)⟩
theorem RE.rep {c : Cc} {L L' : Addr → Prop} {σ σ' : St} {env env' : En} {H H' : Hp} (h : RE c L σ H env) (s : Stp σ env H σ' env' H') {v : V} {d : D} (r : Rep c.K (Av L' σ env) H v d) : Rep c.K (Av L' σ' env') H' v d :=
  r.mono (h.tk s) fun a xs g e => by
    obtain ⟨e1, n1⟩ := s a (Nn.not e g.2)
    exact ⟨⟨g.1, fun z => n1 (.inl z)⟩, e1.trans e⟩
theorem RE.reps {c : Cc} {L L' : Addr → Prop} {σ σ' : St} {env env' : En} {H H' : Hp} (h : RE c L σ H env) (s : Stp σ env H σ' env' H') {v : List V} {d : List D} (r : Reps c.K (Av L' σ env) H v d) : Reps c.K (Av L' σ' env') H' v d :=
  r.mono (h.tk s) fun a xs g e => by
    obtain ⟨e1, n1⟩ := s a (Nn.not e g.2)
    exact ⟨⟨g.1, fun z => n1 (.inl z)⟩, e1.trans e⟩
theorem Stp.grow {σ : St} {env : En} {H H' : Hp} (k : ∀ b o, H b = some o → H' b = some o) : Stp σ env H σ env H' := fun b n => by
  cases e : H b with
  | none => exact (n (.inr e)).elim
  | some o => exact ⟨k b o e, fun z => z.elim (fun z => n (.inl z)) fun z => by rw [k b o e] at z; cases z⟩
theorem RE.grow {c : Cc} {L : Addr → Prop} {σ : St} {env : En} {H H' : Hp} (h : RE c L σ H env) (k : ∀ b o, H b = some o → H' b = some o) : RE c L σ H' env where
  len := h.len
  im := fun i d e => by
    obtain ⟨v, e1, r⟩ := h.im i d e
    exact ⟨v, e1, h.rep (Stp.grow k) r⟩
  own := fun i io ds e => by
    obtain ⟨a, xs, e1, e2, r, z⟩ := h.own i io ds e
    exact ⟨a, xs, e1, k _ _ e2, h.reps (Stp.grow k) r, z⟩
  inj := h.inj
  ext := fun a la => ⟨(h.ext a la).1, (h.ext a la).2.imp fun xs e => k _ _ e⟩
  fr := fun b o n e => k _ _ (h.fr b o n e)
  io := fun a i => (h.io a i).imp fun xs e => k _ _ e
theorem RE.less {c : Cc} {L L' : Addr → Prop} {σ : St} {env : En} {H : Hp} (h : RE c L σ H env) (l : ∀ a, L' a → L a) : RE c L' σ H env where
  len := h.len
  im := fun i d e => by
    obtain ⟨v, e1, r⟩ := h.im i d e
    exact ⟨v, e1, r.mono (.refl H) fun a xs g e => ⟨⟨fun z => g.1 (l a z), g.2⟩, e⟩⟩
  own := fun i io ds e => by
    obtain ⟨a, xs, e1, e2, r, z⟩ := h.own i io ds e
    exact ⟨a, xs, e1, e2, r.mono (.refl H) fun a xs g e => ⟨⟨fun z => g.1 (l a z), g.2⟩, e⟩, z⟩
  inj := h.inj
  ext := fun a la => h.ext a (l a la)
  fr := h.fr
  io := h.io
theorem RE.more {c : Cc} {L : Addr → Prop} {σ : St} {env : En} {H H' : Hp} (h : RE c L σ H env) (k : ∀ b o, H b = some o → H' b = some o) {a : Addr} {xs : List V} (n : H a = none) (e : H' a = some (.lst xs)) : RE c (fun b => L b ∨ b = a) σ H' env := by
  have no : ∀ b, (∃ o, H b = some o) → b ≠ a := fun b ⟨o, q⟩ z => by rw [z, n] at q; cases q
  have kk : ∀ {v d}, Rep c.K (Av L σ env) H v d → Rep c.K (Av (fun b => L b ∨ b = a) σ env) H' v d := fun r =>
    r.mono (h.tk (Stp.grow k)) fun b ys g q => ⟨⟨fun z => z.elim g.1 fun z => no b ⟨_, q⟩ z, g.2⟩, k _ _ q⟩
  have ks : ∀ {v d}, Reps c.K (Av L σ env) H v d → Reps c.K (Av (fun b => L b ∨ b = a) σ env) H' v d := fun r =>
    r.mono (h.tk (Stp.grow k)) fun b ys g q => ⟨⟨fun z => z.elim g.1 fun z => no b ⟨_, q⟩ z, g.2⟩, k _ _ q⟩
  refine ⟨h.len, fun i d e => ?_, fun i io ds e => ?_, h.inj, fun b lb => ?_, fun b o n e => k _ _ (h.fr b o n e), fun a i => (h.io a i).imp fun xs e => k _ _ e⟩
  · obtain ⟨v, e1, r⟩ := h.im i d e
    exact ⟨v, e1, kk r⟩
  · obtain ⟨a, xs, e1, e2, r, z⟩ := h.own i io ds e
    exact ⟨a, xs, e1, k _ _ e2, ks r, z⟩
  · rcases lb with lb | rfl
    · exact ⟨(h.ext b lb).1, (h.ext b lb).2.imp fun xs e => k _ _ e⟩
    · refine ⟨fun ⟨i, io, ds, e1, e2⟩ => ?_, _, e⟩
      obtain ⟨a', ys, e3, e4, _⟩ := h.own i io ds e1
      rw [e2] at e3
      cases e3
      rw [n] at e4
      cases e4

inductive RepC (K : PySem.W.Frag) (G : Addr → Prop) (H : Hp) : List Addr → List V → List Cp → Prop
  | nil : RepC K G H [] [] []
  | im {As v d vs cs} (r : Rep K G H v d) (rs : RepC K G H As vs cs) : RepC K G H As (v :: vs) (⟨false, d⟩ :: cs)
  | fr {As a xs ds vs cs} (n : a ∉ As) (e : H a = some (.lst xs)) (r : Reps K G H xs ds) (rs : RepC K G H As vs cs) : RepC K G H (a :: As) (.ref a :: vs) (⟨true, .lst ds⟩ :: cs)
def RepT (c : Cc) (L : Addr → Prop) (N : Addr → Prop) (σ : St) (H : Hp) (env : En) (v : V) : T → Prop
  | .im d => Rep c.K (Av L σ env) H v d
  | .al i => (∃ (io : Bool) (ds : List D), env[i]? = some (Sl.own io ds)) ∧ σ[i]? = some (some v)
  | .fr ds => ∃ a xs, v = .ref a ∧ H a = some (.lst xs) ∧ Reps c.K (Av (fun b => L b ∨ b = a) σ env) H xs ds ∧ ¬ L a ∧ c.H0 a = none ∧ N a ∧ RE c (fun b => L b ∨ b = a) σ H env
  | .ft cs => ∃ t vs As, v = .ref t ∧ SqT c.K H t vs ∧ RepC c.K (Av (fun b => L b ∨ b ∈ As) σ env) H As vs cs ∧ (∀ a ∈ As, ¬ L a ∧ c.H0 a = none ∧ N a) ∧ RE c (fun b => L b ∨ b ∈ As) σ H env

def Wx (mg : Str → Option Value) (W : WX) (x : Str) (σ : St) (H : Hp) : Prop := ∀ C, mg x = some (.ref C) → W (.ref C) none σ H
abbrev FE := En → R T
abbrev FT := En → R Bool
abbrev FA := En → R (List T)
end DL
namespace DL
open PySem PySem.Spec L2
def R.bind {α β : Type} (r : R α) (g : α → En → R β) : R β := match r with
  | .er => .er
  | .ex x e => .ex x e
  | .ok a e => g a e
@[simp] theorem bind_ok {α β : Type} (a : α) (e : En) (g : α → En → R β) : R.bind (.ok a e) g = g a e := rfl
@[simp] theorem bind_er {α β : Type} (g : α → En → R β) : R.bind .er g = .er := rfl
@[simp] theorem bind_ex {α β : Type} (x : Str) (e : En) (g : α → En → R β) : R.bind (.ex x e) g = .ex x e := rfl

def dK {α : Type} (c : Cc) (W : WX) (L : Addr → Prop) (σ : St) (H : Hp) (env : En) (r : R α) (P : α → En → Hp → Prop) : Prop := match r with
  | .er => False
  | .ex x env' => ∀ H', RE c L σ H' env' → Stp σ env H σ env' H' → Wx c.mg W x σ H'
  | .ok a env' => ∀ H', RE c L σ H' env' → Stp σ env H σ env' H' → P a env' H'
def dE (c : Cc) (W : WX) (f : FE) : TE := fun σ H Q => ∃ env L, RE c L σ H env ∧ dK c W L σ H env (f env) fun t env' H' => ∀ v, RepT c L (Nn σ env H) σ H' env' v t → Q v H'
def dT (c : Cc) (W : WX) (f : FT) : TT := fun σ H Q => ∃ env L, RE c L σ H env ∧ dK c W L σ H env (f env) fun b _ H' => Q b H'
section
variable {α β : Type} {c : Cc} {W : WX} {L L' : Addr → Prop} {σ : St} {H : Hp} {env : En}
theorem dE_iff {f : FE} {Q : VK} : dE c W f σ H Q ↔ ∃ env L, RE c L σ H env ∧ dK c W L σ H env (f env) fun t env' H' => ∀ v, RepT c L (Nn σ env H) σ H' env' v t → Q v H' := Iff.rfl
theorem dT_iff {f : FT} {Q : Bool → Hp → Prop} : dT c W f σ H Q ↔ ∃ env L, RE c L σ H env ∧ dK c W L σ H env (f env) fun b _ H' => Q b H' := Iff.rfl
theorem dK.bind {r : R α} {g : α → En → R β} {P : β → En → Hp → Prop} (h : dK c W L σ H env (r.bind g) P) : dK c W L σ H env r fun a env1 H1 => dK c W L σ H1 env1 (g a env1) P := by
  cases r with
  | er => exact h
  | ex x e => exact h
  | ok a e =>
    intro H1 r1 s1
    have h : dK c W L σ H env (g a e) P := h
    show dK c W L σ H1 e (g a e) P
    cases q : g a e with
    | er => rw [q] at h; exact h
    | ex x e2 => rw [q] at h; exact fun H2 r2 s2 => h H2 r2 (s1.trans s2)
    | ok b e2 => rw [q] at h; exact fun H2 r2 s2 => h H2 r2 (s1.trans s2)
theorem dK.mono {r : R α} {P P' : α → En → Hp → Prop} (h : dK c W L σ H env r P) (k : ∀ a env' H', RE c L σ H' env' → Stp σ env H σ env' H' → P a env' H' → P' a env' H') : dK c W L σ H env r P' := by
  cases r with
  | er => exact h
  | ex x e => exact h
  | ok a e => exact fun H' r s => k a e H' r s (h H' r s)
theorem dK.less {r : R α} {P : α → En → Hp → Prop} (h : dK c W L σ H env r P) (l : ∀ a, L a → L' a) : dK c W L' σ H env r P := by
  cases r with
  | er => exact h
  | ex x e => exact fun H' r s => h H' (r.less l) s
  | ok a e => exact fun H' r s => h H' (r.less l) s
theorem dE.of {f : FE} {Q : VK} (r : RE c L σ H env) (h : dK c W L σ H env (f env) fun t env' H' => ∀ v, RepT c L (Nn σ env H) σ H' env' v t → Q v H') : dE c W f σ H Q := dE_iff.mpr ⟨env, L, r, h⟩
theorem dT.of {f : FT} {Q : Bool → Hp → Prop} (r : RE c L σ H env) (h : dK c W L σ H env (f env) fun b _ H' => Q b H') : dT c W f σ H Q := dT_iff.mpr ⟨env, L, r, h⟩
end
theorem PEw {X : Cx} {e : Expr} {t t' : TE} (h : PE X e t) (k : ∀ σ H Q, t' σ H Q → t σ H Q) : PE X e t' := ⟨fun pins s σ H Q I q => h.run pins s σ H Q I (k σ H Q q)⟩
theorem PTw {X : Cx} {e : Expr} {t t' : TT} (h : PT X e t) (k : ∀ σ H Q, t' σ H Q → t σ H Q) : PT X e t' := ⟨fun pins s σ H Q I q => h.run pins s σ H Q I (k σ H Q q)⟩
theorem PWw {X : Cx} {e : Expr} {t t' : TT} (h : PW X e t) (k : ∀ σ H Q, t' σ H Q → t σ H Q) : PW X e t' := ⟨fun wh pins s σ H Q I q => h.run wh pins s σ H Q I (k σ H Q q)⟩
theorem PAw {X : Cx} {e : List Expr} {t t' : TA} (h : PA X e t) (k : ∀ σ H Q, t' σ H Q → t σ H Q) : PA X e t' := ⟨fun pos pins s σ H Q I q => h.run pos pins s σ H Q I (k σ H Q q)⟩
theorem PSw {X : Cx} {e : Stmt} {t t' : TS} (h : PS X e t) (k : ∀ D σ H, t' D σ H → t D σ H) : PS X e t' := ⟨fun pins s σ H D I q => h.run pins s σ H D I (k D σ H q)⟩
theorem PSsw {X : Cx} {e : List Stmt} {t t' : TS} (h : PSs X e t) (k : ∀ D σ H, t' D σ H → t D σ H) : PSs X e t' := ⟨fun pins s σ H D I q => h.run pins s σ H D I (k D σ H q)⟩

section
variable {c : Cc} {L L' N N' : Addr → Prop} {σ : St} {H : Hp} {env : En} {v : V} {t : T}
theorem RepC.in {K : PySem.W.Frag} {G : Addr → Prop} {H : Hp} : ∀ {As vs cs}, RepC K G H As vs cs → ∀ a ∈ As, ∃ xs, H a = some (.lst xs)
  | _, _, _, .nil, a, h => by cases h
  | _, _, _, .im _ rs, a, h => RepC.in rs a h
  | _, _, _, .fr n e r rs, a, h => by
    rcases List.mem_cons.mp h with rfl | h
    · exact ⟨_, e⟩
    · exact RepC.in rs a h
theorem RepC.mono {K : PySem.W.Frag} {G G' : Addr → Prop} {H H' : Hp} (k : TK H H') (g : ∀ a xs, G a → H a = some (.lst xs) → G' a ∧ H' a = some (.lst xs)) : ∀ {As vs cs}, RepC K G H As vs cs → (∀ a ∈ As, ∀ xs, H a = some (.lst xs) → H' a = some (.lst xs)) → RepC K G' H' As vs cs
  | _, _, _, .nil, _ => .nil
  | _, _, _, .im r rs, q => .im (r.mono k g) (RepC.mono k g rs q)
  | _, _, _, .fr n e r rs, q => .fr n (q _ List.mem_cons_self _ e) (r.mono k g) (RepC.mono k g rs fun a h => q a (List.mem_cons_of_mem _ h))
theorem RepC.reps {K : PySem.W.Frag} {G G' : Addr → Prop} {H : Hp} (g : ∀ a, G a → G' a) : ∀ {As vs cs}, RepC K G H As vs cs → (∀ a ∈ As, G' a) → Reps K G' H vs (cs.map Cp.d)
  | _, _, _, .nil, _ => .nil
  | _, _, _, .im r rs, q => .cons (r.mono (.refl H) fun a xs h e => ⟨g a h, e⟩) (RepC.reps g rs q)
  | _, _, _, .fr n e r rs, q => .cons (.lst (q _ List.mem_cons_self) e (r.mono (.refl H) fun a xs h e => ⟨g a h, e⟩)) (RepC.reps g rs fun a h => q a (List.mem_cons_of_mem _ h))
theorem RepT.less (l : ∀ a, L' a → L a) (n : ∀ a, N a → N' a) (h : RepT c L N σ H env v t) : RepT c L' N' σ H env v t := by
  cases t with
  | im d => exact Rep.mono (.refl H) (fun a xs g e => ⟨⟨fun z => g.1 (l a z), g.2⟩, e⟩) h
  | al i => exact h
  | fr ds =>
    obtain ⟨a, xs, e, e1, r, n1, n2, n3, q⟩ := h
    exact ⟨a, xs, e, e1, r.mono (.refl H) (fun b ys g e => ⟨⟨fun z => g.1 (z.imp (l b) id), g.2⟩, e⟩), fun z => n1 (l a z), n2, n a n3, q.less fun b z => z.imp (l b) id⟩
  | ft cs =>
    obtain ⟨t, vs, As, e, e1, r, n1, q⟩ := h
    exact ⟨t, vs, As, e, e1, r.mono (.refl H) (fun b ys g e => ⟨⟨fun z => g.1 (z.imp (l b) id), g.2⟩, e⟩) (fun _ _ _ e => e), fun a ha => ⟨fun z => (n1 a ha).1 (l a z), (n1 a ha).2.1, n a (n1 a ha).2.2⟩, q.less fun b z => z.imp (l b) id⟩
def T.weak : T → T
  | .fr ds => .im (.lst ds)
  | .ft cs => .im (.tup (cs.map Cp.d))
  | t => t
theorem RepT.wk (h : RepT c L N σ H env v t) : RepT c L N σ H env v t.weak := by
  cases t with
  | im d => exact h
  | al i => exact h
  | fr ds =>
    obtain ⟨a, xs, rfl, e1, r, n1, n2, n3, q⟩ := h
    exact .lst ⟨n1, (q.ext a (.inr rfl)).1⟩ e1 (r.mono (.refl H) fun b ys g e => ⟨⟨fun z => g.1 (.inl z), g.2⟩, e⟩)
  | ft cs =>
    obtain ⟨t, vs, As, rfl, e1, r, n1, q⟩ := h
    exact .tup e1 (r.reps (fun b g => ⟨fun z => g.1 (.inl z), g.2⟩) fun a ha => ⟨(n1 a ha).1, (q.ext a (.inr ha)).1⟩)
end
def T.val (t : T) (env : En) : Option D := match t with
  | .im d => some d
  | .al i => match env[i]? with
    | some (.own _ ds) => some (.lst ds)
    | _ => none
  | .fr ds => some (.lst ds)
  | .ft cs => some (.tup (cs.map Cp.d))
@[simp] theorem val_im (d : D) (env : En) : (T.im d).val env = some d := rfl
@[simp] theorem val_fr (ds : List D) (env : En) : (T.fr ds).val env = some (.lst ds) := rfl
@[simp] theorem val_ft (cs : List Cp) (env : En) : (T.ft cs).val env = some (.tup (cs.map Cp.d)) := rfl
def RepO (K : PySem.W.Frag) (G : Addr → Prop) (H : Hp) (v : V) : D → Prop
  | .lst ds => ∃ a xs, v = .ref a ∧ H a = some (.lst xs) ∧ Reps K G H xs ds
  | d => Rep K G H v d
theorem Rep.o {K : PySem.W.Frag} {G : Addr → Prop} {H : Hp} {v : V} {d : D} (h : Rep K G H v d) : RepO K G H v d := by
  cases d with
  | lst ds => cases h with | lst g e r => exact ⟨_, _, rfl, e, r⟩
  | non => exact h
  | bl b => exact h
  | int i => exact h
  | str x => exact h
  | tup xs => exact h
  | fz xs => exact h
  | dct ks xs => exact h
theorem RepO.any {K : PySem.W.Frag} {G : Addr → Prop} {H : Hp} {v : V} {d : D} (h : RepO K G H v d) : Rep K (fun _ => True) H v d := by
  have w : ∀ {v d}, Rep K G H v d → Rep K (fun _ => True) H v d := fun r => r.mono (.refl H) fun a xs _ e => ⟨trivial, e⟩
  have ws : ∀ {v d}, Reps K G H v d → Reps K (fun _ => True) H v d := fun r => r.mono (.refl H) fun a xs _ e => ⟨trivial, e⟩
  cases d with
  | lst ds => obtain ⟨a, xs, rfl, e, r⟩ := h; exact .lst trivial e (ws r)
  | non => exact w h
  | bl b => exact w h
  | int i => exact w h
  | str x => exact w h
  | tup xs => exact w h
  | fz xs => exact w h
  | dct ks xs => exact w h
section
variable {c : Cc} {L N : Addr → Prop} {σ : St} {H H1 : Hp} {env env1 : En} {v : V} {t : T} {d : D}
theorem RepT.opr (r : RE c L σ H env) (h : RepT c L N σ H env v t) (s : Stp σ env H σ env1 H1) (r1 : RE c L σ H1 env1) (e : t.val env1 = some d) : RepO c.K (Av L σ env1) H1 v d := by
  have h := h.wk
  cases t with
  | im d' => cases e; exact Rep.o (r.rep s h)
  | al i =>
    obtain ⟨⟨io, ds, e1⟩, e2⟩ := h
    cases q : env1[i]? with
    | none => simp [T.val, q] at e
    | some sl =>
      cases sl with
      | no => simp [T.val, q] at e
      | im d => simp [T.val, q] at e
      | own io' ds' =>
        simp [T.val, q] at e
        subst e
        obtain ⟨a, xs, e3, e4, r5, _⟩ := r1.own i io' ds' q
        rw [e2] at e3
        cases e3
        exact ⟨a, xs, rfl, e4, r5⟩
  | fr ds => cases e; exact Rep.o (r.rep s h)
  | ft cs => cases e; exact Rep.o (r.rep s h)
theorem RepT.opr0 (r : RE c L σ H env) (h : RepT c L N σ H env v t) (e : t.val env = some d) : RepO c.K (Av L σ env) H v d := h.opr r .refl r e
end
section
variable {X : Cx} {c : Cc} {W : WX} {pos : Pos}
def eVar (i : Nat) : FE := fun env => match env[i]? with
  | some (.im d) => .ok (.im d) env
  | some (.own _ _) => .ok (.al i) env
  | _ => .er
theorem de_var (i : Nat) {x : Str} (h : PE X (.Name x pos) (tVar i)) : PE X (.Name x pos) (dE c W (eVar i)) := by
  refine PEw h fun σ H Q h => ?_
  obtain ⟨env, L, r, h⟩ := dE_iff.mp h
  unfold eVar at h
  cases e : env[i]? with
  | none => rw [e] at h; exact h.elim
  | some s =>
    rw [e] at h
    cases s with
    | no => exact h.elim
    | im d =>
      obtain ⟨v, e1, q⟩ := r.im i d e
      exact ⟨v, e1, h H r .refl v q⟩
    | own io ds =>
      obtain ⟨a, xs, e1, q⟩ := r.own i io ds e
      exact ⟨_, e1, h H r .refl _ ⟨⟨io, ds, e⟩, e1⟩⟩
def eC (d : D) : FE := fun env => .ok (.im d) env
theorem de_c {e : Expr} {v : V} {d : D} (h : PE X e (tC v)) (k : ∀ G H, Rep c.K G H v d) : PE X e (dE c W (eC d)) := by
  refine PEw h fun σ H Q h => ?_
  obtain ⟨env, L, r, h⟩ := dE_iff.mp h
  exact h H r .refl v (k _ H)
theorem de_int {i : Int} {j} : PE X (.Constant (.int i) j pos) (dE c W (eC (.int i))) := de_c pe_int fun _ _ => .int i
theorem de_bl {b : Bool} {j} : PE X (.Constant (.bool b) j pos) (dE c W (eC (.bl b))) := de_c pe_bl fun _ _ => .bl b
theorem de_non {j} : PE X (.Constant .none j pos) (dE c W (eC .non)) := de_c pe_non fun _ _ => .non
theorem de_str {x : Str} {j} : PE X (.Constant (.str x) j pos) (dE c W (eC (.str x))) := de_c pe_str fun _ _ => .str x
end
def OpD (c : Cc) (r : R2) (g : D → D → Option T) : Prop := ∀ (L : Addr → Prop) (σ : St) (H : Hp) (env : En) (x y : V) (dx dy : D) (t : T) (Q : VK), RE c L σ H env → RepO c.K (Av L σ env) H x dx → RepO c.K (Av L σ env) H y dy → g dx dy = some t →
  (∀ v H', RE c L σ H' env → Stp σ env H σ env H' → RepT c L (Nn σ env H) σ H' env v t → Q v H') → r x y H Q
def UnD (c : Cc) (r : V → Hp → VK → Prop) (g : D → Option T) : Prop := ∀ (L : Addr → Prop) (σ : St) (H : Hp) (env : En) (x : V) (dx : D) (t : T) (Q : VK), RE c L σ H env → RepO c.K (Av L σ env) H x dx → g dx = some t →
  (∀ v H', RE c L σ H' env → Stp σ env H σ env H' → RepT c L (Nn σ env H) σ H' env v t → Q v H') → r x H Q
def R.opt {α : Type} (o : Option α) (env : En) : R α := match o with
  | some a => .ok a env
  | none => .er
@[simp] theorem opt_some {α : Type} (a : α) (env : En) : R.opt (some a) env = .ok a env := rfl
@[simp] theorem opt_none {α : Type} (env : En) : R.opt (none : Option α) env = .er := rfl
def op2 (g : D → D → Option T) (ta tb : T) (env : En) : R T := match ta.val env, tb.val env with
  | some x, some y => R.opt (g x y) env
  | _, _ => .er
def op1 (g : D → Option T) (ta : T) (env : En) : R T := match ta.val env with
  | some x => R.opt (g x) env
  | _ => .er
def eOp (g : D → D → Option T) (fa fb : FE) : FE := fun env => (fa env).bind fun ta e1 => (fb e1).bind fun tb e2 => op2 g ta tb e2
def eUn (g : D → Option T) (fa : FE) : FE := fun env => (fa env).bind fun ta e1 => op1 g ta e1
section
variable {X : Cx} {c : Cc} {W : WX} {pos : Pos} {a b : Expr} {fa fb : FE} {r : R2} {g : D → D → Option T}
theorem dK_op2 {L : Addr → Prop} {σ : St} {H : Hp} {env : En} {x y : V} {ta tb : T} {N1 N2 N : Addr → Prop} {Q : VK} (ho : OpD c r g) (re : RE c L σ H env) (hx : ∀ d, ta.val env = some d → RepO c.K (Av L σ env) H x d) (hy : ∀ d, tb.val env = some d → RepO c.K (Av L σ env) H y d)
    (n : ∀ a, Nn σ env H a → N a) (h : dK c W L σ H env (op2 g ta tb env) fun t env' H' => ∀ v, RepT c L N σ H' env' v t → Q v H') : r x y H Q := by
  unfold op2 at h
  cases ea : ta.val env with
  | none => rw [ea] at h; exact h.elim
  | some dx =>
    cases eb : tb.val env with
    | none => rw [ea, eb] at h; exact h.elim
    | some dy =>
      rw [ea, eb] at h
      cases eg : g dx dy with
      | none => simp only [eg] at h; exact h.elim
      | some t =>
        simp only [eg] at h
        exact ho L σ H env x y dx dy t Q re (hx _ ea) (hy _ eb) eg fun v H' re' s q => h H' re' s v (q.less (fun _ z => z) n)
theorem d_tOp (ho : OpD c r g) : ∀ σ H Q, dE c W (eOp g fa fb) σ H Q → tOp r (dE c W fa) (dE c W fb) σ H Q := fun σ H Q h => by
  obtain ⟨env, L, re, h⟩ := dE_iff.mp h
  refine dE.of re (h.bind.mono fun ta e1 H1 r1 s1 h1 x q1 => ?_)
  refine dE.of r1 (h1.bind.mono fun tb e2 H2 r2 s2 h2 y q2 => ?_)
  exact dK_op2 (W := W) (N1 := fun _ => True) (N2 := fun _ => True) ho r2 (fun d e => q1.opr r1 s2 r2 e) (fun d e => q2.opr0 r2 e) (fun a n => s1.back (s2.back n)) h2
theorem de_op {op : Operator} (hr : OpR X (binaryOp op) r) (ho : OpD c r g) (ha : PE X a (dE c W fa)) (hb : PE X b (dE c W fb)) : PE X (.BinOp a op b pos) (dE c W (eOp g fa fb)) :=
  PEw (pe_op hr ha hb) (d_tOp ho)
theorem de_cmp {op : CmpOp} (hr : OpR X (compareOp op) r) (ho : OpD c r g) (ha : PE X a (dE c W fa)) (hb : PE X b (dE c W fb)) (hm : behindInMarks op b = false) : PE X (.Compare a [op] [b] pos) (dE c W (eOp g fa fb)) :=
  PEw (pe_cmpR hr ha hb hm) (d_tOp ho)
theorem d_tUn {r : V → Hp → VK → Prop} {g : D → Option T} (ho : UnD c r g) : ∀ σ H Q, dE c W (eUn g fa) σ H Q → tUn r (dE c W fa) σ H Q := fun σ H Q h => by
  obtain ⟨env, L, re, h⟩ := dE_iff.mp h
  refine dE.of re (h.bind.mono fun ta e1 H1 r1 s1 h1 x q1 => ?_)
  unfold op1 at h1
  cases ea : ta.val e1 with
  | none => rw [ea] at h1; exact h1.elim
  | some dx =>
    rw [ea] at h1
    cases eg : g dx with
    | none => simp only [eg] at h1; exact h1.elim
    | some t =>
      simp only [eg] at h1
      exact ho L σ H1 e1 x dx t Q r1 (q1.opr0 r1 ea) eg fun v H' re' s q => h1 H' re' s v (q.less (fun _ z => z) fun a n => s1.back n)
end
end DL
namespace DL
open PySem PySem.Spec L2
section
variable {K : PySem.W.Frag} {G : Addr → Prop} {H : Hp} {v : V}
theorem RepO.int {i : Int} (h : RepO K G H v (.int i)) : v = .int i := by cases (show Rep K G H v (.int i) from h); rfl
theorem RepO.bl {i : Bool} (h : RepO K G H v (.bl i)) : v = .bl i := by cases (show Rep K G H v (.bl i) from h); rfl
theorem RepO.str {i : Str} (h : RepO K G H v (.str i)) : v = .str i := by cases (show Rep K G H v (.str i) from h); rfl
theorem RepO.non (h : RepO K G H v .non) : v = .non := by cases (show Rep K G H v .non from h); rfl
theorem RepO.tup {ds : List D} (h : RepO K G H v (.tup ds)) : ∃ a xs, v = .ref a ∧ SqT K H a xs ∧ Reps K G H xs ds := by
  cases (show Rep K G H v (.tup ds) from h) with
  | tup h1 r => exact ⟨_, _, rfl, h1, r⟩
theorem RepO.fz {ds : List D} (h : RepO K G H v (.fz ds)) : ∃ a xs, v = .ref a ∧ FzAt K H a xs ∧ Reps K G H xs ds := by
  cases (show Rep K G H v (.fz ds) from h) with
  | fz h1 r => exact ⟨_, _, rfl, h1, r⟩
theorem RepO.lst {ds : List D} (h : RepO K G H v (.lst ds)) : ∃ a xs, v = .ref a ∧ H a = some (.lst xs) ∧ Reps K G H xs ds := h
theorem not_non {d : D} (h : RepO K G H v d) (n : d ≠ .non) : v ≠ .non := by
  intro e
  subst e
  cases d with
  | non => exact n rfl
  | lst ds => obtain ⟨a, xs, e, _⟩ := h; cases e
  | bl b => cases h
  | int i => cases h
  | str x => cases h
  | tup xs => cases h
  | fz xs => cases h
  | dct _ _ => cases h
end
theorem OpD.or {c : Cc} {r r' : R2} {g g' : D → D → Option T} (h : OpD c r g) (h' : OpD c r' g') : OpD c (fun x y H Q => r x y H Q ∨ r' x y H Q) (fun x y => match g x y with
  | some t => some t
  | none => g' x y) := fun L σ H env x y dx dy t Q re hx hy e k => by
  cases q : g dx dy with
  | some t' =>
    simp only [q] at e
    cases e
    exact .inl (h L σ H env x y dx dy _ Q re hx hy q k)
  | none =>
    simp only [q] at e
    exact .inr (h' L σ H env x y dx dy _ Q re hx hy e k)
theorem new_tup {c : Cc} {L : Addr → Prop} {σ : St} {H : Hp} {env : En} {Q : VK} {xs : List V} {ds : List D} (re : RE c L σ H env) (r : Reps c.K (Av L σ env) H xs ds) (k : ∀ v H', RE c L σ H' env → Stp σ env H σ env H' → RepT c L (Nn σ env H) σ H' env v (.im (.tup ds)) → Q v H') :
    ∀ p, H p = none → Q (.ref p) (upd H p (.tup xs)) := fun p n => by
  have kp : ∀ b o, H b = some o → upd H p (.tup xs) b = some o := fun b o e => by rw [upd_ne (ne_of_none e n)]; exact e
  exact k _ _ (re.grow kp) (.grow kp) (.tup (.inl (.inl upd_same)) (re.reps (.grow kp) r))
theorem RE.newL {c : Cc} {L : Addr → Prop} {σ : St} {H : Hp} {env : En} {xs : List V} {ds : List D} (re : RE c L σ H env) (r : Reps c.K (Av L σ env) H xs ds) {p : Addr} (n : H p = none) :
    RE c L σ (upd H p (.lst xs)) env ∧ Stp σ env H σ env (upd H p (.lst xs)) ∧ RepT c L (Nn σ env H) σ (upd H p (.lst xs)) env (.ref p) (.fr ds) := by
  have kp : ∀ b o, H b = some o → upd H p (.lst xs) b = some o := fun b o e => by rw [upd_ne (ne_of_none e n)]; exact e
  have r2 : RE c (fun b => L b ∨ b = p) σ (upd H p (.lst xs)) env := re.more kp n upd_same
  refine ⟨re.grow kp, .grow kp, p, xs, rfl, upd_same, ?_, fun l => ?_, ?_, .inr n, r2⟩
  · exact r.mono (re.tk (.grow kp)) fun b ys g e => ⟨⟨fun z => z.elim g.1 (fun z => by rw [z, n] at e; cases e), g.2⟩, kp _ _ e⟩
  · obtain ⟨_, ys, e⟩ := re.ext p l
    rw [n] at e
    cases e
  · cases e : c.H0 p with
    | none => rfl
    | some o =>
      by_cases i : c.Io p
      · obtain ⟨ys, q⟩ := re.io p i
        rw [n] at q
        cases q
      · have q := re.fr p o i e
        rw [n] at q
        cases q
@[simp] def dAdd : D → D → Option T
  | .int i, .int j => some (.im (.int (i + j)))
  | .str x, .str y => if x.length + y.length ≤ sizeLine then some (.im (.str (x ++ y))) else none
  | .tup xs, .tup ys => if xs.length + ys.length ≤ 1000000 then some (.im (.tup (xs ++ ys))) else none
  | .lst xs, .lst ys => if xs.length + ys.length ≤ 1000000 then some (.fr (xs ++ ys)) else none
  | _, _ => none
@[simp] def dSub : D → D → Option T
  | .int i, .int j => some (.im (.int (i - j)))
  | _, _ => none
@[simp] def dMul : D → D → Option T
  | .int i, .int j => if (-(2 ^ 64) < i ∧ i < 2 ^ 64) ∨ (-(2 ^ 64) < j ∧ j < 2 ^ 64) then some (.im (.int (i * j))) else none
  | _, _ => none
@[simp] def dFdiv : D → D → Option T
  | .int i, .int j => if 0 < j ∧ j < 1073741824 then some (.im (.int (i / j))) else none
  | _, _ => none
@[simp] def dMod : D → D → Option T
  | .int i, .int j => if 0 < j then some (.im (.int (i % j))) else none
  | _, _ => none
@[simp] def dPow : D → D → Option T
  | .int i, .int j => if 0 ≤ j ∧ j ≤ 1000000 ∧ i.natAbs < 2 ^ 64 then some (.im (.int (i ^ j.toNat))) else none
  | _, _ => none
@[simp] def dNeg : D → Option T
  | .int i => some (.im (.int (-i)))
  | _ => none
@[simp] def dLt : D → D → Option T
  | .int i, .int j => some (.im (.bl (decide (i < j))))
  | _, _ => none
@[simp] def dLe : D → D → Option T
  | .int i, .int j => some (.im (.bl (decide (i ≤ j))))
  | _, _ => none
@[simp] def dGt : D → D → Option T
  | .int i, .int j => some (.im (.bl (decide (j < i))))
  | _, _ => none
@[simp] def dGe : D → D → Option T
  | .int i, .int j => some (.im (.bl (decide (j ≤ i))))
  | _, _ => none
theorem line6 {n : Nat} (h : n ≤ 1000000) : n ≤ sizeLine := Nat.le_trans h (by rw [sizeLine_eq]; decide)
section
variable {X : Cx} {c : Cc}
theorem opd_I {C : Int → Int → Prop} {gv : Int → Int → V} {g : D → D → Option T} (h : ∀ x y t, g x y = some t → ∃ i j d, x = .int i ∧ y = .int j ∧ C i j ∧ t = .im d ∧ ∀ G H, Rep c.K G H (gv i j) d) : OpD c (rI C gv) g := by
  intro L σ H env x y dx dy t Q re hx hy e k
  obtain ⟨i, j, d, rfl, rfl, hc, rfl, r⟩ := h dx dy t e
  exact ⟨i, j, hx.int, hy.int, hc, k _ H re .refl (r _ _)⟩
theorem opd_I0 {gv : Int → Int → V} {g : D → D → Option T} (h : ∀ x y t, g x y = some t → ∃ i j d, x = .int i ∧ y = .int j ∧ t = .im d ∧ ∀ G H, Rep c.K G H (gv i j) d) : OpD c (rI0 gv) g := by
  intro L σ H env x y dx dy t Q re hx hy e k
  obtain ⟨i, j, d, rfl, rfl, rfl, r⟩ := h dx dy t e
  exact ⟨i, j, hx.int, hy.int, k _ H re .refl (r _ _)⟩
theorem d_sub : OpD c (rI0 fun i j => .int (i - j)) dSub := opd_I0 fun x y t h => by
  cases x <;> cases y <;> simp at h
  exact ⟨_, _, _, rfl, rfl, h.symm, fun _ _ => .int _⟩
theorem d_lt : OpD c (rI0 fun i j => .bl (decide (i < j))) dLt := opd_I0 fun x y t h => by
  cases x <;> cases y <;> simp at h
  exact ⟨_, _, _, rfl, rfl, h.symm, fun _ _ => .bl _⟩
theorem d_le : OpD c (rI0 fun i j => .bl (decide (i ≤ j))) dLe := opd_I0 fun x y t h => by
  cases x <;> cases y <;> simp at h
  exact ⟨_, _, _, rfl, rfl, h.symm, fun _ _ => .bl _⟩
theorem d_gt : OpD c (rI0 fun i j => .bl (decide (j < i))) dGt := opd_I0 fun x y t h => by
  cases x <;> cases y <;> simp at h
  exact ⟨_, _, _, rfl, rfl, h.symm, fun _ _ => .bl _⟩
theorem d_mul : OpD c (rI CMul fun i j => .int (i * j)) dMul := opd_I fun x y t h => by
  cases x <;> cases y <;> simp only [dMul] at h <;> try (cases h; done)
  split at h
  · rename_i q
    exact ⟨_, _, _, rfl, rfl, q, (Option.some.inj h).symm, fun _ _ => .int _⟩
  · cases h
theorem d_fdiv : OpD c (rI CDiv fun i j => .int (i / j)) dFdiv := opd_I fun x y t h => by
  cases x <;> cases y <;> simp only [dFdiv] at h <;> try (cases h; done)
  split at h
  · rename_i q
    exact ⟨_, _, _, rfl, rfl, q, (Option.some.inj h).symm, fun _ _ => .int _⟩
  · cases h
theorem d_mod : OpD c (rI (fun _ j => 0 < j) fun i j => .int (i % j)) dMod := opd_I fun x y t h => by
  cases x <;> cases y <;> simp only [dMod] at h <;> try (cases h; done)
  split at h
  · rename_i q
    exact ⟨_, _, _, rfl, rfl, q, (Option.some.inj h).symm, fun _ _ => .int _⟩
  · cases h
theorem d_pow : OpD c (rI CPow fun i j => .int (i ^ j.toNat)) dPow := opd_I fun x y t h => by
  cases x <;> cases y <;> simp only [dPow] at h <;> try (cases h; done)
  split at h
  · rename_i q
    exact ⟨_, _, _, rfl, rfl, q, (Option.some.inj h).symm, fun _ _ => .int _⟩
  · cases h
abbrev rAddA (K : PySem.W.Frag) : R2 := fun x y H Q => rI0 (fun i j => .int (i + j)) x y H Q ∨ ((∃ i j, x = .str i ∧ y = .str j ∧ i.length + j.length ≤ sizeLine ∧ Q (.str (i ++ j)) H) ∨ (rCatA K x y H Q ∨ rCat x y H Q))
theorem op_addA : OpR X (binaryOp .Add) (rAddA X.K) := op_add.or (op_add_str.or (op_catA.or op_cat))
theorem d_add : OpD c (rAddA c.K) dAdd := by
  intro L σ H env x y dx dy t Q re hx hy e k
  cases dx <;> cases dy <;> simp only [dAdd] at e <;> try (cases e; done)
  · cases e
    exact .inl ⟨_, _, hx.int, hy.int, k _ H re .refl (.int _)⟩
  · split at e
    · rename_i q
      cases e
      exact .inr (.inl ⟨_, _, hx.str, hy.str, q, k _ H re .refl (.str _)⟩)
    · cases e
  · split at e
    · rename_i q
      cases e
      obtain ⟨a, xs, rfl, h1, r1⟩ := hx.tup
      obtain ⟨b, ys, rfl, h2, r2⟩ := hy.tup
      refine .inr (.inr (.inl ⟨a, b, xs, ys, rfl, rfl, h1, h2, ?_, fun z => ?_, fun _ z => ?_, fun _ _ => new_tup re (r1.append r2) k⟩))
      · rw [r1.length, r2.length]
        exact line6 q
      · subst z
        cases r1
        exact k _ H re .refl (.tup h2 r2)
      · subst z
        cases r2
        rw [List.append_nil] at k
        exact k _ H re .refl (.tup h1 r1)
    · cases e
  · split at e
    · rename_i q
      cases e
      obtain ⟨a, xs, rfl, h1, r1⟩ := hx.lst
      obtain ⟨b, ys, rfl, h2, r2⟩ := hy.lst
      refine .inr (.inr (.inr ⟨a, b, xs, ys, rfl, rfl, h1, h2, ?_, fun p n => ?_⟩))
      · rw [r1.length, r2.length]
        exact line6 q
      · obtain ⟨q1, q2, q3⟩ := re.newL (r1.append r2) n
        exact k _ _ q1 q2 q3
    · cases e
end
def dIx : D → D → Option T
  | .tup xs, .int i => (atI xs i).map .im
  | .lst xs, .int i => (atI xs i).map .im
  | .fz xs, .int i => (atI xs i).map .im
  | .str z, .int i => if z.length ≤ 1000000 then (atI z.cps.toList i).map fun c => .im (.str ⟨#[c]⟩) else none
  | _, _ => none
theorem atI_reps {K : PySem.W.Frag} {G : Addr → Prop} {H : Hp} {xs : List V} {ds : List D} {i : Int} {d : D} (r : Reps K G H xs ds) (h : atI ds i = some d) : ∃ v, atI xs i = some v ∧ Rep K G H v d := by
  unfold atI at h ⊢
  rw [r.length]
  cases e : ixN ds.length i with
  | none => rw [e] at h; cases h
  | some j =>
    rw [e] at h
    exact r.get h
section
variable {X : Cx} {c : Cc} {W : WX} {pos : Pos} {a b : Expr} {fa fb : FE}
theorem d_ix : OpD c (rIx c.K) dIx := by
  intro L σ H env x y dx dy t Q re hx hy e k
  cases dx <;> cases dy <;> simp only [dIx] at e <;> try (cases e; done)
  · split at e
    · rename_i hz
      obtain ⟨cc, e1, rfl⟩ := Option.map_eq_some_iff.mp e
      exact .inr (.inr ⟨_, _, cc, hx.str, hy.int, line6 hz, e1, k _ H re .refl (.str _)⟩)
    · cases e
  · obtain ⟨a, xs, rfl, h1, r1⟩ := hx.tup
    obtain ⟨d, e1, rfl⟩ := Option.map_eq_some_iff.mp e
    obtain ⟨v, e2, r⟩ := atI_reps r1 e1
    exact .inr (.inl ⟨a, xs, _, v, rfl, hy.int, h1, e2, k _ H re .refl r⟩)
  · obtain ⟨a, xs, rfl, h1, r1⟩ := hx.lst
    obtain ⟨d, e1, rfl⟩ := Option.map_eq_some_iff.mp e
    obtain ⟨v, e2, r⟩ := atI_reps r1 e1
    exact .inl ⟨a, xs, _, v, rfl, hy.int, .of h1, e2, k _ H re .refl r⟩
  · obtain ⟨a, xs, rfl, h1, r1⟩ := hx.fz
    obtain ⟨d, e1, rfl⟩ := Option.map_eq_some_iff.mp e
    obtain ⟨v, e2, r⟩ := atI_reps r1 e1
    exact .inl ⟨a, xs, _, v, rfl, hy.int, h1.sql, e2, k _ H re .refl r⟩
theorem de_ix (ha : PE X a (dE c W fa)) (hb : PE X b (dE c W fb)) (hs : PlainIx b) (hK : c.K = X.K := by rfl) : PE X (.Subscript a b pos) (dE c W (eOp dIx fa fb)) :=
  PEw (pe_ix ix_seq ha hb hs) (by have q := d_tOp (W := W) (fa := fa) (fb := fb) (d_ix (c := c)); rw [hK] at q; exact q)
end
end DL
namespace DL
open PySem PySem.Spec L2
abbrev Lu (L : Addr → Prop) (As : List Addr) : Addr → Prop := fun b => L b ∨ b ∈ As
inductive RepAs (K : PySem.W.Frag) (G : Addr → Prop) (σ : St) (H : Hp) (env : En) : List Addr → List V → List T → Prop
  | nil : RepAs K G σ H env [] [] []
  | im {As v d vs ts} (r : Rep K G H v d) (rs : RepAs K G σ H env As vs ts) : RepAs K G σ H env As (v :: vs) (.im d :: ts)
  | al {As v i vs ts} (o : ∃ (io : Bool) (ds : List D), env[i]? = some (Sl.own io ds)) (e : σ[i]? = some (some v)) (rs : RepAs K G σ H env As vs ts) : RepAs K G σ H env As (v :: vs) (.al i :: ts)
  | fr {As a xs ds vs ts} (n : a ∉ As) (e : H a = some (.lst xs)) (r : Reps K G H xs ds) (rs : RepAs K G σ H env As vs ts) : RepAs K G σ H env (a :: As) (.ref a :: vs) (.fr ds :: ts)
def dA (c : Cc) (W : WX) (f : FA) : TA := fun σ H Q => ∃ env L, RE c L σ H env ∧ dK c W L σ H env (f env) fun ts env' H' => ∀ vs As, RepAs c.K (Av (Lu L As) σ env') σ H' env' As vs ts → (∀ a ∈ As, ¬ L a ∧ c.H0 a = none ∧ Nn σ env H a) → RE c (Lu L As) σ H' env' → Q vs H'
theorem dA.of {c : Cc} {W : WX} {L : Addr → Prop} {σ : St} {H : Hp} {env : En} {f : FA} {Q : List V → Hp → Prop} (r : RE c L σ H env) (h : dK c W L σ H env (f env) fun ts env' H' => ∀ vs As, RepAs c.K (Av (Lu L As) σ env') σ H' env' As vs ts → (∀ a ∈ As, ¬ L a ∧ c.H0 a = none ∧ Nn σ env H a) → RE c (Lu L As) σ H' env' → Q vs H') : dA c W f σ H Q := ⟨env, L, r, h⟩
def aNil : FA := fun env => .ok [] env
def consT (t : T) (ts : List T) (e2 : En) : R (List T) := match t with
  | .al i => match e2[i]? with
    | some (.own _ _) => .ok (.al i :: ts) e2
    | _ => .er
  | .ft cs => .ok (.im (.tup (cs.map Cp.d)) :: ts) e2
  | .im d => .ok (.im d :: ts) e2
  | .fr ds => .ok (.fr ds :: ts) e2
def aCons (fa : FE) (fr : FA) : FA := fun env => (fa env).bind fun t e1 => (fr e1).bind fun ts e2 => consT t ts e2
section
variable {X : Cx} {c : Cc} {W : WX} {e : Expr} {es : List Expr} {fa : FE} {fr : FA}
theorem da_nil : PA X [] (dA c W aNil) := PAw pa_nil fun σ H Q h => by
  obtain ⟨env, L, r, h⟩ := h
  exact h H r .refl [] [] .nil (fun a z => by cases z) (r.less fun a z => z.elim id fun z => by cases z)
theorem Rep.past {L : Addr → Prop} {As : List Addr} {σ : St} {H H1 : Hp} {env env1 : En} {v : V} {d : D} (r : RE c L σ H env) (s : Stp σ env H σ env1 H1) (h : Rep c.K (Av L σ env) H v d) (n : ∀ a ∈ As, Nn σ env H a) : Rep c.K (Av (Lu L As) σ env1) H1 v d :=
  h.mono (r.tk s) fun a xs g e => by
    obtain ⟨e1, n1⟩ := s a (Nn.not e g.2)
    exact ⟨⟨fun z => z.elim g.1 (fun z => (n a z).elim g.2 (fun q => by rw [q] at e; cases e)), fun z => n1 (.inl z)⟩, e1.trans e⟩
theorem Reps.past {L : Addr → Prop} {As : List Addr} {σ : St} {H H1 : Hp} {env env1 : En} {v : List V} {d : List D} (r : RE c L σ H env) (s : Stp σ env H σ env1 H1) (h : Reps c.K (Av L σ env) H v d) (n : ∀ a ∈ As, Nn σ env H a) : Reps c.K (Av (Lu L As) σ env1) H1 v d :=
  h.mono (r.tk s) fun a xs g e => by
    obtain ⟨e1, n1⟩ := s a (Nn.not e g.2)
    exact ⟨⟨fun z => z.elim g.1 (fun z => (n a z).elim g.2 (fun q => by rw [q] at e; cases e)), fun z => n1 (.inl z)⟩, e1.trans e⟩
theorem d_aCons : ∀ σ H Q, dA c W (aCons fa fr) σ H Q → tCons (dE c W fa) (dA c W fr) σ H Q := fun σ H Q h => by
  obtain ⟨env, L, r, h⟩ := h
  refine dE.of r (h.bind.mono fun t e1 H1 r1 s1 h1 x q1 => ?_)
  -- the first is data
  have asIm : ∀ d, (∀ ts e2, consT t ts e2 = R.ok (T.im d :: ts) e2) → Rep c.K (Av L σ e1) H1 x d → dA c W fr σ H1 fun xs H2 => Q (x :: xs) H2 := fun d hm q => by
    refine dA.of r1 (h1.bind.mono fun ts e2 H2 r2 s2 h2 vs As q2 n2 r3 => ?_)
    rw [hm ts e2] at h2
    exact h2 H2 r2 .refl (x :: vs) As (.im (q.past r1 s2 fun a z => (n2 a z).2.2) q2) (fun a z => ⟨(n2 a z).1, (n2 a z).2.1, s1.back (n2 a z).2.2⟩) r3
  cases t with
  | im d => exact asIm d (fun _ _ => rfl) q1
  | ft cs => exact asIm _ (fun _ _ => rfl) q1.wk
  | al i =>
    refine dA.of r1 (h1.bind.mono fun ts e2 H2 r2 s2 h2 vs As q2 n2 r3 => ?_)
    cases q : e2[i]? with
    | none => simp only [consT, q] at h2; exact h2.elim
    | some s =>
      cases s with
      | no => simp only [consT, q] at h2; exact h2.elim
      | im d => simp only [consT, q] at h2; exact h2.elim
      | own io ds =>
        simp only [consT, q] at h2
        exact h2 H2 r2 .refl (x :: vs) As (.al ⟨io, ds, q⟩ q1.2 q2) (fun a z => ⟨(n2 a z).1, (n2 a z).2.1, s1.back (n2 a z).2.2⟩) r3
  | fr ds =>
    obtain ⟨a, xs, rfl, ea, ra, na, h0, nn, rL⟩ := q1
    refine dA.of rL ((h1.less (L' := fun b => L b ∨ b = a) fun b z => .inl z).bind.mono fun ts e2 H2 r2 s2 h2 vs As q2 n2 r3 => ?_)
    have e2a : H2 a = some (.lst xs) := (s2 a (Nn.not ea (rL.ext a (.inr rfl)).1)).1.trans ea
    have na2 : a ∉ As := fun z => (n2 a z).1 (.inr rfl)
    have key : ∀ b, Lu (fun b => L b ∨ b = a) As b ↔ Lu L (a :: As) b := fun b => by simp [Lu, or_assoc]
    have q2' : RepAs c.K (Av (Lu L (a :: As)) σ e2) σ H2 e2 As vs ts := by
      have : Av (Lu (fun b => L b ∨ b = a) As) σ e2 = Av (Lu L (a :: As)) σ e2 := by funext b; simp [Av, key b]
      rw [← this]; exact q2
    have ra' : Reps c.K (Av (Lu L (a :: As)) σ e2) H2 xs ds := by
      have : Av (Lu (fun b => L b ∨ b = a) As) σ e2 = Av (Lu L (a :: As)) σ e2 := by funext b; simp [Av, key b]
      rw [← this]; exact ra.past rL s2 fun b z => (n2 b z).2.2
    have r3' : RE c (Lu L (a :: As)) σ H2 e2 := r3.less fun b z => (key b).mpr z
    refine h2 H2 r2 .refl (.ref a :: vs) (a :: As) (.fr na2 e2a ra' q2') (fun b z => ?_) r3'
    rcases List.mem_cons.mp z with rfl | z
    · exact ⟨na, h0, nn⟩
    · exact ⟨fun l => (n2 b z).1 (.inl l), (n2 b z).2.1, s1.back (n2 b z).2.2⟩
theorem da_cons (ha : PE X e (dE c W fa)) (hr : PA X es (dA c W fr)) (hs : starEach (e :: es) X.env = (false, eval e X.env) :: starEach es X.env := by rfl) : PA X (e :: es) (dA c W (aCons fa fr)) := PAw (pa_cons ha hr hs) d_aCons
end
def vals (env : En) : List T → Option (List D)
  | [] => some []
  | t :: ts => match t.val env, vals env ts with
    | some d, some ds => some (d :: ds)
    | _, _ => none
inductive RepOs (K : PySem.W.Frag) (G : Addr → Prop) (H : Hp) : List V → List D → Prop
  | nil : RepOs K G H [] []
  | cons {v d vs ds} (r : RepO K G H v d) (rs : RepOs K G H vs ds) : RepOs K G H (v :: vs) (d :: ds)
section
variable {c : Cc} {L : Addr → Prop} {σ : St} {H : Hp} {env : En}
theorem RepAs.oprs {As0 : List Addr} : ∀ {As vs ts ds}, RepAs c.K (Av (Lu L As0) σ env) σ H env As vs ts → RE c L σ H env → RE c (Lu L As0) σ H env → (∀ a ∈ As, a ∈ As0 ∧ ¬ L a) → vals env ts = some ds → RepOs c.K (Av L σ env) H vs ds
  | _, _, _, ds, .nil, _, _, _, e => by cases e; exact .nil
  | _, _, _, ds, .im (d := d) (ts := ts) r rs, h, h2, n, e => by
    simp only [vals, val_im] at e
    cases q : vals env ts with
    | none => rw [q] at e; cases e
    | some es =>
      rw [q] at e
      cases e
      exact .cons (Rep.o (r.mono (.refl H) fun a xs g e => ⟨⟨fun z => g.1 (.inl z), g.2⟩, e⟩)) (RepAs.oprs rs h h2 n q)
  | _, _, _, ds, .al (i := i) (ts := ts) o es rs, h, h2, n, e => by
    simp only [vals] at e
    cases q : vals env ts with
    | none => rw [q] at e; split at e <;> cases e <;> simp_all
    | some es' =>
      cases qv : (T.al i).val env with
      | none => rw [qv] at e; cases e
      | some dv =>
        rw [q, qv] at e
        cases e
        exact .cons (RepT.opr0 (N := fun _ => True) h (t := .al i) ⟨o, es⟩ qv) (RepAs.oprs rs h h2 n q)
  | _, _, _, ds, .fr (a := a) (ts := ts) na ea r rs, h, h2, n, e => by
    simp only [vals, val_fr] at e
    cases q : vals env ts with
    | none => rw [q] at e; cases e
    | some es =>
      rw [q] at e
      cases e
      exact .cons ⟨a, _, rfl, ea, r.mono (.refl H) fun b xs g e => ⟨⟨fun z => g.1 (.inl z), g.2⟩, e⟩⟩ (RepAs.oprs rs h h2 (fun b z => n b (List.mem_cons_of_mem _ z)) q)
end
def CallD (c : Cc) (r : List V → Hp → VK → Prop) (g : List D → Option T) : Prop := ∀ (L : Addr → Prop) (σ : St) (H : Hp) (env : En) (xs : List V) (ds : List D) (t : T) (Q : VK), RE c L σ H env → RepOs c.K (Av L σ env) H xs ds → g ds = some t →
  (∀ v H', RE c L σ H' env → Stp σ env H σ env H' → RepT c L (Nn σ env H) σ H' env v t → Q v H') → r xs H Q
def opL (g : List D → Option T) (ts : List T) (env : En) : R T := match vals env ts with
  | some ds => R.opt (g ds) env
  | none => .er
def eB (g : List D → Option T) (fa : FA) : FE := fun env => (fa env).bind fun ts e1 => opL g ts e1
section
variable {X : Cx} {c : Cc} {W : WX} {pos p : Pos} {x : Str} {e : Expr} {es : List Expr} {fa : FA} {r : List V → Hp → VK → Prop} {g : List D → Option T} {id Ty : String}
theorem d_tCB (ho : CallD c r g) : ∀ σ H Q, dE c W (eB g fa) σ H Q → tCB r (dA c W fa) σ H Q := fun σ H Q h => by
  obtain ⟨env, L, re, h⟩ := dE_iff.mp h
  refine dA.of re (h.bind.mono fun ts e1 H1 r1 s1 h1 vs As q n r2 => ?_)
  unfold opL at h1
  cases ev : vals e1 ts with
  | none => rw [ev] at h1; exact h1.elim
  | some ds =>
    rw [ev] at h1
    cases eg : g ds with
    | none => simp only [eg] at h1; exact h1.elim
    | some t =>
      simp only [eg] at h1
      exact ho L σ H1 e1 vs ds t Q r1 (q.oprs r1 r2 (fun a z => ⟨z, (n a z).1⟩) ev) eg fun v H' re' s q => h1 H' re' s v (q.less (fun _ z => z) fun a n => s1.back n)
theorem de_b (ho : CallD c r g) (hc : CallR X (.builtin id) r) (hg : Gl X x) (hm : X.mg x = none) (hv : bootBuiltins x = some (.builtin id)) (ha : PA X (e :: es) (dA c W fa)) (hn : x ≠ "__name__" := by decide) (hdb : (x == ("__debug__" : Str)) = false := by decide)
    (he : starEach (e :: es) X.env = (false, eval e X.env) :: starEach es X.env := by rfl) (hpl : (backTo pos (starEach es X.env)).any (·.1) = false := by rfl) : PE X (.Call (.Name x p) (e :: es) [] pos) (dE c W (eB g fa)) :=
  PEw (pe_callB hc hg hm hv ha hn hdb he hpl) (d_tCB ho)
theorem de_ty (ho : CallD c r g) (hc : CallR X (.type Ty) r) (hg : Gl X x) (hm : X.mg x = none) (hv : bootBuiltins x = some (.type Ty)) (ha : PA X (e :: es) (dA c W fa)) (hn : x ≠ "__name__" := by decide) (hdb : (x == ("__debug__" : Str)) = false := by decide)
    (he : starEach (e :: es) X.env = (false, eval e X.env) :: starEach es X.env := by rfl) (hpl : (backTo pos (starEach es X.env)).any (·.1) = false := by rfl) : PE X (.Call (.Name x p) (e :: es) [] pos) (dE c W (eB g fa)) :=
  PEw (pe_callTy hc hg hm hv ha hn hdb he hpl) (d_tCB ho)
end
end DL
namespace DL
open PySem PySem.Spec L2
def mvs : List T → En → Option (List Cp × En)
  | [], env => some ([], env)
  | .im d :: ts, env => match mvs ts env with
    | some (cs, e) => some (⟨false, d⟩ :: cs, e)
    | none => none
  | .fr ds :: ts, env => match mvs ts env with
    | some (cs, e) => some (⟨true, .lst ds⟩ :: cs, e)
    | none => none
  | .al i :: ts, env => match env[i]? with
    | some (.own false ds) => match mvs ts (env.set i .no) with
      | some (cs, e) => some (⟨true, .lst ds⟩ :: cs, e)
      | none => none
    | _ => none
  | .ft _ :: _, _ => none
@[simp] theorem mvs_nil (env : En) : mvs [] env = some ([], env) := rfl
@[simp] theorem mvs_im (d : D) (ts : List T) (env : En) : mvs (.im d :: ts) env = (match mvs ts env with | some (cs, e) => some (⟨false, d⟩ :: cs, e) | none => none) := rfl
@[simp] theorem mvs_fr (d : List D) (ts : List T) (env : En) : mvs (.fr d :: ts) env = (match mvs ts env with | some (cs, e) => some (⟨true, .lst d⟩ :: cs, e) | none => none) := rfl
theorem own_set_no {σ : St} {env : En} {i : Nat} {b : Addr} (h : ownM σ (env.set i .no) b) : ownM σ env b ∧ ∃ (j : Nat) (io : Bool) (ds : List D), j ≠ i ∧ env[j]? = some (Sl.own io ds) ∧ σ[j]? = some (some (V.ref b)) := by
  obtain ⟨j, io, ds, e1, e2⟩ := h
  by_cases q : i = j
  · subst q
    rw [List.getElem?_set] at e1
    simp at e1
  · rw [List.getElem?_set_ne q] at e1
    exact ⟨⟨j, io, ds, e1, e2⟩, j, io, ds, fun z => q z.symm, e1, e2⟩
theorem own_keep {σ : St} {env : En} {i : Nat} {a b : Addr} (h : ownM σ env b) (n : b ≠ a) (s : σ[i]? = some (some (V.ref a))) : ownM σ (env.set i .no) b := by
  obtain ⟨j, io, ds, e1, e2⟩ := h
  have q : i ≠ j := fun q => by
    subst q
    rw [s] at e2
    cases e2
    exact n rfl
  exact ⟨j, io, ds, by rw [List.getElem?_set_ne q]; exact e1, e2⟩
theorem get_set_no {env : En} {i j : Nat} {s : Sl} (h : (env.set i .no)[j]? = some s) (n : s ≠ .no) : j ≠ i ∧ env[j]? = some s := by
  by_cases q : i = j
  · subst q
    rw [List.getElem?_set] at h
    simp at h
    exact absurd h.2.symm n
  · rw [List.getElem?_set_ne q] at h
    exact ⟨fun z => q z.symm, h⟩
theorem RE.drop {c : Cc} {L : Addr → Prop} {σ : St} {H : Hp} {env : En} {i : Nat} {ds : List D} {a : Addr} {io : Bool} (h : RE c L σ H env) (e : env[i]? = some (Sl.own io ds)) (s : σ[i]? = some (some (V.ref a))) : RE c (fun b => L b ∨ b = a) σ H (env.set i .no) ∧ Stp σ env H σ (env.set i .no) H := by
  have na : ¬ ownM σ (env.set i .no) a := fun z => by
    obtain ⟨_, j, jo, es, n, e1, e2⟩ := own_set_no z
    exact n (h.inj j i jo io es ds a e1 e e2 s)
  have oa : ownM σ env a := ⟨i, io, ds, e, s⟩
  have av : ∀ b, Av L σ env b → Av (fun b => L b ∨ b = a) σ (env.set i .no) b := fun b g => ⟨fun z => z.elim g.1 fun z => g.2 (by rw [z]; exact oa), fun z => g.2 (own_set_no z).1⟩
  refine ⟨⟨by rw [List.length_set]; exact h.len, fun j d q => ?_, fun j jo es q => ?_, fun j k jo ko ds es a q1 q2 q3 q4 => ?_, fun b lb => ?_, h.fr, h.io⟩, fun b n => ⟨rfl, fun z => n (z.imp (fun z => (own_set_no z).1) id)⟩⟩
  · obtain ⟨v, e1, r⟩ := h.im j d (get_set_no q (fun z => nomatch z)).2
    exact ⟨v, e1, r.mono (.refl H) fun b xs g q => ⟨av b g, q⟩⟩
  · obtain ⟨b, xs, e1, e2, r, z⟩ := h.own j jo es (get_set_no q (fun z => nomatch z)).2
    exact ⟨b, xs, e1, e2, r.mono (.refl H) fun b xs g q => ⟨av b g, q⟩, z⟩
  · exact h.inj j k jo ko ds es a (get_set_no q1 (fun z => nomatch z)).2 (get_set_no q2 (fun z => nomatch z)).2 q3 q4
  · rcases lb with lb | rfl
    · exact ⟨fun z => (h.ext b lb).1 (own_set_no z).1, (h.ext b lb).2⟩
    · obtain ⟨b', xs, e1, e2, _⟩ := h.own i io ds e
      rw [s] at e1
      cases e1
      exact ⟨na, xs, e2⟩
section
variable {c : Cc} {L G0 : Addr → Prop} {σ : St} {H : Hp} {env0 : En}
theorem RepAs.mv : ∀ {As vs ts}, RepAs c.K G0 σ H env0 As vs ts → ∀ (S : List Addr) (env : En), RE c (Lu L S) σ H env → (∀ b, G0 b ↔ Av (Lu L S) σ env b) → (∀ a ∈ As, a ∈ S) → ∀ {cs env'}, mvs ts env = some (cs, env') →
    ∃ S' Bs, RE c (Lu L S') σ H env' ∧ Stp σ env H σ env' H ∧ (∀ b, G0 b ↔ Av (Lu L S') σ env' b) ∧ (∀ b ∈ S, b ∈ S') ∧ RepC c.K G0 H Bs vs cs ∧ (∀ b ∈ Bs, b ∈ S' ∧ (b ∈ As ∨ (b ∉ S ∧ c.H0 b = none ∧ ownM σ env b ∧ ¬ L b))) ∧ (∀ b ∈ As, b ∈ Bs)
  | _, _, _, .nil, S, env, h, g, n, cs, env', e => by
    cases e
    exact ⟨S, [], h, .refl, g, fun _ z => z, .nil, (fun _ z => nomatch z), fun _ z => nomatch z⟩
  | _, _, _, .im (ts := ts) r rs, S, env, h, g, n, cs, env', e => by
    rw [mvs_im] at e
    cases q : mvs ts env with
    | none => rw [q] at e; cases e
    | some p =>
      obtain ⟨cs1, e1⟩ := p
      rw [q] at e
      cases e
      obtain ⟨S', Bs, h1, h2, h3, h4, h5, h6, h7⟩ := RepAs.mv rs S env h g n q
      exact ⟨S', Bs, h1, h2, h3, h4, .im r h5, h6, h7⟩
  | _, _, _, .fr (As := As) (a := a) (ts := ts) na ea r rs, S, env, h, g, n, cs, env', e => by
    rw [mvs_fr] at e
    cases q : mvs ts env with
    | none => rw [q] at e; cases e
    | some p =>
      obtain ⟨cs1, e1⟩ := p
      rw [q] at e
      cases e
      obtain ⟨S', Bs, h1, h2, h3, h4, h5, h6, h7⟩ := RepAs.mv rs S env h g (fun b z => n b (List.mem_cons_of_mem _ z)) q
      have aS : a ∈ S := n a List.mem_cons_self
      refine ⟨S', a :: Bs, h1, h2, h3, h4, .fr (fun z => ?_) ea r h5, fun b z => ?_, fun b z => ?_⟩
      · rcases (h6 a z).2 with z | z
        · exact na z
        · exact z.1 aS
      · rcases List.mem_cons.mp z with rfl | z
        · exact ⟨h4 b aS, .inl List.mem_cons_self⟩
        · exact ⟨(h6 b z).1, (h6 b z).2.imp (fun z => List.mem_cons_of_mem _ z) id⟩
      · rcases List.mem_cons.mp z with rfl | z
        · exact List.mem_cons_self
        · exact List.mem_cons_of_mem _ (h7 b z)
  | As, _, _, .al (i := i) (ts := ts) o es rs, S, env, h, g, n, cs, env', e => by
    unfold mvs at e
    cases q0 : env[i]? with
    | none => rw [q0] at e; cases e
    | some s =>
      cases s with
      | no => rw [q0] at e; cases e
      | im d => rw [q0] at e; cases e
      | own io ds =>
        cases io with
        | true => rw [q0] at e; cases e
        | false =>
          rw [q0] at e
          dsimp only at e
          cases q : mvs ts (env.set i .no) with
          | none => rw [q] at e; cases e
          | some p =>
            obtain ⟨cs1, e1⟩ := p
            rw [q] at e
            cases e
            obtain ⟨a, xs, ea, eb, r, f0, _⟩ := h.own i false ds q0
            rw [es] at ea
            cases ea
            obtain ⟨hd, sd⟩ := h.drop q0 es
            have oa : ownM σ env a := ⟨i, false, ds, q0, es⟩
            have naS : a ∉ S := fun z => (h.ext a (.inr z)).1 oa
            have naL : ¬ L a := fun z => (h.ext a (.inl z)).1 oa
            have key : ∀ b, Lu L (a :: S) b ↔ (Lu L S b ∨ b = a) := fun b => by simp [Lu, or_assoc, or_comm, or_left_comm]
            obtain ⟨S', Bs, h1, h2, h3, h4, h5, h6, h7⟩ := RepAs.mv rs (a :: S) (env.set i .no) (hd.less fun b z => (key b).mp z) (fun b => ⟨fun z => ⟨fun y => ((key b).mp y).elim ((g b).mp z).1 fun y => ((g b).mp z).2 (by rw [y]; exact oa), fun y => ((g b).mp z).2 (own_set_no y).1⟩, fun z => (g b).mpr ⟨fun y => z.1 ((key b).mpr (.inl y)), fun y => z.2 (own_keep y (fun q => z.1 ((key b).mpr (.inr q))) es)⟩⟩) (fun b z => List.mem_cons_of_mem _ (n b z)) q
            refine ⟨S', a :: Bs, h1, sd.trans h2, h3, fun b z => h4 b (List.mem_cons_of_mem _ z), .fr (fun z => ?_) eb (r.mono (.refl H) fun b ys gb eq => ⟨?_, eq⟩) h5, fun b z => ?_, fun b z => List.mem_cons_of_mem _ (h7 b z)⟩
            · rcases (h6 a z).2 with z | z
              · exact naS (n a z)
              · exact z.1 List.mem_cons_self
            · exact (g b).mpr gb
            · rcases List.mem_cons.mp z with rfl | z
              · exact ⟨h4 b List.mem_cons_self, .inr ⟨naS, f0 rfl, oa, naL⟩⟩
              · refine ⟨(h6 b z).1, (h6 b z).2.imp id fun ⟨z1, z2, z3, z4⟩ => ⟨fun y => z1 (List.mem_cons_of_mem _ y), z2, (own_set_no z3).1, z4⟩⟩
end
def mkTup (cs : List Cp) : T := if cs.all (fun c => !c.fr) = true then .im (.tup (cs.map Cp.d)) else .ft cs
@[simp] theorem mkTup_nil : mkTup [] = .im (.tup []) := rfl
def disp (k : List Cp → T) (ts : List T) (env : En) : R T := if ts.length ≤ 1000000 then (match mvs ts env with
  | some (cs, e) => .ok (k cs) e
  | none => .er) else .er
def eTup (fa : FA) : FE := fun env => (fa env).bind fun ts e1 => disp mkTup ts e1
def eLst (fa : FA) : FE := fun env => (fa env).bind fun ts e1 => disp (fun cs => .fr (cs.map Cp.d)) ts e1
theorem RepAs.length {K : PySem.W.Frag} {G : Addr → Prop} {σ : St} {H : Hp} {env : En} : ∀ {As vs ts}, RepAs K G σ H env As vs ts → vs.length = ts.length
  | _, _, _, .nil => rfl
  | _, _, _, .im _ rs => congrArg (· + 1) (RepAs.length rs)
  | _, _, _, .al _ _ rs => congrArg (· + 1) (RepAs.length rs)
  | _, _, _, .fr _ _ _ rs => congrArg (· + 1) (RepAs.length rs)
theorem RE.bare {c : Cc} {L : Addr → Prop} {σ : St} {H : Hp} {env : En} {As : List Addr} (h : RE c (Lu L As) σ H env) : RE c L σ H env := h.less fun _ z => .inl z
section
variable {X : Cx} {c : Cc} {W : WX} {pos : Pos} {es : List Expr} {fa : FA}
theorem disp_ok {k : List Cp → T} {L N : Addr → Prop} {σ : St} {H : Hp} {env : En} {vs : List V} {As : List Addr} {ts : List T} {P : T → En → Hp → Prop} {Q : Prop} (r : RE c (Lu L As) σ H env) (q : RepAs c.K (Av (Lu L As) σ env) σ H env As vs ts) (n : ∀ a ∈ As, ¬ L a ∧ c.H0 a = none ∧ N a)
    (nn : ∀ a, ownM σ env a → N a) (h : dK c W L σ H env (disp k ts env) P)
    (kk : vs.length ≤ sizeLine → ∀ cs env' Bs, RE c (Lu L Bs) σ H env' → Stp σ env H σ env' H → RepC c.K (Av (Lu L Bs) σ env') H Bs vs cs → (∀ a ∈ Bs, ¬ L a ∧ c.H0 a = none ∧ N a) → dK c W L σ H env (.ok (k cs) env') P → Q) : Q := by
  unfold disp at h
  split at h
  · rename_i len
    cases e : mvs ts env with
    | none => rw [e] at h; exact h.elim
    | some p =>
      obtain ⟨cs, env'⟩ := p
      rw [e] at h
      obtain ⟨S', Bs, h1, h2, h3, h4, h5, h6, h7⟩ := q.mv As env r (fun b => Iff.rfl) (fun _ z => z) e
      refine kk (by rw [q.length]; exact line6 len) cs env' Bs (h1.less fun b z => z.imp id fun z => (h6 b z).1) h2 (h5.mono (.refl H) (fun b xs g e => ⟨⟨fun z => ((h3 b).mp g).1 (z.imp id fun z => (h6 b z).1), ((h3 b).mp g).2⟩, e⟩) (fun _ _ _ e => e)) (fun b z => ?_) h
      rcases (h6 b z).2 with y | ⟨_, y2, y3, y4⟩
      · exact n b y
      · exact ⟨y4, y2, nn b y3⟩
  · exact h.elim
theorem RepC.none {K : PySem.W.Frag} {G : Addr → Prop} {H : Hp} : ∀ {As vs cs}, RepC K G H As vs cs → cs.all (fun c => !c.fr) = true → Reps K G H vs (cs.map Cp.d)
  | _, _, _, .nil, _ => .nil
  | _, _, _, .im r rs, h => .cons r (RepC.none rs (by simpa using h))
  | _, _, _, .fr .., h => by simp at h
theorem de_tup {x1} (ha : PA X es (dA c W fa)) : PE X (.Tuple es x1 pos) (dE c W (eTup fa)) := PEw (pe_tup ha) fun σ H Q h => by
  obtain ⟨env, L, re, h⟩ := dE_iff.mp h
  refine dA.of re (h.bind.mono fun ts e1 H1 r1 s1 h1 vs As q n r2 => ?_)
  refine disp_ok (N := Nn σ env H) r2 q (fun a z => n a z) (fun a z => s1.back (.inl z)) h1 fun len cs env' Bs r3 s3 q3 n3 h3 => ⟨len, fun p np => ?_⟩
  have kp : ∀ b o, H1 b = some o → upd H1 p (.tup vs) b = some o := fun b o e => by rw [upd_ne (ne_of_none e np)]; exact e
  have q4 : RepC c.K (Av (Lu L Bs) σ env') (upd H1 p (.tup vs)) Bs vs cs := q3.mono (r3.tk (.grow kp)) (fun b xs g e => ⟨g, kp _ _ e⟩) fun b z xs e => kp _ _ e
  have r4 : RE c (Lu L Bs) σ (upd H1 p (.tup vs)) env' := r3.grow kp
  have key : RepT c L (Nn σ env H) σ (upd H1 p (.tup vs)) env' (.ref p) (.ft cs) := ⟨p, vs, Bs, rfl, .inl (.inl upd_same), q4, n3, r4⟩
  refine h3 _ r4.bare (s3.trans (.grow kp)) _ ?_
  unfold mkTup
  split
  · exact key.wk
  · exact key
theorem de_lst (ha : PA X es (dA c W fa)) : PE X (.List es pos) (dE c W (eLst fa)) := PEw (pe_lst ha) fun σ H Q h => by
  obtain ⟨env, L, re, h⟩ := dE_iff.mp h
  refine dA.of re (h.bind.mono fun ts e1 H1 r1 s1 h1 vs As q n r2 => ?_)
  refine disp_ok (N := Nn σ env H) r2 q (fun a z => n a z) (fun a z => s1.back (.inl z)) h1 fun len cs env' Bs r3 s3 q3 n3 h3 => ⟨len, fun p np => ?_⟩
  have rp : Reps c.K (Av L σ env') H1 vs (cs.map Cp.d) := q3.reps (fun b g => ⟨fun z => g.1 (.inl z), g.2⟩) fun a z => ⟨(n3 a z).1, (r3.ext a (.inr z)).1⟩
  obtain ⟨y1, y2, y3⟩ := r3.bare.newL rp np
  exact h3 _ y1 (s3.trans y2) _ (y3.less (fun _ z => z) fun a z => s1.back (s3.back z))
end
end DL
namespace DL
open PySem PySem.Spec L2
mutual
def toP : D → PyData
  | .non => .none
  | .bl b => .bool b
  | .int i => .int i
  | .str x => .str x
  | .tup xs => .tuple (toPs xs)
  | .lst xs => .list (toPs xs)
  | .fz xs => .list (toPs xs)
  | .dct _ _ => .dict []
def toPs : List D → List PyData
  | [] => []
  | x :: xs => toP x :: toPs xs
end
theorem toPs_map : ∀ ds, toPs ds = ds.map toP
  | [] => rfl
  | d :: ds => by rw [toPs, toPs_map ds]; rfl
section
variable {K : PySem.W.Frag} {G : Addr → Prop} {H : Hp}
mutual
theorem Rep.dp : ∀ {v d}, Rep K G H v d → (toP d).plain = true → Dp K H v (toP d)
  | _, _, .non, _ => .non
  | _, _, .bl b, _ => .bl b
  | _, _, .int i, _ => .int i
  | _, _, .str x, _ => .str x
  | _, _, .tup h r, p => .tup h (Reps.dp r p)
  | _, _, .lst g h r, p => .lst (.of h) (Reps.dp r p)
  | _, _, .fz h r, p => .lst h.sql (Reps.dp r p)
  | _, _, .dct _ _ _ _ _, p => nomatch p
theorem Reps.dp : ∀ {v d}, Reps K G H v d → PyData.plainAll (toPs d) = true → DpAll K H v (toPs d)
  | _, _, .nil, _ => .nil
  | _, _, .cons (d := d) (ds := ds) r rs, p => by
    have p : ((toP d).plain && PyData.plainAll (toPs ds)) = true := p
    rw [Bool.and_eq_true] at p
    exact .cons (Rep.dp r p.1) (Reps.dp rs p.2)
end
end
def eqv (x y : D) : Bool := PyData.eqv (toP x) (toP y)
def eqvs (xs ys : List D) : Bool := PyData.eqvAll (toPs xs) (toPs ys)
def shp (x : D) : Bool := SeqAt.shaped (toP x)
@[simp] theorem eqv_ii (i j : Int) : eqv (.int i) (.int j) = (i == j) := rfl
@[simp] theorem eqv_bb (i j : Bool) : eqv (.bl i) (.bl j) = (i == j) := rfl
@[simp] theorem eqv_ss (i j : Str) : eqv (.str i) (.str j) = (i == j) := rfl
@[simp] theorem eqv_nn : eqv .non .non = true := rfl
@[simp] theorem eqv_tt (i j : List D) : eqv (.tup i) (.tup j) = eqvs i j := rfl
@[simp] theorem eqv_ll (i j : List D) : eqv (.lst i) (.lst j) = eqvs i j := rfl
@[simp] theorem eqv_fl (i j : List D) : eqv (.fz i) (.lst j) = eqvs i j := rfl
@[simp] theorem eqv_is (i : Int) (x : Str) : eqv (.int i) (.str x) = false := rfl
@[simp] theorem eqv_si (i : Int) (x : Str) : eqv (.str x) (.int i) = false := rfl
@[simp] theorem eqv_ns (x : Str) : eqv .non (.str x) = false := rfl
@[simp] theorem eqv_ni (x : Int) : eqv .non (.int x) = false := rfl
@[simp] theorem eqv_in (x : Int) : eqv (.int x) .non = false := rfl
@[simp] theorem eqv_sn (x : Str) : eqv (.str x) .non = false := rfl
@[simp] theorem eqv_ts (i : List D) (x : Str) : eqv (.tup i) (.str x) = false := rfl
@[simp] theorem eqv_ti (i : List D) (x : Int) : eqv (.tup i) (.int x) = false := rfl
@[simp] theorem eqv_it (i : List D) (x : Int) : eqv (.int x) (.tup i) = false := rfl
@[simp] theorem eqv_ls (i : List D) (x : Str) : eqv (.lst i) (.str x) = false := rfl
@[simp] theorem eqv_tn (i : List D) : eqv (.tup i) .non = false := rfl
@[simp] theorem eqv_nt (i : List D) : eqv .non (.tup i) = false := rfl
@[simp] theorem eqv_tl (i j : List D) : eqv (.tup i) (.lst j) = false := rfl
@[simp] theorem eqv_lt (i j : List D) : eqv (.lst i) (.tup j) = false := rfl
@[simp] theorem eqvs_nn : eqvs [] [] = true := rfl
@[simp] theorem eqvs_cn (x : D) (xs : List D) : eqvs (x :: xs) [] = false := rfl
@[simp] theorem eqvs_nc (x : D) (xs : List D) : eqvs [] (x :: xs) = false := rfl
@[simp] theorem eqvs_cc (x y : D) (xs ys : List D) : eqvs (x :: xs) (y :: ys) = (eqv x y && eqvs xs ys) := rfl
mutual
def lay : D → Bool
  | .str x => PySem.PyData.strOk x
  | .tup xs => lays xs
  | .lst xs => lays xs
  | .fz xs => lays xs
  | .dct _ _ => false
  | _ => true
def lays : List D → Bool
  | [] => true
  | x :: xs => lay x && lays xs
end
mutual
def dep : D → Nat
  | .tup xs => deps xs + 1
  | .lst xs => deps xs + 1
  | .fz xs => deps xs + 1
  | .dct _ _ => 1
  | _ => 0
def deps : List D → Nat
  | [] => 0
  | x :: xs => max (dep x) (deps xs)
end
mutual
theorem lay_toP : ∀ d, PyData.canLay0 (toP d) = lay d
  | .non => rfl
  | .bl _ => rfl
  | .int _ => rfl
  | .str _ => rfl
  | .tup xs => lays_toP xs
  | .lst xs => lays_toP xs
  | .fz xs => lays_toP xs
  | .dct _ _ => rfl
theorem lays_toP : ∀ d, PyData.canLayAll0 (toPs d) = lays d
  | [] => rfl
  | x :: xs => by
    show (PyData.canLay0 (toP x) && PyData.canLayAll0 (toPs xs)) = (lay x && lays xs)
    rw [lay_toP x, lays_toP xs]
end
mutual
theorem dep_toP : ∀ d, PyData.depth (toP d) = dep d
  | .non => rfl
  | .bl _ => rfl
  | .int _ => rfl
  | .str _ => rfl
  | .tup xs => congrArg (· + 1) (deps_toP xs)
  | .lst xs => congrArg (· + 1) (deps_toP xs)
  | .fz xs => congrArg (· + 1) (deps_toP xs)
  | .dct _ _ => rfl
theorem deps_toP : ∀ d, PyData.depthAll (toPs d) = deps d
  | [] => rfl
  | x :: xs => by
    show max (PyData.depth (toP x)) (PyData.depthAll (toPs xs)) = max (dep x) (deps xs)
    rw [dep_toP x, deps_toP xs]
end
theorem shp_eq (d : D) : shp d = (lay d && decide (dep d ≤ 64)) := by
  unfold shp SeqAt.shaped
  rw [lay_toP, dep_toP]
def dEq (x y : D) : Option T := if shp x = true ∧ shp y = true then some (.im (.bl (eqv x y))) else none
def dNe (x y : D) : Option T := if shp x = true ∧ shp y = true then some (.im (.bl (!eqv x y))) else none
section
variable {X : Cx} {c : Cc} {W : WX} {pos : Pos} {a b : Expr} {fa fb : FE}
theorem plain_of_shp {d : D} (h : shp d = true) : (toP d).plain = true := by
  unfold shp SeqAt.shaped at h
  rw [Bool.and_eq_true] at h
  exact PyData.plain_of_canLay0 _ h.1
theorem RepO.dp {K : PySem.W.Frag} {G : Addr → Prop} {H : Hp} {v : V} {d : D} (h : RepO K G H v d) (p : (toP d).plain = true) : Dp K H v (toP d) := h.any.dp p
theorem d_eq : OpD c (rEqD c.K) dEq := by
  intro L σ H env x y dx dy t Q re hx hy e k
  unfold dEq at e
  split at e
  · rename_i q
    cases e
    exact ⟨_, _, hx.dp (plain_of_shp q.1), hy.dp (plain_of_shp q.2), q.1, q.2, k _ H re .refl (.bl _)⟩
  · cases e
theorem d_ne : OpD c (rNeD c.K) dNe := by
  intro L σ H env x y dx dy t Q re hx hy e k
  unfold dNe at e
  split at e
  · rename_i q
    cases e
    exact ⟨_, _, hx.dp (plain_of_shp q.1), hy.dp (plain_of_shp q.2), q.1, q.2, k _ H re .refl (.bl _)⟩
  · cases e
@[simp] def dIs : D → D → Option T
  | .bl a, .bl b => some (.im (.bl (decide (a = b))))
  | .non, .non => some (.im (.bl true))
  | _, .non => some (.im (.bl false))
  | _, _ => none
@[simp] def dNis : D → D → Option T
  | .bl a, .bl b => some (.im (.bl (!decide (a = b))))
  | .non, .non => some (.im (.bl false))
  | _, .non => some (.im (.bl true))
  | _, _ => none
abbrev rIs : R2 := fun x y H Q => (y = .non ∧ Q (.bl (decide (x = .non))) H) ∨ rIsB x y H Q
abbrev rNis : R2 := fun x y H Q => (y = .non ∧ Q (.bl (!decide (x = .non))) H) ∨ rNotB x y H Q
theorem op_is : OpR X (compareOp .Is) rIs := op_isN.or op_isBl
theorem op_nis : OpR X (compareOp .IsNot) rNis := op_notN.or op_notBl
theorem d_is : OpD c rIs dIs := by
  intro L σ H env x y dx dy t Q re hx hy e k
  have key : ∀ d : D, RepO c.K (Av L σ env) H x d → d ≠ .non → Rep c.K (Av L σ env) H (.bl (decide (x = .non))) (.bl false) := fun d h n => by
    rw [decide_eq_false (not_non h n)]
    exact .bl _
  cases dy <;> cases dx <;> simp only [dIs] at e <;> (try (cases e; done)) <;> cases e
  · refine .inl ⟨hy.non, k _ H re .refl ?_⟩
    rw [hx.non]
    exact .bl _
  · exact .inl ⟨hy.non, k _ H re .refl (key _ hx (fun z => nomatch z))⟩
  · exact .inl ⟨hy.non, k _ H re .refl (key _ hx (fun z => nomatch z))⟩
  · exact .inl ⟨hy.non, k _ H re .refl (key _ hx (fun z => nomatch z))⟩
  · exact .inl ⟨hy.non, k _ H re .refl (key _ hx (fun z => nomatch z))⟩
  · exact .inl ⟨hy.non, k _ H re .refl (key _ hx (fun z => nomatch z))⟩
  · exact .inl ⟨hy.non, k _ H re .refl (key _ hx (fun z => nomatch z))⟩
  · exact .inl ⟨hy.non, k _ H re .refl (key _ hx (fun z => nomatch z))⟩
  · exact .inr ⟨_, _, hx.bl, hy.bl, k _ H re .refl (.bl _)⟩
theorem d_nis : OpD c rNis dNis := by
  intro L σ H env x y dx dy t Q re hx hy e k
  have key : ∀ d : D, RepO c.K (Av L σ env) H x d → d ≠ .non → Rep c.K (Av L σ env) H (.bl (!decide (x = .non))) (.bl true) := fun d h n => by
    rw [decide_eq_false (not_non h n)]
    exact .bl _
  cases dy <;> cases dx <;> simp only [dNis] at e <;> (try (cases e; done)) <;> cases e
  · refine .inl ⟨hy.non, k _ H re .refl ?_⟩
    rw [hx.non]
    exact .bl _
  · exact .inl ⟨hy.non, k _ H re .refl (key _ hx (fun z => nomatch z))⟩
  · exact .inl ⟨hy.non, k _ H re .refl (key _ hx (fun z => nomatch z))⟩
  · exact .inl ⟨hy.non, k _ H re .refl (key _ hx (fun z => nomatch z))⟩
  · exact .inl ⟨hy.non, k _ H re .refl (key _ hx (fun z => nomatch z))⟩
  · exact .inl ⟨hy.non, k _ H re .refl (key _ hx (fun z => nomatch z))⟩
  · exact .inl ⟨hy.non, k _ H re .refl (key _ hx (fun z => nomatch z))⟩
  · exact .inl ⟨hy.non, k _ H re .refl (key _ hx (fun z => nomatch z))⟩
  · exact .inr ⟨_, _, hx.bl, hy.bl, k _ H re .refl (.bl _)⟩
def sc : D → Bool
  | .non => true
  | .bl _ => true
  | .int _ => true
  | .str _ => true
  | _ => false
def items : D → Option (List D)
  | .tup ds => some ds
  | .lst ds => some ds
  | .fz ds => some ds
  | _ => none
@[simp] theorem items_tup (ds : List D) : items (.tup ds) = some ds := rfl
@[simp] theorem items_lst (ds : List D) : items (.lst ds) = some ds := rfl
@[simp] theorem items_fz (ds : List D) : items (.fz ds) = some ds := rfl
def hasD (x : D) (ds : List D) : Bool := ds.any fun y => eqv y x
@[simp] theorem hasD_nil (x : D) : hasD x [] = false := rfl
@[simp] theorem hasD_cons (x y : D) (ds : List D) : hasD x (y :: ds) = (eqv y x || hasD x ds) := rfl
theorem RepO.seq {K : PySem.W.Frag} {G : Addr → Prop} {H : Hp} {v : V} {d : D} {ds : List D} (h : RepO K G H v d) (e : items d = some ds) : ∃ a xs, v = .ref a ∧ (SqL K H a xs ∨ SqT K H a xs) ∧ Reps K G H xs ds := by
  cases d <;> simp only [items] at e <;> (try (cases e; done)) <;> cases e
  · obtain ⟨a, xs, e1, e2, r⟩ := h.tup
    exact ⟨a, xs, e1, .inr e2, r⟩
  · obtain ⟨a, xs, e1, e2, r⟩ := h.lst
    exact ⟨a, xs, e1, .inl (.of e2), r⟩
  · obtain ⟨a, xs, e1, e2, r⟩ := h.fz
    exact ⟨a, xs, e1, .inl e2.sql, r⟩
def dLen : List D → Option T
  | [.str z] => if z.length ≤ sizeLine then some (.im (.int z.length)) else none
  | [d] => (items d).map fun ds => .im (.int ds.length)
  | _ => none
@[simp] theorem dLen_tup (ds : List D) : dLen [.tup ds] = some (.im (.int ds.length)) := rfl
@[simp] theorem dLen_lst (ds : List D) : dLen [.lst ds] = some (.im (.int ds.length)) := rfl
@[simp] theorem dLen_fz (ds : List D) : dLen [.fz ds] = some (.im (.int ds.length)) := rfl
abbrev rLenA (K : PySem.W.Frag) : List V → Hp → VK → Prop := fun xs H Q => (∃ z, xs = [.str z] ∧ z.length ≤ sizeLine ∧ Q (.int z.length) H) ∨ ∃ p ys, xs = [.ref p] ∧ (SqL K H p ys ∨ SqT K H p ys) ∧ Q (.int ys.length) H
theorem call_lenA : CallR X (.builtin "len") (rLenA X.K) := call_len_str.or call_len_seq
theorem RepOs.one {K : PySem.W.Frag} {G : Addr → Prop} {H : Hp} {vs : List V} {d : D} (h : RepOs K G H vs [d]) : ∃ v, vs = [v] ∧ RepO K G H v d := by
  cases h with
  | cons r rs => cases rs; exact ⟨_, rfl, r⟩
theorem RepOs.two {K : PySem.W.Frag} {G : Addr → Prop} {H : Hp} {vs : List V} {d e : D} (h : RepOs K G H vs [d, e]) : ∃ v w, vs = [v, w] ∧ RepO K G H v d ∧ RepO K G H w e := by
  cases h with
  | cons r rs =>
    obtain ⟨w, rfl, q⟩ := rs.one
    exact ⟨_, w, rfl, r, q⟩
theorem d_len : CallD c (rLenA c.K) dLen := by
  intro L σ H env xs ds t Q re hx e k
  have go : ∀ d es, ds = [d] → items d = some es → t = .im (.int es.length) → rLenA c.K xs H Q := fun d es e1 e2 e3 => by
    subst e1 e3
    obtain ⟨v, rfl, r⟩ := hx.one
    obtain ⟨a, ys, rfl, h, rs⟩ := r.seq e2
    refine .inr ⟨a, ys, rfl, h, k _ H re .refl ?_⟩
    rw [rs.length]
    exact .int _
  unfold dLen at e
  split at e
  · split at e
    · rename_i z q
      cases e
      obtain ⟨v, rfl, r⟩ := hx.one
      rw [r.str]
      exact .inl ⟨z, rfl, q, k _ H re .refl (.int _)⟩
    · cases e
  · rename_i d _
    cases q : items d with
    | none => rw [q] at e; cases e
    | some es =>
      rw [q] at e
      exact go d es rfl q (Option.some.inj e).symm
  · cases e
def dTuple : List D → Option T
  | [.lst ds] => some (.im (.tup ds))
  | [.tup ds] => some (.im (.tup ds))
  | [.fz ds] => some (.im (.tup ds))
  | _ => none
@[simp] theorem dTuple_lst (ds : List D) : dTuple [.lst ds] = some (.im (.tup ds)) := rfl
@[simp] theorem dTuple_tup (ds : List D) : dTuple [.tup ds] = some (.im (.tup ds)) := rfl
abbrev rTuple (K : PySem.W.Frag) : List V → Hp → VK → Prop := fun xs H Q => ∃ p ys, xs = [.ref p] ∧ ((SqL K H p ys ∧ ∀ l, H l = none → Q (.ref l) (upd H l (.tup ys))) ∨ (SqT K H p ys ∧ Q (.ref p) H))
theorem d_tuple : CallD c (rTuple c.K) dTuple := by
  intro L σ H env xs ds t Q re hx e k
  unfold dTuple at e
  split at e <;> (try (cases e; done)) <;> cases e
  · obtain ⟨v, rfl, r⟩ := hx.one
    obtain ⟨a, ys, rfl, h, rs⟩ := r.lst
    exact ⟨a, ys, rfl, .inl ⟨.of h, new_tup re rs k⟩⟩
  · obtain ⟨v, rfl, r⟩ := hx.one
    obtain ⟨a, ys, rfl, h, rs⟩ := r.tup
    exact ⟨a, ys, rfl, .inr ⟨h, k _ H re .refl (.tup h rs)⟩⟩
  · obtain ⟨v, rfl, r⟩ := hx.one
    obtain ⟨a, ys, rfl, h, rs⟩ := r.fz
    exact ⟨a, ys, rfl, .inl ⟨h.sql, new_tup re rs k⟩⟩
def dList : List D → Option T
  | [d] => (items d).map .fr
  | _ => none
@[simp] theorem dList_lst (ds : List D) : dList [.lst ds] = some (.fr ds) := rfl
@[simp] theorem dList_tup (ds : List D) : dList [.tup ds] = some (.fr ds) := rfl
@[simp] def dMax2 : List D → Option T
  | [.int i, .int j] => some (.im (.int (if j > i then j else i)))
  | _ => none
@[simp] def dMin2 : List D → Option T
  | [.int i, .int j] => some (.im (.int (if j < i then j else i)))
  | _ => none
theorem d_max2 : CallD c (fun xs H Q => ∃ i j, xs = [.int i, .int j] ∧ Q (.int (if j > i then j else i)) H) dMax2 := by
  intro L σ H env xs ds t Q re hx e k
  unfold dMax2 at e
  split at e <;> cases e
  obtain ⟨v, w, rfl, r, s⟩ := hx.two
  rw [r.int, s.int]
  exact ⟨_, _, rfl, k _ H re .refl (.int _)⟩
theorem d_min2 : CallD c (fun xs H Q => ∃ i j, xs = [.int i, .int j] ∧ Q (.int (if j < i then j else i)) H) dMin2 := by
  intro L σ H env xs ds t Q re hx e k
  unfold dMin2 at e
  split at e <;> cases e
  obtain ⟨v, w, rfl, r, s⟩ := hx.two
  rw [r.int, s.int]
  exact ⟨_, _, rfl, k _ H re .refl (.int _)⟩
@[simp] def dAbs : List D → Option T
  | [.int i] => some (.im (.int (if i < 0 then -i else i)))
  | _ => none
def intsOf : List D → Option (List Int)
  | [] => some []
  | .int i :: ds => (intsOf ds).map (i :: ·)
  | _ => none
def blsOf : List D → Option (List Bool)
  | [] => some []
  | .bl i :: ds => (blsOf ds).map (i :: ·)
  | _ => none
@[simp] theorem intsOf_nil : intsOf [] = some [] := rfl
@[simp] theorem intsOf_cons (i : Int) (ds : List D) : intsOf (.int i :: ds) = (intsOf ds).map (i :: ·) := rfl
@[simp] theorem blsOf_nil : blsOf [] = some [] := rfl
@[simp] theorem blsOf_cons (i : Bool) (ds : List D) : blsOf (.bl i :: ds) = (blsOf ds).map (i :: ·) := rfl
@[simp] theorem intsOf_map : ∀ ns : List Int, intsOf (ns.map D.int) = some ns
  | [] => rfl
  | n :: ns => by rw [List.map_cons, intsOf_cons, intsOf_map ns]; rfl
@[simp] theorem blsOf_map : ∀ ns : List Bool, blsOf (ns.map D.bl) = some ns
  | [] => rfl
  | n :: ns => by rw [List.map_cons, blsOf_cons, blsOf_map ns]; rfl
theorem blsOf_is : ∀ {ds ns}, blsOf ds = some ns → ds = ns.map D.bl
  | [], ns, h => by cases h; rfl
  | d :: ds, ns, h => by
    cases d <;> simp only [blsOf] at h <;> (try (cases h; done))
    obtain ⟨ms, e, rfl⟩ := Option.map_eq_some_iff.mp h
    rw [blsOf_is e]
    rfl
def dSum : List D → Option T
  | [d] => match items d with
    | some ds => (intsOf ds).map fun ns => .im (.int ns.sum)
    | none => none
  | _ => none
@[simp] theorem dSum_lst (ds : List D) : dSum [.lst ds] = (intsOf ds).map fun ns => .im (.int ns.sum) := rfl
@[simp] theorem dSum_tup (ds : List D) : dSum [.tup ds] = (intsOf ds).map fun ns => .im (.int ns.sum) := rfl
def dAll : List D → Option T
  | [.lst ds] => (blsOf ds).map fun bs => .im (.bl (bs.all id))
  | _ => none
def dAny : List D → Option T
  | [.lst ds] => (blsOf ds).map fun bs => .im (.bl (bs.any id))
  | _ => none
@[simp] theorem dAll_lst (ds : List D) : dAll [.lst ds] = (blsOf ds).map fun bs => .im (.bl (bs.all id)) := rfl
@[simp] theorem dAny_lst (ds : List D) : dAny [.lst ds] = (blsOf ds).map fun bs => .im (.bl (bs.any id)) := rfl
theorem d_all : CallD c (rAll c.K) dAll := by
  intro L σ H env xs ds t Q re hx e k
  unfold dAll at e
  split at e
  · obtain ⟨v, rfl, r⟩ := hx.one
    obtain ⟨ns, e1, rfl⟩ := Option.map_eq_some_iff.mp e
    obtain ⟨a, ys, rfl, h, rs⟩ := r.lst
    rw [blsOf_is e1] at rs
    rw [rs.bls] at h
    exact ⟨a, ns, rfl, .of h, k _ H re .refl (.bl _)⟩
  · cases e
theorem d_any : CallD c (rAny c.K) dAny := by
  intro L σ H env xs ds t Q re hx e k
  unfold dAny at e
  split at e
  · obtain ⟨v, rfl, r⟩ := hx.one
    obtain ⟨ns, e1, rfl⟩ := Option.map_eq_some_iff.mp e
    obtain ⟨a, ys, rfl, h, rs⟩ := r.lst
    rw [blsOf_is e1] at rs
    rw [rs.bls] at h
    exact ⟨a, ns, rfl, .of h, k _ H re .refl (.bl _)⟩
  · cases e
def isTy (Ty : String) : D → Option Bool
  | .non => kitB "NoneType" Ty
  | .bl _ => kitB "bool" Ty
  | .int _ => kitB "int" Ty
  | .str _ => kitB "str" Ty
  | .tup _ => kitB "tuple" Ty
  | .lst _ => kitB "list" Ty
  | .fz _ => kitB "list" Ty
  | .dct _ _ => kitB "dict" Ty
def eIsi (Ty : String) (fa : FE) : FE := fun env => (fa env).bind fun t e => op1 (fun d => (isTy Ty d).map fun b => .im (.bl b)) t e
inductive TyZ (K : PySem.W.Frag) (H : Hp) : V → Value → Prop where
  | x {v : V} {t : Value} (h : TyX K H v t) : TyZ K H v t
  | dct {a : Addr} {o : Obj} {u : HO} (e : H a = some (.frz o u)) (c : o.cls = .type "dict") : TyZ K H (.ref a) (.type "dict")
def rIsZ (K : PySem.W.Frag) : List V → Hp → VK → Prop := fun xs H Q => ∃ (x k : V) (t u : Value) (b : Bool), xs = [x, k] ∧ ClsV k u ∧ TyZ K H x t ∧ PySem.W.kitOne K t u = some b ∧ Q (.bl b) H
theorem call_isZ {X : Cx} : CallR X (.builtin "isinstance") (rIsZ X.K) := by
  intro pins s σ H xs us Q I r h
  obtain ⟨x, k, t, u, b, rfl, hk, ty, e, q⟩ := h
  cases ty with
  | x ty => exact call_isi pins s σ H _ us Q I r ⟨x, k, t, u, b, rfl, hk, ty, e, q⟩
  | dct ea c =>
    cases r with
    | cons r1 r =>
      cases r with
      | cons r2 r =>
        cases r
        cases r1
        rename_i a o _ _
        obtain rfl := hk.eq r2
        have z := (show ObjOk X.prog X.w H s.heap a _ from I.hok a _ ea).1
        exact PySem.W.kia_one PySem.W.kitx_dict I.kIn ⟨o, z, c⟩ e (fun z => nomatch z) fun tk => ⟨.bl b, H, I.tok tk, rfl, q⟩
theorem RepO.ty {K : PySem.W.Frag} {G : Addr → Prop} {H : Hp} {v : V} {d : D} (h : RepO K G H v d) : ∃ s : String, TyZ K H v (.type s) ∧ ∀ Ty, isTy Ty d = kitB s Ty := by
  cases d with
  | non => rw [h.non]; exact ⟨_, .x (.base .non), fun _ => rfl⟩
  | bl b => rw [h.bl]; exact ⟨_, .x (.base (.bl b)), fun _ => rfl⟩
  | int i => rw [h.int]; exact ⟨_, .x (.base (.int i)), fun _ => rfl⟩
  | str x => rw [h.str]; exact ⟨_, .x (.base (.str x)), fun _ => rfl⟩
  | tup xs =>
    obtain ⟨a, ys, rfl, h, rs⟩ := h.tup
    rcases h with (h | ⟨o, h⟩) | ⟨o, its, n, h, h2, _⟩
    · exact ⟨"tuple", .x (.base (.tup h)), fun _ => rfl⟩
    · exact ⟨"tuple", .x (.fTuple h), fun _ => rfl⟩
    · exact ⟨"tuple", .x (.kTuple h h2), fun _ => rfl⟩
  | lst xs =>
    obtain ⟨a, ys, rfl, h, rs⟩ := h.lst
    exact ⟨"list", .x (.base (.lst h)), fun _ => rfl⟩
  | fz xs =>
    obtain ⟨a, ys, rfl, h, rs⟩ := h.fz
    rcases h with ⟨o, h⟩ | ⟨o, its, n, h, h2, _⟩
    · exact ⟨"list", .x (.base (.frz h)), fun _ => rfl⟩
    · exact ⟨"list", .x (.kList h h2), fun _ => rfl⟩
  | dct ks vs =>
    cases (show Rep K G H v (.dct ks vs) from h) with
    | dct hh ho hq hk rs => exact ⟨"dict", .dct hh ho.ex.1, fun _ => rfl⟩
theorem de_isi {p : Pos} {Tn : String} (hg : Gl X "isinstance") (hm : X.mg "isinstance" = none) (ha : PE X a (dE c W fa)) (hb : PE X b (tC (.ty Tn))) (ht : Tn ∈ ["int", "bool", "str", "tuple", "list", "dict"] := by decide) (hK : c.K = X.K := by rfl)
    (he : starEach [a, b] X.env = (false, eval a X.env) :: starEach [b] X.env := by rfl) (he2 : starEach [b] X.env = (false, eval b X.env) :: starEach [] X.env := by rfl) (hpl : (backTo pos (starEach [b] X.env)).any (·.1) = false := by rfl) :
    PE X (.Call (.Name "isinstance" p) [a, b] [] pos) (dE c W (eIsi Tn fa)) :=
  PEw (pe_callB call_isZ hg hm (by decide +kernel) (pa_cons ha (pa_cons hb pa_nil he2) he) (by decide) (by decide) he hpl) fun σ H Q h => by
    obtain ⟨env, L, re, h⟩ := dE_iff.mp h
    refine dE.of re (h.bind.mono fun ta e1 H1 r1 s1 h1 x q1 => ?_)
    unfold op1 at h1
    cases ea : ta.val e1 with
    | none => rw [ea] at h1; exact h1.elim
    | some dx =>
      rw [ea] at h1
      dsimp only at h1
      cases eb : isTy Tn dx with
      | none => rw [eb] at h1; exact h1.elim
      | some k =>
        rw [eb] at h1
        obtain ⟨s, tx, es⟩ := (q1.opr0 r1 ea).ty
        rw [hK] at tx
        exact ⟨x, .ty Tn, .type s, .type Tn, k, rfl, .ty Tn, tx, kit_ty ((es Tn).symm.trans eb), h1 H1 r1 .refl _ (.bl k)⟩
end
@[simp] theorem isTy_int_non : isTy "int" (.non) = some false := (by decide +kernel : kitB "NoneType" "int" = some false)
@[simp] theorem isTy_int_bl (b : Bool) : isTy "int" (.bl b) = some true := (by decide +kernel : kitB "bool" "int" = some true)
@[simp] theorem isTy_int_int (b : Int) : isTy "int" (.int b) = some true := (by decide +kernel : kitB "int" "int" = some true)
@[simp] theorem isTy_int_str (b : Str) : isTy "int" (.str b) = some false := (by decide +kernel : kitB "str" "int" = some false)
@[simp] theorem isTy_int_tup (b : List D) : isTy "int" (.tup b) = some false := (by decide +kernel : kitB "tuple" "int" = some false)
@[simp] theorem isTy_int_lst (b : List D) : isTy "int" (.lst b) = some false := (by decide +kernel : kitB "list" "int" = some false)
@[simp] theorem isTy_int_dct (a b : List D) : isTy "int" (.dct a b) = some false := (by decide +kernel : kitB "dict" "int" = some false)
@[simp] theorem isTy_int_fz (b : List D) : isTy "int" (.fz b) = some false := (by decide +kernel : kitB "list" "int" = some false)
@[simp] theorem isTy_bool_non : isTy "bool" (.non) = some false := (by decide +kernel : kitB "NoneType" "bool" = some false)
@[simp] theorem isTy_bool_bl (b : Bool) : isTy "bool" (.bl b) = some true := (by decide +kernel : kitB "bool" "bool" = some true)
@[simp] theorem isTy_bool_int (b : Int) : isTy "bool" (.int b) = some false := (by decide +kernel : kitB "int" "bool" = some false)
@[simp] theorem isTy_bool_str (b : Str) : isTy "bool" (.str b) = some false := (by decide +kernel : kitB "str" "bool" = some false)
@[simp] theorem isTy_bool_tup (b : List D) : isTy "bool" (.tup b) = some false := (by decide +kernel : kitB "tuple" "bool" = some false)
@[simp] theorem isTy_bool_lst (b : List D) : isTy "bool" (.lst b) = some false := (by decide +kernel : kitB "list" "bool" = some false)
@[simp] theorem isTy_bool_dct (a b : List D) : isTy "bool" (.dct a b) = some false := (by decide +kernel : kitB "dict" "bool" = some false)
@[simp] theorem isTy_bool_fz (b : List D) : isTy "bool" (.fz b) = some false := (by decide +kernel : kitB "list" "bool" = some false)
@[simp] theorem isTy_str_non : isTy "str" (.non) = some false := (by decide +kernel : kitB "NoneType" "str" = some false)
@[simp] theorem isTy_str_bl (b : Bool) : isTy "str" (.bl b) = some false := (by decide +kernel : kitB "bool" "str" = some false)
@[simp] theorem isTy_str_int (b : Int) : isTy "str" (.int b) = some false := (by decide +kernel : kitB "int" "str" = some false)
@[simp] theorem isTy_str_str (b : Str) : isTy "str" (.str b) = some true := (by decide +kernel : kitB "str" "str" = some true)
@[simp] theorem isTy_str_tup (b : List D) : isTy "str" (.tup b) = some false := (by decide +kernel : kitB "tuple" "str" = some false)
@[simp] theorem isTy_str_lst (b : List D) : isTy "str" (.lst b) = some false := (by decide +kernel : kitB "list" "str" = some false)
@[simp] theorem isTy_str_dct (a b : List D) : isTy "str" (.dct a b) = some false := (by decide +kernel : kitB "dict" "str" = some false)
@[simp] theorem isTy_str_fz (b : List D) : isTy "str" (.fz b) = some false := (by decide +kernel : kitB "list" "str" = some false)
@[simp] theorem isTy_tuple_non : isTy "tuple" (.non) = some false := (by decide +kernel : kitB "NoneType" "tuple" = some false)
@[simp] theorem isTy_tuple_bl (b : Bool) : isTy "tuple" (.bl b) = some false := (by decide +kernel : kitB "bool" "tuple" = some false)
@[simp] theorem isTy_tuple_int (b : Int) : isTy "tuple" (.int b) = some false := (by decide +kernel : kitB "int" "tuple" = some false)
@[simp] theorem isTy_tuple_str (b : Str) : isTy "tuple" (.str b) = some false := (by decide +kernel : kitB "str" "tuple" = some false)
@[simp] theorem isTy_tuple_tup (b : List D) : isTy "tuple" (.tup b) = some true := (by decide +kernel : kitB "tuple" "tuple" = some true)
@[simp] theorem isTy_tuple_lst (b : List D) : isTy "tuple" (.lst b) = some false := (by decide +kernel : kitB "list" "tuple" = some false)
@[simp] theorem isTy_tuple_dct (a b : List D) : isTy "tuple" (.dct a b) = some false := (by decide +kernel : kitB "dict" "tuple" = some false)
@[simp] theorem isTy_tuple_fz (b : List D) : isTy "tuple" (.fz b) = some false := (by decide +kernel : kitB "list" "tuple" = some false)
@[simp] theorem isTy_list_non : isTy "list" (.non) = some false := (by decide +kernel : kitB "NoneType" "list" = some false)
@[simp] theorem isTy_list_bl (b : Bool) : isTy "list" (.bl b) = some false := (by decide +kernel : kitB "bool" "list" = some false)
@[simp] theorem isTy_list_int (b : Int) : isTy "list" (.int b) = some false := (by decide +kernel : kitB "int" "list" = some false)
@[simp] theorem isTy_list_str (b : Str) : isTy "list" (.str b) = some false := (by decide +kernel : kitB "str" "list" = some false)
@[simp] theorem isTy_list_tup (b : List D) : isTy "list" (.tup b) = some false := (by decide +kernel : kitB "tuple" "list" = some false)
@[simp] theorem isTy_list_lst (b : List D) : isTy "list" (.lst b) = some true := (by decide +kernel : kitB "list" "list" = some true)
@[simp] theorem isTy_list_dct (a b : List D) : isTy "list" (.dct a b) = some false := (by decide +kernel : kitB "dict" "list" = some false)
@[simp] theorem isTy_list_fz (b : List D) : isTy "list" (.fz b) = some true := (by decide +kernel : kitB "list" "list" = some true)
end DL
namespace DL
open PySem PySem.Spec L2
def toB (t : T) (env : En) : R Bool := match t.val env with
  | some (.bl b) => .ok b env
  | _ => .er
@[simp] theorem toB_bl (b : Bool) (env : En) : toB (.im (.bl b)) env = .ok b env := rfl
def tV (fa : FE) : FT := fun env => (fa env).bind fun t e => toB t e
def tAn (fa fb : FT) : FT := fun env => (fa env).bind fun b e => bif b then fb e else .ok false e
def tOr' (fa fb : FT) : FT := fun env => (fa env).bind fun b e => bif b then .ok true e else fb e
def tNo (fa : FT) : FT := fun env => (fa env).bind fun b e => .ok (!b) e
def eAn (fa fb : FE) : FE := fun env => (fa env).bind fun t e => (toB t e).bind fun b e => bif b then fb e else .ok (.im (.bl false)) e
def eOr (fa fb : FE) : FE := fun env => (fa env).bind fun t e => (toB t e).bind fun b e => bif b then .ok (.im (.bl true)) e else fb e
def eNo (fa : FE) : FE := fun env => (fa env).bind fun t e => (toB t e).bind fun b e => .ok (.im (.bl (!b))) e
def eIf (fc : FT) (fa fb : FE) : FE := fun env => (fc env).bind fun b e => bif b then fa e else fb e
def eCh (g g' : D → D → Option T) (fa fb fc : FE) : FE := fun env => (fa env).bind fun ta e1 => (fb e1).bind fun tb e2 => (op2 g ta tb e2).bind fun t e2 => (toB t e2).bind fun b e2 => bif b then (fc e2).bind fun tc e3 => op2 g' tb tc e3 else .ok (.im (.bl false)) e2
section
variable {X : Cx} {c : Cc} {W : WX} {pos : Pos} {a b e3 : Expr} {fa fb fc : FE} {ft fu : FT} {rest : List Expr}
theorem toB_K {L N : Addr → Prop} {σ : St} {H : Hp} {env : En} {t : T} {v : V} {P : Bool → En → Hp → Prop} (r : RE c L σ H env) (q : RepT c L N σ H env v t) (h : dK c W L σ H env (toB t env) P) : ∃ b, v = .bl b ∧ dK c W L σ H env (.ok b env) P := by
  unfold toB at h
  cases e : t.val env with
  | none => rw [e] at h; exact h.elim
  | some d =>
    rw [e] at h
    cases d with
    | bl b => exact ⟨b, (q.opr0 r e).bl, h⟩
    | non => exact h.elim
    | int i => exact h.elim
    | str x => exact h.elim
    | tup xs => exact h.elim
    | lst xs => exact h.elim
    | fz xs => exact h.elim
    | dct _ _ => exact h.elim
theorem d_tB : ∀ σ H Q, dT c W (tV fa) σ H Q → tB (dE c W fa) σ H Q := fun σ H Q h => by
  obtain ⟨env, L, r, h⟩ := dT_iff.mp h
  refine dE.of r (h.bind.mono fun t e1 H1 r1 s1 h1 v q => ?_)
  obtain ⟨b, rfl, h2⟩ := toB_K r1 q h1
  exact ⟨b, rfl, h2 H1 r1 .refl⟩
theorem dt_val (h : PE X a (dE c W fa)) (he : ∀ whole, isTrue a X.env whole = (do let v ← whole; standAt a.pos; holding [v] (truthy v)) := by intro _; rfl) : PT X a (dT c W (tV fa)) := PTw (pt_val h he) d_tB
theorem dt_cmp {op : CmpOp} {r : R2} {g : D → D → Option T} (hr : OpR X (compareOp op) r) (ho : OpD c r g) (ha : PE X a (dE c W fa)) (hb : PE X b (dE c W fb)) (hm : behindInMarks op b = false) : PT X (.Compare a [op] [b] pos) (dT c W (tV (eOp g fa fb))) :=
  PTw (pt_cmpR hr ha hb hm) fun σ H Q h => by
    obtain ⟨env, L, r, h⟩ := dT_iff.mp h
    have key := d_tB (fa := eOp g fa fb) σ H Q ⟨env, L, r, h⟩
    exact d_tOp ho σ H _ key
theorem dt_and1 (ha : PT X a (dT c W ft)) : PW X (.BoolOp .And [a] pos) (dT c W ft) := pw_and1 ha
theorem dt_or1 (ha : PT X a (dT c W ft)) : PW X (.BoolOp .Or [a] pos) (dT c W ft) := pw_or1 ha
theorem dt_and (ha : PT X a (dT c W ft)) (hb : PW X (.BoolOp .And (b :: rest) pos) (dT c W fu)) : PW X (.BoolOp .And (a :: b :: rest) pos) (dT c W (tAn ft fu)) := PWw (pw_and ha hb) fun σ H Q h => by
  obtain ⟨env, L, r, h⟩ := dT_iff.mp h
  refine dT.of r (h.bind.mono fun b e1 H1 r1 s1 h1 => ?_)
  cases b with
  | true => rw [if_pos rfl]; exact dT.of r1 h1
  | false => rw [if_neg Bool.false_ne_true]; exact h1 H1 r1 .refl
theorem dt_or (ha : PT X a (dT c W ft)) (hb : PW X (.BoolOp .Or (b :: rest) pos) (dT c W fu)) : PW X (.BoolOp .Or (a :: b :: rest) pos) (dT c W (tOr' ft fu)) := PWw (pw_or ha hb) fun σ H Q h => by
  obtain ⟨env, L, r, h⟩ := dT_iff.mp h
  refine dT.of r (h.bind.mono fun b e1 H1 r1 s1 h1 => ?_)
  cases b with
  | true => rw [if_pos rfl]; exact h1 H1 r1 .refl
  | false => rw [if_neg Bool.false_ne_true]; exact dT.of r1 h1
theorem dt_not (ha : PT X a (dT c W ft)) : PT X (.UnaryOp .Not a pos) (dT c W (tNo ft)) := PTw (pt_not ha) fun σ H Q h => by
  obtain ⟨env, L, r, h⟩ := dT_iff.mp h
  exact dT.of r (h.bind.mono fun b e1 H1 r1 s1 h1 => h1 H1 r1 .refl)
theorem de_one {op} (h : PE X a (dE c W fa)) : PE X (.BoolOp op [a] pos) (dE c W fa) := pe_one h
theorem de_and (ha : PE X a (dE c W fa)) (hb : PE X (.BoolOp .And (b :: rest) pos) (dE c W fb)) : PE X (.BoolOp .And (a :: b :: rest) pos) (dE c W (eAn fa fb)) := PEw (pe_and ha hb) fun σ H Q h => by
  obtain ⟨env, L, r, h⟩ := dE_iff.mp h
  refine dE.of r (h.bind.mono fun t e1 H1 r1 s1 h1 v q => ?_)
  obtain ⟨b, rfl, h2⟩ := toB_K r1 q h1.bind
  refine ⟨b, rfl, ?_⟩
  have h3 := h2 H1 r1 .refl
  cases b with
  | true => rw [if_pos rfl]; exact dE.of r1 (h3.mono fun t e2 H2 r2 s2 h4 v q => h4 v (q.less (fun _ z => z) fun a n => s1.back n))
  | false => rw [if_neg Bool.false_ne_true]; exact h3 H1 r1 .refl _ (.bl false)
theorem de_or (ha : PE X a (dE c W fa)) (hb : PE X (.BoolOp .Or (b :: rest) pos) (dE c W fb)) : PE X (.BoolOp .Or (a :: b :: rest) pos) (dE c W (eOr fa fb)) := PEw (pe_or ha hb) fun σ H Q h => by
  obtain ⟨env, L, r, h⟩ := dE_iff.mp h
  refine dE.of r (h.bind.mono fun t e1 H1 r1 s1 h1 v q => ?_)
  obtain ⟨b, rfl, h2⟩ := toB_K r1 q h1.bind
  refine ⟨b, rfl, ?_⟩
  have h3 := h2 H1 r1 .refl
  cases b with
  | true => rw [if_pos rfl]; exact h3 H1 r1 .refl _ (.bl true)
  | false => rw [if_neg Bool.false_ne_true]; exact dE.of r1 (h3.mono fun t e2 H2 r2 s2 h4 v q => h4 v (q.less (fun _ z => z) fun a n => s1.back n))
theorem de_not (ha : PE X a (dE c W fa)) : PE X (.UnaryOp .Not a pos) (dE c W (eNo fa)) := PEw (pe_not ha) fun σ H Q h => by
  obtain ⟨env, L, r, h⟩ := dE_iff.mp h
  refine dE.of r (h.bind.mono fun t e1 H1 r1 s1 h1 v q => ?_)
  obtain ⟨b, rfl, h2⟩ := toB_K r1 q h1.bind
  exact ⟨b, rfl, (h2 H1 r1 .refl) H1 r1 .refl _ (.bl _)⟩
theorem de_if {tc : Expr} (hc : PT X tc (dT c W ft)) (ha : PE X a (dE c W fa)) (hb : PE X b (dE c W fb)) : PE X (.IfExp tc a b pos) (dE c W (eIf ft fa fb)) := PEw (pe_ifExp hc ha hb) fun σ H Q h => by
  obtain ⟨env, L, r, h⟩ := dE_iff.mp h
  refine dT.of r (h.bind.mono fun b e1 H1 r1 s1 h1 => ?_)
  cases b with
  | true => rw [if_pos rfl]; exact dE.of r1 (h1.mono fun t e2 H2 r2 s2 h4 v q => h4 v (q.less (fun _ z => z) fun a n => s1.back n))
  | false => rw [if_neg Bool.false_ne_true]; exact dE.of r1 (h1.mono fun t e2 H2 r2 s2 h4 v q => h4 v (q.less (fun _ z => z) fun a n => s1.back n))
theorem d_chain {r r' : R2} {g g' : D → D → Option T} (ho : OpD c r g) (ho' : OpD c r' g') : ∀ σ H Q, dE c W (eCh g g' fa fb fc) σ H Q → tChain r r' (dE c W fa) (dE c W fb) (dE c W fc) σ H Q := fun σ H Q h => by
  obtain ⟨env, L, re, h⟩ := dE_iff.mp h
  refine dE.of re (h.bind.mono fun ta e1 H1 r1 s1 h1 x q1 => ?_)
  refine dE.of r1 (h1.bind.mono fun tb e2 H2 r2 s2 h2 y q2 => ?_)
  have h2 := h2.bind
  refine dK_op2 (W := W) (N1 := fun _ => True) (N2 := fun _ => True) (N := Nn σ env H) ho r2 (fun d e => q1.opr r1 s2 r2 e) (fun d e => q2.opr0 r2 e) (fun a n => s1.back (s2.back n)) (h2.mono fun t e3 H3 r3 s3 h3 z q3 => ?_)
  obtain ⟨b, rfl, h4⟩ := toB_K r3 q3 h3.bind
  refine ⟨b, rfl, ?_⟩
  have h5 := h4 H3 r3 .refl
  cases b with
  | true =>
    rw [if_pos rfl]
    refine dE.of r3 (h5.bind.mono fun tc e4 H4 r4 s4 h6 w q4 => ?_)
    exact dK_op2 (W := W) (N1 := fun _ => True) (N2 := fun _ => True) (N := Nn σ env H) ho' r4 (fun d e => q2.opr r2 (s3.trans s4) r4 e) (fun d e => q4.opr0 r4 e) (fun a n => s1.back (s2.back (s3.back (s4.back n)))) h6
  | false =>
    rw [if_neg Bool.false_ne_true]
    exact h5 H3 r3 .refl _ (.bl false)
theorem de_chain {op op' : CmpOp} {r r' : R2} {g g' : D → D → Option T} (hr : OpR X (compareOp op) r) (ho : OpD c r g) (hr' : OpR X (compareOp op') r') (ho' : OpD c r' g') (ha : PE X a (dE c W fa)) (hb : PE X b (dE c W fb)) (hc : PE X e3 (dE c W fc))
    (hm : lastMarks [op, op'] [b, e3] = false := by with_unfolding_all rfl) : PE X (.Compare a [op, op'] [b, e3] pos) (dE c W (eCh g g' fa fb fc)) := PEw (pe_chain hr hr' ha hb hc hm) (d_chain ho ho')
theorem dt_chain {op op' : CmpOp} {r r' : R2} {g g' : D → D → Option T} (hr : OpR X (compareOp op) r) (ho : OpD c r g) (hr' : OpR X (compareOp op') r') (ho' : OpD c r' g') (ha : PE X a (dE c W fa)) (hb : PE X b (dE c W fb)) (hc : PE X e3 (dE c W fc))
    (hm : lastMarks [op, op'] [b, e3] = false := by with_unfolding_all rfl) : PT X (.Compare a [op, op'] [b, e3] pos) (dT c W (tV (eCh g g' fa fb fc))) := PTw (pt_chain hr hr' ha hb hc hm) fun σ H Q h => d_chain ho ho' σ H _ (d_tB (fa := eCh g g' fa fb fc) σ H Q h)
end
def tNp : En → R (Option Int) := fun env => .ok none env
def toI (t : T) (env : En) : R (Option Int) := match t.val env with
  | some (.int i) => .ok (some i) env
  | _ => .er
@[simp] theorem toI_int (i : Int) (env : En) : toI (.im (.int i)) env = .ok (some i) env := rfl
def tPa (fa : FE) : En → R (Option Int) := fun env => (fa env).bind toI
def dO (c : Cc) (W : WX) (f : En → R (Option Int)) : TO := fun σ H Q => ∃ env L, RE c L σ H env ∧ dK c W L σ H env (f env) fun o _ H' => Q o H'
def cutD (xs : List D) (lo hi : Option Int) : List D := (xs.drop (HT.sIx xs.length 0 lo)).take (HT.sIx xs.length xs.length hi - HT.sIx xs.length 0 lo)
def dSl (d : D) (lo hi : Option Int) : Option T := match d with
  | .tup ds => some (.im (.tup (cutD ds lo hi)))
  | .lst ds => some (.fr (cutD ds lo hi))
  | .str z => if z.length ≤ 1000000 then some (.im (.str (cutS z lo hi))) else none
  | _ => none
def slT (t : T) (lo hi : Option Int) (env : En) : R T := match t.val env with
  | some d => R.opt (dSl d lo hi) env
  | none => .er
@[simp] theorem dSl_tup (ds : List D) (lo hi : Option Int) : dSl (.tup ds) lo hi = some (.im (.tup (cutD ds lo hi))) := rfl
@[simp] theorem dSl_lst (ds : List D) (lo hi : Option Int) : dSl (.lst ds) lo hi = some (.fr (cutD ds lo hi)) := rfl
def eSl (fa : FE) (fl fh : En → R (Option Int)) : FE := fun env => (fa env).bind fun t e1 => (fl e1).bind fun lo e2 => (fh e2).bind fun hi e3 => slT t lo hi e3
section
variable {X : Cx} {c : Cc} {W : WX} {pos p2 : Pos} {a : Expr} {fa : FE} {fl fh : En → R (Option Int)} {lo hi : Option Expr}
theorem do_none : PO X none (dO c W tNp) := ⟨fun pins s σ H Q I h => po_none.run pins s σ H Q I (by obtain ⟨env, L, r, h⟩ := h; exact h H r .refl)⟩
theorem do_some (h : PE X a (dE c W fa)) : PO X (some a) (dO c W (tPa fa)) := ⟨fun pins s σ H Q I q => (po_some h).run pins s σ H Q I (by
  obtain ⟨env, L, r, q⟩ := q
  refine dE.of r (q.bind.mono fun t e1 H1 r1 s1 h1 v q1 => ?_)
  unfold toI at h1
  cases e : t.val e1 with
  | none => rw [e] at h1; exact h1.elim
  | some d =>
    rw [e] at h1
    cases d with
    | int i => exact ⟨i, (q1.opr0 r1 e).int, h1 H1 r1 .refl⟩
    | non => exact h1.elim
    | bl i => exact h1.elim
    | str x => exact h1.elim
    | tup xs => exact h1.elim
    | lst xs => exact h1.elim
    | fz xs => exact h1.elim
    | dct _ _ => exact h1.elim)⟩
theorem Reps.cut {K : PySem.W.Frag} {G : Addr → Prop} {H : Hp} {xs : List V} {ds : List D} (r : Reps K G H xs ds) (lo hi : Option Int) : Reps K G H (cutV xs lo hi) (cutD ds lo hi) := by
  unfold cutV cutD
  rw [r.length]
  exact (r.drop _).take _
abbrev rSl (K : PySem.W.Frag) : V → Option Int → Option Int → Hp → VK → Prop := fun x lo hi H Q => rSlA K x lo hi H Q ∨ (rSlL K x lo hi H Q ∨ rSlS x lo hi H Q)
theorem cut_whole {α : Type} (xs : List α) (l h : Nat) (e : l = 0 ∧ h = xs.length) : (xs.drop l).take (h - l) = xs := by
  obtain ⟨rfl, rfl⟩ := e
  simp
theorem de_slice (ha : PE X a (dE c W fa)) (hl : PO X lo (dO c W fl)) (hh : PO X hi (dO c W fh)) (hK : c.K = X.K := by rfl) : PE X (.Subscript a (.Slice lo hi none p2) pos) (dE c W (eSl fa fl fh)) :=
  PEw (pe_slice (r := rSl X.K) (sl_tupA.or (sl_list.or sl_str)) ha hl hh) fun σ H Q h => by
    obtain ⟨env, L, re, h⟩ := dE_iff.mp h
    refine dE.of re (h.bind.mono fun t e1 H1 r1 s1 h1 x q1 => ?_)
    refine ⟨e1, L, r1, h1.bind.mono fun lo e2 H2 r2 s2 h2 => ?_⟩
    refine ⟨e2, L, r2, h2.bind.mono fun hi e3 H3 r3 s3 h3 => ?_⟩
    unfold slT at h3
    cases e : t.val e3 with
    | none => rw [e] at h3; exact h3.elim
    | some d =>
      rw [e] at h3
      have q := q1.opr r1 (s2.trans s3) r3 e
      have kk : ∀ {t'}, R.opt (dSl d lo hi) e3 = .ok t' e3 → ∀ v H', RE c L σ H' e3 → Stp σ e3 H3 σ e3 H' → RepT c L (Nn σ e3 H3) σ H' e3 v t' → Q v H' := fun {t'} eq v H' a b q => by
        dsimp only at h3
        rw [eq] at h3
        exact h3 H' a b v (q.less (fun _ z => z) fun a n => s1.back (s2.back (s3.back n)))
      cases d with
      | tup ds =>
        obtain ⟨a, xs, rfl, h, r⟩ := q.tup
        rw [hK] at h
        refine .inl ⟨a, xs, rfl, h, fun w => ?_, fun w => new_tup r3 (r.cut lo hi) (kk rfl)⟩
        refine kk rfl _ H3 r3 .refl ?_
        have ew : cutD ds lo hi = ds := by
          unfold cutD
          rw [← r.length]
          exact cut_whole ds _ _ (by rw [← r.length]; exact w)
        rw [ew, ← hK] at *
        exact .tup h r
      | lst ds =>
        obtain ⟨a, xs, rfl, h, r⟩ := q.lst
        refine .inr (.inl ⟨a, xs, rfl, .of h, fun p n => ?_⟩)
        obtain ⟨y1, y2, y3⟩ := r3.newL (r.cut lo hi) n
        exact kk rfl _ _ y1 y2 y3
      | non => exact h3.elim
      | bl i => exact h3.elim
      | int i => exact h3.elim
      | str x =>
        dsimp only [dSl] at h3 kk
        by_cases hz : x.length ≤ 1000000
        · rw [if_pos hz] at kk
          exact .inr (.inr ⟨x, q.str, line6 hz, kk rfl _ H3 r3 .refl (.str _)⟩)
        · rw [if_neg hz] at h3
          exact h3.elim
      | fz xs => exact h3.elim
      | dct _ _ => exact h3.elim
end
end DL
namespace DL
open PySem PySem.Spec L2
theorem own_put {σ : St} {env : En} {i : Nat} {io : Bool} {ds ds' : List D} (e : env[i]? = some (Sl.own io ds)) (b : Addr) : ownM σ (env.set i (.own io ds')) b ↔ ownM σ env b := by
  have hi : i < env.length := (List.getElem?_eq_some_iff.mp e).1
  constructor
  · rintro ⟨j, jo, es, e1, e2⟩
    by_cases q : i = j
    · subst q
      exact ⟨i, io, ds, e, e2⟩
    · rw [List.getElem?_set_ne q] at e1
      exact ⟨j, jo, es, e1, e2⟩
  · rintro ⟨j, jo, es, e1, e2⟩
    by_cases q : i = j
    · subst q
      exact ⟨i, io, ds', by rw [List.getElem?_set_self hi], e2⟩
    · exact ⟨j, jo, es, by rw [List.getElem?_set_ne q]; exact e1, e2⟩
theorem RE.put {c : Cc} {L : Addr → Prop} {σ : St} {H H' : Hp} {env : En} {i : Nat} {io : Bool} {ds ds' : List D} {a : Addr} {xs' : List V} (h : RE c L σ H env) (e : env[i]? = some (Sl.own io ds)) (s : σ[i]? = some (some (V.ref a)))
    (kp : ∀ b o, b ≠ a → H b = some o → H' b = some o) (ea : H' a = some (.lst xs')) (r' : Reps c.K (Av L σ env) H' xs' ds') : RE c L σ H' (env.set i (.own io ds')) ∧ Stp σ env H σ (env.set i (.own io ds')) H' := by
  have hi : i < env.length := (List.getElem?_eq_some_iff.mp e).1
  have ow := own_put (σ := σ) (ds' := ds') e
  have oa : ownM σ env a := ⟨i, io, ds, e, s⟩
  have st : Stp σ env H σ (env.set i (.own io ds')) H' := fun b n => by
    have na : b ≠ a := fun z => n (.inl (by rw [z]; exact oa))
    cases q : H b with
    | none => exact (n (.inr q)).elim
    | some o => exact ⟨kp b o na q, fun z => z.elim (fun z => n (.inl ((ow b).mp z))) fun z => by rw [kp b o na q] at z; cases z⟩
  have av : Av L σ (env.set i (.own io ds')) = Av L σ env := by funext b; simp [Av, ow b]
  obtain ⟨a0, xs0, ea0, _, _, f0, f1⟩ := h.own i io ds e
  rw [s] at ea0
  cases ea0
  refine ⟨⟨by rw [List.length_set]; exact h.len, fun j d q => ?_, fun j jo es q => ?_, fun j k jo ko ds1 es b q1 q2 q3 q4 => ?_, fun b lb => ?_, fun b o n q => ?_, fun b ib => ?_⟩, st⟩
  · have ne : i ≠ j := fun z => by
      subst z
      rw [List.getElem?_set_self hi] at q
      cases q
    rw [List.getElem?_set_ne ne] at q
    obtain ⟨v, e1, r⟩ := h.im j d q
    exact ⟨v, e1, h.rep st r⟩
  · by_cases ne : i = j
    · subst ne
      rw [List.getElem?_set_self hi] at q
      cases q
      rw [av]
      exact ⟨a, xs', s, ea, r', f0, f1⟩
    · rw [List.getElem?_set_ne ne] at q
      obtain ⟨b, ys, e1, e2, r, z⟩ := h.own j jo es q
      have nb : b ≠ a := fun z => ne (h.inj i j io jo ds es a e q s (by rw [← z]; exact e1))
      exact ⟨b, ys, e1, kp _ _ nb e2, h.reps st r, z⟩
  · have get : ∀ (j : Nat) (jo : Bool) (es : List D), (env.set i (.own io ds'))[j]? = some (Sl.own jo es) → ∃ (jo' : Bool) (es' : List D), env[j]? = some (Sl.own jo' es') := fun j jo es q => by
      by_cases ne : i = j
      · subst ne
        exact ⟨io, ds, e⟩
      · rw [List.getElem?_set_ne ne] at q
        exact ⟨jo, es, q⟩
    obtain ⟨x1, x2, x3⟩ := get j jo ds1 q1
    obtain ⟨y1, y2, y3⟩ := get k ko es q2
    exact h.inj j k x1 y1 x2 y2 b x3 y3 q3 q4
  · obtain ⟨n, ys, q⟩ := h.ext b lb
    exact ⟨fun z => n ((ow b).mp z), ys, kp _ _ (fun z => n (by rw [z]; exact oa)) q⟩
  · refine kp b o (fun z => ?_) (h.fr b o n q)
    subst z
    cases io with
    | true => exact n (f1 rfl).1
    | false => rw [f0 rfl] at q; cases q
  · by_cases z : b = a
    · subst z
      exact ⟨xs', ea⟩
    · exact (h.io b ib).imp fun xs q => kp _ _ z q
theorem RE.mores {c : Cc} {L S : Addr → Prop} {σ : St} {env : En} {H H' : Hp} (h : RE c L σ H env) (k : ∀ b o, H b = some o → H' b = some o) (n : ∀ a, S a → H a = none ∧ ∃ xs, H' a = some (.lst xs)) : RE c (fun b => L b ∨ S b) σ H' env := by
  have no : ∀ b, (∃ o, H b = some o) → ¬ S b := fun b ⟨o, q⟩ z => by rw [(n b z).1] at q; cases q
  have kk : ∀ {v d}, Rep c.K (Av L σ env) H v d → Rep c.K (Av (fun b => L b ∨ S b) σ env) H' v d := fun r =>
    r.mono (h.tk (Stp.grow k)) fun b ys g q => ⟨⟨fun z => z.elim g.1 fun z => no b ⟨_, q⟩ z, g.2⟩, k _ _ q⟩
  have ks : ∀ {v d}, Reps c.K (Av L σ env) H v d → Reps c.K (Av (fun b => L b ∨ S b) σ env) H' v d := fun r =>
    r.mono (h.tk (Stp.grow k)) fun b ys g q => ⟨⟨fun z => z.elim g.1 fun z => no b ⟨_, q⟩ z, g.2⟩, k _ _ q⟩
  refine ⟨h.len, fun i d e => ?_, fun i io ds e => ?_, h.inj, fun b lb => ?_, fun b o n e => k _ _ (h.fr b o n e), fun a i => (h.io a i).imp fun xs e => k _ _ e⟩
  · obtain ⟨v, e1, r⟩ := h.im i d e
    exact ⟨v, e1, kk r⟩
  · obtain ⟨a, xs, e1, e2, r, z⟩ := h.own i io ds e
    exact ⟨a, xs, e1, k _ _ e2, ks r, z⟩
  · rcases lb with lb | lb
    · exact ⟨(h.ext b lb).1, (h.ext b lb).2.imp fun xs e => k _ _ e⟩
    · refine ⟨fun ⟨i, io, ds, e1, e2⟩ => ?_, (n b lb).2⟩
      obtain ⟨a', ys, e3, e4, _⟩ := h.own i io ds e1
      rw [e2] at e3
      cases e3
      rw [(n b lb).1] at e4
      cases e4
theorem RE.h0 {c : Cc} {L : Addr → Prop} {σ : St} {H : Hp} {env : En} (re : RE c L σ H env) {p : Addr} (n : H p = none) : c.H0 p = none := by
  cases e : c.H0 p with
  | none => rfl
  | some o =>
    by_cases i : c.Io p
    · obtain ⟨ys, q⟩ := re.io p i
      rw [n] at q
      cases q
    · have q := re.fr p o i e
      rw [n] at q
      cases q

abbrev FD := En → R T
abbrev cc0 (K : PySem.W.Frag) (mg : Str → Option Value) (H : Hp) (vs : List V) (env : En) : Cc := ⟨K, mg, H, ownM (vs.map some) env, vs⟩
def spD (K : PySem.W.Frag) (mg : Str → Option Value) (g : FD) : Sp := fun vs H Q E => ∃ env L, RE (cc0 K mg H vs env) L (vs.map some) H env ∧ match g env with
  | .er => False
  | .ex x out => ∀ H', RE (cc0 K mg H vs env) L (vs.map some) H' out → ∀ C, mg x = some (.ref C) → E (.ref C) none H'
  | .ok t out => ∀ v H', RE (cc0 K mg H vs env) L (vs.map some) H' out → RepT (cc0 K mg H vs env) L (fun a => H a = none) (vs.map some) H' out v t → Q v H'

def isAl : T → Bool
  | .al _ => true
  | _ => false
def flatC (c : Cp) : Bool := match c.fr, c.d with
  | true, .lst ds => D.flats ds
  | _, d => D.flat d
def flatT : T → Bool
  | .im d => D.flat d
  | .fr ds => D.flats ds
  | .ft cs => cs.all flatC
  | .al _ => false
def callT (g : FD) (ts : List T) (e : En) : R T := match vals e ts with
  | none => .er
  | some ds => match g (ds.map .im) with
    | .er => .er
    | .ex x _ => .ex x e
    | .ok t _ => if isAl t = false ∧ (ts.any isAl = false ∨ flatT t = true) then .ok t e else .er
def eCall (g : FD) (fa : FA) : FE := fun env => (fa env).bind fun ts e1 => callT g ts e1
section
variable {c : Cc} {L : Addr → Prop} {σ : St} {H : Hp} {env : En}
theorem RepAs.args {G G' : Addr → Prop} (g : ∀ b, G b → G' b) (ra : RE c L σ H env) (gl : ∀ b, Av L σ env b → G' b) : ∀ {As vs ts ds}, RepAs c.K G σ H env As vs ts → (∀ a ∈ As, G' a) → (ts.any isAl = false ∨ ∀ b, ownM σ env b → G' b) → vals env ts = some ds → Reps c.K G' H vs ds
  | _, _, _, ds, .nil, _, _, e => by cases e; exact .nil
  | _, _, _, ds, .im (ts := ts) r rs, n, hal, e => by
    simp only [vals, val_im] at e
    cases q : vals env ts with
    | none => rw [q] at e; cases e
    | some es =>
      rw [q] at e
      cases e
      exact .cons (r.mono (.refl H) fun b xs gb e => ⟨g b gb, e⟩) (RepAs.args g ra gl rs n (hal.imp (fun z => by simpa [isAl] using z) id) q)
  | _, _, _, ds, .fr (ts := ts) na ea r rs, n, hal, e => by
    simp only [vals, val_fr] at e
    cases q : vals env ts with
    | none => rw [q] at e; cases e
    | some es =>
      rw [q] at e
      cases e
      exact .cons (.lst (n _ List.mem_cons_self) ea (r.mono (.refl H) fun b xs gb e => ⟨g b gb, e⟩)) (RepAs.args g ra gl rs (fun b z => n b (List.mem_cons_of_mem _ z)) (hal.imp (fun z => by simpa [isAl] using z) id) q)
  | _, _, _, ds, .al (i := i) (ts := ts) o es rs, n, hal, e => by
    have hal : ∀ b, ownM σ env b → G' b := hal.elim (fun z => by simp [isAl] at z) id
    obtain ⟨io, es', eo⟩ := o
    have ev : (T.al i).val env = some (.lst es') := by simp [T.val, eo]
    simp only [vals, ev] at e
    cases q : vals env ts with
    | none => rw [q] at e; cases e
    | some fs =>
      rw [q] at e
      cases e
      obtain ⟨a, xs, e3, e4, r5, _⟩ := ra.own i io es' eo
      rw [es] at e3
      cases e3
      exact .cons (.lst (hal _ ⟨i, io, es', eo, es⟩) e4 (r5.mono (.refl H) fun b xs gb e => ⟨gl b gb, e⟩)) (RepAs.args g ra gl rs n (.inr hal) q)
theorem get_im {ds : List D} {i : Nat} {s : Sl} (h : (ds.map Sl.im)[i]? = some s) : ∃ d, ds[i]? = some d ∧ s = .im d := by
  rw [List.getElem?_map] at h
  cases q : ds[i]? with
  | none => rw [q] at h; cases h
  | some d => rw [q] at h; cases h; exact ⟨d, rfl, rfl⟩
theorem no_own_im {σ : St} {ds : List D} (b : Addr) : ¬ ownM σ (ds.map Sl.im) b := fun ⟨i, io, es, e1, _⟩ => by
  obtain ⟨d, _, e⟩ := get_im e1
  cases e
theorem RE.enter {K : PySem.W.Frag} {mg : Str → Option Value} {vs : List V} {ds : List D} {L' : Addr → Prop} (r : Reps K (fun b => ¬ L' b) H vs ds) (ext : ∀ a, L' a → ∃ xs, H a = some (.lst xs)) : RE (cc0 K mg H vs (ds.map .im)) L' (vs.map some) H (ds.map .im) where
  len := by rw [List.length_map, List.length_map, r.length]
  im := fun i d e => by
    obtain ⟨d', e1, e2⟩ := get_im e
    cases e2
    obtain ⟨v, e3, q⟩ := r.get e1
    exact ⟨v, by rw [List.getElem?_map, e3]; rfl, q.mono (.refl H) fun a xs g e => ⟨⟨g, no_own_im a⟩, e⟩⟩
  own := fun i io es e => by
    obtain ⟨d', _, e2⟩ := get_im e
    cases e2
  inj := fun i j io jo es fs a e => by
    obtain ⟨d', _, e2⟩ := get_im e
    cases e2
  ext := fun a la => ⟨no_own_im a, ext a la⟩
  fr := fun b o _ e => e
  io := fun a z => (no_own_im a z).elim
theorem RepC.flat {K : PySem.W.Frag} {G G' : Addr → Prop} {H : Hp} : ∀ {As vs cs}, RepC K G H As vs cs → flatT (.ft cs) = true → RepC K G' H As vs cs
  | _, _, _, .nil, _ => .nil
  | _, _, _, .im (d := d) r rs, f => by
    simp only [flatT, List.all_cons, Bool.and_eq_true] at f
    exact .im (r.flat f.1) (RepC.flat rs f.2)
  | _, _, _, .fr n e r rs, f => by
    simp only [flatT, List.all_cons, Bool.and_eq_true] at f
    exact .fr n e (r.flats f.1) (RepC.flat rs f.2)
theorem RepT.home {c0 : Cc} {L' : Addr → Prop} {σ0 : St} {H1 H' : Hp} {out env' : En} {v : V} {t : T} (h : RepT c0 L' (fun a => H1 a = none) σ0 H' out v t) (hc : c0.K = c.K) (na : ∀ i, t ≠ .al i) (hL : ∀ a, L a → L' a)
    (fl : flatT t = true ∨ ∀ a, ownM σ env' a → L' a ∨ ownM σ0 out a) (re : ∀ S : Addr → Prop, RE c0 (fun b => L' b ∨ S b) σ0 H' out → (∀ a, S a → H1 a = none ∧ ∃ xs, H' a = some (.lst xs)) → RE c (fun b => L b ∨ S b) σ H' env') (h0 : ∀ a, H1 a = none → c.H0 a = none) :
    RepT c L (fun a => H1 a = none) σ H' env' v t := by
  cases t with
  | al i => exact (na i rfl).elim
  | im d =>
    have h : Rep c0.K (Av L' σ0 out) H' v d := h
    rw [hc] at h
    rcases fl with f | f
    · exact h.flat f
    · exact h.mono (.refl H') fun a xs g e => ⟨⟨fun z => g.1 (hL a z), fun z => (f a z).elim g.1 g.2⟩, e⟩
  | fr ds =>
    obtain ⟨a, xs, e, e1, r, n1, n2, n3, q⟩ := h
    rw [hc] at r
    have rr := re (fun b => b = a) q fun b z => by subst z; exact ⟨n3, _, e1⟩
    refine ⟨a, xs, e, e1, ?_, fun z => n1 (hL a z), h0 a n3, n3, rr⟩
    rcases fl with f | f
    · exact r.flats f
    · exact r.mono (.refl H') fun b ys g e => ⟨⟨fun z => g.1 (z.imp (hL b) id), fun z => (f b z).elim (fun y => g.1 (.inl y)) g.2⟩, e⟩
  | ft cs =>
    obtain ⟨tt, vs, As, e, e1, r, n1, q⟩ := h
    rw [hc] at r e1
    have rr := re (fun b => b ∈ As) q fun b z => ⟨(n1 b z).2.2, r.in b z⟩
    refine ⟨tt, vs, As, e, e1, ?_, fun a z => ⟨fun y => (n1 a z).1 (hL a y), h0 a (n1 a z).2.2, (n1 a z).2.2⟩, rr⟩
    rcases fl with f | f
    · exact r.flat f
    · exact r.mono (.refl H') (fun b ys g e => ⟨⟨fun z => g.1 (z.imp (hL b) id), fun z => (f b z).elim (fun y => g.1 (.inl y)) g.2⟩, e⟩) fun _ _ _ e => e
end
section
variable {X : Cx} {c : Cc} {W : WX} {pos p : Pos} {x : Str} {e : Expr} {es : List Expr} {fa : FA} {g : FD} {k : Nat} {f : Addr} {fd : FuncData} {ps : List Str}
theorem d_call : ∀ σ H Q, dE c W (eCall g fa) σ H Q → tCallS (spD c.K c.mg g) (WE W) (dA c W fa) σ H Q := fun σ H Q h => by
  obtain ⟨env, L, re, h⟩ := dE_iff.mp h
  refine dA.of re (h.bind.mono fun ts e1 H1 r1 s1 h1 vs As q n r2 => ?_)
  unfold callT at h1
  cases ev : vals e1 ts with
  | none => rw [ev] at h1; exact h1.elim
  | some ds =>
    rw [ev] at h1
    dsimp only at h1
    -- what the callee must keep off
    obtain ⟨L', hL, hown, hrep, hext⟩ : ∃ L' : Addr → Prop, (∀ a, L a → L' a) ∧ (ts.any isAl = false → ∀ a, ownM σ e1 a → L' a) ∧ Reps c.K (fun b => ¬ L' b) H1 vs ds ∧ (∀ a, L' a → ∃ xs, H1 a = some (.lst xs)) := by
      by_cases na : ts.any isAl = false
      · refine ⟨fun a => L a ∨ ownM σ e1 a, fun a z => .inl z, fun _ a z => .inr z, q.args (G' := fun b => ¬ (L b ∨ ownM σ e1 b)) (fun b gb z => z.elim (fun z => gb.1 (.inl z)) gb.2) r1 (fun b gb z => z.elim gb.1 gb.2) (fun a z y => y.elim (n a z).1 (r2.ext a (.inr z)).1) (.inl na) ev, fun a z => ?_⟩
        rcases z with z | ⟨i, io, es, e1', e2'⟩
        · exact (r1.ext a z).2
        · obtain ⟨b, xs, e3, e4, _⟩ := r1.own i io es e1'
          rw [e2'] at e3
          cases e3
          exact ⟨xs, e4⟩
      · exact ⟨L, fun a z => z, fun z => (na z).elim, q.args (G' := fun b => ¬ L b) (fun b gb z => gb.1 (.inl z)) r1 (fun b gb => gb.1) (fun a z => (n a z).1) (.inr fun b ob z => (r1.ext b z).1 ob) ev, fun a z => (r1.ext a z).2⟩
    refine ⟨ds.map .im, L', RE.enter hrep hext, ?_⟩
    have grow : ∀ {H' : Hp} {out : En}, RE (cc0 c.K c.mg H1 vs (ds.map .im)) L' (vs.map some) H' out → ∀ b o, H1 b = some o → H' b = some o := fun {H' out} r b o e => r.fr b o (no_own_im b) e
    cases eg : g (ds.map .im) with
    | er => rw [eg] at h1; exact h1.elim
    | ex y out =>
      rw [eg] at h1
      exact fun H' rr C hC => h1 H' (r1.grow (grow rr)) (.grow (grow rr)) C hC
    | ok t out =>
      rw [eg] at h1
      dsimp only at h1
      split at h1
      · rename_i fl
        intro v H' rr qt
        have kp := grow rr
        have na : ∀ i, t ≠ .al i := fun i z => by
          subst z
          cases fl.1
        refine h1 H' (r1.grow kp) (.grow kp) v ?_
        have fl' : flatT t = true ∨ ∀ a, ownM σ e1 a → L' a ∨ ownM (vs.map some) out a := fl.2.elim (fun z => .inr fun a oa => .inl (hown z a oa)) .inl
        exact (qt.home (c := c) rfl na hL fl' (fun S _ hS => r1.mores kp hS) (fun a z => r1.h0 z)).less (fun _ z => z) fun a z => s1.back (.inr z)
      · exact h1.elim
theorem de_call (F : FnOk X.prog X.w X.K X.mg X.base (L2.CX X.prog X.w) k f fd ps (spD X.K X.mg g)) (hr : Room k X.A) (hg : Gl X x) (hm : X.mg x = some (.ref f)) (hk : PySem.W.keepIn X.K (.ref f) = true) (hb : Binds X.K fd ps []) (tk : Takes X W)
    (ha : PA X (e :: es) (dA c W fa)) (hK : c.K = X.K := by rfl) (hM : c.mg = X.mg := by rfl) (hdb : (x == ("__debug__" : Str)) = false := by decide) (he : starEach (e :: es) X.env = (false, eval e X.env) :: starEach es X.env := by rfl) (hpl : (backTo pos (starEach es X.env)).any (·.1) = false := by rfl) :
    PE X (.Call (.Name x p) (e :: es) [] pos) (dE c W (eCall g fa)) :=
  PEw (pe_callS F hr hg hm hk hb (fun σ => passAt tk σ) ha hdb he hpl) (by rw [← hK, ← hM]; exact d_call)
end
def argE : Option Nat → List T → En → Option En
  | _, [], _ => some []
  | some 0, t :: ts, e => match t with
    | .al i => match e[i]?, argE none ts e with
      | some (.own _ ds), some r => some (.own true ds :: r)
      | _, _ => none
    | _ => none
  | some (k + 1), t :: ts, e => match t.val e, argE (some k) ts e with
    | some d, some r => some (.im d :: r)
    | _, _ => none
  | none, t :: ts, e => match t.val e, argE none ts e with
    | some d, some r => some (.im d :: r)
    | _, _ => none
def isAli (i : Nat) : T → Bool
  | .al j => i == j
  | _ => false
def others : Option Nat → List T → List T
  | _, [] => []
  | some 0, _ :: ts => ts
  | some (k + 1), t :: ts => t :: others (some k) ts
  | none, t :: ts => t :: ts
def callI (k : Nat) (g : FD) (ts : List T) (e : En) : R T := match ts[k]? with
  | some (.al i) => match e[i]?, argE (some k) ts e with
    | some (.own b ds), some env0 => match g env0 with
      | .er => .er
      | .ex x out => match out[k]? with
        | some (.own true ds') => if (others (some k) ts).any (isAli i) = false ∧ ((others (some k) ts).any isAl = false ∨ D.flats ds' = true) then .ex x (e.set i (.own b ds')) else .er
        | _ => .er
      | .ok t out => match out[k]? with
        | some (.own true ds') => if isAl t = false ∧ (others (some k) ts).any (isAli i) = false ∧ ((others (some k) ts).any isAl = false ∨ (flatT t = true ∧ D.flats ds' = true)) then .ok t (e.set i (.own b ds')) else .er
        | _ => .er
    | _, _ => .er
  | _ => .er
def eCallI (k : Nat) (g : FD) (fa : FA) : FE := fun env => (fa env).bind fun ts e1 => callI k g ts e1
section
variable {c : Cc} {L : Addr → Prop} {σ : St} {H : Hp} {env : En}
theorem RepAs.uncons {K : PySem.W.Frag} {G : Addr → Prop} {As : List Addr} {vs : List V} {t : T} {ts : List T} (h : RepAs K G σ H env As vs (t :: ts)) : ∃ v vs' As', vs = v :: vs' ∧ RepAs K G σ H env As' vs' ts ∧ (∀ b ∈ As', b ∈ As) ∧
    ((∃ d, t = .im d ∧ Rep K G H v d) ∨ (∃ i, t = .al i ∧ (∃ (io : Bool) (ds : List D), env[i]? = some (Sl.own io ds)) ∧ σ[i]? = some (some v)) ∨ (∃ a xs ds, t = .fr ds ∧ v = .ref a ∧ a ∈ As ∧ H a = some (.lst xs) ∧ Reps K G H xs ds)) := by
  cases h with
  | im r rs => exact ⟨_, _, _, rfl, rs, fun _ z => z, .inl ⟨_, rfl, r⟩⟩
  | al o e rs => exact ⟨_, _, _, rfl, rs, fun _ z => z, .inr (.inl ⟨_, rfl, o, e⟩)⟩
  | fr n e r rs => exact ⟨_, _, _, rfl, rs, fun _ z => List.mem_cons_of_mem _ z, .inr (.inr ⟨_, _, _, rfl, rfl, List.mem_cons_self, e, r⟩)⟩
theorem RepAs.argE {As0 : List Addr} {G' : Addr → Prop} {a : Addr} {i : Nat} {bi : Bool} {di : List D} (g : ∀ b, Av (Lu L As0) σ env b → G' b) (ra : RE c L σ H env) (gl : ∀ b, Av L σ env b → G' b) (si : σ[i]? = some (some (V.ref a))) (ei : env[i]? = some (Sl.own bi di)) :
    ∀ (ts : List T) (o : Option Nat) {As vs env0}, RepAs c.K (Av (Lu L As0) σ env) σ H env As vs ts → (∀ b ∈ As, G' b) →
    ((others o ts).any isAl = false ∨ ∀ b, ownM σ env b → b ≠ a → G' b) → (others o ts).any (isAli i) = false → (∀ k, o = some k → ts[k]? = some (T.al i)) → DL.argE o ts env = some env0 →
    env0.length = vs.length ∧ (∀ k, o = some k → vs[k]? = some (.ref a) ∧ env0[k]? = some (Sl.own true di)) ∧ (∀ (j : Nat) (d : D), env0[j]? = some (Sl.im d) → ∃ v, vs[j]? = some v ∧ Rep c.K G' H v d) ∧ (∀ (j : Nat) (io : Bool) (ds : List D), env0[j]? = some (Sl.own io ds) → o = some j ∧ io = true ∧ ds = di)
  | [], o, As, vs, env0, h, _, _, _, e, h2 => by
    cases h
    have : env0 = [] := by
      unfold DL.argE at h2
      exact (Option.some.inj h2).symm
    subst this
    exact ⟨rfl, fun k z => by simpa using e k z, fun j d z => by simp at z, fun j io ds z => by simp at z⟩
  | t :: ts, o, As, vs, env0, h, n, hal, hi, e, h2 => by
    obtain ⟨v, vs', As', rfl, rs, sub, hd⟩ := h.uncons
    -- a head that is not the list to be changed
    have reg : ∀ d, t.val env = some d → (isAl t = false ∨ ∀ b, ownM σ env b → b ≠ a → G' b) → isAli i t = false → Rep c.K G' H v d := fun d ev ha hb => by
      rcases hd with ⟨d', rfl, r⟩ | ⟨j, rfl, ⟨io, ds, eo⟩, es⟩ | ⟨b, xs, ds, rfl, rfl, hm, eb, r⟩
      · cases ev
        exact r.mono (.refl H) fun b xs gb e => ⟨g b gb, e⟩
      · have ev' : (T.al j).val env = some (.lst ds) := by simp [T.val, eo]
        rw [ev'] at ev
        cases ev
        obtain ⟨b, xs, e3, e4, r5, _⟩ := ra.own j io ds eo
        rw [es] at e3
        cases e3
        have ha := ha.elim (fun z => by cases z) id
        refine .lst (ha b ⟨j, io, ds, eo, es⟩ fun z => ?_) e4 (r5.mono (.refl H) fun b xs gb e => ⟨gl b gb, e⟩)
        subst z
        have : i = j := ra.inj i j bi io di ds b ei eo si es
        subst this
        simp [isAli] at hb
      · cases ev
        exact .lst (n b hm) eb (r.mono (.refl H) fun b xs gb e => ⟨g b gb, e⟩)
    have n' : ∀ b ∈ As', G' b := fun b z => n b (sub b z)
    cases o with
    | none =>
      unfold DL.argE at h2
      simp only [others] at hal hi
      have hal1 : isAl t = false ∨ ∀ b, ownM σ env b → b ≠ a → G' b := hal.imp (fun z => by simp at z; exact z.1) id
      have hal2 : (others none ts).any isAl = false ∨ ∀ b, ownM σ env b → b ≠ a → G' b := hal.imp (fun z => by cases ts <;> simp_all [others]) id
      have hi2 : (others none ts).any (isAli i) = false := by cases ts <;> simp_all [others]
      cases q1 : t.val env with
      | none => rw [q1] at h2; simp at h2
      | some d =>
        cases q2 : DL.argE none ts env with
        | none => rw [q1, q2] at h2; simp at h2
        | some r =>
          rw [q1, q2] at h2
          cases h2
          obtain ⟨y1, y2, y3, y4⟩ := RepAs.argE g ra gl si ei ts none rs n' hal2 hi2 (fun k z => nomatch z) q2
          refine ⟨by rw [List.length_cons, List.length_cons, y1], (fun k z => nomatch z), fun j d' z => ?_, fun j io ds z => ?_⟩
          · cases j with
            | zero => simp at z; subst z; exact ⟨v, rfl, reg d q1 hal1 (by simp at hi; exact hi.1)⟩
            | succ j => simpa using y3 j d' (by simpa using z)
          · cases j with
            | zero => simp at z
            | succ j => have q := y4 j io ds (by simpa using z); cases q.1
    | some k =>
      cases k with
      | zero =>
        have et : t = T.al i := by simpa using e 0 rfl
        subst et
        unfold DL.argE at h2
        simp only [others] at hal hi
        have hal2 : (others none ts).any isAl = false ∨ ∀ b, ownM σ env b → b ≠ a → G' b := hal.imp (fun z => by cases ts <;> simp_all [others]) id
        have hi2 : (others none ts).any (isAli i) = false := by cases ts <;> simp_all [others]
        cases q2 : DL.argE none ts env with
        | none => simp only [ei, q2] at h2; cases h2
        | some r =>
          simp only [ei, q2] at h2
          cases h2
          obtain ⟨y1, y2, y3, y4⟩ := RepAs.argE g ra gl si ei ts none rs n' hal2 hi2 (fun k z => nomatch z) q2
          have ev : v = .ref a := by
            rcases hd with ⟨d', z, r⟩ | ⟨j, z, _, es⟩ | ⟨b, xs, ds, z, _⟩
            · cases z
            · cases z
              rw [si] at es
              cases es
              rfl
            · cases z
          refine ⟨by rw [List.length_cons, List.length_cons, y1], (fun k z => by cases z; exact ⟨by rw [ev]; rfl, rfl⟩), fun j d' z => ?_, fun j io ds z => ?_⟩
          · cases j with
            | zero => simp at z
            | succ j => simpa using y3 j d' (by simpa using z)
          · cases j with
            | zero => simp at z; exact ⟨rfl, by simp_all, by simp_all⟩
            | succ j => have q := y4 j io ds (by simpa using z); cases q.1
      | succ k =>
        unfold DL.argE at h2
        simp only [others] at hal hi
        have hal1 : isAl t = false ∨ ∀ b, ownM σ env b → b ≠ a → G' b := hal.imp (fun z => by simp at z; exact z.1) id
        have hal2 : (others (some k) ts).any isAl = false ∨ ∀ b, ownM σ env b → b ≠ a → G' b := hal.imp (fun z => by simp at z; simpa using z.2) id
        have hi2 : (others (some k) ts).any (isAli i) = false := by simp at hi; simpa using hi.2
        cases q1 : t.val env with
        | none => rw [q1] at h2; simp at h2
        | some d =>
          cases q2 : DL.argE (some k) ts env with
          | none => rw [q1, q2] at h2; simp at h2
          | some r =>
            rw [q1, q2] at h2
            cases h2
            obtain ⟨y1, y2, y3, y4⟩ := RepAs.argE g ra gl si ei ts (some k) rs n' hal2 hi2 (fun k' z => by cases z; simpa using e _ rfl) q2
            refine ⟨by rw [List.length_cons, List.length_cons, y1], (fun k' z => by cases z; simpa using y2 k rfl), fun j d' z => ?_, fun j io ds z => ?_⟩
            · cases j with
              | zero => simp at z; subst z; exact ⟨v, rfl, reg d q1 hal1 (by simp at hi; exact hi.1)⟩
              | succ j => simpa using y3 j d' (by simpa using z)
            · cases j with
              | zero => simp at z
              | succ j =>
                have q := y4 j io ds (by simpa using z)
                exact ⟨by cases q.1; rfl, q.2⟩
end
section
variable {X : Cx} {c : Cc} {W : WX} {pos p : Pos} {x : Str} {e : Expr} {es : List Expr} {fa : FA} {g : FD} {k kk : Nat} {f : Addr} {fd : FuncData} {ps : List Str}
theorem d_callI : ∀ σ H Q, dE c W (eCallI kk g fa) σ H Q → tCallS (spD c.K c.mg g) (WE W) (dA c W fa) σ H Q := fun σ H Q h => by
  obtain ⟨env, L, re, h⟩ := dE_iff.mp h
  refine dA.of re (h.bind.mono fun ts e1 H1 r1 s1 h1 vs As q n r2 => ?_)
  unfold callI at h1
  cases et : ts[kk]? with
  | none => simp only [et] at h1; exact h1.elim
  | some tt =>
    cases tt with
    | im d => simp only [et] at h1; exact h1.elim
    | fr d => simp only [et] at h1; exact h1.elim
    | ft d => simp only [et] at h1; exact h1.elim
    | al i =>
      cases ei : e1[i]? with
      | none => simp only [et, ei] at h1; exact h1.elim
      | some s =>
        cases s with
        | no => simp only [et, ei] at h1; exact h1.elim
        | im d => simp only [et, ei] at h1; exact h1.elim
        | own bi di =>
          cases ev : argE (some kk) ts e1 with
          | none => simp only [et, ei, ev] at h1; exact h1.elim
          | some env0 =>
            simp only [et, ei, ev] at h1
            obtain ⟨a, xs, si, ea, ra, f0, f1⟩ := r1.own i bi di ei
            have oa : ownM σ e1 a := ⟨i, bi, di, ei, si⟩
            by_cases hi : (others (some kk) ts).any (isAli i) = false
            case neg =>
              exfalso
              cases eg : g env0 with
              | er => rw [eg] at h1; exact h1
              | ex y out =>
                rw [eg] at h1
                dsimp only at h1
                split at h1
                · rw [if_neg (fun z => hi z.1)] at h1
                  exact h1
                · exact h1
              | ok t out =>
                rw [eg] at h1
                dsimp only at h1
                split at h1
                · rw [if_neg (fun z => hi z.2.1)] at h1
                  exact h1
                · exact h1
            -- what the callee must keep off
            obtain ⟨L', hL, hown, hLo, harg⟩ : ∃ L' : Addr → Prop, (∀ a, L a → L' a) ∧ ((others (some kk) ts).any isAl = false → ∀ b, ownM σ e1 b → b ≠ a → L' b) ∧ (∀ b, L' b → L b ∨ (ownM σ e1 b ∧ b ≠ a)) ∧
                ((others (some kk) ts).any isAl = false ∨ ∀ b, ownM σ e1 b → b ≠ a → ¬ L' b ∧ b ≠ a) := by
              by_cases na : (others (some kk) ts).any isAl = false
              · exact ⟨fun b => L b ∨ (ownM σ e1 b ∧ b ≠ a), fun a z => .inl z, fun _ b o ne => .inr ⟨o, ne⟩, fun b z => z, .inl na⟩
              · exact ⟨L, fun a z => z, fun z => (na z).elim, fun b z => .inl z, .inr fun b o ne => ⟨fun z => (r1.ext b z).1 o, ne⟩⟩
            have nL : ∀ b, Av L σ e1 b → ¬ L' b ∧ b ≠ a := fun b g => ⟨fun z => (hLo b z).elim g.1 fun z => g.2 z.1, fun z => g.2 (by rw [z]; exact oa)⟩
            obtain ⟨y1, y2, y3, y4⟩ := RepAs.argE (G' := fun b => ¬ L' b ∧ b ≠ a) (fun b g => nL b ⟨fun z => g.1 (.inl z), g.2⟩) r1 nL si ei ts (some kk) q (fun b z => ⟨fun y => (hLo b y).elim (n b z).1 fun y => (r2.ext b (.inr z)).1 y.1, fun y => (r2.ext b (.inr z)).1 (by rw [y]; exact oa)⟩) harg hi
              (fun k' z => by cases z; exact et) ev
            obtain ⟨vk, ek⟩ := y2 kk rfl
            have ovs : ∀ b, ownM (vs.map some) env0 b ↔ b = a := fun b => by
              constructor
              · rintro ⟨j, io, ds, e1', e2'⟩
                obtain ⟨z1, _, _⟩ := y4 j io ds e1'
                cases z1
                rw [List.getElem?_map, vk] at e2'
                cases e2'
                rfl
              · rintro rfl
                exact ⟨kk, true, di, ek, by rw [List.getElem?_map, vk]; rfl⟩
            have enter : RE (cc0 c.K c.mg H1 vs env0) L' (vs.map some) H1 env0 := by
              refine ⟨by rw [y1, List.length_map], fun j d z => ?_, fun j io ds z => ?_, fun j j' io jo ds es b z1 z2 _ _ => ?_, fun b lb => ⟨fun z => ?_, ?_⟩, fun b o _ e => e, fun b ib => ?_⟩
              · obtain ⟨v, ev', r⟩ := y3 j d z
                exact ⟨v, by rw [List.getElem?_map, ev']; rfl, r.mono (.refl H1) fun b ys g e => ⟨⟨g.1, fun z => g.2 ((ovs b).mp z)⟩, e⟩⟩
              · obtain ⟨z1, z2, z3⟩ := y4 j io ds z
                cases z1
                subst z2 z3
                exact ⟨a, xs, by rw [List.getElem?_map, vk]; rfl, ea, ra.mono (.refl H1) fun b ys g e => ⟨⟨(nL b g).1, fun z => (nL b g).2 ((ovs b).mp z)⟩, e⟩, (fun z => nomatch z), fun _ => ⟨(ovs a).mpr rfl, vk⟩⟩
              · have w1 := (y4 j io ds z1).1
                have w2 := (y4 j' jo es z2).1
                rw [w1] at w2
                exact Option.some.inj w2
              · have := (ovs b).mp z
                subst this
                exact (hLo b lb).elim (fun z => (r1.ext b z).1 oa) fun z => z.2 rfl
              · rcases hLo b lb with z | ⟨⟨j, io, ds, e1', e2'⟩, _⟩
                · exact (r1.ext b z).2
                · obtain ⟨b', ys, e3, e4, _⟩ := r1.own j io ds e1'
                  rw [e2'] at e3
                  cases e3
                  exact ⟨ys, e4⟩
              · have := (ovs b).mp ib
                subst this
                exact ⟨xs, ea⟩
            refine ⟨env0, L', enter, ?_⟩
            -- behind the call
            have back : ∀ {H' : Hp} {out : En} {ds' : List D} {S : Addr → Prop}, RE (cc0 c.K c.mg H1 vs env0) (fun b => L' b ∨ S b) (vs.map some) H' out → out[kk]? = some (Sl.own true ds') → ((others (some kk) ts).any isAl = false ∨ D.flats ds' = true) →
                (∀ b, S b → H1 b = none ∧ ∃ xs, H' b = some (.lst xs)) → RE c (fun b => L b ∨ S b) σ H' (e1.set i (.own bi ds')) ∧ Stp σ e1 H1 σ (e1.set i (.own bi ds')) H' := fun {H' out ds' S} rr eo fl hS => by
              obtain ⟨a', xs', e3, e4, r5, _⟩ := rr.own kk true ds' eo
              rw [List.getElem?_map, vk] at e3
              cases e3
              have kp : ∀ b o, b ≠ a → H1 b = some o → H' b = some o := fun b o ne e => rr.fr b o (fun z => ne ((ovs b).mp z)) e
              have Sa : ¬ S a := fun z => by rw [(hS a z).1] at ea; cases ea
              have ox : ownM (vs.map some) out a := ⟨kk, true, ds', eo, by rw [List.getElem?_map, vk]; rfl⟩
              have r6 : Reps c.K (Av (fun b => L b ∨ S b) σ e1) H' xs' ds' := by
                rcases fl with fl | fl
                · refine r5.mono (.refl H') fun b ys g e => ⟨⟨fun z => g.1 (z.imp (hL b) id), fun z => ?_⟩, e⟩
                  by_cases ne : b = a
                  · subst ne
                    exact g.2 ox
                  · exact g.1 (.inl (hown fl b z ne))
                · exact r5.flats fl
              -- by a heap between
              let Hx : Hp := fun b => if b = a then H1 a else H' b
              have hx : ∀ b, b ≠ a → Hx b = H' b := fun b ne => if_neg ne
              have hxa : Hx a = H1 a := if_pos rfl
              have rx : RE c (fun b => L b ∨ S b) σ Hx e1 := r1.mores (fun b o e => by
                by_cases ne : b = a
                · subst ne
                  exact hxa.trans e
                · exact (hx b ne).trans (kp b o ne e)) fun b sb => ⟨(hS b sb).1, by
                  rw [hx b fun z => Sa (by rw [← z]; exact sb)]
                  exact (hS b sb).2⟩
              obtain ⟨q1, q2⟩ := rx.put ei si (fun b o ne e => (hx b ne).symm.trans e) e4 r6
              refine ⟨q1, Stp.trans (fun b nb => ?_) q2⟩
              have ne : b ≠ a := fun z => nb (.inl (by rw [z]; exact oa))
              cases e : H1 b with
              | none => exact (nb (.inr e)).elim
              | some o => exact ⟨(hx b ne).trans (kp b o ne e), fun z => z.elim (fun z => nb (.inl z)) fun z => by rw [hx b ne, kp b o ne e] at z; cases z⟩
            have noS : ∀ {H' : Hp} {out : En}, RE (cc0 c.K c.mg H1 vs env0) L' (vs.map some) H' out → RE (cc0 c.K c.mg H1 vs env0) (fun b => L' b ∨ False) (vs.map some) H' out := fun r => r.less fun b z => z.elim id False.elim
            cases eg : g env0 with
            | er => rw [eg] at h1; exact h1.elim
            | ex y out =>
              rw [eg] at h1
              dsimp only at h1
              split at h1
              · rename_i ds' eo
                split at h1
                · rename_i fl
                  intro H' rr C hC
                  obtain ⟨q1, q2⟩ := back (noS rr) eo fl.2 fun b z => z.elim
                  exact h1 H' (q1.less fun b z => .inl z) q2 C hC
                · exact h1.elim
              · exact h1.elim
            | ok t out =>
              rw [eg] at h1
              dsimp only at h1
              split at h1
              · rename_i ds' eo
                split at h1
                · rename_i fl
                  intro v H' rr qt
                  have fl' : (others (some kk) ts).any isAl = false ∨ D.flats ds' = true := fl.2.2.imp id And.right
                  obtain ⟨q1, q2⟩ := back (noS rr) eo fl' fun b z => z.elim
                  have ox : ownM (vs.map some) out a := ⟨kk, true, ds', eo, by rw [List.getElem?_map, vk]; rfl⟩
                  refine h1 H' (q1.less fun b z => .inl z) q2 v ?_
                  refine (qt.home (c := c) rfl (fun j z => by subst z; cases fl.1) hL (fl.2.2.elim (fun z => .inr fun b ob => ?_) fun z => .inl z.1) (fun S rS hS => (back rS eo fl' hS).1) (fun a z => r1.h0 z)).less (fun _ z => z) fun a z => s1.back (.inr z)
                  by_cases ne : b = a
                  · subst ne
                    exact .inr ox
                  · exact .inl (hown z b ((own_put ei b).mp ob) ne)
                · exact h1.elim
              · exact h1.elim
theorem de_callI (kk : Nat) (F : FnOk X.prog X.w X.K X.mg X.base (L2.CX X.prog X.w) k f fd ps (spD X.K X.mg g)) (hr : Room k X.A) (hg : Gl X x) (hm : X.mg x = some (.ref f)) (hk : PySem.W.keepIn X.K (.ref f) = true) (hb : Binds X.K fd ps []) (tk : Takes X W)
    (ha : PA X (e :: es) (dA c W fa)) (hK : c.K = X.K := by rfl) (hM : c.mg = X.mg := by rfl) (hdb : (x == ("__debug__" : Str)) = false := by decide) (he : starEach (e :: es) X.env = (false, eval e X.env) :: starEach es X.env := by rfl) (hpl : (backTo pos (starEach es X.env)).any (·.1) = false := by rfl) :
    PE X (.Call (.Name x p) (e :: es) [] pos) (dE c W (eCallI kk g fa)) :=
  PEw (pe_callS F hr hg hm hk hb (fun σ => passAt tk σ) ha hdb he hpl) (by rw [← hK, ← hM]; exact d_callI)
end
end DL
namespace PySem
open AutoSeq1 (wpAny_loadPart')
end PySem
namespace L2
open PySem PySem.Spec PyProof.Rows
end L2
namespace DL
open PySem PySem.Spec L2
inductive Fl where
  | er | nx (e : En) | rt (t : T) (e : En) | bk (e : En) | ct (e : En) | ex (x : Str) (e : En)
abbrev FS := En → Fl
abbrev FG := T → En → Fl
def R.bindF {α : Type} (r : R α) (g : α → En → Fl) : Fl := match r with
  | .er => .er
  | .ex x e => .ex x e
  | .ok a e => g a e
@[simp] theorem bindF_ok {α : Type} (a : α) (e : En) (g : α → En → Fl) : R.bindF (.ok a e) g = g a e := rfl
@[simp] theorem bindF_er {α : Type} (g : α → En → Fl) : R.bindF .er g = .er := rfl
@[simp] theorem bindF_ex {α : Type} (x : Str) (e : En) (g : α → En → Fl) : R.bindF (.ex x e) g = .ex x e := rfl
def Fl.seq (r : Fl) (g : FS) : Fl := match r with
  | .nx e => g e
  | r => r
@[simp] theorem seq_nx (e : En) (g : FS) : Fl.seq (.nx e) g = g e := rfl
@[simp] theorem seq_rt (t : T) (e : En) (g : FS) : Fl.seq (.rt t e) g = .rt t e := rfl
@[simp] theorem seq_er (g : FS) : Fl.seq .er g = .er := rfl
@[simp] theorem seq_bk (e : En) (g : FS) : Fl.seq (.bk e) g = .bk e := rfl
@[simp] theorem seq_ct (e : En) (g : FS) : Fl.seq (.ct e) g = .ct e := rfl
@[simp] theorem seq_ex (x : Str) (e : En) (g : FS) : Fl.seq (.ex x e) g = .ex x e := rfl
abbrev Sp0 := St → En → Hp → Prop
def sK (c : Cc) (W : WX) (L : Addr → Prop) (S : Sp0) (N : Addr → Prop) (r : Fl) (D : Ends) : Prop := match r with
  | .er => False
  | .nx e => ∀ σ' H', RE c L σ' H' e → S σ' e H' → D.nx σ' H'
  | .bk e => ∀ σ' H', RE c L σ' H' e → S σ' e H' → D.bk σ' H'
  | .ct e => ∀ σ' H', RE c L σ' H' e → S σ' e H' → D.ct σ' H'
  | .rt t e => ∀ v σ' H', RE c L σ' H' e → S σ' e H' → RepT c L N σ' H' e v t → D.rt v H'
  | .ex x e => ∀ σ' H', RE c L σ' H' e → S σ' e H' → Wx c.mg W x σ' H'
def dS (c : Cc) (W : WX) (f : FS) : TS := fun D σ H => ∃ env L, RE c L σ H env ∧ sK c W L (Stp σ env H) (Nn σ env H) (f env) D
section
variable {c : Cc} {W : WX} {L : Addr → Prop} {σ : St} {H : Hp} {env : En} {D : Ends}
theorem dS.of {f : FS} (r : RE c L σ H env) (h : sK c W L (Stp σ env H) (Nn σ env H) (f env) D) : dS c W f D σ H := ⟨env, L, r, h⟩
theorem sK.bind {α : Type} {r : R α} {g : α → En → Fl} (h : sK c W L (Stp σ env H) (Nn σ env H) (r.bindF g) D) : dK c W L σ H env r fun a e1 H1 => sK c W L (Stp σ env H) (Nn σ env H) (g a e1) D := by
  cases r with
  | er => exact h
  | ex x e => exact fun H' r s => h σ H' r s
  | ok a e => exact fun H' r s => h
theorem sK.imp {S S' : Sp0} {N N' : Addr → Prop} {r : Fl} (h : sK c W L S N r D) (hS : ∀ σ e H, S' σ e H → S σ e H) (hN : ∀ a, N' a → N a) : sK c W L S' N' r D := by
  cases r with
  | er => exact h
  | nx e => exact fun σ' H' r s => h σ' H' r (hS _ _ _ s)
  | bk e => exact fun σ' H' r s => h σ' H' r (hS _ _ _ s)
  | ct e => exact fun σ' H' r s => h σ' H' r (hS _ _ _ s)
  | rt t e => exact fun v σ' H' r s q => h v σ' H' r (hS _ _ _ s) (q.less (fun _ z => z) hN)
  | ex x e => exact fun σ' H' r s => h σ' H' r (hS _ _ _ s)
theorem sK.here {r : Fl} {σ1 : St} {e1 : En} {H1 : Hp} (h : sK c W L (Stp σ env H) (Nn σ env H) r D) (s1 : Stp σ env H σ1 e1 H1) : sK c W L (Stp σ1 e1 H1) (Nn σ1 e1 H1) r D :=
  h.imp (fun _ _ _ s => s1.trans s) fun _ n => s1.back n
end
def sNx : FS := fun env => .nx env
def sSeq (f g : FS) : FS := fun env => (f env).seq g
def sIf (ft : FT) (f g : FS) : FS := fun env => (ft env).bindF fun b e => bif b then f e else g e
def sRet (fa : FE) : FS := fun env => (fa env).bindF fun t e => .rt t e
def sRetN : FS := fun env => .rt (.im .non) env
def sDrop (fa : FE) : FS := fun env => (fa env).bindF fun _ e => .nx e
def sBk : FS := fun env => .bk env
def sCt : FS := fun env => .ct env
def sEr : FS := fun _ => .er
section
variable {X : Cx} {c : Cc} {W : WX} {st : Stmt} {rest a b : List Stmt} {f g : FS} {fa : FE} {ft : FT} {e : Expr} {pos : Pos}
theorem dss_nil : PSs X [] (dS c W sNx) := PSsw pss_nil fun D σ H h => by
  obtain ⟨env, L, r, h⟩ := h
  exact h σ H r .refl
theorem dss_cons (h1 : PS X st (dS c W f)) (h2 : PSs X rest (dS c W g)) : PSs X (st :: rest) (dS c W (sSeq f g)) := PSsw (pss_cons h1 h2) fun D σ H h => by
  obtain ⟨env, L, r, h⟩ := h
  refine dS.of r ?_
  unfold sSeq at h
  cases q : f env with
  | er => rw [q] at h; exact h
  | nx e =>
    rw [q] at h
    exact fun σ' H' r' s' => dS.of r' (h.here s')
  | rt t e => rw [q] at h; exact h
  | bk e => rw [q] at h; exact h
  | ct e => rw [q] at h; exact h
  | ex x e => rw [q] at h; exact h
theorem dss_one (h1 : PS X st (dS c W f)) : PSs X [st] (dS c W f) := pss_one h1
theorem ds_if {t : Expr} (hc : PT X t (dT c W ft)) (ha : PSs X a (dS c W f)) (hb : PSs X b (dS c W g)) : PS X (.If t a b pos) (dS c W (sIf ft f g)) := PSw (ps_if hc ha hb) fun D σ H h => by
  obtain ⟨env, L, r, h⟩ := h
  refine dT.of r (h.bind.mono fun b e1 H1 r1 s1 h1 => ?_)
  cases b with
  | true => rw [if_pos rfl]; exact dS.of r1 (h1.here s1)
  | false => rw [if_neg Bool.false_ne_true]; exact dS.of r1 (h1.here s1)
theorem ds_ret (he : PE X e (dE c W fa)) : PS X (.Return (some e) pos) (dS c W (sRet fa)) := PSw (ps_ret he) fun D σ H h => by
  obtain ⟨env, L, r, h⟩ := h
  exact dE.of r (h.bind.mono fun t e1 H1 r1 s1 h1 v q => h1 v σ H1 r1 s1 q)
theorem ds_expr (he : PE X e (dE c W fa)) (hs : swapsWith e none pos.line X.env = pure false := by rfl) : PS X (.Expr e pos) (dS c W (sDrop fa)) := PSw (ps_expr he hs) fun D σ H h => by
  obtain ⟨env, L, r, h⟩ := h
  exact dE.of r (h.bind.mono fun t e1 H1 r1 s1 h1 v q => h1 σ H1 r1 s1)
end
def StpN (N : Addr → Prop) (σ : St) (env : En) (H : Hp) (σ' : St) (env' : En) (H' : Hp) : Prop := ∀ b, ¬ Nn σ env H b → ¬ N b → H' b = H b ∧ ¬ Nn σ' env' H' b
theorem StpN.after {σ σ1 σ2 : St} {env e1 e2 : En} {H H1 H2 : Hp} (s : Stp σ env H σ1 e1 H1) (n : StpN (Nn σ env H) σ1 e1 H1 σ2 e2 H2) : Stp σ env H σ2 e2 H2 := fun b nb => by
  obtain ⟨q1, q2⟩ := s b nb
  obtain ⟨q3, q4⟩ := n b q2 nb
  exact ⟨q3.trans q1, q4⟩
theorem StpN.of {N : Addr → Prop} {σ σ' : St} {env env' : En} {H H' : Hp} (s : Stp σ env H σ' env' H') : StpN N σ env H σ' env' H' := fun b n _ => s b n
theorem StpN.trans {N : Addr → Prop} {σ σ1 σ2 : St} {env e1 e2 : En} {H H1 H2 : Hp} (a : StpN N σ env H σ1 e1 H1) (b : StpN N σ1 e1 H1 σ2 e2 H2) : StpN N σ env H σ2 e2 H2 := fun x n m => by
  obtain ⟨q1, q2⟩ := a x n m
  obtain ⟨q3, q4⟩ := b x q2 m
  exact ⟨q3.trans q1, q4⟩
def dG (c : Cc) (g : FG) : TG := fun v σ H Q => ∃ env L N t, RE c L σ H env ∧ RepT c L N σ H env v t ∧ match g t env with
  | .nx e => ∀ σ' H', RE c L σ' H' e → StpN N σ env H σ' e H' → Q σ' H'
  | _ => False
def sAsg (fa : FE) (g : FG) : FS := fun env => (fa env).bindF fun t e => match g t e with
  | .nx e => .nx e
  | _ => .er
section
variable {c : Cc} {L : Addr → Prop} {σ : St} {H : Hp} {env : En}
theorem own_set {i : Nat} {v : V} {s : Sl} {b : Addr} (h : ownM (σ.set i (some v)) (env.set i s) b) : (ownM σ env b ∧ ∀ (io : Bool) (ds : List D), True) ∨ (v = .ref b ∧ ∃ (io : Bool) (ds : List D), s = .own io ds) := by
  obtain ⟨j, io, ds, e1, e2⟩ := h
  by_cases q : i = j
  · subst q
    rw [List.getElem?_set] at e1 e2
    simp only [if_true] at e1 e2
    split at e1
    · split at e2
      · cases e1
        cases e2
        exact .inr ⟨rfl, io, ds, rfl⟩
      · cases e2
    · cases e1
  · rw [List.getElem?_set_ne q] at e1 e2
    exact .inl ⟨⟨j, io, ds, e1, e2⟩, fun _ _ => trivial⟩
theorem RE.setIm {i : Nat} {v : V} {d : D} (h : RE c L σ H env) (r : Rep c.K (Av L σ env) H v d) : RE c L (σ.set i (some v)) H (env.set i (.im d)) ∧ Stp σ env H (σ.set i (some v)) (env.set i (.im d)) H := by
  have sub : ∀ b, ownM (σ.set i (some v)) (env.set i (.im d)) b → ownM σ env b := fun b z => by
    rcases own_set z with z | ⟨_, io, ds, z⟩
    · exact z.1
    · cases z
  have av : ∀ b, Av L σ env b → Av L (σ.set i (some v)) (env.set i (.im d)) b := fun b g => ⟨g.1, fun z => g.2 (sub b z)⟩
  have st : Stp σ env H (σ.set i (some v)) (env.set i (.im d)) H := fun b n => ⟨rfl, fun z => n (z.imp (sub b) id)⟩
  have get : ∀ {j : Nat} {s : Sl}, (env.set i (.im d))[j]? = some s → (j = i ∧ s = .im d ∧ i < env.length) ∨ (j ≠ i ∧ env[j]? = some s) := fun {j s} q => by
    by_cases z : i = j
    · subst z
      rw [List.getElem?_set] at q
      simp only [if_true] at q
      split at q
      · rename_i hi
        cases q
        exact .inl ⟨rfl, rfl, hi⟩
      · cases q
    · rw [List.getElem?_set_ne z] at q
      exact .inr ⟨fun y => z y.symm, q⟩
  refine ⟨⟨by rw [List.length_set, List.length_set]; exact h.len, fun j d' q => ?_, fun j io ds q => ?_, fun j k io jo ds es a q1 q2 q3 q4 => ?_, fun b lb => ⟨fun z => (h.ext b lb).1 (sub b z), (h.ext b lb).2⟩, h.fr, h.io⟩, st⟩
  · rcases get q with ⟨rfl, z, hi⟩ | ⟨ne, q⟩
    · cases z
      exact ⟨v, by rw [List.getElem?_set_self (by rw [← h.len]; exact hi)], r.mono (.refl H) fun b xs g e => ⟨av b g, e⟩⟩
    · obtain ⟨v', e1, r'⟩ := h.im j d' q
      exact ⟨v', by rw [List.getElem?_set_ne (Ne.symm ne)]; exact e1, r'.mono (.refl H) fun b xs g e => ⟨av b g, e⟩⟩
  · rcases get q with ⟨rfl, z, hi⟩ | ⟨ne, q⟩
    · cases z
    · obtain ⟨a, xs, e1, e2, r', z⟩ := h.own j io ds q
      exact ⟨a, xs, by rw [List.getElem?_set_ne (Ne.symm ne)]; exact e1, e2, r'.mono (.refl H) fun b xs g e => ⟨av b g, e⟩, z⟩
  · rcases get q1 with ⟨rfl, z, hi⟩ | ⟨ne1, q1⟩
    · cases z
    · rcases get q2 with ⟨rfl, z, hi⟩ | ⟨ne2, q2⟩
      · cases z
      · rw [List.getElem?_set_ne (Ne.symm ne1)] at q3
        rw [List.getElem?_set_ne (Ne.symm ne2)] at q4
        exact h.inj j k io jo ds es a q1 q2 q3 q4
theorem RE.setFr {i : Nat} {a : Addr} {xs : List V} {ds : List D} {N : Addr → Prop} (h : RE c (fun b => L b ∨ b = a) σ H env) (ea : H a = some (.lst xs)) (r : Reps c.K (Av (fun b => L b ∨ b = a) σ env) H xs ds) (nl : ¬ L a) (h0 : c.H0 a = none) (n : N a) :
    RE c L (σ.set i (some (.ref a))) H (env.set i (.own false ds)) ∧ StpN N σ env H (σ.set i (some (.ref a))) (env.set i (.own false ds)) H := by
  have sub : ∀ b, ownM (σ.set i (some (.ref a))) (env.set i (.own false ds)) b → ownM σ env b ∨ b = a := fun b z => by
    rcases own_set z with z | ⟨z, _⟩
    · exact .inl z.1
    · cases z
      exact .inr rfl
  have av : ∀ b, Av (fun b => L b ∨ b = a) σ env b → Av L (σ.set i (some (.ref a))) (env.set i (.own false ds)) b := fun b g => ⟨fun z => g.1 (.inl z), fun z => (sub b z).elim g.2 fun z => g.1 (.inr z)⟩
  have get : ∀ {j : Nat} {s : Sl}, (env.set i (.own false ds))[j]? = some s → (j = i ∧ s = .own false ds ∧ i < env.length) ∨ (j ≠ i ∧ env[j]? = some s) := fun {j s} q => by
    by_cases z : i = j
    · subst z
      rw [List.getElem?_set] at q
      simp only [if_true] at q
      split at q
      · rename_i hi
        cases q
        exact .inl ⟨rfl, rfl, hi⟩
      · cases q
    · rw [List.getElem?_set_ne z] at q
      exact .inr ⟨fun y => z y.symm, q⟩
  have na : ¬ ownM σ env a := (h.ext a (.inr rfl)).1
  refine ⟨⟨by rw [List.length_set, List.length_set]; exact h.len, fun j d' q => ?_, fun j io es q => ?_, fun j k io jo es fs b q1 q2 q3 q4 => ?_, fun b lb => ⟨fun z => (sub b z).elim (h.ext b (.inl lb)).1 fun z => nl (by rw [← z]; exact lb), (h.ext b (.inl lb)).2⟩, h.fr, h.io⟩, fun b nb nN => ⟨rfl, fun z => z.elim (fun z => (sub b z).elim (fun z => nb (.inl z)) fun z => nN (by rw [z]; exact n)) fun z => nb (.inr z)⟩⟩
  · rcases get q with ⟨rfl, z, hi⟩ | ⟨ne, q⟩
    · cases z
    · obtain ⟨v', e1, r'⟩ := h.im j d' q
      exact ⟨v', by rw [List.getElem?_set_ne (Ne.symm ne)]; exact e1, r'.mono (.refl H) fun b xs g e => ⟨av b g, e⟩⟩
  · rcases get q with ⟨rfl, z, hi⟩ | ⟨ne, q⟩
    · cases z
      exact ⟨a, xs, by rw [List.getElem?_set_self (by rw [← h.len]; exact hi)], ea, r.mono (.refl H) (fun b xs g e => ⟨av b g, e⟩), fun _ => h0, fun z => nomatch z⟩
    · obtain ⟨b, ys, e1, e2, r', z⟩ := h.own j io es q
      exact ⟨b, ys, by rw [List.getElem?_set_ne (Ne.symm ne)]; exact e1, e2, r'.mono (.refl H) (fun b xs g e => ⟨av b g, e⟩), z⟩
  · have own : ∀ {j : Nat} {io : Bool} {es : List D}, j ≠ i → env[j]? = some (Sl.own io es) → (σ.set i (some (V.ref a)))[j]? = some (some (V.ref b)) → ownM σ env b ∧ σ[j]? = some (some (V.ref b)) := fun {j io es} ne q z => by
      rw [List.getElem?_set_ne (Ne.symm ne)] at z
      exact ⟨⟨j, io, es, q, z⟩, z⟩
    have at_ : ∀ {j : Nat}, j = i → i < env.length → (σ.set i (some (V.ref a)))[j]? = some (some (V.ref b)) → b = a := fun {j} e hi z => by
      subst e
      rw [List.getElem?_set_self (by rw [← h.len]; exact hi)] at z
      cases z
      rfl
    rcases get q1 with ⟨e1, z1, hi1⟩ | ⟨ne1, q1⟩
    · rcases get q2 with ⟨e2, z2, hi2⟩ | ⟨ne2, q2⟩
      · rw [e1, e2]
      · have := at_ e1 hi1 q3
        subst this
        exact (na (own ne2 q2 q4).1).elim
    · rcases get q2 with ⟨e2, z2, hi2⟩ | ⟨ne2, q2⟩
      · have := at_ e2 hi2 q4
        subst this
        exact (na (own ne1 q1 q3).1).elim
      · exact h.inj j k io jo es fs b q1 q2 (own ne1 q1 q3).2 (own ne2 q2 q4).2
end
def gN (i : Nat) : FG := fun t env => match t with
  | .im d => .nx (env.set i (.im d))
  | .fr ds => .nx (env.set i (.own false ds))
  | .ft cs => .nx (env.set i (.im (.tup (cs.map Cp.d))))
  | .al j => match env[j]? with
    | some (.own false ds) => .nx ((env.set j .no).set i (.own false ds))
    | _ => .er
@[simp] theorem gN_im (i : Nat) (d : D) (env : En) : gN i (.im d) env = .nx (env.set i (.im d)) := rfl
@[simp] theorem gN_fr (i : Nat) (ds : List D) (env : En) : gN i (.fr ds) env = .nx (env.set i (.own false ds)) := rfl
@[simp] theorem gN_ft (i : Nat) (cs : List Cp) (env : En) : gN i (.ft cs) env = .nx (env.set i (.im (.tup (cs.map Cp.d)))) := rfl
section
variable {X : Cx} {c : Cc} {W : WX} {pos p : Pos} {e tg : Expr} {fa : FE} {g : FG}
theorem d_gN {i : Nat} : ∀ v σ H Q, dG c (gN i) v σ H Q → gName i v σ H Q := fun v σ H Q h => by
  obtain ⟨env, L, N, t, r, q, h⟩ := h
  cases t with
  | im d =>
    obtain ⟨q1, q2⟩ := r.setIm (i := i) q
    exact h _ _ q1 (.of q2)
  | ft cs =>
    obtain ⟨q1, q2⟩ := r.setIm (i := i) q.wk
    exact h _ _ q1 (.of q2)
  | fr ds =>
    obtain ⟨a, xs, rfl, e1, rr, n1, n2, n3, re⟩ := q
    obtain ⟨q1, q2⟩ := re.setFr (i := i) (N := N) e1 rr n1 n2 n3
    exact h _ _ q1 q2
  | al j =>
    obtain ⟨⟨io, ds, e1⟩, e2⟩ := q
    simp only [gN, e1] at h
    cases io with
    | true => exact h.elim
    | false =>
      obtain ⟨a, xs, e3, e4, rr, f0, _⟩ := r.own j false ds e1
      rw [e2] at e3
      cases e3
      obtain ⟨hd, sd⟩ := r.drop e1 e2
      have oa : ownM σ env a := ⟨j, false, ds, e1, e2⟩
      have rr' : Reps c.K (Av (fun b => L b ∨ b = a) σ (env.set j .no)) H xs ds := rr.mono (.refl H) fun b ys g e => ⟨⟨fun z => z.elim g.1 fun z => g.2 (by rw [z]; exact oa), fun z => g.2 (own_set_no z).1⟩, e⟩
      obtain ⟨q1, q2⟩ := hd.setFr (i := i) (N := Nn σ env H) e4 rr' (fun z => (r.ext a z).1 oa) (f0 rfl) (.inl oa)
      refine h _ _ q1 (.of fun b nb => ?_)
      obtain ⟨y1, y2⟩ := sd b nb
      obtain ⟨y3, y4⟩ := q2 b y2 nb
      exact ⟨y3.trans y1, y4⟩
theorem PGw {t t' : TG} (h : PG X tg t) (k : ∀ v σ H Q, t' v σ H Q → t v σ H Q) : PG X tg t' := ⟨fun pins s σ H v u Q I r q => h.run pins s σ H v u Q I r (k v σ H Q q)⟩
theorem dg_name {i : Nat} (h : PG X tg (gName i)) : PG X tg (dG c (gN i)) := PGw h d_gN
theorem d_asg : ∀ D σ H, dS c W (sAsg fa g) D σ H → tAsg (dE c W fa) (dG c g) D σ H := fun D σ H h => by
  obtain ⟨env, L, r, h⟩ := h
  refine dE.of r (h.bind.mono fun t e1 H1 r1 s1 h1 v q => ⟨e1, L, Nn σ env H, t, r1, q, ?_⟩)
  cases eg : g t e1 with
  | nx e2 => rw [eg] at h1; exact fun σ' H' r' s' => h1 σ' H' r' (s'.after s1)
  | er => rw [eg] at h1; exact h1
  | rt t e => rw [eg] at h1; exact h1
  | bk e => rw [eg] at h1; exact h1
  | ct e => rw [eg] at h1; exact h1
  | ex x e => rw [eg] at h1; exact h1
theorem ds_asg (he : PE X e (dE c W fa)) (hg : PG X tg (dG c g)) (hs : swapsWithSole [tg] e pos.line X.env = pure false := by rfl) (hw : swappedStores [tg] e X.env = pure none := by rfl)
    (h1 : (assignEach [tg] X.env).map (·.2) = [assign tg X.env] := by rfl) : PS X (.Assign [tg] e pos) (dS c W (sAsg fa g)) := PSw (ps_asg he hg hs hw h1) d_asg
theorem ds_set {i : Nat} {x : Str} {pos' : Pos} (hN : X.N.Nodup) (hi : X.N[i]? = some x) (hx : Loc X.env.scope x) (he : PE X e (dE c W fa)) (hs : swapsWith e (some (.Name x pos')) pos.line X.env = pure false := by rfl) (hf : X.fn x = true ∨ X.env.scope.names.lookup x = some .local := by first | exact .inl rfl | exact .inr rfl | assumption) :
    PS X (.Assign [.Name x pos'] e pos) (dS c W (sAsg fa (gN i))) := PSw (ps_set hN hi hx he hs hf) fun D σ H h => by
  have := d_asg D σ H h
  obtain ⟨env, L, r, q⟩ := this
  exact ⟨env, L, r, q.mono fun t e1 H1 r1 s1 h1 v q => d_gN _ _ _ _ (h1 v q)⟩
end
end DL
namespace DL
open PySem PySem.Spec L2
def cpT (c : Cp) : T := match c.fr, c.d with
  | true, .lst ds => .fr ds
  | _, d => .im d
@[simp] theorem cpT_im (d : D) : cpT ⟨false, d⟩ = .im d := rfl
@[simp] theorem cpT_fr (ds : List D) : cpT ⟨true, .lst ds⟩ = .fr ds := rfl
abbrev FGs := List Cp → En → Fl
def dGs (c : Cc) (g : FGs) : TGs := fun vs σ H Q => ∃ env L N As cs, RE c (Lu L As) σ H env ∧ RepC c.K (Av (Lu L As) σ env) H As vs cs ∧ (∀ a ∈ As, ¬ L a ∧ c.H0 a = none ∧ N a) ∧ match g cs env with
  | .nx e => ∀ σ' H', RE c L σ' H' e → StpN N σ env H σ' e H' → Q σ' H'
  | _ => False
def gsNil : FGs := fun cs env => match cs with
  | [] => .nx env
  | _ => .er
def gsCons (g : FG) (gs : FGs) : FGs := fun cs env => match cs with
  | c :: cs => (g (cpT c) env).seq (gs cs)
  | [] => .er
def cpsOf (t : T) (env : En) : Option (List Cp) := match t with
  | .im (.tup ds) => some (ds.map fun d => ⟨false, d⟩)
  | .ft cs => some cs
  | _ => none
@[simp] theorem cpsOf_tup (ds : List D) (env : En) : cpsOf (.im (.tup ds)) env = some (ds.map fun d => ⟨false, d⟩) := rfl
@[simp] theorem cpsOf_ft (cs : List Cp) (env : En) : cpsOf (.ft cs) env = some cs := rfl
def gT (n : Nat) (gs : FGs) : FG := fun t env => match cpsOf t env with
  | some cs => if cs.length = n then gs cs env else .er
  | none => .er
section
variable {X : Cx} {c : Cc} {W : WX} {pos : Pos} {e : Expr} {es : List Expr} {g : FG} {gs : FGs}
theorem PGsw {t t' : TGs} (h : PGs X es t) (k : ∀ v σ H Q, t' v σ H Q → t v σ H Q) : PGs X es t' := ⟨fun pins s σ H v u Q I r q => h.run pins s σ H v u Q I r (k v σ H Q q)⟩
theorem dgs_nil : PGs X [] (dGs c gsNil) := PGsw pgs_nil fun vs σ H Q h => by
  obtain ⟨env, L, N, As, cs, r, q, n, h⟩ := h
  cases q with
  | nil => exact ⟨rfl, h σ H (r.less fun b z => .inl z) (.of .refl)⟩
  | im r rs => exact h.elim
  | fr a b r rs => exact h.elim
theorem dgs_step {L N Nh : Addr → Prop} {σ : St} {H : Hp} {env : En} {Q : St → Hp → Prop} {As Br : List Addr} {v : V} {vr : List V} {cp : Cp} {cr : List Cp} (r : RE c (Lu L As) σ H env) (qt : RepT c (Lu L Br) Nh σ H env v (cpT cp)) (re : RE c (Lu L Br) σ H env) (rc : RepC c.K (Av (Lu L As) σ env) H Br vr cr)
    (sub : ∀ b ∈ Br, b ∈ As ∧ ¬ Nh b) (hN : ∀ b, Nh b → b ∈ As ∧ N b) (n : ∀ a ∈ As, ¬ L a ∧ c.H0 a = none ∧ N a) (h : match ((g (cpT cp) env).seq (gs cr)) with
      | .nx e => ∀ σ' H', RE c L σ' H' e → StpN N σ env H σ' e H' → Q σ' H'
      | _ => False) : dG c g v σ H fun σ' H' => dGs c gs vr σ' H' Q := by
  refine ⟨env, Lu L Br, Nh, cpT cp, re, qt, ?_⟩
  cases eg : g (cpT cp) env with
  | er => rw [eg] at h; exact h
  | rt t e => rw [eg] at h; exact h
  | bk e => rw [eg] at h; exact h
  | ct e => rw [eg] at h; exact h
  | ex x e => rw [eg] at h; exact h
  | nx e1 =>
    rw [eg] at h
    dsimp only [Fl.seq] at h
    intro σ1 H1 r1 s1
    have key : ∀ b o, H b = some o → ¬ ownM σ env b → ¬ Nh b → H1 b = some o ∧ ¬ ownM σ1 e1 b := fun b o e nb nh => by
      obtain ⟨q1, q2⟩ := s1 b (Nn.not e nb) nh
      exact ⟨q1.trans e, fun z => q2 (.inl z)⟩
    have isL : ∀ b, ownM σ env b ∨ Nh b → ∃ xs, H b = some (.lst xs) := fun b z => by
      rcases z with ⟨i, io, ds, e1, e2⟩ | z
      · obtain ⟨a, xs, e3, e4, _⟩ := r.own i io ds e1
        rw [e2] at e3
        cases e3
        exact ⟨xs, e4⟩
      · exact (r.ext b (.inr (hN b z).1)).2
    have tk : TK H H1 := by
      have nl : ∀ b o, H b = some o → (∀ xs, o ≠ .lst xs) → H1 b = some o := fun b o e nn => by
        refine (key b o e (fun z => ?_) fun z => ?_).1
        · obtain ⟨xs, q⟩ := isL b (.inl z)
          rw [e] at q
          cases q
          exact nn xs rfl
        · obtain ⟨xs, q⟩ := isL b (.inr z)
          rw [e] at q
          cases q
          exact nn xs rfl
      exact ⟨fun b xs e => nl b _ e (fun _ z => nomatch z), fun b o u e => nl b _ e (fun _ z => nomatch z)⟩
    have rc1 : RepC c.K (Av (Lu L Br) σ1 e1) H1 Br vr cr := rc.mono tk (fun b xs gb e => by
      obtain ⟨q1, q2⟩ := key b _ e gb.2 fun z => gb.1 (.inr (hN b z).1)
      exact ⟨⟨fun z => gb.1 (z.imp id fun z => (sub b z).1), q2⟩, q1⟩) fun b hb xs e => (key b _ e (r.ext b (.inr (sub b hb).1)).1 (sub b hb).2).1
    refine ⟨e1, L, N, Br, cr, r1, rc1, fun b hb => n b (sub b hb).1, ?_⟩
    cases eg2 : gs cr e1 with
    | er => rw [eg2] at h; exact h
    | rt t e => rw [eg2] at h; exact h
    | bk e => rw [eg2] at h; exact h
    | ct e => rw [eg2] at h; exact h
    | ex x e => rw [eg2] at h; exact h
    | nx e2 =>
      rw [eg2] at h
      exact fun σ2 H2 r2 s2 => h σ2 H2 r2 (StpN.trans (fun b nb nN => s1 b nb fun z => nN (hN b z).2) s2)
theorem d_gsCons : ∀ vs σ H Q, dGs c (gsCons g gs) vs σ H Q → gCons (dG c g) (dGs c gs) vs σ H Q := fun vs σ H Q h => by
  obtain ⟨env, L, N, As, cs, r, q, n, h⟩ := h
  cases q with
  | nil => exact h.elim
  | im rr rs => exact ⟨_, _, rfl, dgs_step (cp := ⟨false, _⟩) (Br := As) (Nh := fun _ => False) r rr r rs (fun b hb => ⟨hb, id⟩) (fun b z => z.elim) n h⟩
  | fr na ea rr rs =>
    rename_i As a xs ds vs cs
    have key : ∀ b, Lu L (a :: As) b ↔ (Lu L As b ∨ b = a) := fun b => by simp [Lu, or_assoc, or_comm, or_left_comm]
    have r' : RE c (fun b => Lu L As b ∨ b = a) σ H env := r.less fun b z => (key b).mpr z
    have rr' : Reps c.K (Av (fun b => Lu L As b ∨ b = a) σ env) H xs ds := rr.mono (.refl H) fun b ys gb e => ⟨⟨fun z => gb.1 ((key b).mpr z), gb.2⟩, e⟩
    have na' := n a List.mem_cons_self
    exact ⟨_, _, rfl, dgs_step (cp := ⟨true, .lst ds⟩) (Br := As) (Nh := fun b => b = a) r ⟨a, xs, rfl, ea, rr', fun z => z.elim na'.1 na, na'.2.1, rfl, r'⟩ (r.less fun b z => (key b).mpr (.inl z)) rs (fun b hb => ⟨List.mem_cons_of_mem _ hb, fun z => na (by rw [← z]; exact hb)⟩) (fun b z => by rw [z]; exact ⟨List.mem_cons_self, na'.2.2⟩) n h⟩
theorem d_gsNil : ∀ vs σ H Q, dGs c gsNil vs σ H Q → gNil vs σ H Q := fun vs σ H Q h => by
  obtain ⟨env, L, N, As, cs, r, q, n, h⟩ := h
  cases q with
  | nil => exact ⟨rfl, h σ H (r.less fun b z => .inl z) (.of .refl)⟩
  | im r rs => exact h.elim
  | fr a b r rs => exact h.elim
theorem dgs_cons (h1 : PG X e (dG c g)) (h2 : PGs X es (dGs c gs)) (hs : (assignEach (e :: es) X.env).map (·.2) = assign e X.env :: (assignEach es X.env).map (·.2) := by rfl) : PGs X (e :: es) (dGs c (gsCons g gs)) := PGsw (pgs_cons h1 h2 hs) d_gsCons
theorem dg_tup {k : Nat} {n : Nat} (hc : X.calm = true) (h : PGs X es (dGs c gs)) (hn : (assignEach es X.env).length = n := by rfl) (hst : (assignEach es X.env).findIdx? (·.1) = none := by rfl) (hK : c.K = X.K := by rfl) : PG X (.Tuple es k pos) (dG c (gT n gs)) :=
  PGw (pg_tup hc h hn hst) fun v σ H Q h => by
    obtain ⟨env, L, N, t, r, q, h⟩ := h
    unfold gT at h
    cases ec : cpsOf t env with
    | none => rw [ec] at h; exact h.elim
    | some cs =>
      rw [ec] at h
      dsimp only at h
      by_cases hl : cs.length = n
      · rw [if_pos hl] at h
        cases t with
        | al i => cases ec
        | fr ds => cases ec
        | im d =>
          cases d with
          | tup ds =>
            cases ec
            cases (show Rep c.K (Av L σ env) H v (.tup ds) from q) with
            | tup hs rs =>
              rename_i a xs
              rw [hK] at hs
              have conv : ∀ {xs : List V} {ds : List D}, Reps c.K (Av L σ env) H xs ds → RepC c.K (Av (Lu L []) σ env) H [] xs (ds.map fun d => ⟨false, d⟩) := fun {xs ds} r => by
                induction ds generalizing xs with
                | nil => cases r; exact .nil
                | cons d ds ih =>
                  cases r with
                  | cons r rs => exact .im (r.mono (.refl H) fun b ys g e => ⟨⟨fun z => z.elim g.1 (fun z => nomatch z), g.2⟩, e⟩) (ih rs)
              refine ⟨a, xs, rfl, hs, by rw [rs.length, ← hl, List.length_map], env, L, N, [], _, r.less (fun b z => z.elim id (fun z => nomatch z)), conv rs, (fun a z => nomatch z), h⟩
          | non => cases ec
          | bl b => cases ec
          | int b => cases ec
          | str b => cases ec
          | lst b => cases ec
          | fz b => cases ec
          | dct _ _ => cases ec
        | ft cs' =>
          cases ec
          obtain ⟨a, xs, As, rfl, hs, rc, n1, re⟩ := q
          rw [hK] at hs
          have len : ∀ {G : Addr → Prop} {As vs cs}, RepC c.K G H As vs cs → vs.length = cs.length := fun {G As vs cs} r => by
            induction r with
            | nil => rfl
            | im _ _ ih => simp [ih]
            | fr _ _ _ _ ih => simp [ih]
          exact ⟨a, xs, rfl, hs, by rw [len rc, hl], env, L, N, As, _, re, rc, n1, h⟩
      · rw [if_neg hl] at h
        exact h.elim
theorem sK.bind2 {α : Type} {S : Sp0} {N L : Addr → Prop} {σ : St} {H : Hp} {env : En} {D : Ends} {r : R α} {g : α → En → Fl} (h : sK c W L S N (r.bindF g) D) (hS : ∀ σ' e' H', Stp σ env H σ' e' H' → S σ' e' H') : dK c W L σ H env r fun a e1 H1 => sK c W L S N (g a e1) D := by
  cases r with
  | er => exact h
  | ex x e => exact fun H' r s => h σ H' r (hS _ _ _ s)
  | ok a e => exact fun H' r s => h
def sPar (i j : Nat) (fa : FA) : FS := fun env => (fa env).bindF fun ts e => (disp T.ft ts e).bindF fun t e => match t with
  | .ft [c1, c2] => match gsCons (gN i) (gsCons (gN j) gsNil) [c1, c2] e with
    | .nx e => .nx e
    | _ => .er
  | _ => .er
theorem ds_par {i j : Nat} {x y : Str} {a b : Expr} {fa : FA} {px py pt : Pos} {kt k2 pt2} (hc : X.calm = true) (hN : X.N.Nodup) (hi : X.N[i]? = some x) (hj : X.N[j]? = some y) (hij : i ≠ j)
    (hx : X.env.scope.names.lookup x = some .local) (hy : X.env.scope.names.lookup y = some .local) (ha : PA X [a, b] (dA c W fa))
    (hw : swappedStores [.Tuple [.Name x px, .Name y py] kt pt] (.Tuple [a, b] k2 pt2) X.env = pure (some [x, y]) := by rfl)
    (hs : swapsWithSole [.Tuple [.Name x px, .Name y py] kt pt] (.Tuple [a, b] k2 pt2) pos.line X.env = pure false := by rfl) :
    PS X (.Assign [.Tuple [.Name x px, .Name y py] kt pt] (.Tuple [a, b] k2 pt2) pos) (dS c W (sPar i j fa)) := PSw (ps_par hc hN hi hj hij hx hy ha hw hs) fun D σ H h => by
  obtain ⟨env, L, r, h⟩ := h
  refine dA.of r (h.bind.mono fun ts e1 H1 r1 s1 h1 vs As q n r2 => ?_)
  have h2 := h1.bind2 (σ := σ) (H := H1) (env := e1) fun _ _ _ s => s1.trans s
  refine disp_ok (N := Nn σ env H) r2 q (fun a z => n a z) (fun a z => s1.back (.inl z)) h2 fun len cs env' Bs r3 s3 q3 n3 h3 => ?_
  have h4 := h3 H1 r3.bare s3
  -- two components
  have two : ∃ c1 c2 v1 v2, cs = [c1, c2] ∧ vs = [v1, v2] := by
    have len : ∀ {G : Addr → Prop} {As vs cs}, RepC c.K G H1 As vs cs → vs.length = cs.length := fun {G As vs cs} r => by
      induction r with
      | nil => rfl
      | im _ _ ih => simp [ih]
      | fr _ _ _ _ ih => simp [ih]
    have l := len q3
    cases cs with
    | nil => exact h4.elim
    | cons c1 cs =>
      cases cs with
      | nil => exact h4.elim
      | cons c2 cs =>
        cases cs with
        | cons _ _ => exact h4.elim
        | nil =>
          cases vs with
          | nil => simp at l
          | cons v1 vs =>
            cases vs with
            | nil => simp at l
            | cons v2 vs =>
              cases vs with
              | nil => exact ⟨c1, c2, v1, v2, rfl, rfl⟩
              | cons _ _ => simp at l
  obtain ⟨c1, c2, v1, v2, rfl, rfl⟩ := two
  refine ⟨v1, v2, rfl, ?_⟩
  dsimp only at h4
  have final : dGs c (gsCons (gN i) (gsCons (gN j) gsNil)) [v1, v2] σ H1 fun σ' H' => D.nx σ' H' := by
    refine ⟨env', L, Nn σ env H, Bs, [c1, c2], r3, q3, n3, ?_⟩
    cases eg : gsCons (gN i) (gsCons (gN j) gsNil) [c1, c2] env' with
    | nx e2 =>
      rw [eg] at h4
      exact fun σ' H' r' s' => h4 σ' H' r' (s'.after (s1.trans s3))
    | er => rw [eg] at h4; exact h4
    | rt t e => rw [eg] at h4; exact h4
    | bk e => rw [eg] at h4; exact h4
    | ct e => rw [eg] at h4; exact h4
    | ex x e => rw [eg] at h4; exact h4
  -- the two names, one after the other, are the two slots
  obtain ⟨w1, wr, ew, f1⟩ := d_gsCons _ _ _ _ final
  cases ew
  obtain ⟨w2, wr2, ew, f2⟩ := d_gsCons _ _ _ _ (d_gN _ _ _ _ f1)
  cases ew
  exact (d_gsNil _ _ _ _ (d_gN _ _ _ _ f2)).2
end
end DL
namespace DL
open PySem PySem.Spec L2
def sAug (i : Nat) (g : D → D → Option T) (fa : FE) : FS := fun env => match env[i]? with
  | some (.im d) => (fa env).bindF fun t e => (op2 g (.im d) t e).bindF fun t' e2 => match gN i t' e2 with
    | .nx e3 => .nx e3
    | _ => .er
  | _ => .er
def elemD : T → Option D
  | .im d => some d
  | .fr ds => some (.lst ds)
  | .ft cs => some (.tup (cs.map Cp.d))
  | .al _ => none
@[simp] theorem elemD_im (d : D) : elemD (.im d) = some d := rfl
@[simp] theorem elemD_fr (d : List D) : elemD (.fr d) = some (.lst d) := rfl
def gSb (fo fi : FE) : FG := fun t env => match fo env with
  | .ok to e1 => match fi e1 with
    | .ok ti e2 => match to with
      | .al j => match e2[j]?, ti.val e2, elemD t with
        | some (.own b ds), some (.int k), some d => match ixN ds.length k with
          | some m => .nx (e2.set j (.own b (ds.set m d)))
          | none => .er
        | _, _, _ => .er
      | _ => .er
    | _ => .er
  | _ => .er
section
variable {X : Cx} {c : Cc} {W : WX} {pos p : Pos} {e o i : Expr} {es : List Expr} {fa fo fi : FE} {fas : FA}
def metT (k : List D → List T → En → Option (D × List D × En)) (to : T) (ts : List T) (e : En) : R T := match to with
  | .al j => match e[j]? with
    | some (.own _ ds) => match k ds ts e with
      | some (d, ds', e') => match e'[j]? with
        | some (.own b _) => .ok (.im d) (e'.set j (.own b ds'))
        | _ => .er
      | none => .er
    | _ => .er
  | _ => .er
def eMet (k : List D → List T → En → Option (D × List D × En)) (fo : FE) (fa : FA) : FE := fun env => (fo env).bind fun to e1 => match to with
  | .al j => (fa e1).bind fun ts e2 => metT k (.al j) ts e2
  | _ => .er
def eMet0 (k : List D → List T → En → Option (D × List D × En)) (fo : FE) : FE := fun env => (fo env).bind fun to e1 => match to with
  | .al j => metT k (.al j) [] e1
  | _ => .er
def MetD (c : Cc) (r : V → List V → Hp → VK → Prop) (k : List D → List T → En → Option (D × List D × En)) : Prop := ∀ (L : Addr → Prop) (σ : St) (H : Hp) (env : En) (a : Addr) (xs : List V) (ds : List D) (vs : List V) (As : List Addr) (ts : List T) (d : D) (ds' : List D) (env' : En) (Q : VK) (j : Nat) (b : Bool),
  RE c (Lu L As) σ H env → (∀ b ∈ As, ¬ L b ∧ c.H0 b = none) → RepAs c.K (Av (Lu L As) σ env) σ H env As vs ts → env[j]? = some (.own b ds) → σ[j]? = some (some (.ref a)) → H a = some (.lst xs) → Reps c.K (Av L σ env) H xs ds → k ds ts env = some (d, ds', env') → (∃ b' ds2, env'[j]? = some (Sl.own b' ds2)) →
  (∀ v xs', RE c L σ H env' → Stp σ env H σ env' H → Rep c.K (Av L σ env') H v d → Reps c.K (Av L σ env') H xs' ds' → Q v (upd H a (.lst xs'))) → r (.ref a) vs H Q

theorem met_ok {r : V → List V → Hp → VK → Prop} {k : List D → List T → En → Option (D × List D × En)} (hm : MetD c r k) {L : Addr → Prop} {σ : St} {H H0 H1 H2 : Hp} {env e1 e2 : En} {x : V} {to : T} {vs : List V} {As : List Addr} {ts : List T} {N : Addr → Prop} {Q : VK}
    (s02 : Stp σ env H σ e2 H2) (q1 : RepT c L N σ H1 e1 x to) (r2 : RE c L σ H2 e2) (q : RepAs c.K (Av (Lu L As) σ e2) σ H2 e2 As vs ts) (n : ∀ a ∈ As, ¬ L a ∧ c.H0 a = none ∧ Nn σ e1 H1 a) (r3 : RE c (Lu L As) σ H2 e2)
    (h : dK c W L σ H2 e2 (metT k to ts e2) fun t env' H' => ∀ v, RepT c L (Nn σ env H) σ H' env' v t → Q v H') : r x vs H2 Q := by
  unfold metT at h
  cases to with
  | im d => exact h.elim
  | fr d => exact h.elim
  | ft d => exact h.elim
  | al j =>
    dsimp only at h
    cases ej : e2[j]? with
    | none => rw [ej] at h; exact h.elim
    | some s =>
      cases s with
      | no => rw [ej] at h; exact h.elim
      | im d => rw [ej] at h; exact h.elim
      | own b ds =>
        rw [ej] at h
        dsimp only at h
        cases ek : k ds ts e2 with
        | none => rw [ek] at h; exact h.elim
        | some w =>
          obtain ⟨d, ds', e'⟩ := w
          rw [ek] at h
          dsimp only at h
          cases ej' : e'[j]? with
          | none => rw [ej'] at h; exact h.elim
          | some s' =>
            cases s' with
            | no => rw [ej'] at h; exact h.elim
            | im d => rw [ej'] at h; exact h.elim
            | own b' ds2 =>
              rw [ej'] at h
              obtain ⟨a, xs, sj, ea, ra, _⟩ := r2.own j b ds ej
              obtain ⟨_, sj'⟩ := q1
              rw [sj] at sj'
              cases sj'
              refine hm L σ H2 e2 a xs ds vs As ts d ds' e' Q j b r3 (fun b hb => ⟨(n b hb).1, (n b hb).2.1⟩) q ej sj ea ra ek ⟨b', ds2, ej'⟩ fun v xs' r4 s4 qv qs => ?_
              have kp : ∀ b o, b ≠ a → H2 b = some o → upd H2 a (.lst xs') b = some o := fun b o ne e => by rw [upd_ne ne]; exact e
              have oa : ownM σ e' a := ⟨j, b', ds2, ej', sj⟩
              have tk : TK H2 (upd H2 a (.lst xs')) := ⟨fun b xs e => kp b _ (fun z => by rw [z, ea] at e; cases e) e, fun b o u e => kp b _ (fun z => by rw [z, ea] at e; cases e) e⟩
              obtain ⟨y1, y2⟩ := r4.put ej' sj kp upd_same (qs.mono tk fun b ys g e => ⟨g, kp b _ (fun z => g.2 (by rw [z]; exact oa)) e⟩)
              exact h _ y1 (s4.trans y2) v (r4.rep y2 qv)
theorem RepT.tyL {L N : Addr → Prop} {σ : St} {H : Hp} {env : En} {v : V} {j : Nat} (r : RE c L σ H env) (q : RepT c L N σ H env v (.al j)) : tyV c.K "list" v H := by
  obtain ⟨⟨io, ds, e1⟩, e2⟩ := q
  obtain ⟨a, xs, e3, e4, _⟩ := r.own j io ds e1
  rw [e2] at e3
  cases e3
  exact .inl ⟨rfl, _, .of e4⟩
theorem de_met {r : V → List V → Hp → VK → Prop} {k : List D → List T → En → Option (D × List D × En)} {name : Str} {apos cpos : Pos} {id : String} (hm : MetD c r k) (slot : Slot "list" name id) (hty : typeOf (.builtin id) = pure (.type "method_descriptor")) (hr : MtR X id r) (ho : PE X o (dE c W fo)) (ha : PA X (e :: es) (dA c W fas)) (hK : c.K = X.K := by rfl)
    (hbase : attributeBase o name X.env (eval o X.env) = eval o X.env := by rfl)
    (hfew : ((backTo cpos (starEach (e :: es) X.env)).all (fun x => !x.1) && (backToKw cpos (keywordEach [] X.env)).all (fun x => x.1.isSome)
      && decide ((e :: es).length + ([] : List Keyword).length + (if ([] : List Keyword).isEmpty then 0 else 1) < 30)) = true := by rfl)
    (hline : (apos.endLine == cpos.line) = true := by rfl) (hs : starEach (e :: es) X.env = (false, eval e X.env) :: starEach es X.env := by rfl) (hplain : (backTo cpos (starEach es X.env)).any (·.1) = false := by rfl) :
    PE X (.Call (.Attribute o name apos) (e :: es) [] cpos) (dE c W (eMet k fo fas)) :=
  PEw (pe_bm PySem.F.plainAttrs_list slot hty hr ho ha hbase hfew hline hs hplain) fun σ H Q h => by
    obtain ⟨env, L, re, h⟩ := dE_iff.mp h
    refine dE.of re (h.bind.mono fun to e1 H1 r1 s1 h1 x q1 => ?_)
    cases to with
    | im d => exact h1.elim
    | fr d => exact h1.elim
    | ft d => exact h1.elim
    | al j =>
      refine ⟨by rw [← hK]; exact q1.tyL r1, dA.of r1 (h1.bind.mono fun ts e2 H2 r2 s2 h2 vs As q n r3 => ?_)⟩
      exact met_ok (H0 := H) hm (s1.trans s2) q1 r2 q n r3 h2
def kApp (ds : List D) (ts : List T) (env : En) : Option (D × List D × En) := if ds.length < 1000000 then match mvs ts env with
  | some ([c], e) => some (.non, ds ++ [c.d], e)
  | _ => none else none
def kExt (ds : List D) (ts : List T) (env : En) : Option (D × List D × En) := match vals env ts with
  | some [.lst es] => if ds.length + es.length ≤ 1000000 then some (.non, ds ++ es, env) else none
  | _ => none
theorem m_app : MetD c rAppend kApp := by
  intro L σ H env a xs ds vs As ts d ds' env' Q j b r n q ej sj ea ra ek ow kk
  unfold kApp at ek
  split at ek
  · rename_i hl
    cases em : mvs ts env with
    | none => rw [em] at ek; cases ek
    | some w =>
      obtain ⟨cs, e'⟩ := w
      rw [em] at ek
      obtain ⟨S', Bs, h1, h2, h3, h4, h5, h6, h7⟩ := q.mv As env r (fun b => Iff.rfl) (fun _ z => z) em
      cases cs with
      | nil => cases ek
      | cons cp cs =>
        cases cs with
        | cons _ _ => cases ek
        | nil =>
          cases ek
          have rB : Reps c.K (Av L σ env') H vs [cp.d] := h5.reps (G' := Av L σ env') (fun b g => ⟨fun z => ((h3 b).mp g).1 (.inl z), ((h3 b).mp g).2⟩) fun b hb => ⟨fun z => by
            rcases (h6 b hb).2 with y | y
            · exact (n b y).1 z
            · exact y.2.2.2 z, (h1.ext b (.inr (h6 b hb).1)).1⟩
          cases rB with
          | cons r1 rs =>
            cases rs
            refine ⟨a, xs, _, rfl, rfl, ea, by rw [ra.length]; exact Nat.lt_of_lt_of_le hl (line6 (Nat.le_refl _)), ?_⟩
            exact kk .non _ h1.bare h2 .non ((r.bare.reps h2 ra).append (.cons r1 .nil))
  · cases ek
theorem m_ext : MetD c rExtend kExt := by
  intro L σ H env a xs ds vs As ts d ds' env' Q j b r n q ej sj ea ra ek ow kk
  unfold kExt at ek
  split at ek
  · rename_i es ev
    split at ek
    · rename_i hl
      cases ek
      obtain ⟨v, rfl, rv⟩ := (q.oprs r.bare r (fun a z => ⟨z, (n a z).1⟩) ev).one
      obtain ⟨b, ys, rfl, eb, rb⟩ := rv.lst
      exact ⟨a, b, xs, ys, rfl, rfl, ea, eb, by rw [ra.length, rb.length]; exact line6 hl, kk .non _ r.bare .refl .non (ra.append rb)⟩
    · cases ek
  · cases ek
end
end DL
namespace DL
open PySem PySem.Spec L2
structure Wk where
  its : List D
  chk : Option (Nat × List D)
def Wk.ok (k : Wk) (env : En) : Prop := match k.chk with
  | none => True
  | some (j, ds) => ∃ b, env[j]? = some (Sl.own b ds)
@[simp] theorem wk_ok_none (its : List D) (env : En) : Wk.ok ⟨its, none⟩ env = True := rfl
abbrev FI := En → R Wk
structure Src (c : Cc) (A : (Addr → Prop) → Prop) (S : Sp0) (J : It) (k : Wk) : Prop where
  stop : ∀ L i σ H env, A L → RE c L σ H env → S σ env H → k.ok env → k.its.length ≤ i → J.stop i H
  go : ∀ L i σ H env, A L → RE c L σ H env → S σ env H → k.ok env → i < k.its.length → J.go i H
  yld : ∀ L i σ H env x H' d, A L → RE c L σ H env → S σ env H → k.ok env → k.its[i]? = some d → J.yld i H x H' → (∀ b o, H b = some o → H' b = some o) ∧ Rep c.K (Av L σ env) H' x d
def SubS (σ σ' : St) : Prop := ∀ (j : Nat) (v : V), σ'[j]? = some (some v) → σ[j]? = some (some v)
abbrev Lx (L : Addr → Prop) (H : Hp) (L2 : Addr → Prop) : Prop := ∀ a, L2 a → L a ∨ H a = none
abbrev Sw (k : Wk) (σ : St) (env : En) (H : Hp) : Sp0 := fun σ' e' H' => Stp σ env H σ' e' H' ∧ (k.chk = none ∨ ∀ (j : Nat) (ds : List D), k.chk = some (j, ds) → ∀ v : V, σ'[j]? = some (some v) → σ[j]? = some (some v))
def dI (c : Cc) (W : WX) (f : FI) : TI := fun σ H R => ∃ env L, RE c L σ H env ∧ dK c W L σ H env (f env) fun k e1 H1 => ∀ J, (k.ok e1 ∧ Src c (Lx L H1) (Sw k σ e1 H1) J k) → R J H1
def iT (t : T) (env : En) : R Wk := match t with
  | .im (.tup ds) => .ok ⟨ds, none⟩ env
  | .ft cs => .ok ⟨cs.map Cp.d, none⟩ env
  | _ => .er
def iL (fz : Bool) (t : T) (env : En) : R Wk := match t with
  | .im (.lst ds) => .ok ⟨ds, none⟩ env
  | .im (.fz ds) => .ok ⟨ds, none⟩ env
  | .al j => match env[j]? with
    | some (.own _ ds) => if fz then .ok ⟨ds, none⟩ (env.set j (.im (.lst ds))) else .ok ⟨ds, some (j, ds)⟩ env
    | _ => .er
  | _ => .er
def fiT (fa : FE) : FI := fun env => (fa env).bind iT
def fiL (fz : Bool) (fa : FE) : FI := fun env => (fa env).bind fun t => iL fz t.weak
def rngD (m n : Int) : List D := (List.range (n - m).toNat).map fun (i : Nat) => D.int (m + (i : Int))
def iR1 (ts : List T) (env : En) : R Wk := match vals env ts with
  | some [.int n] => if -(2 ^ 62) ≤ n ∧ n < 2 ^ 62 then .ok ⟨rngD 0 n, none⟩ env else .er
  | _ => .er
def fiR1 (fa : FA) : FI := fun env => (fa env).bind iR1
def iR2 (ts : List T) (env : En) : R Wk := match vals env ts with
  | some [.int m, .int n] => if -(2 ^ 62) ≤ m ∧ m < 2 ^ 62 ∧ -(2 ^ 62) ≤ n ∧ n < 2 ^ 62 then .ok ⟨rngD m n, none⟩ env else .er
  | _ => .er
def fiR2 (fa : FA) : FI := fun env => (fa env).bind iR2
def enumD (ds : List D) : List D := ds.mapIdx fun (i : Nat) d => .tup [.int (i : Int), d]
def onI (f : List D → List D) (r : R Wk) : R Wk := r.bind fun k e => .ok ⟨f k.its, k.chk⟩ e
def iE (fz : Bool) (ts : List T) (env : En) : R Wk := match ts with
  | [.im (.tup ds)] => .ok ⟨enumD ds, none⟩ env
  | [t] => onI enumD (iL fz t.weak env)
  | _ => .er
def fiE (fz : Bool) (fa : FA) : FI := fun env => (fa env).bind (iE fz)
def zipD (xs ys : List D) : List D := xs.zipWith (fun x y => .tup [x, y]) ys
def iZ (fz : Bool) (ts : List T) (env : En) : R Wk := match ts with
  | [.im (.tup xs), .im (.tup ys)] => .ok ⟨zipD xs ys, none⟩ env
  | [t, u] => (iL true u.weak env).bind fun k2 e2 => onI (fun xs => zipD xs k2.its) (iL fz t.weak e2)
  | _ => .er
def fiZ (fz : Bool) (fa : FA) : FI := fun env => (fa env).bind (iZ fz)
theorem Rep.lx {K : PySem.W.Frag} {L L2 : Addr → Prop} {σ : St} {env : En} {H : Hp} {v : V} {d : D} (lx : Lx L H L2) (r : Rep K (Av L σ env) H v d) : Rep K (Av L2 σ env) H v d :=
  r.mono (.refl H) fun a xs g e => ⟨⟨fun z => (lx a z).elim g.1 fun z => (by rw [z] at e; cases e), g.2⟩, e⟩
theorem Reps.lx {K : PySem.W.Frag} {L L2 : Addr → Prop} {σ : St} {env : En} {H : Hp} {v : List V} {d : List D} (lx : Lx L H L2) (r : Reps K (Av L σ env) H v d) : Reps K (Av L2 σ env) H v d :=
  r.mono (.refl H) fun a xs g e => ⟨⟨fun z => (lx a z).elim g.1 fun z => (by rw [z] at e; cases e), g.2⟩, e⟩
theorem RE.freeze {c : Cc} {L : Addr → Prop} {σ : St} {H : Hp} {env : En} {i : Nat} {ds : List D} {io : Bool} (h : RE c L σ H env) (e : env[i]? = some (Sl.own io ds)) : RE c L σ H (env.set i (.im (.lst ds))) ∧ Stp σ env H σ (env.set i (.im (.lst ds))) H := by
  obtain ⟨a, xs, es, ea, ra, _⟩ := h.own i io ds e
  obtain ⟨q1, q2⟩ := h.drop e es
  have hi : i < env.length := (List.getElem?_eq_some_iff.mp e).1
  have oa : ownM σ env a := ⟨i, io, ds, e, es⟩
  have same : σ.set i (some (V.ref a)) = σ := by
    apply List.ext_getElem?
    intro j
    by_cases z : i = j
    · subst z
      rw [List.getElem?_set_self (by rw [← h.len]; exact hi), es]
    · rw [List.getElem?_set_ne z]
  have r1 : Rep c.K (Av L σ (env.set i .no)) H (.ref a) (.lst ds) := .lst ⟨fun z => (h.ext a z).1 oa, (q1.ext a (.inr rfl)).1⟩ ea (ra.mono (.refl H) fun b ys g e => ⟨⟨g.1, fun z => g.2 (own_set_no z).1⟩, e⟩)
  obtain ⟨q3, q4⟩ := (q1.less fun b z => .inl z).setIm (i := i) r1
  rw [same, List.set_set] at q3 q4
  exact ⟨q3, q2.trans q4⟩
section
variable {X : Cx} {c : Cc} {W : WX} {pos p : Pos} {e tg a b : Expr} {fa : FE} {fas : FA}
theorem PIw {t t' : TI} (h : PI X tg e t) (k : ∀ σ H R, t' σ H R → t σ H R) : PI X tg e t' := ⟨fun pins s σ H R I q => h.run pins s σ H R I (k σ H R q)⟩
def RepV (c : Cc) (L : Addr → Prop) (σ : St) (H : Hp) (env : En) (v : V) : T → Prop
  | .im d => Rep c.K (Av L σ env) H v d
  | .al i => σ[i]? = some (some v)
  | _ => False
theorem RepT.v {L N : Addr → Prop} {σ : St} {H : Hp} {env : En} {v : V} {t : T} (h : RepT c L N σ H env v t) : RepV c L σ H env v t.weak := by
  have h := h.wk
  cases t with
  | im d => exact h
  | al i => exact h.2
  | fr ds => exact h
  | ft cs => exact h
theorem RepV.step {L : Addr → Prop} {σ : St} {H H' : Hp} {env env' : En} {v : V} {t : T} (r : RE c L σ H env) (h : RepV c L σ H env v t) (s : Stp σ env H σ env' H') : RepV c L σ H' env' v t := by
  cases t with
  | im d => exact r.rep s h
  | al i => exact h
  | fr ds => exact h
  | ft cs => exact h
theorem RepAs.vs {L : Addr → Prop} {As0 : List Addr} {σ : St} {H : Hp} {env : En} : ∀ {As : List Addr} {vs : List V} {ts : List T}, RepAs c.K (Av (Lu L As0) σ env) σ H env As vs ts → RE c (Lu L As0) σ H env → (∀ a ∈ As, a ∈ As0 ∧ ¬ L a) → vs.length = ts.length ∧ ∀ (i : Nat) (v : V) (t : T), vs[i]? = some v → ts[i]? = some t → RepV c L σ H env v t.weak
  | _, _, _, .nil, _, _ => ⟨rfl, fun i v t (e : ([] : List V)[i]? = some v) => by simp at e⟩
  | _, _, _, .im r rs, h2, n => by
    obtain ⟨q1, q2⟩ := RepAs.vs rs h2 n
    refine ⟨by rw [List.length_cons, List.length_cons, q1], fun i v t e1 e2 => ?_⟩
    cases i with
    | zero =>
      cases e1
      cases e2
      exact r.mono (.refl H) fun a xs g e => ⟨⟨fun z => g.1 (.inl z), g.2⟩, e⟩
    | succ i => exact q2 i v t e1 e2
  | _, _, _, .al o es rs, h2, n => by
    obtain ⟨q1, q2⟩ := RepAs.vs rs h2 n
    refine ⟨by rw [List.length_cons, List.length_cons, q1], fun i v t e1 e2 => ?_⟩
    cases i with
    | zero =>
      cases e1
      cases e2
      exact es
    | succ i => exact q2 i v t e1 e2
  | _, _, _, .fr (a := a) na ea r rs, h2, n => by
    obtain ⟨q1, q2⟩ := RepAs.vs rs h2 fun b z => n b (List.mem_cons_of_mem _ z)
    refine ⟨by rw [List.length_cons, List.length_cons, q1], fun i v t e1 e2 => ?_⟩
    cases i with
    | zero =>
      cases e1
      cases e2
      obtain ⟨m1, m2⟩ := n a List.mem_cons_self
      exact .lst ⟨m2, (h2.ext a (.inr m1)).1⟩ ea (r.mono (.refl H) fun b ys g e => ⟨⟨fun z => g.1 (.inl z), g.2⟩, e⟩)
    | succ i => exact q2 i v t e1 e2
theorem lst_of {fz : Bool} {L : Addr → Prop} {σ1 : St} {H1 : Hp} {env1 env2 : En} {v : V} {t : T} {k : Wk} (r : RE c L σ1 H1 env1) (q : RepV c L σ1 H1 env1 v t) (e : iL fz t env1 = .ok k env2) :
    ∃ a, v = .ref a ∧ RE c L σ1 H1 env2 ∧ Stp σ1 env1 H1 σ1 env2 H1 ∧ k.ok env2 ∧ ∀ L2 σ H env, Lx L H1 L2 → RE c L2 σ H env → Sw k σ1 env2 H1 σ env H → k.ok env → ∃ xs, SqL c.K H a xs ∧ Reps c.K (Av L2 σ env) H xs k.its := by
  have im : ∀ ds, Rep c.K (Av L σ1 env1) H1 v (.lst ds) → ∃ a, v = .ref a ∧ RE c L σ1 H1 env1 ∧ Stp σ1 env1 H1 σ1 env1 H1 ∧ Wk.ok ⟨ds, none⟩ env1 ∧ ∀ L2 σ H env, Lx L H1 L2 → RE c L2 σ H env → Sw ⟨ds, none⟩ σ1 env1 H1 σ env H → Wk.ok ⟨ds, none⟩ env → ∃ xs, SqL c.K H a xs ∧ Reps c.K (Av L2 σ env) H xs ds := fun ds q => by
    have q0 := q
    cases q with
    | lst g ea rs =>
      rename_i a xs
      refine ⟨a, rfl, r, .refl, trivial, fun L2 σ H env lx re s _ => ?_⟩
      cases r.rep s.1 (Rep.lx lx q0) with
      | lst g e2 rs2 => exact ⟨_, .of e2, rs2⟩
  unfold iL at e
  cases t with
  | ft cs => cases e
  | fr ds => cases e
  | im d =>
    cases d with
    | lst ds => cases e; exact im ds q
    | fz ds =>
      cases e
      cases (show Rep c.K (Av L σ1 env1) H1 v (.fz ds) from q) with
      | fz h rs =>
        rename_i a xs
        exact ⟨a, rfl, r, .refl, trivial, fun L2 σ H env lx re s _ => ⟨xs, ((r.tk s.1).fz h).sql, r.reps s.1 (Reps.lx lx rs)⟩⟩
    | non => cases e
    | dct _ _ => cases e
    | bl b => cases e
    | int b => cases e
    | str b => cases e
    | tup b => cases e
  | al j =>
    dsimp only at e
    cases ej : env1[j]? with
    | none => rw [ej] at e; cases e
    | some s =>
      cases s with
      | no => rw [ej] at e; cases e
      | im d => rw [ej] at e; cases e
      | own b ds =>
        rw [ej] at e
        dsimp only at e
        obtain ⟨a, xs, sj, ea, ra, _⟩ := r.own j b ds ej
        have sj' : σ1[j]? = some (some v) := q
        rw [sj] at sj'
        cases sj'
        cases fz with
        | true =>
          cases e
          obtain ⟨f1, f2⟩ := r.freeze ej
          have hj : j < env1.length := (List.getElem?_eq_some_iff.mp ej).1
          refine ⟨a, rfl, f1, f2, trivial, fun L2 σ H env lx re s _ => ?_⟩
          obtain ⟨v', e3, r4⟩ := f1.im j (.lst ds) (List.getElem?_set_self hj)
          rw [sj] at e3
          cases e3
          cases f1.rep s.1 (Rep.lx lx r4) with
          | lst g e2 rs2 => exact ⟨_, .of e2, rs2⟩
        | false =>
          cases e
          refine ⟨a, rfl, r, .refl, ⟨b, ej⟩, fun L2 σ H env lx re s ⟨b', ok⟩ => ?_⟩
          obtain ⟨a2, ys, sj2, ea2, ra2, _⟩ := re.own j b' ds ok
          have sub := s.2.elim (fun z => nomatch z) fun z => z j _ rfl
          have := sub _ sj2
          rw [sj] at this
          cases this
          exact ⟨ys, .of ea2, ra2⟩
theorem src_list {A : (Addr → Prop) → Prop} {S : Sp0} {a : Addr} {k : Wk} (hl : ∀ L σ H env, A L → RE c L σ H env → S σ env H → k.ok env → ∃ xs, SqL c.K H a xs ∧ Reps c.K (Av L σ env) H xs k.its) : Src c A S (Itl c.K a) k := by
  refine ⟨fun L i σ H env al re s k hi => ?_, fun L i σ H env al re s k hi => ?_, fun L i σ H env x H' d al re s k hd hy => ?_⟩
  · obtain ⟨xs, h, rs⟩ := hl L σ H env al re s k
    exact ⟨xs, h, by rw [rs.length]; exact hi⟩
  · obtain ⟨xs, h, rs⟩ := hl L σ H env al re s k
    have hi' : i < xs.length := by rw [rs.length]; exact hi
    exact ⟨xs, xs[i], h, List.getElem?_eq_getElem hi'⟩
  · obtain ⟨rfl, hy⟩ := hy
    obtain ⟨xs, h, rs⟩ := hl L σ H' env al re s k
    obtain ⟨v, ev, rv⟩ := rs.get hd
    have := hy xs h
    rw [ev] at this
    cases this
    exact ⟨fun _ _ e => e, rv⟩
theorem src_tup {A : (Addr → Prop) → Prop} {S : Sp0} {a : Addr} {k : Wk} (hl : ∀ L σ H env, A L → RE c L σ H env → S σ env H → k.ok env → ∃ xs, SqT c.K H a xs ∧ Reps c.K (Av L σ env) H xs k.its) : Src c A S (Itt c.K a) k := by
  refine ⟨fun L i σ H env al re s k hi => ?_, fun L i σ H env al re s k hi => ?_, fun L i σ H env x H' d al re s k hd hy => ?_⟩
  · obtain ⟨xs, h, rs⟩ := hl L σ H env al re s k
    exact ⟨xs, h, by rw [rs.length]; exact hi⟩
  · obtain ⟨xs, h, rs⟩ := hl L σ H env al re s k
    have hi' : i < xs.length := by rw [rs.length]; exact hi
    exact ⟨xs, xs[i], h, List.getElem?_eq_getElem hi'⟩
  · obtain ⟨rfl, hy⟩ := hy
    obtain ⟨xs, h, rs⟩ := hl L σ H' env al re s k
    obtain ⟨v, ev, rv⟩ := rs.get hd
    have := hy xs h
    rw [ev] at this
    cases this
    exact ⟨fun _ _ e => e, rv⟩
theorem src_rng {A : (Addr → Prop) → Prop} {S : Sp0} (m n : Int) : Src c A S (Itr m (n - m).toNat) ⟨rngD m n, none⟩ := by
  have len : (rngD m n).length = (n - m).toNat := by simp [rngD]
  refine ⟨fun L i σ H env al re s k hi => ?_, fun L i σ H env al re s k hi => ?_, fun L i σ H env x H' d al re s k hd hy => ?_⟩
  · show (n - m).toNat ≤ i
    rw [← len]; exact hi
  · show i < (n - m).toNat
    rw [← len]; exact hi
  · obtain ⟨rfl, rfl⟩ := hy
    dsimp only [rngD] at hd
    rw [List.getElem?_map] at hd
    cases q : (List.range (n - m).toNat)[i]? with
    | none => rw [q] at hd; cases hd
    | some j =>
      rw [q] at hd
      cases hd
      have : j = i := by
        have q2 := List.getElem?_eq_some_iff.mp q
        obtain ⟨h1, h2⟩ := q2
        simpa using h2.symm
      subst this
      exact ⟨fun _ _ e => e, .int _⟩
theorem di_tup (he : PE X e (dE c W fa)) (hK : c.K = X.K := by rfl) : PI X tg e (dI c W (fiT fa)) := PIw (pi_tup he) fun σ H R h => by
  obtain ⟨env, L, r, h⟩ := h
  refine dE.of r (h.bind.mono fun t e1 H1 r1 s1 h1 v q => ?_)
  rw [← hK]
  cases t with
  | al i => exact h1.elim
  | fr ds => exact h1.elim
  | im d =>
    cases d with
    | tup ds =>
      have q0 : Rep c.K (Av L σ e1) H1 v (.tup ds) := q
      cases (show Rep c.K (Av L σ e1) H1 v (.tup ds) from q) with
      | tup ht rs =>
        rename_i a xs
        exact ⟨a, rfl, ⟨xs, ht⟩, h1 H1 r1 .refl (Itt c.K a) ⟨trivial, src_tup fun L2 σ' H' env' lx re s _ => ⟨xs, (r1.tk s.1).sqt ht, r1.reps s.1 (Reps.lx lx rs)⟩⟩⟩
    | non => exact h1.elim
    | bl b => exact h1.elim
    | int b => exact h1.elim
    | str b => exact h1.elim
    | lst b => exact h1.elim
    | fz b => exact h1.elim
    | dct _ _ => exact h1.elim
  | ft cs =>
    have q : Rep c.K (Av L σ e1) H1 v (.tup (cs.map Cp.d)) := q.wk
    cases q with
    | tup ht rs =>
      rename_i a xs
      exact ⟨a, rfl, ⟨xs, ht⟩, h1 H1 r1 .refl (Itt c.K a) ⟨trivial, src_tup fun L2 σ' H' env' lx re s _ => ⟨xs, (r1.tk s.1).sqt ht, r1.reps s.1 (Reps.lx lx rs)⟩⟩⟩
theorem dI_ok {σ : St} {H : Hp} {L : Addr → Prop} {env : En} {r : R Wk} {P : Wk → En → Hp → Prop} (h : dK c W L σ H env r P) (re : RE c L σ H env) (ok : ∀ cls e, r ≠ .ex cls e) (st : ∀ k e2, r = .ok k e2 → RE c L σ H e2 ∧ Stp σ env H σ e2 H) : ∃ k e2, r = .ok k e2 ∧ P k e2 H := by
  cases r with
  | er => exact h.elim
  | ex cls e => exact (ok cls e rfl).elim
  | ok k e2 => exact ⟨k, e2, rfl, h H (st k e2 rfl).1 (st k e2 rfl).2⟩
theorem iL_ex {fz : Bool} {t : T} {env : En} : ∀ cls e, iL fz t env ≠ .ex cls e := fun cls e z => by
  unfold iL at z
  split at z
  · cases z
  · cases z
  · split at z
    · split at z <;> cases z
    · cases z
  · cases z
theorem di_list (fz : Bool) (he : PE X e (dE c W fa)) (hK : c.K = X.K := by rfl) : PI X tg e (dI c W (fiL fz fa)) := PIw (pi_list he) fun σ H R h => by
  obtain ⟨env, L, r, h⟩ := h
  refine dE.of r (h.bind.mono fun t e1 H1 r1 s1 h1 v q => ?_)
  rw [← hK]
  obtain ⟨k, e2, ek, h1⟩ := dI_ok h1 r1 iL_ex fun k e2 e => by
    obtain ⟨a, _, re, st, _⟩ := lst_of r1 q.v e
    exact ⟨re, st⟩
  obtain ⟨a, rfl, re, st, ok, hl⟩ := lst_of r1 q.v ek
  obtain ⟨xs, hx, _⟩ := hl L σ H1 e2 (fun _ z => .inl z) re ⟨.refl, .inr fun _ _ _ _ e => e⟩ ok
  exact ⟨a, rfl, ⟨xs, hx⟩, h1 (Itl c.K a) ⟨ok, src_list hl⟩⟩
theorem RepO_int {K : PySem.W.Frag} {G : Addr → Prop} {H : Hp} {v : V} {n : Int} (h : RepO K G H v (.int n)) : v = .int n := by
  cases (show Rep K G H v (.int n) from h)
  rfl
theorem di_range1 {fas : FA} (hg : Gl X "range") (hm : X.mg "range" = none) (ha : PA X [a] (dA c W fas)) (hs : starEach [a] X.env = [(false, eval a X.env)] := by rfl) : PI X tg (.Call (.Name "range" p) [a] [] pos) (dI c W (fiR1 fas)) :=
  PIw (pi_range1 hg hm ha hs) fun σ H R h => by
  obtain ⟨env, L, r, h⟩ := h
  refine dA.of r (h.bind.mono fun ts e1 H1 r1 s1 h1 vs As q n r2 => ?_)
  unfold iR1 at h1
  split at h1
  · rename_i m ev
    have qq := q.oprs r1 r2 (fun a z => ⟨z, (n a z).1⟩) ev
    cases qq with
    | cons qa qs =>
      cases qs
      cases RepO_int qa
      by_cases z : -(2 ^ 62) ≤ m ∧ m < 2 ^ 62
      · rw [if_pos z] at h1
        refine ⟨m, rfl, z.1, z.2, ?_⟩
        have := h1 H1 r1 .refl (Itr 0 (m - 0).toNat) ⟨trivial, src_rng 0 m⟩
        rwa [Int.sub_zero] at this
      · rw [if_neg z] at h1
        exact h1.elim
  · exact h1.elim
end
end DL
namespace DL
open PySem PySem.Spec L2
def loopF (g : FG) (f : FS) : List D → En → Fl
  | [], env => .nx env
  | d :: ds, env => match g (.im d) env with
    | .nx e => match f e with
      | .nx e1 => loopF g f ds e1
      | .ct e1 => loopF g f ds e1
      | .bk e1 => .nx e1
      | .rt t e1 => .rt t e1
      | .ex x e1 => .ex x e1
      | .er => .er
    | _ => .er
def sFor (fi : FI) (g : FG) (f : FS) : FS := fun env => (fi env).bindF fun k e => match k.chk with
  | none => loopF g f k.its e
  | some _ => .er
section
variable {X : Cx} {c : Cc} {W : WX} {pos p : Pos} {iter tg : Expr} {body : List Stmt} {fi : FI} {g : FG} {f : FS}
theorem d_for : ∀ D σ H, dS c W (sFor fi g f) D σ H → tFor (dI c W fi) (dG c g) (dS c W f) D σ H := fun D σ H h => by
  obtain ⟨env, L, re, h⟩ := h
  refine ⟨env, L, re, (sK.bind h).mono fun k e1 H1 r1 s1 h1 J ⟨ok, src⟩ => ?_⟩
  obtain ⟨its, chk⟩ := k
  cases chk with
  | some z => exact h1.elim
  | none =>
    have h1 : sK c W L (Stp σ env H) (Nn σ env H) (loopF g f its e1) D := h1
    have sw : ∀ {σ' env' H'}, Stp σ e1 H1 σ' env' H' → Sw ⟨its, none⟩ σ e1 H1 σ' env' H' := fun s => ⟨s, .inl rfl⟩
    refine ⟨fun i m σ' H' => m = its.length - i ∧ ∃ env', RE c L σ' H' env' ∧ Stp σ e1 H1 σ' env' H' ∧ sK c W L (Stp σ' env' H') (Nn σ' env' H') (loopF g f (its.drop i) env') D, ⟨_, rfl, e1, r1, .refl, h1.here s1⟩, fun i m σ' H' ⟨em, env', r, s, q⟩ => ?_⟩
    by_cases hi : its.length ≤ i
    · refine .inl ⟨src.stop L i σ' H' env' (fun _ z => .inl z) r (sw s) trivial hi, ?_⟩
      rw [List.drop_eq_nil_of_le hi] at q
      exact q σ' H' r .refl
    · have hi : i < its.length := Nat.lt_of_not_le hi
      refine .inr ⟨src.go L i σ' H' env' (fun _ z => .inl z) r (sw s) trivial hi, fun σ2 H2 => ∃ env2, RE c L σ2 H2 env2 ∧ Stp σ e1 H1 σ2 env2 H2 ∧ sK c W L (Stp σ2 env2 H2) (Nn σ2 env2 H2) (loopF g f (its.drop (i + 1)) env2) D, fun σ2 H2 n => ⟨its.length - (i + 1), by omega, rfl, n⟩, fun x H'' y => ?_⟩
      rw [List.drop_eq_getElem_cons hi] at q
      obtain ⟨kp, rx⟩ := src.yld L i σ' H' env' x H'' its[i] (fun _ z => .inl z) r (sw s) trivial (List.getElem?_eq_getElem hi) y
      have r' := r.grow kp
      have s' : Stp σ' env' H' σ' env' H'' := .grow kp
      refine ⟨env', L, Nn σ' env' H'', .im its[i], r', rx, ?_⟩
      have q : sK c W L (Stp σ' env' H'') (Nn σ' env' H'') (loopF g f (its[i] :: its.drop (i + 1)) env') D := q.here s'
      unfold loopF at q
      cases eg : g (.im its[i]) env' with
      | er => rw [eg] at q; exact q.elim
      | rt t e => rw [eg] at q; exact q.elim
      | bk e => rw [eg] at q; exact q.elim
      | ct e => rw [eg] at q; exact q.elim
      | ex x e => rw [eg] at q; exact q.elim
      | nx e2 =>
        rw [eg] at q
        intro σ2 H2 r2 n2
        have s2 : Stp σ' env' H'' σ2 e2 H2 := StpN.after .refl n2
        refine ⟨e2, L, r2, ?_⟩
        dsimp only at q
        have q := q.here s2
        cases ef : f e2 with
        | er => rw [ef] at q; exact q.elim
        | nx e3 => rw [ef] at q; exact fun σ3 H3 r3 s3 => ⟨e3, r3, ((s.trans s').trans s2).trans s3, q.here s3⟩
        | ct e3 => rw [ef] at q; exact fun σ3 H3 r3 s3 => ⟨e3, r3, ((s.trans s').trans s2).trans s3, q.here s3⟩
        | bk e3 => rw [ef] at q; exact q
        | rt t e3 => rw [ef] at q; exact q
        | ex x e3 => rw [ef] at q; exact q
theorem ds_for (hp : PassesOwn (model X.prog X.w) X.A X.env X.xe) (hc : X.calm = true) (hi : PI X tg iter (dI c W fi)) (hg : PG X tg (dG c g)) (hb : PSs X body (dS c W f))
    (hs : ∀ x, foldedSetIterable iter X.env x = pure x := by intro _; rfl) : PS X (.For tg iter body [] pos) (dS c W (sFor fi g f)) := PSw (ps_for hp hc hi hg hb hs) d_for
end
inductive CT where
  | one (i : Nat) | tup (is : List Nat) | nest (is : List Nat) (j : Nat)
def setEach : List Nat → List D → En → En
  | i :: is, d :: ds, env => setEach is ds (env.set i (.im d))
  | _, _, env => env
def envT (t : CT) (d : D) (env : En) : Option En := match t with
  | .one i => some (env.set i (.im d))
  | .tup is => match d with
    | .tup ds => if is.length = ds.length then some (setEach is ds env) else none
    | _ => none
  | .nest is j => match d with
    | .tup [.tup ds, d2] => if is.length = ds.length then some ((setEach is ds env).set j (.im d2)) else none
    | _ => none
def gEach : List Nat → TGs
  | [] => gNil
  | i :: is => gCons (gName i) (gEach is)
def gCT (K : PySem.W.Frag) (t : CT) : TG := match t with
  | .one i => gName i
  | .tup is => gTup K is.length (gEach is)
  | .nest is j => gTup K 2 (gCons (gTup K is.length (gEach is)) (gCons (gName j) gNil))
def CT.ins (t : CT) (vs : List Nat) : Prop := match t with
  | .one i => i ∈ vs
  | .tup is => ∀ i ∈ is, i ∈ vs
  | .nest is j => (∀ i ∈ is, i ∈ vs) ∧ j ∈ vs
def wipeE (env : En) : List Nat → En
  | [] => env
  | v :: vs => (wipeE env vs).set v .no
theorem wipeE_length (env : En) : ∀ vs : List Nat, (wipeE env vs).length = env.length
  | [] => rfl
  | v :: vs => by unfold wipeE; rw [List.length_set, wipeE_length env vs]
theorem wipeE_out {env : En} {i : Nat} : ∀ {vs : List Nat}, i ∉ vs → (wipeE env vs)[i]? = env[i]?
  | [], _ => rfl
  | v :: vs, h => by
    unfold wipeE
    rw [List.getElem?_set_ne (fun z => h (by rw [z]; exact List.mem_cons_self))]
    exact wipeE_out fun z => h (List.mem_cons_of_mem _ z)
theorem wipeE_in {env : En} {i : Nat} {s : Sl} : ∀ {vs : List Nat}, i ∈ vs → (wipeE env vs)[i]? = some s → s = .no
  | v :: vs, h, e => by
    unfold wipeE at e
    by_cases z : v = i
    · subst z
      rw [List.getElem?_set] at e
      simp only [if_true] at e
      split at e
      · cases e; rfl
      · cases e
    · rw [List.getElem?_set_ne z] at e
      exact wipeE_in ((List.mem_cons.mp h).resolve_left fun y => z y.symm) e
theorem wipe_in {σ : St} {i : Nat} : ∀ {vs : List Nat}, i ∈ vs → (wipe σ vs)[i]? = if i < σ.length then some none else none
  | v :: vs, h => by
    unfold wipe
    by_cases z : v = i
    · subst z
      rw [List.getElem?_set, wipe_length]
      simp
    · rw [List.getElem?_set_ne z]
      exact wipe_in ((List.mem_cons.mp h).resolve_left fun y => z y.symm)
theorem wipe_eq {σ σ' : St} {vs : List Nat} (l : σ'.length = σ.length) (o : ∀ j, j ∉ vs → σ'[j]? = σ[j]?) : wipe σ' vs = wipe σ vs := by
  apply List.ext_getElem?
  intro j
  by_cases z : j ∈ vs
  · rw [wipe_in z, wipe_in z, l]
  · rw [RZ_wipe_out z, RZ_wipe_out z, o j z]
where RZ_wipe_out {σ : St} {i : Nat} : ∀ {vs : List Nat}, i ∉ vs → (wipe σ vs)[i]? = σ[i]?
  | [], _ => rfl
  | v :: vs, h => by
    unfold wipe
    rw [List.getElem?_set_ne (fun z => h (by rw [z]; exact List.mem_cons_self))]
    exact RZ_wipe_out fun z => h (List.mem_cons_of_mem _ z)
theorem wipe_out' {σ : St} {i : Nat} {vs : List Nat} (h : i ∉ vs) : (wipe σ vs)[i]? = σ[i]? := wipe_eq.RZ_wipe_out h
theorem RE.sub {c : Cc} {L : Addr → Prop} {σ σ' : St} {H : Hp} {env env' : En} (h : RE c L σ H env) (l : env'.length = σ'.length) (k : ∀ (j : Nat) (s : Sl), env'[j]? = some s → s = .no ∨ (env[j]? = some s ∧ σ'[j]? = σ[j]?)) : RE c L σ' H env' ∧ (∀ a, ownM σ' env' a → ownM σ env a) ∧ Stp σ env H σ' env' H := by
  have ow : ∀ a, ownM σ' env' a → ownM σ env a := fun a ⟨i, io, ds, e1, e2⟩ => by
    rcases k i _ e1 with z | ⟨q1, q2⟩
    · cases z
    · exact ⟨i, io, ds, q1, q2 ▸ e2⟩
  have av : ∀ b, Av L σ env b → Av L σ' env' b := fun b g => ⟨g.1, fun z => g.2 (ow b z)⟩
  refine ⟨⟨l, fun i d e => ?_, fun i io ds e => ?_, fun i j io jo ds es a e1 e2 e3 e4 => ?_, fun a la => ⟨fun z => (h.ext a la).1 (ow a z), (h.ext a la).2⟩, h.fr, h.io⟩, ow, fun b n => ⟨rfl, fun z => n (z.imp (ow b) id)⟩⟩
  · rcases k i _ e with z | ⟨q1, q2⟩
    · cases z
    · obtain ⟨v, e1, r⟩ := h.im i d q1
      exact ⟨v, q2.trans e1, r.mono (.refl H) fun b xs g e => ⟨av b g, e⟩⟩
  · rcases k i _ e with z | ⟨q1, q2⟩
    · cases z
    · obtain ⟨a, xs, e1, e2, r, z⟩ := h.own i io ds q1
      exact ⟨a, xs, q2.trans e1, e2, r.mono (.refl H) (fun b xs g e => ⟨av b g, e⟩), z⟩
  · rcases k i _ e1 with z | ⟨q1, q2⟩
    · cases z
    · rcases k j _ e2 with z | ⟨q3, q4⟩
      · cases z
      · exact h.inj i j io jo ds es a q1 q3 (q2 ▸ e3) (q4 ▸ e4)
theorem RE.wipe {c : Cc} {L : Addr → Prop} {σ : St} {H : Hp} {env : En} (vs : List Nat) (h : RE c L σ H env) : RE c L (wipe σ vs) H (wipeE env vs) ∧ (∀ a, ownM (L2.wipe σ vs) (wipeE env vs) a → ownM σ env a) ∧ Stp σ env H (L2.wipe σ vs) (wipeE env vs) H :=
  h.sub (by rw [wipeE_length, wipe_length, h.len]) fun j s e => by
    by_cases z : j ∈ vs
    · exact .inl (wipeE_in z e)
    · rw [wipeE_out z] at e
      exact .inr ⟨e, wipe_out' z⟩
theorem RE.ext_put {c : Cc} {L : Addr → Prop} {σ : St} {H H' : Hp} {env : En} {a : Addr} {xs' : List V} (h : RE c L σ H env) (la : L a) (kp : ∀ b, b ≠ a → H' b = H b) (ea : H' a = some (.lst xs')) (h0 : c.H0 a = none) : RE c L σ H' env := by
  have tk : TK H H' := by
    obtain ⟨_, ys, e⟩ := h.ext a la
    have ne : ∀ b o, H b = some o → (∀ xs, o ≠ .lst xs) → H' b = some o := fun b o e2 n => by
      rw [kp b fun z => ?_]
      · exact e2
      · rw [z, e] at e2
        cases e2
        exact n _ rfl
    exact ⟨fun b xs e => ne b _ e (fun _ z => nomatch z), fun b o u e => ne b _ e (fun _ z => nomatch z)⟩
  have go : ∀ b xs, Av L σ env b → H b = some (HO.lst xs) → Av L σ env b ∧ H' b = some (HO.lst xs) := fun b xs g e => ⟨g, by rw [kp b fun z => g.1 (by rw [z]; exact la)]; exact e⟩
  refine ⟨h.len, fun i d e => ?_, fun i io ds e => ?_, h.inj, fun b lb => ⟨(h.ext b lb).1, ?_⟩, fun b o n e => ?_, fun b ib => ?_⟩
  · obtain ⟨v, e1, r⟩ := h.im i d e
    exact ⟨v, e1, r.mono tk go⟩
  · obtain ⟨b, xs, e1, e2, r, z⟩ := h.own i io ds e
    refine ⟨b, xs, e1, ?_, r.mono tk go, z⟩
    rw [kp b fun z => (h.ext a la).1 ⟨i, io, ds, e, by rw [← z]; exact e1⟩]
    exact e2
  · by_cases z : b = a
    · exact ⟨_, by rw [z]; exact ea⟩
    · rw [kp b z]
      exact (h.ext b lb).2
  · rw [kp b fun z => by rw [z, h0] at e; cases e]
    exact h.fr b o n e
  · by_cases z : b = a
    · exact ⟨_, by rw [z]; exact ea⟩
    · rw [kp b z]
      exact h.io b ib
theorem RE.setEach {c : Cc} {L : Addr → Prop} {H : Hp} {vs : List Nat} {Q : St → Hp → Prop} : ∀ (is : List Nat) (ds : List D) {σ : St} {env : En} {xs : List V}, RE c L σ H env → Reps c.K (Av L σ env) H xs ds → is.length = ds.length → (∀ i ∈ is, i ∈ vs) →
    (∀ σ2, RE c L σ2 H (setEach is ds env) → Stp σ env H σ2 (DL.setEach is ds env) H → L2.wipe σ2 vs = L2.wipe σ vs → Q σ2 H) → gEach is xs σ H Q
  | [], [], σ, env, xs, r, q, _, _, k => by
    cases q
    exact ⟨rfl, k σ r .refl rfl⟩
  | [], d :: ds, _, _, _, _, _, e, _, _ => by cases e
  | i :: is, [], _, _, _, _, _, e, _, _ => by cases e
  | i :: is, d :: ds, σ, env, xs, r, q, e, n, k => by
    cases q with
    | cons q qs =>
      obtain ⟨q1, q2⟩ := r.setIm (i := i) q
      refine ⟨_, _, rfl, RE.setEach is ds q1 (r.reps q2 qs) (by simpa using e) (fun j z => n j (List.mem_cons_of_mem _ z)) fun σ2 r2 s2 w2 => k σ2 r2 (q2.trans s2) (w2.trans ?_)⟩
      refine wipe_eq (by rw [List.length_set]) fun j z => ?_
      rw [List.getElem?_set_ne]
      intro y
      exact z (y ▸ n i List.mem_cons_self)
theorem gCT_of {c : Cc} {L : Addr → Prop} {H : Hp} {vs : List Nat} {Q : St → Hp → Prop} {σ : St} {env env2 : En} {v : V} {d : D} {t : CT} (r : RE c L σ H env) (q : Rep c.K (Av L σ env) H v d) (e : envT t d env = some env2) (n : t.ins vs)
    (k : ∀ σ2, RE c L σ2 H env2 → Stp σ env H σ2 env2 H → L2.wipe σ2 vs = L2.wipe σ vs → Q σ2 H) : gCT c.K t v σ H Q := by
  cases t with
  | one i =>
    cases e
    obtain ⟨q1, q2⟩ := r.setIm (i := i) q
    refine k _ q1 q2 (wipe_eq (by rw [List.length_set]) fun j z => ?_)
    rw [List.getElem?_set_ne]
    intro y
    exact z (y ▸ n)
  | tup is =>
    cases q with
    | tup ht rs =>
      rename_i a xs ds
      dsimp only [envT] at e
      split at e
      · rename_i hl
        cases e
        exact ⟨a, xs, rfl, ht, by rw [rs.length, hl], RE.setEach is ds r rs hl n k⟩
      · cases e
    | _ => cases e
  | nest is j =>
    dsimp only [envT] at e
    split at e
    · rename_i ds d2
      split at e
      · rename_i hl
        cases e
        cases q with
        | tup ht rs =>
          rename_i a xs
          cases rs with
          | cons q1 rs =>
            cases rs with
            | cons q2 rs =>
              cases rs
              rename_i v1 v2
              obtain ⟨a1, xs1, e1, h1, rs1⟩ : ∃ a1 xs1, v1 = .ref a1 ∧ SqT c.K H a1 xs1 ∧ Reps c.K (Av L σ env) H xs1 ds := by
                cases q1 with
                | tup h1 rs1 => exact ⟨_, _, rfl, h1, rs1⟩
              refine ⟨a, [v1, v2], rfl, ht, rfl, v1, [v2], rfl, a1, xs1, e1, h1, by rw [rs1.length, hl], RE.setEach is ds r rs1 hl n.1 fun σ2 r2 s2 w2 => ⟨v2, [], rfl, rfl, ?_⟩⟩
              obtain ⟨y1, y2⟩ := r2.setIm (i := j) (r.rep s2 q2)
              refine k _ y1 (s2.trans y2) ((wipe_eq (by rw [List.length_set]) fun i z => ?_).trans w2)
              rw [List.getElem?_set_ne]
              intro y
              exact z (y ▸ n.2)
      · cases e
    · cases e
open Classical in
noncomputable def lcL (k : Wk) (vs : List Nat) (t : CT) (ft : FT) (fe : FE) : List D → List D → En → R (List D)
  | [], acc, env => if k.ok env then .ok acc env else .er
  | d :: ds, acc, env => if k.ok env ∧ acc.length < sizeLine then
      match envT t d env with
      | some e1 => match ft e1 with
        | .ok true e2 => match fe e2 with
          | .ok u e3 => match u.weak with
            | .im y => lcL k vs t ft fe ds (acc ++ [y]) (wipeE e3 vs)
            | _ => .er
          | _ => .er
        | .ok false e2 => lcL k vs t ft fe ds acc (wipeE e2 vs)
        | _ => .er
      | none => .er
    else .er
noncomputable def eLc (fi : FI) (vs : List Nat) (t : CT) (ft : FT) (fe : FE) : FE := fun env => (fi env).bind fun k e => (lcL k vs t ft fe k.its [] (wipeE e vs)).bind fun ys e2 => .ok (.fr ys) e2
theorem lcL_ex {k : Wk} {vs : List Nat} {t : CT} {ft : FT} {fe : FE} : ∀ ds acc env x e, lcL k vs t ft fe ds acc env ≠ .ex x e
  | [], acc, env, x, e, z => by
    unfold lcL at z
    split at z <;> cases z
  | d :: ds, acc, env, x, e, z => by
    unfold lcL at z
    split at z
    · split at z
      · split at z
        · split at z
          · split at z
            · exact lcL_ex _ _ _ _ _ z
            · cases z
          · cases z
        · exact lcL_ex _ _ _ _ _ z
        · cases z
      · cases z
    · cases z
abbrev WF : WX := fun _ _ _ _ => False
def tT : FT := fun env => .ok true env
section
variable {X : Cx} {c : Cc} {W : WX} {pos p : Pos} {elt iter tg cnd : Expr} {ifs : List Expr} {fi : FI} {ft : FT} {fe : FE} {t : CT} {vs : List Nat}
theorem PTsw {t t' : TT} (h : PTs X ifs t) (k : ∀ σ H Q, t' σ H Q → t σ H Q) : PTs X ifs t' := ⟨fun pins s σ H Q I q => h.run pins s σ H Q I (k σ H Q q)⟩
theorem dts_nil : PTs X [] (dT c W tT) := PTsw pts_nil fun σ H Q h => by
  obtain ⟨env, L, r, h⟩ := h
  exact h H r .refl
theorem dts_one (h : PT X cnd (dT c W ft)) : PTs X [cnd] (dT c W ft) := pts_one h
theorem d_lc (hv : t.ins vs) : ∀ σ H Q, dE c W (eLc fi vs t ft fe) σ H Q → tLc (dI c W fi) (gCT c.K t) (dT c WF ft) (dE c WF fe) vs σ H Q := fun σ H Q h => by
  obtain ⟨env, L, re, h⟩ := h
  refine ⟨env, L, re, h.bind.mono fun k e1 H1 r1 s1 h1 J ⟨ok, src⟩ => ?_⟩
  intro Dd nD
  cases el : lcL k vs t ft fe k.its [] (wipeE e1 vs) with
  | er => rw [el] at h1; exact h1.elim
  | ex x e => exact (lcL_ex _ _ _ _ _ el).elim
  | ok ys e2 =>
    rw [el] at h1
    have h1 : ∀ H', RE c L σ H' e2 → Stp σ e1 H1 σ e2 H' → ∀ v, RepT c L (Nn σ env H) σ H' e2 v (.fr ys) → Q v H' := h1
    have h0 : c.H0 Dd = none := r1.h0 nD
    have nL : ¬ L Dd := fun z => by
      obtain ⟨_, xs, e⟩ := r1.ext Dd z
      rw [nD] at e
      cases e
    have lx : Lx L H1 (fun b => L b ∨ b = Dd) := fun a z => z.imp id fun z => by rw [z]; exact nD
    have kp0 : ∀ b o, H1 b = some o → upd H1 Dd (.lst []) b = some o := fun b o e => by rw [upd_ne (ne_of_none e nD)]; exact e
    have rm : RE c (fun b => L b ∨ b = Dd) σ (upd H1 Dd (.lst [])) e1 := r1.more kp0 nD upd_same
    obtain ⟨rw0, _, sw0⟩ := rm.wipe vs
    -- the step from the walk's begin
    have sub : SubS σ (wipe σ vs) := fun j v e => (wipe_some e).1
    let Wv : Nat → Hp → Prop := fun i H' => ∃ env' xs acc, RE c (fun b => L b ∨ b = Dd) (wipe σ vs) H' env' ∧ (∀ (j : Nat) (s : Sl), env'[j]? = some s → j ∈ vs → s = .no) ∧ Stp σ e1 H1 (wipe σ vs) env' H' ∧ H' Dd = some (.lst xs) ∧ Reps c.K (Av (fun b => L b ∨ b = Dd) (wipe σ vs) env') H' xs acc ∧ lcL k vs t ft fe (k.its.drop i) acc env' = .ok ys e2
    refine ⟨fun i m H' => m = k.its.length - i ∧ Wv i H', ⟨_, rfl, wipeE e1 vs, [], [], rw0, fun j s e z => wipeE_in z e, (Stp.grow kp0).trans sw0, upd_same, .nil, el⟩, fun i m H' ⟨em, env', xs, acc, r, no, s, ed, rs, q⟩ => ?_⟩
    have sw : Sw k σ e1 H1 (wipe σ vs) env' H' := ⟨s, .inr fun j _ _ v e => sub j v e⟩
    by_cases hi : k.its.length ≤ i
    · rw [List.drop_eq_nil_of_le hi] at q
      unfold lcL at q
      split at q
      · rename_i kok
        obtain ⟨rfl, rfl⟩ : acc = ys ∧ env' = e2 := by
          cases q
          exact ⟨rfl, rfl⟩
        refine .inl ⟨src.stop _ i (wipe σ vs) H' env' lx r sw kok hi, ?_⟩
        obtain ⟨rb, _, sb⟩ := r.sub (σ' := σ) (env' := env') (by rw [r.len, wipe_length]) fun j sl e => by
          by_cases z : j ∈ vs
          · exact .inl (no j sl e z)
          · exact .inr ⟨e, (wipe_out' z).symm⟩
        exact h1 H' (rb.less fun b z => .inl z) (s.trans sb) _ ⟨Dd, xs, rfl, ed, rb.reps .refl (r.reps sb rs), nL, h0, s1.back (.inr nD), rb⟩
      · cases q
    · have hi : i < k.its.length := Nat.lt_of_not_le hi
      rw [List.drop_eq_getElem_cons hi] at q
      unfold lcL at q
      split at q
      · rename_i kok
        obtain ⟨kok, la⟩ := kok
        refine .inr ⟨src.go _ i (wipe σ vs) H' env' lx r sw kok hi, Wv (i + 1), fun H2 n => ⟨k.its.length - (i + 1), by omega, rfl, n⟩, fun x H'' y => ?_⟩
        obtain ⟨kp, rx⟩ := src.yld _ i (wipe σ vs) H' env' x H'' k.its[i] lx r sw kok (List.getElem?_eq_getElem hi) y
        have r' := r.grow kp
        have s' : Stp (wipe σ vs) env' H' (wipe σ vs) env' H'' := .grow kp
        have ed' := kp _ _ ed
        have rs' := r.reps s' rs
        cases ea : envT t k.its[i] env' with
        | none => rw [ea] at q; cases q
        | some e3 =>
          rw [ea] at q
          dsimp only at q
          refine gCT_of r' rx ea hv fun σ2 r2 s2 w2 => ⟨w2.trans (wipe_eq (wipe_length σ vs) fun j z => wipe_out' z), ?_⟩
          have w3 : wipe σ2 vs = wipe σ vs := w2.trans (wipe_eq (wipe_length σ vs) fun j z => wipe_out' z)
          -- the list made is kept through a step
          have keepD : ∀ {σa ea Ha σb eb Hb}, RE c (fun b => L b ∨ b = Dd) σa Ha ea → Stp σa ea Ha σb eb Hb → Ha Dd = some (.lst xs) → Hb Dd = some (.lst xs) := fun ra sa e => by
            rw [(sa Dd (Nn.not e (ra.ext Dd (.inr rfl)).1)).1, e]
          have ed2 := keepD r' s2 ed'
          have rs2 := r'.reps s2 rs'
          refine ⟨e3, _, r2, ?_⟩
          cases et : ft e3 with
          | er => rw [et] at q; cases q
          | ex x e => rw [et] at q; cases q
          | ok b e4 =>
            rw [et] at q
            intro H3 r3 s3
            have ed3 := keepD r2 s3 ed2
            have rs3 := r2.reps s3 rs2
            cases b with
            | false =>
              dsimp only at q
              show Wv (i + 1) H3
              obtain ⟨r4, _, s4⟩ := r3.wipe vs
              rw [w3] at r4 s4
              exact ⟨_, xs, acc, r4, fun j sl e z => wipeE_in z e, (((s.trans s').trans s2).trans s3).trans s4, keepD r3 s4 ed3, r3.reps s4 rs3, q⟩
            | true =>
              dsimp only at q
              show dE c WF fe σ2 H3 fun y H4 => ∃ acc, H4 Dd = some (HO.lst acc) ∧ acc.length < sizeLine ∧ Wv (i + 1) (upd H4 Dd (HO.lst (acc ++ [y])))
              refine ⟨e4, _, r3, ?_⟩
              cases ee : fe e4 with
              | er => rw [ee] at q; cases q
              | ex x e => rw [ee] at q; cases q
              | ok u e5 =>
                rw [ee] at q
                dsimp only at q
                intro H4 r4 s4 v qv
                have qv := qv.wk
                have ed4 := keepD r3 s4 ed3
                have rs4 := r3.reps s4 rs3
                refine ⟨xs, ed4, by rw [rs.length]; exact la, ?_⟩
                cases eu : u.weak with
                | al j => rw [eu] at q; cases q
                | fr ds => rw [eu] at q; cases q
                | ft ds => rw [eu] at q; cases q
                | im dy =>
                  rw [eu] at q qv
                  dsimp only at q
                  have rv : Rep c.K (Av (fun b => L b ∨ b = Dd) σ2 e5) H4 v dy := qv
                  obtain ⟨r5, _, s5⟩ := r4.wipe vs
                  rw [w3] at r5 s5
                  have rv5 := r4.rep s5 rv
                  have rs5 := r4.reps s5 rs4
                  have r6 := r5.ext_put (H' := upd H4 Dd (.lst (xs ++ [v]))) (.inr rfl) (fun b z => upd_ne z) upd_same h0
                  have tk : TK H4 (upd H4 Dd (.lst (xs ++ [v]))) := ⟨fun b zs e => by rw [upd_ne fun z => by rw [z, ed4] at e; cases e]; exact e, fun b o w e => by rw [upd_ne fun z => by rw [z, ed4] at e; cases e]; exact e⟩
                  have go : ∀ b zs, Av (fun b => L b ∨ b = Dd) (wipe σ vs) (wipeE e5 vs) b → H4 b = some (HO.lst zs) → Av (fun b => L b ∨ b = Dd) (wipe σ vs) (wipeE e5 vs) b ∧ upd H4 Dd (.lst (xs ++ [v])) b = some (HO.lst zs) := fun b zs g e => ⟨g, by rw [upd_ne fun z => g.1 (.inr z)]; exact e⟩
                  refine ⟨_, xs ++ [v], acc ++ [dy], r6, fun j sl e z => wipeE_in z e, fun b nb => ?_, upd_same, Reps.append (rs5.mono tk go) (.cons (rv5.mono tk go) .nil), q⟩
                  obtain ⟨z1, z2⟩ := (((((s.trans s').trans s2).trans s3).trans s4).trans s5) b nb
                  have nbD : b ≠ Dd := fun z => nb (.inr (by rw [z]; exact nD))
                  rw [upd_ne nbD]
                  exact ⟨z1, fun z => z2 (z.imp id fun z => by rw [upd_ne nbD] at z; exact z)⟩
      · cases q
theorem de_lc {scope : Scope} {own : List (Str × Nat)} (hc : X.calm = true) (hN : X.N.Nodup) (hi : PI X tg iter (dI c W fi)) (ok : BlkOk X.N X.env.scope scope own)
    (hg : ∀ (s : Shared) (H : Hp) (C : Addr) (cl : List (Str × Addr)) (fp : List Addr), PG (X.blk s H scope (compEnvC scope cl C X.env) fp) tg (gCT X.K t))
    (ht : ∀ (s : Shared) (H : Hp) (C : Addr) (cl : List (Str × Addr)) (fp : List Addr), PTs (X.blk s H scope (compEnvC scope cl C X.env) fp) ifs (dT c WF ft))
    (he : ∀ (s : Shared) (H : Hp) (C : Addr) (cl : List (Str × Addr)) (fp : List Addr), PE (X.blk s H scope (compEnvC scope cl C X.env) fp) elt (dE c WF fe)) (hv : t.ins (own.map (·.2)) := by decide) (hK : c.K = X.K := by rfl)
    (hs : ∀ x, foldedSetIterable iter X.env x = pure x := by intro _; rfl) :
    PE X (.ListComp elt [⟨tg, iter, ifs, 0⟩] scope pos) (dE c W (eLc fi (own.map (·.2)) t ft fe)) :=
  PEw (pe_lc hc hN hi ok hg ht he hs) (by rw [← hK]; exact d_lc hv)
end
end DL
namespace DL
open PySem PySem.Spec L2
def padE (n : Nat) (env : En) : En := env ++ List.replicate (n - env.length) .no
def outE : En → En → Option En
  | [], _ => some []
  | .own true _ :: r, e :: es => match e, outE r es with
    | .own true ds, some o => some (.own true ds :: o)
    | _, _ => none
  | _ :: r, e :: es => (outE r es).map (.no :: ·)
  | _ :: _, [] => none
def finT (env0 : En) (t : T) (env : En) : R T := match t with
  | .al i => match env[i]? with
    | some (.own false ds) => match outE env0 (env.set i .no) with
      | some o => .ok (.fr ds) o
      | none => .er
    | _ => .er
  | t => match outE env0 env with
    | some o => .ok t o
    | none => .er
def finF (env : En) : Fl → R T
  | .nx e => finT env (.im .non) e
  | .rt t e => finT env t e
  | .ex x e => match outE env e with
    | some o => .ex x o
    | none => .er
  | _ => .er
def runD (n p : Nat) (f : FS) : FD := fun env => if env.length = p then finF env (f (padE n env)) else .er
theorem outE_get : ∀ {env0 env out : En}, outE env0 env = some out → out.length = env0.length ∧ ∀ (i : Nat) (s : Sl), out[i]? = some s → s = .no ∨ ∃ ds ds0, s = .own true ds ∧ env[i]? = some (.own true ds) ∧ env0[i]? = some (.own true ds0)
  | [], env, out, h => by
    cases h
    exact ⟨rfl, fun i s e => by simp at e⟩
  | a :: r, [], out, h => by cases a <;> try (rename_i b _; cases b) <;> cases h
                             all_goals cases h
  | a :: r, e :: es, out, h => by
    have no : (outE r es).map (Sl.no :: ·) = some out → out.length = (a :: r).length ∧ ∀ (i : Nat) (s : Sl), out[i]? = some s → s = .no ∨ ∃ ds ds0, s = .own true ds ∧ (e :: es)[i]? = some (.own true ds) ∧ (a :: r)[i]? = some (.own true ds0) := fun h => by
      cases q : outE r es with
      | none => rw [q] at h; cases h
      | some o =>
        rw [q] at h
        cases h
        obtain ⟨q1, q2⟩ := outE_get q
        refine ⟨by rw [List.length_cons, List.length_cons, q1], fun i s e => ?_⟩
        cases i with
        | zero => cases e; exact .inl rfl
        | succ i => exact q2 i s e
    cases a with
    | no => exact no h
    | im d => exact no h
    | own b ds0 =>
      cases b with
      | false => exact no h
      | true =>
        unfold outE at h
        split at h
        · rename_i ds o q
          cases h
          obtain ⟨q1, q2⟩ := outE_get q
          refine ⟨by rw [List.length_cons, List.length_cons, q1], fun i s e => ?_⟩
          cases i with
          | zero => cases e; exact .inr ⟨ds, ds0, rfl, rfl, rfl⟩
          | succ i => exact q2 i s e
        · cases h
section
variable {K : PySem.W.Frag} {mg : Str → Option Value} {H H' : Hp} {vs : List V} {env0 env out : En} {L : Addr → Prop} {σ : St}
theorem RE.pad {c : Cc} {n : Nat} {N : List Str} (h : RE c L (vs.map some) H env) (hn : N.length = n) (hl : env.length = vs.length) : RE c L (L2.start N vs) H (padE n env) := by
  refine (h.sub ?_ fun j s e => ?_).1
  · unfold padE L2.start
    simp [hn, hl]
  · unfold padE at e
    by_cases z : j < env.length
    · rw [List.getElem?_append_left z] at e
      refine .inr ⟨e, ?_⟩
      unfold L2.start
      rw [List.getElem?_append_left (by rw [List.length_map, ← hl]; exact z)]
    · rw [List.getElem?_append_right (Nat.le_of_not_lt z)] at e
      exact .inl (List.eq_of_mem_replicate (List.mem_of_getElem? e))
theorem out_own {c : Cc} (h : RE c L σ H' env) (eo : outE env0 env = some out) {a : Addr} (o : ownM (c.vs.map some) out a) : ownM σ env a := by
  obtain ⟨i, io, ds, e1, e2⟩ := o
  rcases (outE_get eo).2 i _ e1 with z | ⟨ds', ds0, z, e3, e4⟩
  · cases z
  · cases z
    obtain ⟨b, xs, f1, f2, f3, f4, f5⟩ := h.own i true ds e3
    obtain ⟨_, f6⟩ := f5 rfl
    rw [List.getElem?_map, f6] at e2
    cases e2
    exact ⟨i, true, ds, e3, f1⟩
theorem RE.outs {c : Cc} (h : RE c L σ H' env) (eo : outE env0 env = some out) (hl : env0.length = c.vs.length) : RE c L (c.vs.map some) H' out := by
  have av : ∀ b, Av L σ env b → Av L (c.vs.map some) out b := fun b g => ⟨g.1, fun z => g.2 (out_own h eo z)⟩
  refine ⟨by rw [List.length_map, (outE_get eo).1, hl], fun i d e => ?_, fun i io ds e => ?_, fun i j io jo ds es a e1 e2 e3 e4 => ?_, fun a la => ⟨fun z => (h.ext a la).1 (out_own h eo z), (h.ext a la).2⟩, h.fr, h.io⟩
  · rcases (outE_get eo).2 i _ e with z | ⟨ds', ds0, z, e3, e4⟩ <;> cases z
  · rcases (outE_get eo).2 i _ e with z | ⟨ds', ds0, z, e3, e4⟩
    · cases z
    · cases z
      obtain ⟨b, xs, f1, f2, f3, f4, f5⟩ := h.own i true ds e3
      refine ⟨b, xs, ?_, f2, f3.mono (.refl H') (fun b ys g e => ⟨av b g, e⟩), f4, f5⟩
      rw [List.getElem?_map, (f5 rfl).2]
      rfl
  · rcases (outE_get eo).2 i _ e1 with z | ⟨ds', ds0, z, f1, f2⟩
    · cases z
    · cases z
      rcases (outE_get eo).2 j _ e2 with z | ⟨ds'', ds1, z, g1, g2⟩
      · cases z
      · cases z
        obtain ⟨b, xs, p1, p2, p3, p4, p5⟩ := h.own i true ds f1
        obtain ⟨b', xs', q1, q2, q3, q4, q5⟩ := h.own j true es g1
        rw [List.getElem?_map, (p5 rfl).2] at e3
        rw [List.getElem?_map, (q5 rfl).2] at e4
        cases e3
        cases e4
        exact h.inj i j true true ds es a f1 g1 p1 q1
theorem fin_ok {N : Addr → Prop} {v : V} {t t' : T} (h : RE (cc0 K mg H vs env0) L σ H' env) (hl : env0.length = vs.length) (q : RepT (cc0 K mg H vs env0) L N σ H' env v t) (e : finT env0 t env = .ok t' out) :
    RE (cc0 K mg H vs env0) L (vs.map some) H' out ∧ RepT (cc0 K mg H vs env0) L (fun a => H a = none) (vs.map some) H' out v t' := by
  have pl : ∀ {t : T}, (∀ i, t ≠ .al i) → RepT (cc0 K mg H vs env0) L N σ H' env v t → outE env0 env = some out → RE (cc0 K mg H vs env0) L (vs.map some) H' out ∧ RepT (cc0 K mg H vs env0) L (fun a => H a = none) (vs.map some) H' out v t := fun {t} na q eo => by
    refine ⟨h.outs eo hl, ?_⟩
    have av : ∀ (L2 : Addr → Prop) b, Av L2 σ env b → Av L2 (vs.map some) out b := fun L2 b g => ⟨g.1, fun z => g.2 (out_own h eo z)⟩
    cases t with
    | al i => exact (na i rfl).elim
    | im d => exact Rep.mono (.refl H') (fun a xs g e => ⟨av _ a g, e⟩) q
    | fr ds =>
      obtain ⟨a, xs, e, e1, r, n1, n2, n3, re⟩ := q
      exact ⟨a, xs, e, e1, r.mono (.refl H') (fun b ys g e => ⟨av _ b g, e⟩), n1, n2, n2, re.outs eo hl⟩
    | ft cs =>
      obtain ⟨tt, ws, As, e, e1, r, n1, re⟩ := q
      exact ⟨tt, ws, As, e, e1, r.mono (.refl H') (fun b ys g e => ⟨av _ b g, e⟩) (fun _ _ _ e => e), fun a ha => ⟨(n1 a ha).1, (n1 a ha).2.1, (n1 a ha).2.1⟩, re.outs eo hl⟩
  unfold finT at e
  cases t with
  | im d =>
    dsimp only at e
    split at e
    · cases e; exact pl (fun i z => nomatch z) q (by assumption)
    · cases e
  | fr d =>
    dsimp only at e
    split at e
    · cases e; exact pl (fun i z => nomatch z) q (by assumption)
    · cases e
  | ft d =>
    dsimp only at e
    split at e
    · cases e; exact pl (fun i z => nomatch z) q (by assumption)
    · cases e
  | al i =>
    dsimp only at e
    split at e
    · rename_i ds ei
      split at e
      · rename_i o eo
        cases e
        obtain ⟨a, xs, s1, ea, r, f0, _⟩ := h.own i false ds ei
        have sv : σ[i]? = some (some v) := q.2
        rw [sv] at s1
        cases s1
        obtain ⟨q1, q2⟩ := h.drop ei sv
        have oa : ownM σ env a := ⟨i, false, ds, ei, sv⟩
        refine ⟨(q1.less fun b z => .inl z).outs eo hl, a, xs, rfl, ea, ?_, fun z => (h.ext a z).1 oa, f0 rfl, f0 rfl, q1.outs eo hl⟩
        refine r.mono (.refl H') fun b ys g e => ⟨⟨fun z => z.elim g.1 fun z => g.2 (by rw [z]; exact oa), fun z => g.2 (own_set_no (out_own q1 eo z)).1⟩, e⟩
      · cases e
    · cases e
end
theorem Room.le {j k : Nat} {A : Around} (h : Room k A) (hj : j ≤ k) : Room j A := h.mono hj
section
variable {P : Program} {w : World} {K : PySem.W.Frag} {mg : Str → Option Value} {base : Heap}
theorem fn_ok {x qual : Str} {st : Stmt} {f : Addr} {fd : FuncData} {N ps : List Str} {k n p : Nat} {g : FS} (F : Fun K x qual st f fd) (S : FnScope N ps (defScope st)) (hn : N.length = n) (hp : ps.length = p)
    (hb : ∀ (cdv : Value) (A : Around) (outer : List Env) (s : Shared) (H : Hp) (vs : List V) (E : XK) (env0 : En), Room k (A.deeper (PyProof.Rows.envOfC qual (defScope st) s.heap.objs.size f cdv)) →
      PSs (cxOf (L2.CX P w) P w K mg base N qual (defScope st) f cdv A outer s H E) (defBody st) (dS (cc0 K mg H vs env0) (fun cls d _ H => E cls d H) g)) :
    FnOk P w K mg base (L2.CX P w) (k + 1) f fd ps (spD K mg (runD n p g)) := by
  have len : ∀ (vs : List V) (H : Hp) (Q : VK) (E : XK), spD K mg (runD n p g) vs H Q E → vs.length = p := fun vs H Q E ⟨env, L, re, h⟩ => by
    have hl := re.len
    rw [List.length_map] at hl
    unfold runD at h
    by_cases z : env.length = p
    · rw [← hl, z]
    · rw [if_neg z] at h
      exact h.elim
  refine F.okX S (fun vs H Q E h => (len vs H Q E h).trans hp.symm) fun cdv A outer s H vs Q E hr h => ?_
  have hvl := len vs H Q E h
  obtain ⟨env, L, re, h⟩ := h
  have hl : env.length = vs.length := by
    have := re.len
    rwa [List.length_map] at this
  refine ⟨_, hb cdv A outer s H vs E env hr, padE n env, L, re.pad hn hl, ?_⟩
  unfold runD at h
  rw [if_pos (hl.trans hvl)] at h
  have fin : ∀ {t : T} {e : En} {σ' : St} {H' : Hp} {v : V} {N' : Addr → Prop}, (match finT env t e with
      | .er => False
      | .ex x out => ∀ H', RE (cc0 K mg H vs env) L (vs.map some) H' out → ∀ C, mg x = some (.ref C) → E (.ref C) none H'
      | .ok t out => ∀ v H', RE (cc0 K mg H vs env) L (vs.map some) H' out → RepT (cc0 K mg H vs env) L (fun a => H a = none) (vs.map some) H' out v t → Q v H') →
      RE (cc0 K mg H vs env) L σ' H' e → RepT (cc0 K mg H vs env) L N' σ' H' e v t → Q v H' := fun {t e σ' H' v N'} h r q => by
    cases ef : finT env t e with
    | er => rw [ef] at h; exact h.elim
    | ex x o =>
      unfold finT at ef
      split at ef
      · split at ef
        · split at ef <;> cases ef
        · cases ef
      · split at ef <;> cases ef
    | ok t' o =>
      rw [ef] at h
      obtain ⟨z1, z2⟩ := fin_ok r hl q ef
      exact h v H' z1 z2
  cases eg : g (padE n env) with
  | er => rw [eg] at h; exact h.elim
  | bk e => rw [eg] at h; exact h.elim
  | ct e => rw [eg] at h; exact h.elim
  | nx e =>
    rw [eg] at h
    exact fun σ' H' r s => fin (N' := fun _ => True) h r (show RepT _ _ _ _ _ _ _ (.im .non) from .non)
  | rt t e =>
    rw [eg] at h
    exact fun v σ' H' r s q => fin h r q
  | ex x e =>
    rw [eg] at h
    dsimp only [finF] at h
    cases eo : outE env e with
    | none => rw [eo] at h; exact h.elim
    | some o =>
      rw [eo] at h
      exact fun σ' H' r s C hC => h H' (r.outs eo hl) C hC
def spLaw (K : PySem.W.Frag) : Sp := fun vs H Q _ => ∃ (a : Addr) (ns : List Int), vs = [.ref a] ∧ ns.length ≤ 63 ∧ FzAt K H a (ns.map V.int) ∧ ∀ H', Q (.bl true) H'
theorem law_ok {k f : _} {fd : FuncData} {x : Str} {g : FD} (F : FnOk P w K mg base (L2.CX P w) k f fd [x] (spD K mg g)) (h : ∀ ns : List Int, ns.length ≤ 63 → ∃ o, g [.im (.fz (ns.map D.int))] = .ok (.im (.bl true)) o) : FnOk P w K mg base (L2.CX P w) k f fd [x] (spLaw K) :=
  F.imp fun vs H Q E ⟨a, ns, ev, hl, hz, kk⟩ => by
    subst ev
    obtain ⟨o, eg⟩ := h ns hl
    have re : RE (cc0 K mg H [V.ref a] ([D.fz (ns.map D.int)].map Sl.im)) (fun _ => False) ([V.ref a].map some) H ([D.fz (ns.map D.int)].map Sl.im) :=
      RE.enter (.cons (.fz hz (Reps.of_ints ns)) .nil) fun a z => z.elim
    refine ⟨_, _, re, ?_⟩
    show match g [.im (.fz (ns.map D.int))] with
      | .er => False
      | .ex x out => ∀ H', RE (cc0 K mg H [V.ref a] ([D.fz (ns.map D.int)].map Sl.im)) (fun _ => False) ([V.ref a].map some) H' out → ∀ C, mg x = some (.ref C) → E (.ref C) none H'
      | .ok t out => ∀ v H', RE (cc0 K mg H [V.ref a] ([D.fz (ns.map D.int)].map Sl.im)) (fun _ => False) ([V.ref a].map some) H' out → RepT (cc0 K mg H [V.ref a] ([D.fz (ns.map D.int)].map Sl.im)) (fun _ => False) (fun a => H a = none) ([V.ref a].map some) H' out v t → Q v H'
    rw [eg]
    intro v H' _ q
    cases (show Rep _ _ _ v (.bl true) from q)
    exact kk H'
theorem law_hsp {H : Hp} {a : Addr} {ns : List Int} (hl : ns.length ≤ 63) (hO : Only H) (hS : SqL K H a (ns.map V.int)) : spLaw K [.ref a] H (fun v _ => v = .bl true) fun _ _ _ => False := by
  refine ⟨a, ns, rfl, hl, ?_, fun _ => rfl⟩
  rcases hS with (h | ⟨o, h⟩) | h
  · rcases hO a with z | ⟨o, xs, z⟩
    · rw [h] at z; cases z
    · rw [h] at z; cases z
  · exact .inl ⟨o, h⟩
  · exact .inr h
theorem law_cx {H : Hp} {s : Shared} {e : Value} {s' : Shared} (h : L2.CX P w [] H s (fun _ _ _ => False) e s') : False := by
  obtain ⟨_, _, _, _, _, _, _, _, _, _, _, _, z⟩ := h
  exact z
end
end DL
namespace DL
open PySem PySem.Spec L2
def dRep : D → D → Option T
  | .lst xs, .int k => if -(2 ^ 63) ≤ k ∧ k < 2 ^ 63 ∧ xs.length * k.toNat ≤ 1000000 then some (.fr (List.replicate k.toNat xs).flatten) else none
  | _, _ => none
def dRepT : D → D → Option T
  | .tup xs, .int k => if xs ≠ [] ∧ 2 ≤ k ∧ k ≤ 1000 ∧ xs.length ≤ 1000 then some (.im (.tup (List.replicate k.toNat xs).flatten)) else none
  | _, _ => none
def repS (z : Str) (k : Int) : Str := ⟨(List.replicate k.toNat z.cps).foldl (· ++ ·) #[]⟩
theorem repS_len (z : Str) (k : Int) : (repS z k).length = k.toNat * z.length := by
  have key : ∀ (n : Nat) (acc : Array Nat), ((List.replicate n z.cps).foldl (· ++ ·) acc).size = acc.size + n * z.cps.size := fun n => by
    induction n with
    | zero => intro acc; simp
    | succ n ih =>
      intro acc
      rw [List.replicate_succ, List.foldl_cons, ih, Array.size_append, Nat.succ_mul]
      omega
  show ((List.replicate k.toNat z.cps).foldl (· ++ ·) #[]).size = _
  rw [key]
  simp [Str.length]
def dRepS : D → D → Option T
  | .str x, .int k => if 2 ≤ k ∧ k ≤ 1000000 ∧ x.length = 1 then some (.im (.str (repS x k))) else none
  | _, _ => none
def dMulA (x y : D) : Option T := match dMul x y with
  | some t => some t
  | none => match dRep x y with
    | some t => some t
    | none => match dRepT x y with
      | some t => some t
      | none => dRepS x y
section
variable {X : Cx} {c : Cc}
def rRepS : R2 := fun x y H Q => ∃ z k, x = .str z ∧ y = .int k ∧ 2 ≤ k ∧ k ≤ 1000000 ∧ z.length = 1 ∧ Q (.str (repS z k)) H
theorem op_repS : OpR X (binaryOp .Mult) rRepS := by
  intro pins s σ H x y v u Q I rx ry h
  obtain ⟨z, k, rfl, rfl, h1, h2, h3, q⟩ := h
  obtain ⟨t, rfl⟩ := rx
  obtain ⟨t', rfl⟩ := ry
  have c0 : ¬ k < 1 := by omega
  have c1 : (k == 1 || z.length == 0) = false := by
    have : ¬ k = 1 := by omega
    simp [h3, this]
  refine PySem.P.mul_str (by
    have a1 : ¬ k < -(2 ^ 63 : Int) := by omega
    have a2 : ¬ k ≥ 2 ^ 63 := by omega
    rw [decide_eq_false a1, decide_eq_false a2]
    rfl) (fun _ _ z9 => ?_) (fun _ _ => ?_) ?_
  · rw [h3] at z9
    have : (1 : Int) ≤ (2 ^ 63 - 1) / k := by
      refine (Int.le_ediv_iff_mul_le (by omega)).mpr ?_
      omega
    exact absurd z9 (by simpa using Int.not_lt.mpr this)
  · rw [h3, Nat.one_mul]
    exact decide_eq_false (by have := line6 (n := k.toNat) (by omega); omega)
  · rw [if_neg c0, if_neg (by rw [c1]; decide)]
    refine ⟨?_, .str _, H, I.tok _, ⟨_, rfl⟩, q⟩
    have e := repS_len z k
    rw [h3, Nat.mul_one] at e
    exact Nat.le_trans (Nat.le_of_eq e) (line6 (by omega))
theorem d_repS : OpD c rRepS dRepS := by
  intro L σ H env x y dx dy t Q re hx hy e k
  cases dx <;> cases dy <;> simp only [dRepS] at e <;> try (cases e; done)
  split at e
  · rename_i q
    cases e
    exact ⟨_, _, hx.str, hy.int, q.1, q.2.1, q.2.2, k _ H re .refl (.str _)⟩
  · cases e
abbrev rMulA (K : PySem.W.Frag) : R2 := fun x y H Q => rI CMul (fun i j => .int (i * j)) x y H Q ∨ (rRep x y H Q ∨ (rRepT K x y H Q ∨ rRepS x y H Q))
theorem op_mulA : OpR X (binaryOp .Mult) (rMulA X.K) := op_mul.or (op_rep.or (op_repT.or op_repS))
theorem d_rep : OpD c rRep dRep := by
  intro L σ H env x y dx dy t Q re hx hy e k
  cases dx <;> cases dy <;> simp only [dRep] at e <;> try (cases e; done)
  split at e
  · rename_i q
    cases e
    obtain ⟨a, xs, rfl, h1, r1⟩ := hx.lst
    cases hy.int
    refine ⟨a, _, xs, rfl, rfl, h1, q.1, q.2.1, by rw [r1.length]; exact Nat.le_trans q.2.2 (by decide), fun p n => ?_⟩
    obtain ⟨q1, q2, q3⟩ := re.newL (r1.rep _) n
    exact k _ _ q1 q2 q3
  · cases e
theorem d_repT : OpD c (rRepT c.K) dRepT := by
  intro L σ H env x y dx dy t Q re hx hy e k
  cases dx <;> cases dy <;> simp only [dRepT] at e <;> try (cases e; done)
  split at e
  · rename_i q
    cases e
    obtain ⟨a, xs, rfl, h1, r1⟩ := hx.tup
    cases hy.int
    refine ⟨a, _, xs, rfl, rfl, h1, fun z => q.1 ?_, q.2.1, q.2.2.1, by rw [r1.length]; exact q.2.2.2, fun p n => ?_⟩
    · subst z
      cases r1
      rfl
    · have kp : ∀ {zs : HO} b o, H b = some o → upd H p zs b = some o := fun b o e => by rw [upd_ne (ne_of_none e n)]; exact e
      exact k _ _ (re.grow kp) (.grow kp) (.tup (.inl (.inl upd_same)) (re.reps (.grow kp) (r1.rep _)))
  · cases e
theorem d_mulA : OpD c (rMulA c.K) dMulA := d_mul.or (d_rep.or (d_repT.or d_repS))
end
theorem de_gc {X : Cx} {c : Cc} {W : WX} {x : Str} {v : V} {d : D} {pos : Pos} (hg : Gl X x) (h : ∃ u, X.mg x = some u ∧ RelV v u) (k : ∀ G H, Rep c.K G H v d) (hd : (x == ("__debug__" : Str)) = false := by decide) : PE X (.Name x pos) (dE c W (eC d)) := by
  obtain ⟨u, h1, h2⟩ := h
  exact de_c (pe_glob hg h1 h2 (hd := hd)) k
def dEqS : D → D → Option T
  | .str a, .str b => some (.im (.bl (a == b)))
  | _, _ => none
def dNeS : D → D → Option T
  | .str a, .str b => some (.im (.bl (!(a == b))))
  | _, _ => none
def dEqA (x y : D) : Option T := match dEqS x y with
  | some t => some t
  | none => dEq x y
def dNeA (x y : D) : Option T := match dNeS x y with
  | some t => some t
  | none => dNe x y
@[simp] theorem dEqA_ss (a b : Str) : dEqA (.str a) (.str b) = some (.im (.bl (a == b))) := rfl
@[simp] theorem dEqA_ii (a b : Int) : dEqA (.int a) (.int b) = some (.im (.bl (a == b))) := rfl
@[simp] theorem dNeA_ss (a b : Str) : dNeA (.str a) (.str b) = some (.im (.bl (!(a == b)))) := rfl
@[simp] theorem dNeA_ii (a b : Int) : dNeA (.int a) (.int b) = some (.im (.bl (!(a == b)))) := rfl
section
variable {X : Cx} {c : Cc}
abbrev rEqA (K : PySem.W.Frag) : R2 := fun x y H Q => rEq x y H Q ∨ rEqD K x y H Q
abbrev rNeA (K : PySem.W.Frag) : R2 := fun x y H Q => rNe x y H Q ∨ rNeD K x y H Q
theorem op_eqA (hu : X.A.units + 64 < cLine) : OpR X (compareOp .Eq) (rEqA X.K) := op_eq.or (op_eqD hu)
theorem op_neA (hu : X.A.units + 64 < cLine) : OpR X (compareOp .NotEq) (rNeA X.K) := op_ne.or (op_neD hu)
theorem d_eqS : OpD c rEq dEqS := by
  intro L σ H env x y dx dy t Q re hx hy e k
  cases dx <;> cases dy <;> simp only [dEqS] at e <;> try (cases e; done)
  cases e
  cases (show Rep _ _ _ x (.str _) from hx)
  cases (show Rep _ _ _ y (.str _) from hy)
  refine ⟨rfl, ?_⟩
  rw [dec_str]
  exact k _ H re .refl (.bl _)
theorem d_neS : OpD c rNe dNeS := by
  intro L σ H env x y dx dy t Q re hx hy e k
  cases dx <;> cases dy <;> simp only [dNeS] at e <;> try (cases e; done)
  cases e
  cases (show Rep _ _ _ x (.str _) from hx)
  cases (show Rep _ _ _ y (.str _) from hy)
  refine ⟨rfl, ?_⟩
  rw [dec_str]
  exact k _ H re .refl (.bl _)
theorem d_eqA : OpD c (rEqA c.K) dEqA := d_eqS.or d_eq
theorem d_neA : OpD c (rNeA c.K) dNeA := d_neS.or d_ne
end
def dAddI : D → D → Option T
  | .int i, .int j => some (.im (.int (i + j)))
  | _, _ => none
@[simp] theorem dAddI_int (i j : Int) : dAddI (.int i) (.int j) = some (.im (.int (i + j))) := rfl
def GlT (K : PySem.W.Frag) (mg : Str → Option Value) (x : Str) (d : D) : Prop := ∃ u v, mg x = some u ∧ RelV v u ∧ ∀ G H, Rep K G H v d
theorem de_gt {X : Cx} {c : Cc} {W : WX} {x : Str} {d : D} {pos : Pos} (hg : Gl X x) (h : GlT X.K X.mg x d) (hK : c.K = X.K := by rfl) (hd : (x == ("__debug__" : Str)) = false := by decide) : PE X (.Name x pos) (dE c W (eC d)) := by
  obtain ⟨u, v, h1, h2, h3⟩ := h
  exact de_c (pe_glob hg h1 h2 (hd := hd)) fun G H => by rw [hK]; exact h3 G H
structure Cd (K : PySem.W.Frag) (mg : Str → Option Value) (x : Str) (st : Stmt) (ps : List Str) (f : Addr) (fd : FuncData) : Prop where
  F : Fun K x x st f fd
  g : mg x = some (.ref f)
  b : Binds K fd ps []
theorem bo_len : bootBuiltins "len" = some (.builtin "len") := by decide +kernel
theorem bo_max : bootBuiltins "max" = some (.builtin "max") := by decide +kernel
theorem bo_min : bootBuiltins "min" = some (.builtin "min") := by decide +kernel
theorem bo_all : bootBuiltins "all" = some (.builtin "all") := by decide +kernel
theorem bo_any : bootBuiltins "any" = some (.builtin "any") := by decide +kernel
theorem bo_tuple : bootBuiltins "tuple" = some (.type "tuple") := by decide +kernel
theorem bo_int : bootBuiltins "int" = some (.type "int") := by decide +kernel
theorem bo_bool : bootBuiltins "bool" = some (.type "bool") := by decide +kernel
theorem bo_str : bootBuiltins "str" = some (.type "str") := by decide +kernel
end DL
namespace DL
open PySem PySem.Spec L2
@[simp] theorem eVar_s (i : Nat) (env : En) : eVar i env = (match env[i]? with
  | some (.im d) => .ok (.im d) env
  | some (.own _ _) => .ok (.al i) env
  | _ => .er) := rfl
@[simp] theorem eC_s (d : D) (env : En) : eC d env = (.ok (.im d) env) := rfl
@[simp] theorem eOp_s (g : D → D → Option T) (fa fb : FE) (env : En) : eOp g fa fb env = ((fa env).bind fun ta e1 => (fb e1).bind fun tb e2 => op2 g ta tb e2) := rfl
@[simp] theorem eUn_s (g : D → Option T) (fa : FE) (env : En) : eUn g fa env = ((fa env).bind fun ta e1 => op1 g ta e1) := rfl
@[simp] theorem aNil_s  (env : En) : aNil  env = (.ok [] env) := rfl
@[simp] theorem aCons_s (fa : FE) (fr : FA) (env : En) : aCons fa fr env = ((fa env).bind fun t e1 => (fr e1).bind fun ts e2 => consT t ts e2) := rfl
@[simp] theorem eB_s (g : List D → Option T) (fa : FA) (env : En) : eB g fa env = ((fa env).bind fun ts e1 => opL g ts e1) := rfl
@[simp] theorem eTup_s (fa : FA) (env : En) : eTup fa env = ((fa env).bind fun ts e1 => disp mkTup ts e1) := rfl
@[simp] theorem eLst_s (fa : FA) (env : En) : eLst fa env = ((fa env).bind fun ts e1 => disp (fun cs => .fr (cs.map Cp.d)) ts e1) := rfl
@[simp] theorem eIsi_s (Ty : String) (fa : FE) (env : En) : eIsi Ty fa env = ((fa env).bind fun t e => op1 (fun d => (isTy Ty d).map fun b => .im (.bl b)) t e) := rfl
@[simp] theorem tV_s (fa : FE) (env : En) : tV fa env = ((fa env).bind fun t e => toB t e) := rfl
@[simp] theorem tAn_s (fa fb : FT) (env : En) : tAn fa fb env = ((fa env).bind fun b e => bif b then fb e else .ok false e) := rfl
@[simp] theorem tOr'_s (fa fb : FT) (env : En) : tOr' fa fb env = ((fa env).bind fun b e => bif b then .ok true e else fb e) := rfl
@[simp] theorem tNo_s (fa : FT) (env : En) : tNo fa env = ((fa env).bind fun b e => .ok (!b) e) := rfl
@[simp] theorem eAn_s (fa fb : FE) (env : En) : eAn fa fb env = ((fa env).bind fun t e => (toB t e).bind fun b e => bif b then fb e else .ok (.im (.bl false)) e) := rfl
@[simp] theorem eOr_s (fa fb : FE) (env : En) : eOr fa fb env = ((fa env).bind fun t e => (toB t e).bind fun b e => bif b then .ok (.im (.bl true)) e else fb e) := rfl
@[simp] theorem eNo_s (fa : FE) (env : En) : eNo fa env = ((fa env).bind fun t e => (toB t e).bind fun b e => .ok (.im (.bl (!b))) e) := rfl
@[simp] theorem eIf_s (fc : FT) (fa fb : FE) (env : En) : eIf fc fa fb env = ((fc env).bind fun b e => bif b then fa e else fb e) := rfl
@[simp] theorem eCh_s (g g' : D → D → Option T) (fa fb fc : FE) (env : En) : eCh g g' fa fb fc env = ((fa env).bind fun ta e1 => (fb e1).bind fun tb e2 => (op2 g ta tb e2).bind fun t e2 => (toB t e2).bind fun b e2 => bif b then (fc e2).bind fun tc e3 => op2 g' tb tc e3 else .ok (.im (.bl false)) e2) := rfl
@[simp] theorem tNp_s  (env : En) : tNp  env = (.ok none env) := rfl
@[simp] theorem tPa_s (fa : FE) (env : En) : tPa fa env = ((fa env).bind toI) := rfl
@[simp] theorem eSl_s (fa : FE) (fl fh : En → R (Option Int)) (env : En) : eSl fa fl fh env = ((fa env).bind fun t e1 => (fl e1).bind fun lo e2 => (fh e2).bind fun hi e3 => slT t lo hi e3) := rfl
@[simp] theorem eCall_s (g : FD) (fa : FA) (env : En) : eCall g fa env = ((fa env).bind fun ts e1 => callT g ts e1) := rfl
@[simp] theorem eCallI_s (k : Nat) (g : FD) (fa : FA) (env : En) : eCallI k g fa env = ((fa env).bind fun ts e1 => callI k g ts e1) := rfl
@[simp] theorem sNx_s  (env : En) : sNx  env = (.nx env) := rfl
@[simp] theorem sSeq_s (f g : FS) (env : En) : sSeq f g env = ((f env).seq g) := rfl
@[simp] theorem sIf_s (ft : FT) (f g : FS) (env : En) : sIf ft f g env = ((ft env).bindF fun b e => bif b then f e else g e) := rfl
@[simp] theorem sRet_s (fa : FE) (env : En) : sRet fa env = ((fa env).bindF fun t e => .rt t e) := rfl
@[simp] theorem sRetN_s  (env : En) : sRetN  env = (.rt (.im .non) env) := rfl
@[simp] theorem sDrop_s (fa : FE) (env : En) : sDrop fa env = ((fa env).bindF fun _ e => .nx e) := rfl
@[simp] theorem sBk_s  (env : En) : sBk  env = (.bk env) := rfl
@[simp] theorem sCt_s  (env : En) : sCt  env = (.ct env) := rfl
@[simp] theorem sAsg_s (fa : FE) (g : FG) (env : En) : sAsg fa g env = ((fa env).bindF fun t e => match g t e with
  | .nx e => .nx e
  | _ => .er) := rfl
@[simp] theorem gN_s (i : Nat) (t : T) (env : En) : gN i t env = (match t with
  | .im d => .nx (env.set i (.im d))
  | .fr ds => .nx (env.set i (.own false ds))
  | .ft cs => .nx (env.set i (.im (.tup (cs.map Cp.d))))
  | .al j => match env[j]? with
    | some (.own false ds) => .nx ((env.set j .no).set i (.own false ds))
    | _ => .er) := rfl
@[simp] theorem gsNil_s  (cs : List Cp) (env : En) : gsNil  cs env = (match cs with
  | [] => .nx env
  | _ => .er) := rfl
@[simp] theorem gsCons_s (g : FG) (gs : FGs) (cs : List Cp) (env : En) : gsCons g gs cs env = (match cs with
  | c :: cs => (g (cpT c) env).seq (gs cs)
  | [] => .er) := rfl
@[simp] theorem gT_s (n : Nat) (gs : FGs) (t : T) (env : En) : gT n gs t env = (match cpsOf t env with
  | some cs => if cs.length = n then gs cs env else .er
  | none => .er) := rfl
@[simp] theorem sPar_s (i j : Nat) (fa : FA) (env : En) : sPar i j fa env = ((fa env).bindF fun ts e => (disp T.ft ts e).bindF fun t e => match t with
  | .ft [c1, c2] => match gsCons (gN i) (gsCons (gN j) gsNil) [c1, c2] e with
    | .nx e => .nx e
    | _ => .er
  | _ => .er) := rfl
@[simp] theorem sAug_s (i : Nat) (g : D → D → Option T) (fa : FE) (env : En) : sAug i g fa env = (match env[i]? with
  | some (.im d) => (fa env).bindF fun t e => (op2 g (.im d) t e).bindF fun t' e2 => match gN i t' e2 with
    | .nx e3 => .nx e3
    | _ => .er
  | _ => .er) := rfl
@[simp] theorem gSb_s (fo fi : FE) (t : T) (env : En) : gSb fo fi t env = (match fo env with
  | .ok to e1 => match fi e1 with
    | .ok ti e2 => match to with
      | .al j => match e2[j]?, ti.val e2, elemD t with
        | some (.own b ds), some (.int k), some d => match ixN ds.length k with
          | some m => .nx (e2.set j (.own b (ds.set m d)))
          | none => .er
        | _, _, _ => .er
      | _ => .er
    | _ => .er
  | _ => .er) := rfl
@[simp] theorem eMet_s (k : List D → List T → En → Option (D × List D × En)) (fo : FE) (fa : FA) (env : En) : eMet k fo fa env = ((fo env).bind fun to e1 => match to with
  | .al j => (fa e1).bind fun ts e2 => metT k (.al j) ts e2
  | _ => .er) := rfl
@[simp] theorem eMet0_s (k : List D → List T → En → Option (D × List D × En)) (fo : FE) (env : En) : eMet0 k fo env = ((fo env).bind fun to e1 => match to with
  | .al j => metT k (.al j) [] e1
  | _ => .er) := rfl
@[simp] theorem fiT_s (fa : FE) (env : En) : fiT fa env = ((fa env).bind iT) := rfl
@[simp] theorem fiL_s (fz : Bool) (fa : FE) (env : En) : fiL fz fa env = ((fa env).bind fun t => iL fz t.weak) := rfl
@[simp] theorem fiR1_s (fa : FA) (env : En) : fiR1 fa env = ((fa env).bind iR1) := rfl
@[simp] theorem fiR2_s (fa : FA) (env : En) : fiR2 fa env = ((fa env).bind iR2) := rfl
@[simp] theorem fiE_s (fz : Bool) (fa : FA) (env : En) : fiE fz fa env = ((fa env).bind (iE fz)) := rfl
@[simp] theorem fiZ_s (fz : Bool) (fa : FA) (env : En) : fiZ fz fa env = ((fa env).bind (iZ fz)) := rfl
theorem sFor_s (fi : FI) (g : FG) (f : FS) (env : En) : sFor fi g f env = ((fi env).bindF fun k e => match k.chk with
  | none => loopF g f k.its e
  | some _ => .er) := rfl
theorem eLc_s (fi : FI) (vs : List Nat) (t : CT) (ft : FT) (fe : FE) (env : En) : eLc fi vs t ft fe env = ((fi env).bind fun k e => (lcL k vs t ft fe k.its [] (wipeE e vs)).bind fun ys e2 => .ok (.fr ys) e2) := rfl
@[simp] theorem tT_s  (env : En) : tT  env = (.ok true env) := rfl

section
variable {α β : Type}
@[simp] theorem c_ok (b : Bool) (x y : α) (e : En) : (bif b then R.ok x e else R.ok y e) = R.ok (bif b then x else y) e := by cases b <;> rfl
@[simp] theorem c_im (b : Bool) (x y : D) : (bif b then T.im x else T.im y) = T.im (bif b then x else y) := by cases b <;> rfl
@[simp] theorem c_bl (b x y : Bool) : (bif b then D.bl x else D.bl y) = D.bl (bif b then x else y) := by cases b <;> rfl
@[simp] theorem c_int (b : Bool) (x y : Int) : (bif b then D.int x else D.int y) = D.int (bif b then x else y) := by cases b <;> rfl
@[simp] theorem c_rt (b : Bool) (x y : T) (e : En) : (bif b then Fl.rt x e else Fl.rt y e) = Fl.rt (bif b then x else y) e := by cases b <;> rfl
@[simp] theorem c_nx (b : Bool) (e : En) : (bif b then Fl.nx e else Fl.nx e) = Fl.nx e := by cases b <;> rfl
@[simp] theorem c_bind (b : Bool) (x y : R α) (g : α → En → R β) : R.bind (bif b then x else y) g = bif b then R.bind x g else R.bind y g := by cases b <;> rfl
@[simp] theorem c_bindF (b : Bool) (x y : R α) (g : α → En → Fl) : R.bindF (bif b then x else y) g = bif b then R.bindF x g else R.bindF y g := by cases b <;> rfl
@[simp] theorem c_seq (b : Bool) (x y : Fl) (g : FS) : Fl.seq (bif b then x else y) g = bif b then Fl.seq x g else Fl.seq y g := by cases b <;> rfl
@[simp] theorem c_fin (b : Bool) (x y : Fl) (e : En) : finF e (bif b then x else y) = bif b then finF e x else finF e y := by cases b <;> rfl
end
@[simp] theorem finF_nx (env e : En) : finF env (.nx e) = finT env (.im .non) e := rfl
@[simp] theorem finF_rt (env e : En) (t : T) : finF env (.rt t e) = finT env t e := rfl
@[simp] theorem finF_ex (env e : En) (x : Str) : finF env (.ex x e) = match outE env e with
    | some o => .ex x o
    | none => .er := rfl
@[simp] theorem shp_int (i : Int) : shp (.int i) = true := rfl
@[simp] theorem shp_bl (i : Bool) : shp (.bl i) = true := rfl
@[simp] theorem shp_non : shp .non = true := rfl

theorem lc_map {k : Wk} {vs : List Nat} {t : CT} {fe : FE} {h : D → D} {env : En} (ok : k.ok env) : ∀ (ds acc : List D), acc.length + ds.length ≤ sizeLine →
    (∀ d ∈ ds, ∃ e1 u e3, envT t d env = some e1 ∧ fe e1 = .ok u e3 ∧ u.weak = .im (h d) ∧ wipeE e3 vs = env) → lcL k vs t tT fe ds acc env = .ok (acc ++ ds.map h) env
  | [], acc, _, _ => by
    unfold lcL
    rw [if_pos ok, List.map_nil, List.append_nil]
  | d :: ds, acc, hl, hd => by
    obtain ⟨e1, u, e3, q1, q2, q3, q4⟩ := hd d List.mem_cons_self
    unfold lcL
    rw [List.length_cons] at hl
    rw [if_pos ⟨ok, by omega⟩, q1]
    simp only [tT, q2, q3, q4]
    rw [lc_map ok ds (acc ++ [h d]) (by rw [List.length_append]; simp; omega) fun x z => hd x (List.mem_cons_of_mem _ z)]
    simp
theorem lc_filter {k : Wk} {vs : List Nat} {t : CT} {ft : FT} {fe : FE} {p : D → Bool} {h : D → D} {env : En} (ok : k.ok env) : ∀ (ds acc : List D), acc.length + ds.length ≤ sizeLine →
    (∀ d ∈ ds, ∃ e1 e2, envT t d env = some e1 ∧ ft e1 = .ok (p d) e2 ∧ wipeE e2 vs = env ∧ (p d = true → ∃ u e3, fe e2 = .ok u e3 ∧ u.weak = .im (h d) ∧ wipeE e3 vs = env)) → lcL k vs t ft fe ds acc env = .ok (acc ++ (ds.filter p).map h) env
  | [], acc, _, _ => by
    unfold lcL
    rw [if_pos ok, List.filter_nil, List.map_nil, List.append_nil]
  | d :: ds, acc, hl, hd => by
    obtain ⟨e1, e2, q1, q2, q3, q4⟩ := hd d List.mem_cons_self
    unfold lcL
    rw [List.length_cons] at hl
    rw [if_pos ⟨ok, by omega⟩, q1]
    have hd' := fun x (z : x ∈ ds) => hd x (List.mem_cons_of_mem _ z)
    cases hp : p d with
    | false =>
      rw [hp] at q2
      simp only [q2, q3]
      rw [lc_filter ok ds acc (by omega) hd', List.filter_cons_of_neg (by simp [hp])]
    | true =>
      rw [hp] at q2
      obtain ⟨u, e3, r1, r2, r3⟩ := q4 hp
      simp only [q2, r1, r2, r3]
      rw [lc_filter ok ds (acc ++ [h d]) (by rw [List.length_append]; simp; omega) hd', List.filter_cons_of_pos hp]
      simp
theorem lc_some {k : Wk} {vs : List Nat} {t : CT} {fe : FE} {Pd : D → D → Prop} {E : Nat → En} (ok : ∀ j, k.ok (E j)) : ∀ (ds acc : List D) (j : Nat), acc.length + ds.length ≤ sizeLine →
    (∀ d ∈ ds, ∀ i, i < j + ds.length → ∃ e1 u e3 y, envT t d (E i) = some e1 ∧ fe e1 = .ok u e3 ∧ u.weak = .im y ∧ Pd d y ∧ wipeE e3 vs = E (i + 1)) → ∃ ys, lcL k vs t tT fe ds acc (E j) = .ok (acc ++ ys) (E (j + ds.length)) ∧ ys.length = ds.length ∧ ∀ (i : Nat) (d : D), ds[i]? = some d → ∃ y, ys[i]? = some y ∧ Pd d y
  | [], acc, j, _, _ => by
    refine ⟨[], ?_, rfl, fun i d e => by simp at e⟩
    unfold lcL
    rw [if_pos (ok j), List.append_nil]
    rfl
  | d :: ds, acc, j, hl, hd => by
    rw [List.length_cons] at hl
    obtain ⟨e1, u, e3, y, q1, q2, q3, q4, q5⟩ := hd d List.mem_cons_self j (by rw [List.length_cons]; omega)
    obtain ⟨ys, r1, r2, r3⟩ := lc_some ok ds (acc ++ [y]) (j + 1) (by rw [List.length_append]; simp; omega) fun x z i hi => hd x (List.mem_cons_of_mem _ z) i (by rw [List.length_cons]; omega)
    refine ⟨y :: ys, ?_, by rw [List.length_cons, List.length_cons, r2], fun i x e => ?_⟩
    · unfold lcL
      rw [if_pos ⟨ok j, by omega⟩, q1]
      simp only [tT, q2, q3, q5]
      rw [r1, List.length_cons, List.append_assoc, show j + 1 + ds.length = j + (ds.length + 1) by omega]
      rfl
    · cases i with
      | zero => cases e; exact ⟨y, rfl, q4⟩
      | succ i => exact r3 i x e
theorem eLc_of {fi : FI} {vs : List Nat} {t : CT} {ft : FT} {fe : FE} {env e e2 : En} {k : Wk} {ys : List D} (h1 : fi env = .ok k e) (h2 : lcL k vs t ft fe k.its [] (wipeE e vs) = .ok ys e2) : eLc fi vs t ft fe env = .ok (.fr ys) e2 := by
  rw [eLc_s, h1, bind_ok, h2]
  rfl
theorem loop_all {g : FG} {f : FS} {I : Nat → En → Prop} {ds : List D} {env : En} (h0 : I 0 env) (step : ∀ (i : Nat) (d : D) e, ds[i]? = some d → I i e → ∃ e1 e2, g (.im d) e = .nx e1 ∧ (f e1 = .nx e2 ∨ f e1 = .ct e2) ∧ I (i + 1) e2) : ∃ e, loopF g f ds env = .nx e ∧ I ds.length e := by
  have key : ∀ (rs : List D) (i : Nat) (e : En), ds.drop i = rs → I i e → ∃ e', loopF g f rs e = .nx e' ∧ I (i + rs.length) e' := by
    intro rs
    induction rs with
    | nil => exact fun i e _ h => ⟨e, rfl, h⟩
    | cons d rs ih =>
      intro i e hd h
      have hi : ds[i]? = some d := by
        have := List.getElem?_drop (xs := ds) (i := i) (j := 0)
        rw [hd] at this
        simpa using this.symm
      obtain ⟨e1, e2, q1, q2, q3⟩ := step i d e hi h
      have hd' : ds.drop (i + 1) = rs := by
        rw [← List.drop_drop, hd]
        rfl
      obtain ⟨e', r1, r2⟩ := ih (i + 1) e2 hd' q3
      refine ⟨e', ?_, by rw [List.length_cons, show i + (rs.length + 1) = i + 1 + rs.length by omega]; exact r2⟩
      unfold loopF
      rcases q2 with q2 | q2 <;> simp only [q1, q2] <;> exact r1
  obtain ⟨e, q1, q2⟩ := key ds 0 env (by simp) h0
  exact ⟨e, q1, by simpa using q2⟩
@[simp high] theorem dAll_map (p : D → Bool) (ds : List D) : dAll [.lst (ds.map fun d => .bl (p d))] = some (.im (.bl (ds.all p))) := by
  rw [dAll_lst, show (ds.map fun d => D.bl (p d)) = (ds.map p).map D.bl by rw [List.map_map]; rfl, blsOf_map]
  simp [List.all_map, Function.comp_def]
@[simp high] theorem dAny_map (p : D → Bool) (ds : List D) : dAny [.lst (ds.map fun d => .bl (p d))] = some (.im (.bl (ds.any p))) := by
  rw [dAny_lst, show (ds.map fun d => D.bl (p d)) = (ds.map p).map D.bl by rw [List.map_map]; rfl, blsOf_map]
  simp [List.any_map, Function.comp_def]
end DL
namespace DL
open PySem PySem.Spec L2 PyProof.Rows
section
variable {X : Cx} {c : Cc}
end
end DL
namespace DL
open PySem PySem.Spec L2
section
variable {X : Cx} {c : Cc}
end
section
variable {X : Cx} {c : Cc}
end
end DL
namespace DL
open PySem PySem.Spec L2
section
variable {X : Cx} {c : Cc} {W : WX} {pos : Pos} {cnd : Expr} {body : List Stmt} {ft : FT} {f : FS}
end
section
variable {X : Cx} {c : Cc} {W : WX} {pos p : Pos} {e tg a b : Expr} {fa : FE} {fas : FA}
end
end DL
namespace DL
open PySem PySem.Spec L2
section
variable {X : Cx} {c : Cc}
end
section
variable {X : Cx} {c : Cc} {W : WX} {a : Expr} {fa : FE} {p p2 q pos : Pos}
end
def rCountD (K : PySem.W.Frag) : V → List V → Hp → VK → Prop := fun x xs H Q => ∃ (a : Addr) (ys : List V) (y : V) (d : PyData) (ds : List PyData), x = V.ref a ∧ xs = [y] ∧ SqL K H a ys ∧ DpAll K H ys ds ∧ Dp K H y d ∧
  PyData.plainAll ds = true ∧ d.plain = true ∧ d.depth ≤ 60 ∧ Q (.int ((ds.countP fun z => PyData.eqv z d : Nat) : Int)) H
theorem mt_countD {X : Cx} (hu : X.A.units + 65 < cLine) : MtR X "list.count" (rCountD X.K) := by
  intro pins s σ H x xs v us Q I rx rxs h
  obtain ⟨a, ys, y, d, ds, rfl, rfl, hl, hys, hy, pl, pd, hd, q⟩ := h
  cases rx
  cases rxs with
  | cons ry rt =>
    cases rt
    obtain ⟨bs, r1⟩ := Dp.reads I d y _ hy ry
    obtain ⟨its, rv, hl', hz⟩ := I.list hl
    obtain ⟨as, r2⟩ := Dp.readsAll I _ _ _ hys rv
    refine PySem.SeqAt.count_list_data hl'.isList r2 r1 pl pd ?_ ⟨.int _, H, I.tok _, ⟨_, rfl⟩, q⟩
    have : min (PyData.depthAll ds) d.depth ≤ d.depth := Nat.min_le_right _ _
    omega
end DL
namespace DL
open PySem PySem.Spec PyProof PyProof.Rows L2
def rvN (n : Nat) : Option Int → Nat
  | none => n
  | some i => (max (-1) (min (if i < 0 then i + (n : Int) else i) ((n : Int) - 1)) + 1).toNat
section
variable {prog : Program} {w : World} {A : Around} {E : Value → Shared → Prop} {s : Shared}
end
def rvV {α : Type} (xs : List α) (o : Option Int) : List α := (xs.take (rvN xs.length o)).reverse
section
variable {X : Cx} {e : Expr} {te : TE} {lo : Option Expr} {tl : TO} {k : Nat} {p1 p2 p3 pos : Pos}
end
def dRv (d : D) (o : Option Int) : Option T := match d with
  | .tup ds => some (.im (.tup (rvV ds o)))
  | .lst ds => some (.fr (rvV ds o))
  | _ => none
def rvT (t : T) (o : Option Int) (env : En) : R T := match t.val env with
  | some d => R.opt (dRv d o) env
  | none => .er
@[simp] theorem dRv_tup (ds : List D) (o : Option Int) : dRv (.tup ds) o = some (.im (.tup (rvV ds o))) := rfl
@[simp] theorem dRv_lst (ds : List D) (o : Option Int) : dRv (.lst ds) o = some (.fr (rvV ds o)) := rfl
def eRv (fa : FE) (fl : En → R (Option Int)) : FE := fun env => (fa env).bind fun t e1 => (fl e1).bind fun o e2 => rvT t o e2
@[simp] theorem eRv_s (fa : FE) (fl : En → R (Option Int)) (env : En) : eRv fa fl env = (fa env).bind fun t e1 => (fl e1).bind fun o e2 => rvT t o e2 := rfl
section
variable {X : Cx} {c : Cc} {W : WX} {a : Expr} {fa : FE} {fl : En → R (Option Int)} {lo : Option Expr} {k : Nat} {p1 p2 p3 pos : Pos}
theorem Reps.rv {K : PySem.W.Frag} {G : Addr → Prop} {H : Hp} {xs : List V} {ds : List D} (r : Reps K G H xs ds) (o : Option Int) : Reps K G H (rvV xs o) (rvV ds o) := by
  unfold rvV
  rw [r.length]
  exact (r.take _).reverse
end
end DL
namespace DL
open PySem PySem.Spec PyProof PyProof.Rows PySem.W L2
section
variable {prog : Program} {w : World} {A : Around} {E : Value → Shared → Prop} {s : Shared}
end
end DL
namespace DL
open PySem PySem.Spec PyProof.Rows L2
def ExcK (K : PySem.W.Frag) (mg : Str → Option Value) (x : Str) : Prop := ∃ C : Addr, mg x = some (.ref C) ∧ PySem.W.excIn K C [.type "ValueError", .type "Exception", .type "BaseException", .type "object"] "ValueError.__new__" = true ∧
  PySem.W.keepIn K (.ref C) = true ∧ PySem.W.subIn K (.ref C) (.type "BaseException") = some true ∧ PySem.W.typeIn K (.ref C) = some (.type "type")
def sRz (x : Str) : FS := fun env => .ex x env
@[simp] theorem sRz_s (x : Str) (env : En) : sRz x env = .ex x env := rfl
section
variable {X : Cx} {c : Cc} {W : WX}
theorem ds_raise {x m : Str} {j : Nat} {p p2 pos pos' : Pos} (hc : X.calm = true) (tk : Takes X W) (xk : ExcK X.K X.mg x) (hg : Gl X x) (hM : c.mg = X.mg := by rfl) (hdb : (x == ("__debug__" : Str)) = false := by decide) :
    PS X (.Raise (some (.Call (.Name x p) [.Constant (.str m) j p2] [] pos)) none pos') (dS c W (sRz x)) := by
  obtain ⟨C, gC, eC, kC, bC, tC⟩ := xk
  refine PSw (ps_raise hc tk (pmk_own PySem.F.excBase_ValueError eC gC kC (raises_own bC tC) hg hdb)) fun D σ H h => ?_
  obtain ⟨env, L, r, h⟩ := h
  exact h σ H r .refl C (by rw [hM]; exact gC)
end
open L2H in
structure FnX (P : Program) (w : World) (K : PySem.W.Frag) (mg : Str → Option Value) (base : Heap) (CX : CXT) (k : Nat) (f : Addr) (fd : FuncData) (ps : List Str) (sp : Addr × Obj → Sp) : Prop where
  len : ∀ p vs H Q E, sp p vs H Q E → vs.length = ps.length
  run : ∀ (A : Around) (outer : List Env) (s : Shared) (H : Hp) (args : Args) (us : List Value) (vs : List V) (Q : VK) (E : XK) (p : Addr × Obj), RoomH k A → PinOk outer H s p → Env0 P w K mg base A outer s H → BindsTo s fd args (ps.zip us) → Vals vs us → sp p vs H Q E →
    codeAny (model P w) A (.call (.ref f) args) (CR CX outer P w H s Q E) s
open L2H in
theorem fn_ofX {CX : CXT} {P : Program} {w : World} {K : PySem.W.Frag} {mg : Str → Option Value} {base : Heap} {k : Nat} {f : Addr} {name qual : Str} {params : Arguments} {body : List Stmt} {scope : Scope} {dV kV doc pm cdv ct oc : Value} {an od : Option Addr}
    {osl : Array (Option Value)} {N ps : List Str} {sp : Addr × Obj → Sp} (lk : K.lookup f = some ⟨oc, od, .func (PySem.W.fnOf name qual params body scope dV kV doc pm an cdv ct), osl⟩) (hcd : PySem.W.codeIn K cdv qual = true) (S : FnScope N ps scope)
    (len : ∀ p vs H Q E, sp p vs H Q E → vs.length = ps.length)
    (hbody : ∀ (A : Around) (outer : List Env) (s : Shared) (H : Hp) (vs : List V) (Q : VK) (E : XK) (p : Addr × Obj), RoomH k (A.deeper (envOfC qual scope s.heap.objs.size f cdv)) → sp p vs H Q E →
      ∃ t, PSs (cxH CX P w K mg base N qual scope f cdv A outer s H E p) body t ∧ t { nx := fun _ H' => Q .non H', rt := Q } (L2.start N vs) H) :
    FnX P w K mg base CX (k + 1) f (PySem.W.fnOf name qual params body scope dV kV doc pm an cdv ct) ps sp := by
  refine ⟨len, fun A outer s H args us vs Q E p hr hpin e0 hb r hsp => ?_⟩
  have hl := len _ _ _ _ _ hsp
  have KX : K.In s.heap := e0.mod.kin.keeps fun b o e => (e0.bs b o e).1
  have lim : s.heap.NoLimit := e0.mod.nolimit.keeps fun b o e => (e0.bs b o e).1
  have hkind : ∀ y ∈ ps.zip us, scope.names.lookup y.1 = some .local ∨ (scope.names.lookup y.1 = some .cell ∧ ((cellsFrom (s.heap.objs.size + 1) scope.names []).lookup y.1).isSome = true) := fun ⟨n, v⟩ hy => by
    rcases S.par n (List.of_mem_zip hy).1 with q | q
    · exact .inl q
    · exact .inr ⟨q, PySem.W.cellsFrom_some _ _ _ (.inl q)⟩
  refine codeAny_call_function hr.depth (KX _ _ lk) rfl S.co S.gen rfl (PySem.W.codeRec_of KX hcd) (hb _ _ _ _ ?_)
  refine wpAny_newFunctionEnv_cells S.kind hkind fun env he s1 x => ?_
  subst he
  refine ⟨lim.keeps x.toInCall.keep, codeAny_func ?_⟩
  obtain ⟨t, ht, hq⟩ := hbody A outer s H vs Q E p (hr.deeper _) hsp
  have I : Inv (cxH CX P w K mg base N qual scope f cdv A outer s H E p) [] (L2.start N vs) H s1 := inv_startH S hpin e0 hl r x
  refine wpAny_mono (ht.run [] s1 (L2.start N vs) H _ I hq) (fun fl s' hs => ?_) fun e s' hs => hs
  have fin : ∀ {σ' : L2.St} {H' : Hp} {v : V} {u : Value}, Inv (cxH CX P w K mg base N qual scope f cdv A outer s H E p) [] σ' H' s' → RelV v u → Q v H' → CE outer P w H s Q u s' :=
    fun {σ' H' v u} J rv q => ⟨v, H', J.os, J.bare, J.base, J.hok, rv, q⟩
  cases fl with
  | ret u =>
    obtain ⟨v, σ', H', J, rv, q⟩ := hs
    exact fin J rv q
  | next =>
    obtain ⟨σ', H', J, q⟩ := hs
    exact fin (v := V.non) (u := Value.none) J rfl q
  | brk =>
    obtain ⟨_, _, _, q⟩ := hs
    exact False.elim q
  | cont =>
    obtain ⟨_, _, _, q⟩ := hs
    exact False.elim q
section
variable {X : Cx} {CX : CXT} {k : Nat} {f C : Addr} {fd : FuncData} {ps : List Str} {sp : Addr × Obj → Sp} {E : L2.St → XK} {x m : Str} {q pos apos : Pos} {e o : Expr} {es : List Expr} {ta : TE} {t : TA}
open L2H in
theorem run_fnX {pins : List (Addr × Obj)} {σ : L2.St} {H : Hp} {s : Shared} {Q : VK} {us : List Value} {vs : List V} {p : Addr × Obj} (F : FnX X.prog X.w X.K X.mg X.base CX k f fd ps sp) (hr : RoomH k X.A) (hp : p ∈ X.pn) (hb : Binds X.K fd ps []) (hx : PassesAt CX X σ (E σ))
    (I : Inv X pins σ H s) (r : Vals vs us) (h : sp p vs H Q (E σ)) : wpAny (model X.prog X.w) X.A (call (.ref f) us) (EP X pins σ Q) X.xe s := by
  have hl : us.length = ps.length := by rw [← r.length]; exact F.len _ _ _ _ _ h
  have b := hb s us I.kIn (by rw [List.append_nil]; exact hl)
  rw [List.append_nil] at b
  have P1 := I.pin p (List.mem_append_left _ hp)
  have hpin : PinOk X.stack H s p := ⟨P1.1, P1.2.1, fun hm => (List.mem_cons.mp (I.stkSub p.1 hm)).elim P1.2.2.1 P1.2.2.2.1, P1.2.2.2.2⟩
  refine wpAny_call (codeAny_mono (F.run X.A X.stack s H ⟨us, []⟩ us vs Q (E σ) p hr hpin I.env0 b r h) fun r s' hq => ?_)
  cases r with
  | error e => exact hx pins H s e s' I hq
  | ok fl =>
    cases fl with
    | ret u => exact I.after hq
    | next => exact False.elim hq
    | brk => exact False.elim hq
    | cont => exact False.elim hq
open L2H in
theorem pe_callX {p : Addr × Obj} (F : FnX X.prog X.w X.K X.mg X.base CX k f fd ps sp) (hr : RoomH k X.A) (hp : p ∈ X.pn) (hg : Gl X x) (hm : X.mg x = some (.ref f)) (hk : PySem.W.keepIn X.K (.ref f) = true) (hb : Binds X.K fd ps []) (hx : ∀ σ, PassesAt CX X σ (E σ))
    (ha : PA X (e :: es) t) (hdb : (x == ("__debug__" : Str)) = false := by decide) (he : starEach (e :: es) X.env = (false, eval e X.env) :: starEach es X.env := by rfl) (hpl : (backTo pos (starEach es X.env)).any (·.1) = false := by rfl) :
    PE X (.Call (.Name x q) (e :: es) [] pos) (tCallS (sp p) E t) := by
  refine ⟨fun pins s σ H Q I h => ?_⟩
  refine wpAny_Call_Name_kw (ld_glob I hg hm ?_ hdb)
  refine PySem.W.callWith_K (h₀ := X.base) I.ok.mod.kin hk (thn (ha.run pos pins s σ H _ I h) fun us s1 ⟨vs, H1, I1, r, q⟩ => ⟨I1.kIn, ?_⟩) he hpl
  exact run_fnX F hr hp hb (hx σ) I1 r q
end
theorem call_isX {X : Cx} {a D : Addr} {oe : Obj} (hp : (a, oe) ∈ X.pn) (C : ExcC X.K D) (hz : Zc (.ref D) none oe) (hf : ∃ vs, oe.data = .fields vs) : CallR X (.builtin "isinstance") (rIsE X.K D a) := by
  intro pins s σ H xs us Q I r h
  obtain ⟨c, cv, b, rfl, hcv, e, q⟩ := h
  cases r with
  | cons rx rr =>
    cases rr with
    | cons rt rr =>
      cases rr
      cases rx
      have ec := hcv _ rt
      subst ec
      obtain ⟨hget, _⟩ := I.pin (a, oe) (List.mem_append.mpr (.inl hp))
      obtain ⟨vs, hv⟩ := hf
      have J : PySem.W.InstAt s.heap a oe D none := by
        obtain ⟨oc, od, oda, osl⟩ := oe
        obtain ⟨h1, h2⟩ := hz
        dsimp only at h1 h2 hv
        subst h1 h2 hv
        exact ⟨hget, rfl, rfl, trivial⟩
      exact PySem.W.kia_one (PySem.W.handS_kitx_exc C.hg C.hk C.hs C.hd C.ha C.hn C.ht C.hm) I.kIn J e (fun z => nomatch z) fun tk => ⟨.bl b, H, I.kept (t' := tk) fun _ _ z => z, rfl, q⟩
end DL
namespace DL
open PySem PySem.Spec PyProof.Rows L2
def xn : List Str := ["InvalidShop", "InvalidBasket", "InvalidActs", "InvalidAct", "InvalidOffers", "InvalidKinds", "InvalidNumber", "Different", "NoFault", "NotThere", "NothingToUndo", "ParseError"]
structure XF (K : PySem.W.Frag) (P C : Addr) : Prop where
  cd : ∃ cd, PySem.W.clsIn K C = some cd ∧ cd.mro = [.ref C, .ref P, .type "ValueError", .type "Exception", .type "BaseException", .type "object"]
  ty : PySem.W.typeIn K (.ref C) = some (.type "type")
  hg : PySem.W.findIn K (.ref C) "__getattribute__" = some (some (.builtin "BaseException.__getattribute__"))
  hk : PySem.W.findIn K (.ref C) "__getattr__" = some none
  hd : PySem.W.hasDictIn K C = true
  ha : PySem.W.findIn K (.ref C) "__class__" = some (some (.builtin "object.__class__"))
inductive XFs (K : PySem.W.Frag) (mg : Str → Option Value) (P : Addr) : List Str → List Addr → Prop
  | nil : XFs K mg P [] []
  | cons {x C xs cs} (g : mg x = some (.ref C)) (f : XF K P C) (r : XFs K mg P xs cs) : XFs K mg P (x :: xs) (C :: cs)
theorem XFs.get {K : PySem.W.Frag} {mg : Str → Option Value} {P : Addr} : ∀ {xs : List Str} {cs : List Addr}, XFs K mg P xs cs → ∀ {j : Nat} {x : Str}, xs[j]? = some x → ∃ C, cs[j]? = some C ∧ mg x = some (.ref C) ∧ XF K P C
  | _, _, .nil, j, x, h => by simp at h
  | _, _, .cons g f r, 0, x, h => by simp at h; subst h; exact ⟨_, rfl, g, f⟩
  | _, _, .cons g f r, j + 1, x, h => by simpa using XFs.get r (by simpa using h)
structure Exn (K : PySem.W.Frag) (mg : Str → Option Value) (P : Addr) (cs : List Addr) : Prop where
  xs : XFs K mg P xn cs
  nd : (P :: cs).Nodup
  gP : mg "PriceError" = some (.ref P)
  bP : PySem.W.subIn K (.ref P) (.type "BaseException") = some true
  iP : PySem.W.isClsIn K P = true
  tP : PySem.W.typeIn K (.ref P) = some (.type "type")
  hn : PySem.W.specialIn K (.builtin "object.__class__") "__get__" = some (some (.builtin "getset_descriptor.__get__"))
  ht : PySem.W.takesIn K (.builtin "object.__class__") = some true
section
variable {K : PySem.W.Frag} {mg : Str → Option Value} {P C : Addr} {cs : List Addr}
theorem XFs.len : ∀ {xs : List Str} {cs : List Addr}, XFs K mg P xs cs → cs.length = xs.length
  | _, _, .nil => rfl
  | _, _, .cons _ _ r => congrArg (· + 1) (XFs.len r)
theorem XFs.at : ∀ {xs : List Str} {cs : List Addr}, XFs K mg P xs cs → ∀ {j : Nat} {C : Addr}, cs[j]? = some C → XF K P C
  | _, _, .nil, j, C, h => by simp at h
  | _, _, .cons _ f r, 0, C, h => by simp at h; subst h; exact f
  | _, _, .cons _ f r, j + 1, C, h => XFs.at r (by simpa using h)
theorem Exn.len (x : Exn K mg P cs) : cs.length = 12 := x.xs.len
theorem Exn.at (x : Exn K mg P cs) {j : Nat} {C : Addr} (h : cs[j]? = some C) : XF K P C := x.xs.at h
theorem XF.sub (f : XF K P C) (b : Value) : PySem.W.subIn K (.ref C) b = some ([Value.ref C, .ref P, .type "ValueError", .type "Exception", .type "BaseException", .type "object"].contains b) := by
  obtain ⟨cd, h1, h2⟩ := f.cd
  show PySem.W.mroIn K C b = _
  unfold PySem.W.mroIn
  rw [h1, Option.bind_some, h2]
  rfl
theorem XF.is (f : XF K P C) : PySem.W.isClsIn K C = true := by
  obtain ⟨cd, h1, h2⟩ := f.cd
  unfold PySem.W.isClsIn
  rw [h1]
  rfl
theorem Exn.excC (x : Exn K mg P cs) (f : XF K P C) : ExcC K C := ⟨f.hg, f.hk, by rw [f.sub]; rfl, f.hd, f.ha, x.hn, x.ht, by
  have := f.sub (.type "object")
  exact this.trans rfl⟩
theorem kitCls_ref {t : Value} {D : Addr} {b : Bool} (h1 : PySem.W.isClsIn K D = true) (h2 : PySem.W.typeIn K (.ref D) = some (.type "type")) (h3 : PySem.W.subIn K t (.ref D) = some b) : PySem.W.kitCls K t (.ref D) = some b := by
  show (if ((PySem.W.clsIn K D).isSome && PySem.W.typeIn K (.ref D) == some (.type "type")) = true then PySem.W.subIn K t (.ref D) else none) = some b
  have e1 : (PySem.W.clsIn K D).isSome = true := h1
  rw [e1, h2, if_pos (by rfl)]
  exact h3
theorem Exn.kit (x : Exn K mg P cs) {i j : Nat} {C D : Addr} (hi : cs[i]? = some C) (hj : cs[j]? = some D) (fC : XF K P C) (fD : XF K P D) : PySem.W.kitOne K (.ref C) (.ref D) = some (decide (i = j)) := by
  have hil := (List.getElem?_eq_some_iff.mp hi).1
  have hjl := (List.getElem?_eq_some_iff.mp hj).1
  have nd := x.nd
  rw [List.nodup_cons] at nd
  have np : (Value.ref P == Value.ref D) = false := Bool.eq_false_iff.mpr fun q => by
    have e := Value.ref.inj (beq_iff_eq.mp q)
    exact nd.1 (by rw [e]; exact List.mem_of_getElem? hj)
  unfold PySem.W.kitOne
  by_cases e : i = j
  · subst e
    rw [hi] at hj
    cases hj
    rw [if_pos (beq_self_eq_true _), decide_eq_true rfl]
  · have nc : (Value.ref C == Value.ref D) = false := Bool.eq_false_iff.mpr fun q => by
      have e' := Value.ref.inj (beq_iff_eq.mp q)
      subst e'
      exact e ((List.getElem?_inj hil nd.2).mp (hi.trans hj.symm))
    rw [if_neg (by rw [nc]; exact Bool.false_ne_true), decide_eq_false e]
    refine kitCls_ref fD.is fD.ty ?_
    rw [fC.sub]
    have n1 : (Value.ref D == Value.ref C) = false := by rw [BEq.comm]; exact nc
    have n2 : (Value.ref D == Value.ref P) = false := by rw [BEq.comm]; exact np
    simp only [List.contains_cons, n1, n2, Bool.false_or]
    rfl
theorem Exn.kitV (x : Exn K mg P cs) (fC : XF K P C) : PySem.W.kitOne K (.ref C) (.type "ValueError") = some true := by
  unfold PySem.W.kitOne
  have e : (Value.ref C == Value.type "ValueError") = false := rfl
  rw [e, if_neg Bool.false_ne_true]
  show (if PySem.W.kitMeta "ValueError" = true then PySem.W.subIn K (.ref C) (.type "ValueError") else none) = some true
  have m : PySem.W.kitMeta "ValueError" = true := by decide +kernel
  rw [if_pos m, fC.sub]
  have n1 : (Value.type "ValueError" == Value.ref C) = false := rfl
  have n2 : (Value.type "ValueError" == Value.ref P) = false := rfl
  simp only [List.contains_cons, n1, n2, Bool.false_or]
  rfl
theorem Exn.exm (x : Exn K mg P cs) (fC : XF K P C) : PySem.W.exmOne K (.ref C) (.ref P) = some true := by
  unfold PySem.W.exmOne
  rw [x.bP, if_pos (by rfl)]
  refine kitCls_ref x.iP x.tP ?_
  rw [fC.sub]
  simp
end
end DL
namespace DL
open PySem PySem.Spec PyProof.Rows L2
def spWhich (cs : List Addr) (p : Addr × Obj) : Sp := fun vs H Q E => vs = [.ref p.1] ∧ ∃ (C : Addr) (j : Nat), cs[j]? = some C ∧ Zc (.ref C) none p.2 ∧ (∃ vs, p.2.data = .fields vs) ∧
  ∀ t H', (∀ b o, H b = some o → H' b = some o) → H t = none → H' t = some (.tup [.str "raised", .int (j : Nat)]) → Q (.ref t) H'
theorem spWhich_len {cs : List Addr} : ∀ p vs H Q E, spWhich cs p vs H Q E → vs.length = ["_law_e"].length := fun p vs H Q E h => by
  rw [h.1]
  rfl
def tryE (i : Nat) (x : Str) (e : En) : Fl := if i < e.length then (match xn.idxOf? x with
  | some j => .rt (.im (.tup [.str "raised", .int (j : Nat)])) e
  | none => .er) else .er
def sTry (i : Nat) (f : FS) : FS := fun env => match f env with
  | .ex x e => tryE i x e
  | r => r
def tSuite (cs : List Addr) (i : Nat) : Addr → Value → Option Addr → TS := fun a cls d D σ H => ∃ (C : Addr) (j : Nat), cls = .ref C ∧ d = none ∧ cs[j]? = some C ∧ σ[i]? = some (some (.ref a)) ∧
  ∀ t H', (∀ b o, H b = some o → H' b = some o) → H t = none → H' t = some (.tup [.str "raised", .int (j : Nat)]) → D.rt (.ref t) H'
theorem xn_get {x : Str} {j : Nat} (h : xn.idxOf? x = some j) : xn[j]? = some x := by
  rw [List.idxOf?, List.findIdx?_eq_some_iff_getElem] at h
  obtain ⟨h1, h2, _⟩ := h
  rw [List.getElem?_eq_getElem h1]
  exact congrArg some (beq_iff_eq.mp h2)
section
variable {X : Cx} {c : Cc} {Wout : WX} {n : Str} {i k : Nat} {body : List Stmt} {np pos pos' q1 q2 q3 q4 : Pos} {f : FS} {P a : Addr} {cs : List Addr} {fd : FuncData}
theorem ds_try (FW : FnX X.prog X.w X.K X.mg X.base (L2.CX X.prog X.w) k a fd ["_law_e"] (spWhich cs)) (hr : L2H.RoomH k X.A) (hg : Gl X "_law_which") (hm : X.mg "_law_which" = some (.ref a)) (hk : PySem.W.keepIn X.K (.ref a) = true) (hb : Binds X.K fd ["_law_e"] [])
    (xs : Exn X.K X.mg P cs) (hgP : Gl X "PriceError") (hs : X.stack = X.env :: X.outer) (hf : X.env.frame = some X.env.locals) (hN : X.N.Nodup) (hi : X.N[i]? = some n) (hln : X.env.kindOf n = some .local) (hv : Vis X.env.scope n) (hd1 : (n == ("__debug__" : Str)) = false) (hd2 : (n == ("__classdict__" : Str)) = false)
    (tk : Takes X Wout) (hM : c.mg = X.mg)
    (hbd : ∀ (W : WX) (pn : List (Addr × Obj)) (xe : Value → Shared → Prop), Takes (X.tr pn xe) W → PassesOwn (model X.prog X.w) X.A X.env xe → PSs (X.tr pn xe) body (dS c W f)) :
    PS X (.Try body [.ExceptHandler (some (.Name "PriceError" np)) (some n) [.Return (some (.Call (.Name "_law_which" q1) [.Name n q2] [] q3)) q4] pos'] [] [] pos) (dS c Wout (sTry i f)) := by
  refine PSw (ps_try_as (c := .ref P) (tb := fun W => dS c W f) (ts := tSuite cs i) hs hf hN hi hln ⟨hgP, by decide, .inl xs.gP⟩ tk hbd (fun a' oe cls d pn hz hfd => ?_)) fun D σ H h => ?_
  · refine PSsw (pss_one (ps_ret (pe_callX (X := X.suite a' ((a', oe) :: pn)) (p := (a', oe)) (E := fun _ _ _ _ => False) FW ⟨hr.dp, hr.un⟩ List.mem_cons_self hg hm hk hb (fun σ pins H s e s' I cx => ?_) (pa_cons (pe_var hi hv hd1 hd2) pa_nil)))) fun D σ H h => ?_
    · obtain ⟨_, _, _, _, _, _, _, _, _, _, _, _, z⟩ := cx
      exact z.elim
    · obtain ⟨C, j, rfl, rfl, hj, hσ, q⟩ := h
      exact ⟨_, hσ, rfl, C, j, hj, hz, hfd, q⟩
  · obtain ⟨env, L, r, h⟩ := h
    refine dS.of r ?_
    unfold sTry at h
    cases e : f env with
    | er => rw [e] at h; exact h
    | nx e' => rw [e] at h; exact h
    | bk e' => rw [e] at h; exact h
    | ct e' => rw [e] at h; exact h
    | rt t e' => rw [e] at h; exact h
    | ex x e' =>
      rw [e] at h
      dsimp only [tryE] at h
      by_cases hl0 : i < e'.length
      case neg => rw [if_neg hl0] at h; exact h.elim
      rw [if_pos hl0] at h
      cases ej : xn.idxOf? x with
      | none => rw [ej] at h; exact h.elim
      | some j =>
        rw [ej] at h
        dsimp only at h
        intro σ' H' re st C hC
        obtain ⟨C', hc', g', f'⟩ := xs.xs.get (xn_get ej)
        rw [hM] at hC
        have eC : C' = C := by
          rw [g'] at hC
          exact Value.ref.inj (Option.some.inj hC)
        subst eC
        refine ⟨true, xs.exm f', fun _ a na => ⟨C', j, rfl, rfl, hc', ?_, fun t H'' kp nt et => ?_⟩, fun z => nomatch z⟩
        · exact List.getElem?_set_self (by rw [← re.len]; exact hl0)
        · exact h (.ref t) σ' H'' (re.grow kp) (st.trans (.grow kp)) (.tup (xs := [.str "raised", .int (j : Nat)]) (.inl (.inl et)) (.cons (.str _) (.cons (.int _) .nil)))
end
end DL
namespace DL
open PySem PySem.Spec L2
theorem bo_isinstance : bootBuiltins "isinstance" = some (.builtin "isinstance") := by decide +kernel
theorem bo_ValueError : bootBuiltins "ValueError" = some (.type "ValueError") := by decide +kernel
section
variable {K : PySem.W.Frag} {a C D1 D2 D3 : Addr} {b b1 b2 b3 : Bool} {σ : St} {H : Hp}
abbrev tI (K : PySem.W.Frag) (C a : Addr) (v : V) : TE := tCB (rIsE K C a) (tCons (tVar 0) (tCons (tC v) tNil))
theorem rd_is {Q : VK} {v : V} {u : Value} (h0 : σ[0]? = some (some (.ref a))) (hv : ∀ w, RelV v w → w = u) (hk : PySem.W.kitOne K (.ref C) u = some b) (q : Q (.bl b) H) : tI K C a v σ H Q :=
  ⟨_, h0, _, u, b, rfl, hv, hk, q⟩
theorem rel_me {D : Addr} : RelV (.ref D) (.ref D) := rfl
theorem rel_ref {D : Addr} : ∀ w, RelV (.ref D) w → w = .ref D := fun w h => h
theorem rd_list3 {Q : VK} (h0 : σ[0]? = some (some (.ref a))) (k1 : PySem.W.kitOne K (.ref C) (.ref D1) = some b1) (k2 : PySem.W.kitOne K (.ref C) (.ref D2) = some b2) (k3 : PySem.W.kitOne K (.ref C) (.ref D3) = some b3)
    (q : ∀ p, H p = none → Q (.ref p) (upd H p (.lst ([b1, b2, b3].map V.bl)))) : tLst (tCons (tI K C a (.ref D1)) (tCons (tI K C a (.ref D2)) (tCons (tI K C a (.ref D3)) tNil))) σ H Q :=
  rd_is h0 rel_ref k1 (rd_is h0 rel_ref k2 (rd_is h0 rel_ref k3 ⟨by show (3 : Nat) ≤ sizeLine; decide, q⟩))
theorem rd_ext3 {Q : VK} {l : Addr} {bs : List Bool} (h0 : σ[0]? = some (some (.ref a))) (h1 : σ[1]? = some (some (.ref l))) (hl : H l = some (.lst (bs.map V.bl))) (hb : bs.length ≤ 100) (k1 : PySem.W.kitOne K (.ref C) (.ref D1) = some b1) (k2 : PySem.W.kitOne K (.ref C) (.ref D2) = some b2) (k3 : PySem.W.kitOne K (.ref C) (.ref D3) = some b3)
    (q : ∀ H', (∀ b o, b ≠ l → H b = some o → H' b = some o) → H' l = some (.lst ((bs ++ [b1, b2, b3]).map V.bl)) → Q .non H') :
    tBM K "list" rExtend (tVar 1) (tCons (tLst (tCons (tI K C a (.ref D1)) (tCons (tI K C a (.ref D2)) (tCons (tI K C a (.ref D3)) tNil)))) tNil) σ H Q := by
  refine ⟨V.ref l, h1, Or.inl ⟨rfl, _, SqL.of hl⟩, rd_list3 h0 k1 k2 k3 fun p np => ?_⟩
  have ne : l ≠ p := ne_of_none hl np
  refine ⟨l, p, _, _, rfl, rfl, by rw [upd_ne ne]; exact hl, upd_same, ?_, ?_⟩
  · rw [List.length_map, List.length_map]
    refine Nat.le_trans (show bs.length + 3 ≤ 103 from Nat.add_le_add_right hb 3) (line6 (by decide))
  · rw [← List.map_append]
    refine q _ (fun b o nb e => ?_) upd_same
    rw [upd_ne nb, upd_ne (ne_of_none e np)]
    exact e
theorem reps_bls {G : Addr → Prop} : ∀ bs : List Bool, Reps K G H (bs.map V.bl) (bs.map D.bl)
  | [] => .nil
  | b :: bs => .cons (.bl b) (reps_bls bs)
theorem plain_bls : ∀ bs : List Bool, PyData.plainAll (toPs (bs.map D.bl)) = true
  | [] => rfl
  | b :: bs => plain_bls bs
theorem rd_count {Q : VK} {l : Addr} {bs : List Bool} (h1 : σ[1]? = some (some (.ref l))) (hl : H l = some (.lst (bs.map V.bl))) (q : Q (.int (bs.countP id : Nat)) H) :
    tBM K "list" (rCountD K) (tVar 1) (tCons (tC (.bl true)) tNil) σ H Q := by
  refine ⟨V.ref l, h1, Or.inl ⟨rfl, _, SqL.of hl⟩, l, bs.map V.bl, .bl true, .bool true, toPs (bs.map D.bl), rfl, rfl, .of hl, Reps.dp (G := fun _ => True) (reps_bls bs) (plain_bls bs), .bl true, plain_bls bs, rfl, by decide, ?_⟩
  have e : (toPs (bs.map D.bl)).countP (fun z => PyData.eqv z (.bool true)) = bs.countP id := by
    rw [toPs_map, List.map_map, List.countP_map]
    refine List.countP_congr fun b _ => ?_
    cases b <;> decide
  rw [e]
  exact q
theorem rd_index {Q : VK} {l : Addr} {bs : List Bool} {j : Nat} (h1 : σ[1]? = some (some (.ref l))) (hl : H l = some (.lst (bs.map V.bl))) (hs : SeqAt.shaped (.list (toPs (bs.map D.bl))) = true) (hj : bs[j]? = some true) (hm : ∀ m, m < j → bs[m]? = some true → False) (q : Q (.int (j : Nat)) H) :
    tBM K "list" (rIndexD K) (tVar 1) (tCons (tC (.bl true)) tNil) σ H Q := by
  refine ⟨V.ref l, h1, Or.inl ⟨rfl, _, SqL.of hl⟩, l, .bl true, .bool true, toPs (bs.map D.bl), j, .bool true, rfl, rfl, .lst (.of hl) (Reps.dp (G := fun _ => True) (reps_bls bs) (plain_bls bs)), .bl true, hs, by decide, ?_, by decide, fun m z' hm' hz => ?_, q⟩
  · rw [toPs_map, List.map_map, List.getElem?_map, hj]
    rfl
  · rw [toPs_map, List.map_map, List.getElem?_map] at hz
    obtain ⟨b, e1, rfl⟩ := Option.map_eq_some_iff.mp hz
    cases b with
    | true => exact (hm m hm' e1).elim
    | false => decide
end
def wbs (j : Nat) : List Bool := [decide (j = 0), decide (j = 1), decide (j = 2), decide (j = 3), decide (j = 4), decide (j = 5), decide (j = 6), decide (j = 7), decide (j = 8), decide (j = 9), decide (j = 10), decide (j = 11)]
theorem wbs_ok {j : Nat} (h : j < 12) : (wbs j).countP id = 1 ∧ SeqAt.shaped (.list (toPs ((wbs j).map D.bl))) = true ∧ (wbs j)[j]? = some true ∧ ∀ m, m < j → (wbs j)[m]? = some true → False := by
  have : ∀ j : Fin 12, (wbs j.1).countP id = 1 ∧ SeqAt.shaped (.list (toPs ((wbs j.1).map D.bl))) = true ∧ (wbs j.1)[j.1]? = some true ∧ ∀ m : Fin 12, m.1 < j.1 → (wbs j.1)[m.1]? = some true → False := by decide +kernel
  obtain ⟨h1, h2, h3, h4⟩ := this ⟨j, h⟩
  exact ⟨h1, h2, h3, fun m hm e => h4 ⟨m, Nat.lt_trans hm h⟩ hm e⟩
section
variable {K : PySem.W.Frag} {a C c0 c1 c2 c3 c4 c5 c6 c7 c8 c9 c10 c11 : Addr} {j : Nat} {H : Hp}
theorem rd_asg {te : TE} {r : TS} {D : Ends} {σ : L2.St} {i : Nat} (h : te σ H fun x H1 => r D (σ.set i (some x)) H1) : tSeq (tAsg te (gName i)) r D σ H := h
theorem rd_drop {te : TE} {r : TS} {D : Ends} {σ : L2.St} (h : te σ H fun _ H1 => r D σ H1) : tSeq (tDrop te) r D σ H := h
theorem rd_if2 {tc : TE} {t2 : TT} {u r : TS} {D : Ends} {σ : L2.St} (h : tc σ H fun x H1 => scal x (.int 1) = true ∧ ∃ k, V.bl (!decide (x = .int 1)) = .bl k ∧ (if k = true then (if true = true then u { D with nx := r D } σ H1 else r D σ H1) else t2 σ H1 fun c H2 => if (!c) = true then u { D with nx := r D } σ H2 else r D σ H2)) :
    tSeq (tIfS (tOr (tTest (tOp rNe tc (tC (V.int 1)))) (tNot t2)) u tNext) r D σ H := h
theorem rd_ret2 {ti : TE} {D : Ends} {σ : L2.St} {x : Str} (h : ti σ H fun y H1 => (2 : Nat) ≤ sizeLine ∧ ∀ p, H1 p = none → D.rt (.ref p) (upd H1 p (.tup [.str x, y]))) : tRet (tTup (tCons (tC (V.str x)) (tCons ti tNil))) D σ H := h
theorem which_reading {D : Ends} {u : TS} (hlen : j < 12)
    (k0 : PySem.W.kitOne K (.ref C) (.ref c0) = some (decide (j = 0))) (k1 : PySem.W.kitOne K (.ref C) (.ref c1) = some (decide (j = 1))) (k2 : PySem.W.kitOne K (.ref C) (.ref c2) = some (decide (j = 2)))
    (k3 : PySem.W.kitOne K (.ref C) (.ref c3) = some (decide (j = 3))) (k4 : PySem.W.kitOne K (.ref C) (.ref c4) = some (decide (j = 4))) (k5 : PySem.W.kitOne K (.ref C) (.ref c5) = some (decide (j = 5)))
    (k6 : PySem.W.kitOne K (.ref C) (.ref c6) = some (decide (j = 6))) (k7 : PySem.W.kitOne K (.ref C) (.ref c7) = some (decide (j = 7))) (k8 : PySem.W.kitOne K (.ref C) (.ref c8) = some (decide (j = 8)))
    (k9 : PySem.W.kitOne K (.ref C) (.ref c9) = some (decide (j = 9))) (k10 : PySem.W.kitOne K (.ref C) (.ref c10) = some (decide (j = 10))) (k11 : PySem.W.kitOne K (.ref C) (.ref c11) = some (decide (j = 11)))
    (kV : PySem.W.kitOne K (.ref C) (.type "ValueError") = some true)
    (q : ∀ t H', (∀ b o, H b = some o → H' b = some o) → H t = none → H' t = some (.tup [.str "raised", .int (j : Nat)]) → D.rt (.ref t) H') :
    tSeq (tAsg (tLst (tCons (tI K C a (.ref c0)) (tCons (tI K C a (.ref c1)) (tCons (tI K C a (.ref c2)) tNil)))) (gName 1))
      (tSeq (tDrop (tBM K "list" rExtend (tVar 1) (tCons (tLst (tCons (tI K C a (.ref c3)) (tCons (tI K C a (.ref c4)) (tCons (tI K C a (.ref c5)) tNil)))) tNil)))
      (tSeq (tDrop (tBM K "list" rExtend (tVar 1) (tCons (tLst (tCons (tI K C a (.ref c6)) (tCons (tI K C a (.ref c7)) (tCons (tI K C a (.ref c8)) tNil)))) tNil)))
      (tSeq (tDrop (tBM K "list" rExtend (tVar 1) (tCons (tLst (tCons (tI K C a (.ref c9)) (tCons (tI K C a (.ref c10)) (tCons (tI K C a (.ref c11)) tNil)))) tNil)))
      (tSeq (tIfS (tOr (tTest (tOp rNe (tBM K "list" (rCountD K) (tVar 1) (tCons (tC (V.bl true)) tNil)) (tC (V.int 1)))) (tNot (tB (tI K C a (V.ty "ValueError"))))) u tNext)
        (tRet (tTup (tCons (tC (V.str "raised")) (tCons (tBM K "list" (rIndexD K) (tVar 1) (tCons (tC (V.bl true)) tNil)) tNil))))))))
      D (L2.start ["_law_e", "_law_own"] [V.ref a]) H := by
  refine rd_asg (rd_list3 (σ := [some (.ref a), none]) (H := H) (a := a) rfl k0 k1 k2 fun l nl => ?_)
  refine rd_drop (rd_ext3 (σ := [some (.ref a), some (.ref l)]) (a := a) (l := l) (bs := [decide (j = 0), decide (j = 1), decide (j = 2)]) rfl rfl upd_same (by show (3 : Nat) ≤ 100; decide) k3 k4 k5 fun H1 kp1 e1 => ?_)
  refine rd_drop (rd_ext3 (σ := [some (.ref a), some (.ref l)]) (a := a) (l := l) rfl rfl e1 (by show (6 : Nat) ≤ 100; decide) k6 k7 k8 fun H2 kp2 e2 => ?_)
  refine rd_drop (rd_ext3 (σ := [some (.ref a), some (.ref l)]) (a := a) (l := l) rfl rfl e2 (by show (9 : Nat) ≤ 100; decide) k9 k10 k11 fun H3 kp3 e3 => ?_)
  obtain ⟨w1, w2, w3, w4⟩ := wbs_ok hlen
  have kp : ∀ b o, H b = some o → H3 b = some o := fun b o e => by
    have nb : b ≠ l := ne_of_none e nl
    exact kp3 b o nb (kp2 b o nb (kp1 b o nb (by rw [upd_ne nb]; exact e)))
  have cnt : ∀ Q : VK, Q (.int 1) H3 → tBM K "list" (rCountD K) (tVar 1) (tCons (tC (V.bl true)) tNil) [some (.ref a), some (.ref l)] H3 Q := fun Q h =>
    rd_count (σ := [some (.ref a), some (.ref l)]) (l := l) (bs := wbs j) rfl e3 (by rw [w1]; exact h)
  refine rd_if2 (cnt _ ⟨rfl, _, rfl, ?_⟩)
  show if false = true then _ else _
  rw [if_neg Bool.false_ne_true]
  refine rd_is (σ := [some (.ref a), some (.ref l)]) (a := a) (b := true) rfl (fun w h => h) kV ?_
  refine ⟨true, rfl, ?_⟩
  show if false = true then _ else _
  rw [if_neg Bool.false_ne_true]
  refine rd_ret2 ?_
  refine rd_index (σ := [some (.ref a), some (.ref l)]) (l := l) (bs := wbs j) (j := j) rfl e3 w2 w3 w4 ?_
  refine ⟨by show (2 : Nat) ≤ sizeLine; decide, fun t nt => ?_⟩
  refine q t _ (fun b o e => ?_) ?_ upd_same
  · rw [upd_ne (ne_of_none (kp b o e) nt)]; exact kp b o e
  · cases e : H t with
    | none => rfl
    | some o => rw [kp t o e] at nt; cases nt
end
end DL
namespace DL
open PySem PySem.Spec L2
section
variable {X : Cx} {c : Cc} {W : WX} {j : Nat} {st : Stmt} {rest a b : List Stmt} {f g : FS} {fa : FE} {ft : FT} {e : Expr} {pos : Pos}
end
section
variable {X : Cx} {c : Cc} {W : WX} {j : Nat} {pos p : Pos} {iter tg : Expr} {body : List Stmt} {fi : FI} {g : FG} {f : FS}
end
end DL
namespace DL
open PySem PySem.Spec L2
def MtD (c : Cc) (r : V → List V → Hp → VK → Prop) (g : Str → D → Option T) : Prop := ∀ (L : Addr → Prop) (σ : L2.St) (H : Hp) (env : En) (a : Str) (y : V) (dy : D) (t : T) (Q : VK), RE c L σ H env → RepO c.K (Av L σ env) H y dy → g a dy = some t →
  (∀ v H', RE c L σ H' env → Stp σ env H σ env H' → RepT c L (Nn σ env H) σ H' env v t → Q v H') → r (.str a) [y] H Q
def strT (t : T) (k : Str → R T) : R T := match t with
  | .im (.str a) => k a
  | _ => .er
@[simp] theorem strT_s (a : Str) (k : Str → R T) : strT (.im (.str a)) k = k a := rfl
def eM1 (g : Str → D → Option T) (fa fb : FE) : FE := fun env => (fa env).bind fun ta e1 => strT ta fun a => (fb e1).bind fun tb e2 => op1 (g a) tb e2
def eM0 (g : Str → Option T) (fa : FE) : FE := fun env => (fa env).bind fun ta e1 => strT ta fun a => R.opt (g a) e1
section
variable {X : Cx} {c : Cc} {W : WX} {pos : Pos} {fa fb : FE} {r : V → List V → Hp → VK → Prop}
theorem strT_of {L N : Addr → Prop} {σ : L2.St} {H : Hp} {env : En} {t : T} {v : V} {k : Str → R T} {P : T → En → Hp → Prop} (q : RepT c L N σ H env v t) (h : dK c W L σ H env (strT t k) P) : ∃ a, v = .str a ∧ dK c W L σ H env (k a) P := by
  cases t with
  | im d =>
    cases d with
    | str a =>
      cases (show Rep c.K (Av L σ env) H v (.str a) from q)
      exact ⟨a, rfl, h⟩
    | non => exact h.elim
    | bl b => exact h.elim
    | int i => exact h.elim
    | tup xs => exact h.elim
    | lst xs => exact h.elim
    | fz xs => exact h.elim
    | dct _ _ => exact h.elim
  | al i => exact h.elim
  | fr ds => exact h.elim
  | ft cs => exact h.elim
theorem d_tM1 {g : Str → D → Option T} (ho : MtD c r g) : ∀ σ H Q, dE c W (eM1 g fa fb) σ H Q → tM1 r (dE c W fa) (dE c W fb) σ H Q := fun σ H Q h => by
  obtain ⟨env, L, re, h⟩ := dE_iff.mp h
  refine dE.of re (h.bind.mono fun ta e1 H1 r1 s1 h1 x q1 => ?_)
  obtain ⟨a, rfl, h2⟩ := strT_of q1 h1
  refine ⟨⟨a, rfl⟩, dE.of r1 (h2.bind.mono fun tb e2 H2 r2 s2 h3 y q2 => ?_)⟩
  unfold op1 at h3
  cases eb : tb.val e2 with
  | none => rw [eb] at h3; exact h3.elim
  | some dy =>
    rw [eb] at h3
    cases eg : g a dy with
    | none => simp only [eg] at h3; exact h3.elim
    | some t =>
      simp only [eg] at h3
      exact ho L σ H2 e2 a y dy t Q r2 (q2.opr0 r2 eb) eg fun v H' re' s q => h3 H' re' s v (q.less (fun _ z => z) fun a n => s1.back (s2.back n))
theorem d_tM0 {g : Str → Option T} (ho : ∀ (a : Str) (t : T) (H : Hp) (Q : VK), g a = some t → ∃ d : D, t = .im d ∧ ∃ v, (∀ G H, Rep c.K G H v d) ∧ (Q v H → r (.str a) [] H Q)) : ∀ σ H Q, dE c W (eM0 g fa) σ H Q → tM0 r (dE c W fa) σ H Q := fun σ H Q h => by
  obtain ⟨env, L, re, h⟩ := dE_iff.mp h
  refine dE.of re (h.bind.mono fun ta e1 H1 r1 s1 h1 x q1 => ?_)
  obtain ⟨a, rfl, h2⟩ := strT_of q1 h1
  cases eg : g a with
  | none => rw [eg] at h2; exact h2.elim
  | some t =>
    rw [eg] at h2
    obtain ⟨d, rfl, v, hv, k⟩ := ho a t H1 Q eg
    exact ⟨⟨a, rfl⟩, k (h2 H1 r1 .refl v (hv _ H1))⟩
end
def strsOf : List D → Option (List Str)
  | [] => some []
  | .str i :: ds => (strsOf ds).map (i :: ·)
  | _ => none
@[simp] theorem strsOf_map : ∀ ns : List Str, strsOf (ns.map D.str) = some ns
  | [] => rfl
  | n :: ns => by rw [List.map_cons]; unfold strsOf; rw [strsOf_map ns]; rfl
theorem strsOf_is : ∀ {ds ns}, strsOf ds = some ns → ds = ns.map D.str
  | [], ns, h => by cases h; rfl
  | d :: ds, ns, h => by
    cases d <;> simp only [strsOf] at h <;> (try (cases h; done))
    obtain ⟨ms, e, rfl⟩ := Option.map_eq_some_iff.mp h
    rw [strsOf_is e]
    rfl
theorem Reps.strs {K : PySem.W.Frag} {G : Addr → Prop} {H : Hp} {vs : List V} : ∀ {ns : List Str}, Reps K G H vs (ns.map .str) → vs = ns.map .str
  | [], h => by cases h; rfl
  | n :: ns, h => by
    cases h with
    | cons r rs => cases r; rw [Reps.strs rs]; rfl
theorem Reps.of_strs {K : PySem.W.Frag} {G : Addr → Prop} {H : Hp} : ∀ (ns : List Str), Reps K G H (ns.map V.str) (ns.map D.str)
  | [] => .nil
  | n :: ns => .cons (.str n) (Reps.of_strs ns)
def dJoin (a : Str) (d : D) : Option T := match items d with
  | some ds => match strsOf ds with
    | some ys => if (ys.map (·.length)).sum + ys.length * a.length ≤ 16777216 then some (.im (.str (Txt.join a ys))) else none
    | none => none
  | none => none
def dSplit (a : Str) (d : D) : Option T := match d with
  | .str b => if (b.length == 0) = false ∧ a.length + 2 ≤ 1000000 then some (.fr ((Txt.split a b).map D.str)) else none
  | _ => none
section
variable {X : Cx} {c : Cc} {W : WX} {pos apos : Pos} {o e : Expr} {fa fb : FE}
theorem d_join {K : PySem.W.Frag} (hK : c.K = K) : MtD c (fun x xs H Q => ∃ a p, ∃ ys : List Str, x = .str a ∧ xs = [.ref p] ∧ (SqL K H p (ys.map V.str) ∨ SqT K H p (ys.map V.str)) ∧ (ys.map (·.length)).sum + ys.length * a.length ≤ 16777216 ∧ Q (.str (Txt.join a ys)) H) dJoin := by
  subst hK
  intro L σ H env a y dy t Q re hy eg k
  unfold dJoin at eg
  cases ei : items dy with
  | none => rw [ei] at eg; cases eg
  | some ds =>
    rw [ei] at eg
    dsimp only at eg
    cases es : strsOf ds with
    | none => rw [es] at eg; cases eg
    | some ys =>
      rw [es] at eg
      dsimp only at eg
      split at eg
      · rename_i hz
        cases eg
        obtain ⟨p, xs, rfl, h, rs⟩ := hy.seq ei
        rw [strsOf_is es] at rs
        rw [rs.strs] at h
        exact ⟨a, p, ys, rfl, rfl, h, hz, k _ H re .refl (.str _)⟩
      · cases eg
theorem d_split : MtD c (fun x xs H Q => ∃ a b, x = .str a ∧ xs = [.str b] ∧ (b.length == 0) = false ∧ a.length + 2 ≤ sizeLine ∧ rNewStrs (Txt.split a b) H Q) dSplit := by
  intro L σ H env a y dy t Q re hy eg k
  unfold dSplit at eg
  split at eg
  · rename_i b
    split at eg
    · rename_i hz
      cases eg
      rw [hy.str]
      refine ⟨a, b, rfl, rfl, hz.1, line6 hz.2, fun p np => ?_⟩
      obtain ⟨q1, q2, q3⟩ := re.newL (Reps.of_strs (K := c.K) (G := Av L σ env) (H := H) (Txt.split a b)) np
      exact k _ _ q1 q2 q3
    · cases eg
  · cases eg
theorem de_join (ho : PE X o (dE c W fa)) (he : PE X e (dE c W fb)) (hs : starEach [e] X.env = [(false, eval e X.env)] := by rfl) (hbase : attributeBase o "join" X.env (eval o X.env) = eval o X.env := by rfl) (hline : (apos.endLine == pos.line) = true := by rfl) (hK : c.K = X.K := by rfl) :
    PE X (.Call (.Attribute o "join" apos) [e] [] pos) (dE c W (eM1 dJoin fa fb)) := PEw (pe_join ho he hs hbase hline) (d_tM1 (d_join hK))
theorem de_split (ho : PE X o (dE c W fa)) (he : PE X e (dE c W fb)) (hs : starEach [e] X.env = [(false, eval e X.env)] := by rfl) (hbase : attributeBase o "split" X.env (eval o X.env) = eval o X.env := by rfl) (hline : (apos.endLine == pos.line) = true := by rfl) :
    PE X (.Call (.Attribute o "split" apos) [e] [] pos) (dE c W (eM1 dSplit fa fb)) := PEw (pe_split ho he hs hbase hline) (d_tM1 d_split)
def dAscii (a : Str) : Option T := some (.im (.bl (Txt.isascii a)))
def dDigit (a : Str) : Option T := some (.im (.bl (Txt.isdigit a)))
theorem de_isascii (ho : PE X o (dE c W fa)) (hbase : attributeBase o "isascii" X.env (eval o X.env) = eval o X.env := by rfl) (hline : (apos.endLine == pos.line) = true := by rfl) : PE X (.Call (.Attribute o "isascii" apos) [] [] pos) (dE c W (eM0 dAscii fa)) :=
  PEw (pe_m0 PySem.F.slot_str_isascii PySem.F.type_str_isascii mt_isascii ho hbase hline) (d_tM0 fun a t H Q eg => by
    cases eg
    exact ⟨_, rfl, _, fun _ _ => .bl _, fun q => ⟨a, rfl, rfl, trivial, q⟩⟩)
theorem de_isdigit (ho : PE X o (dE c W fa)) (hbase : attributeBase o "isdigit" X.env (eval o X.env) = eval o X.env := by rfl) (hline : (apos.endLine == pos.line) = true := by rfl) : PE X (.Call (.Attribute o "isdigit" apos) [] [] pos) (dE c W (eM0 dDigit fa)) :=
  PEw (pe_m0 PySem.F.slot_str_isdigit PySem.F.type_str_isdigit mt_isdigit ho hbase hline) (d_tM0 fun a t H Q eg => by
    cases eg
    exact ⟨_, rfl, _, fun _ _ => .bl _, fun q => ⟨a, rfl, rfl, trivial, q⟩⟩)
def dStr : List D → Option T
  | [.int i] => if i.natAbs.log2 < 1920 then some (.im (.str (toString i))) else none
  | [.str a] => some (.im (.str a))
  | _ => none
def dInt : List D → Option T
  | [.str a] => match PySem.intText? a with
    | some n => if a.length ≤ 640 then some (.im (.int n)) else none
    | none => none
  | _ => none
theorem d_str : CallD c (fun xs H Q => (∃ i, xs = [.int i] ∧ i.natAbs.log2 < 1920 ∧ Q (.str (toString i)) H) ∨ (∃ a, xs = [.str a] ∧ Q (.str a) H)) dStr := by
  intro L σ H env xs ds t Q re hx e k
  unfold dStr at e
  split at e
  · split at e
    · rename_i hz
      cases e
      obtain ⟨v, rfl, r⟩ := hx.one
      rw [r.int]
      exact .inl ⟨_, rfl, hz, k _ H re .refl (.str _)⟩
    · cases e
  · cases e
    obtain ⟨v, rfl, r⟩ := hx.one
    rw [r.str]
    exact .inr ⟨_, rfl, k _ H re .refl (.str _)⟩
  · cases e
theorem call_strA : CallR X (.type "str") (fun xs H Q => (∃ i, xs = [.int i] ∧ i.natAbs.log2 < 1920 ∧ Q (.str (toString i)) H) ∨ (∃ a, xs = [.str a] ∧ Q (.str a) H)) := call_str_int.or SkE.call_str_str
theorem d_intS : CallD c (fun xs H Q => ∃ a n, xs = [.str a] ∧ PySem.intText? a = some n ∧ a.length ≤ 640 ∧ Q (.int n) H) dInt := by
  intro L σ H env xs ds t Q re hx e k
  unfold dInt at e
  split at e
  · split at e
    · rename_i n hn
      split at e
      · rename_i hz
        cases e
        obtain ⟨v, rfl, r⟩ := hx.one
        rw [r.str]
        exact ⟨_, n, rfl, hn, hz, k _ H re .refl (.int _)⟩
      · cases e
    · cases e
  · cases e
def dFmt : D → Option T
  | .str y => if y.length ≤ 1000000 then some (.im (.str y)) else none
  | .int i => if i.natAbs.log2 < 1920 then some (.im (.str (toString i))) else none
  | _ => none
theorem de_fmt (he : PE X e (dE c W fa)) : PE X (.FormattedValue e (-1) none pos) (dE c W (eUn dFmt fa)) := PEw (pe_fmt he) (d_tUn (r := fun x H1 Q => (∃ y : Str, x = .str y ∧ y.length ≤ sizeLine ∧ Q (.str y) H1) ∨ ∃ i : Int, x = .int i ∧ i.natAbs.log2 < 1920 ∧ Q (.str (toString i)) H1) (by
  intro L σ H env x dx t Q re hx e k
  unfold dFmt at e
  split at e
  · split at e
    · rename_i hz
      cases e
      exact .inl ⟨_, hx.str, line6 hz, k _ H re .refl (.str _)⟩
    · cases e
  · split at e
    · rename_i hz
      cases e
      exact .inr ⟨_, hx.int, hz, k _ H re .refl (.str _)⟩
    · cases e
  · cases e))
def jsR : List FE → Str → En → R Str
  | [], acc, env => .ok acc env
  | f :: fs, acc, env => (f env).bind fun t e => match t with
    | .im (.str y) => if (acc ++ y).length ≤ 1000000 then jsR fs (acc ++ y) e else .er
    | _ => .er
def eJs (fs : List FE) : FE := fun env => (jsR fs Str.empty env).bind fun y e => .ok (.im (.str y)) e
inductive PJD (X : Cx) (c : Cc) (W : WX) : List Expr → List FE → Prop
  | nil : PJD X c W [] []
  | cons {e fe es fs} (h : PE X e (dE c W fe)) (r : PJD X c W es fs) : PJD X c W (e :: es) (fe :: fs)
theorem PJD.pj : ∀ {es fs}, PJD X c W es fs → PJ X es (fs.map (dE c W))
  | _, _, .nil => .nil
  | _, _, .cons h r => .cons h (PJD.pj r)
theorem js_of : ∀ (fs : List FE) (acc : Str) (L : Addr → Prop) (σ : L2.St) (H : Hp) (env : En) (Q : Str → Hp → Prop), RE c L σ H env → dK c W L σ H env (jsR fs acc env) (fun y _ H' => Q y H') → tJs (fs.map (dE c W)) acc σ H Q
  | [], acc, L, σ, H, env, Q, re, h => h H re .refl
  | f :: fs, acc, L, σ, H, env, Q, re, h => by
    refine dE.of re ((dK.bind h).mono fun t e1 H1 r1 s1 h1 x q1 => ?_)
    cases t with
    | im d =>
      cases d with
      | str y =>
        cases (show Rep c.K (Av L σ e1) H1 x (.str y) from q1)
        dsimp only at h1
        by_cases hz : (acc ++ y).length ≤ 1000000
        · rw [if_pos hz] at h1
          exact ⟨y, rfl, line6 hz, js_of fs (acc ++ y) L σ H1 e1 Q r1 h1⟩
        · rw [if_neg hz] at h1
          exact h1.elim
      | non => exact h1.elim
      | bl b => exact h1.elim
      | int i => exact h1.elim
      | tup xs => exact h1.elim
      | lst xs => exact h1.elim
      | fz xs => exact h1.elim
      | dct _ _ => exact h1.elim
    | al i => exact h1.elim
    | fr ds => exact h1.elim
    | ft cs => exact h1.elim
theorem de_js {v1 v2 : Expr} {rest : List Expr} {fs : List FE} (h : PJD X c W (v1 :: v2 :: rest) fs) : PE X (.JoinedStr (v1 :: v2 :: rest) pos) (dE c W (eJs fs)) := PEw (pe_joined h.pj) fun σ H Q h => by
  obtain ⟨env, L, re, h⟩ := dE_iff.mp h
  refine js_of fs Str.empty L σ H env (fun out H1 => Q (.str out) H1) re ((dK.bind h).mono fun y e1 H1 r1 s1 h1 => ?_)
  exact h1 H1 r1 .refl _ (.str y)
def gTl (n : Nat) (gs : FGs) : FG := fun t env => match t with
  | .al i => match env[i]? with
    | some (.own _ ds) => if ds.length = n then gs (ds.map fun d => ⟨false, d⟩) env else .er
    | _ => .er
  | _ => .er
theorem dg_lst {gs : FGs} {es : List Expr} {k : Nat} {n : Nat} (hc : X.calm = true) (h : PGs X es (dGs c gs)) (hn : (assignEach es X.env).length = n := by rfl) (hst : (assignEach es X.env).findIdx? (·.1) = none := by rfl) (hK : c.K = X.K := by rfl) : PG X (.Tuple es k pos) (dG c (gTl n gs)) :=
  PGw (pg_unl hc h hn hst) fun v σ H Q h => by
    obtain ⟨env, L, N, t, r, q, h⟩ := h
    unfold gTl at h
    cases t with
    | im d => exact h.elim
    | fr ds => exact h.elim
    | ft ds => exact h.elim
    | al i =>
      dsimp only at h
      cases es : env[i]? with
      | none => rw [es] at h; exact h.elim
      | some s =>
        rw [es] at h
        cases s with
        | no => exact h.elim
        | im d => exact h.elim
        | own io ds =>
          dsimp only at h
          by_cases hl : ds.length = n
          · rw [if_pos hl] at h
            obtain ⟨⟨_, _, _⟩, q2⟩ := q
            obtain ⟨a, xs, e1, e2, rs, _, _⟩ := r.own i io ds es
            rw [e1] at q2
            cases q2
            have conv : ∀ {xs : List V} {ds : List D}, Reps c.K (Av L σ env) H xs ds → RepC c.K (Av (Lu L []) σ env) H [] xs (ds.map fun d => ⟨false, d⟩) := fun {xs ds} r => by
              induction ds generalizing xs with
              | nil => cases r; exact .nil
              | cons d ds ih =>
                cases r with
                | cons r rs => exact .im (r.mono (.refl H) fun b ys g e => ⟨⟨fun z => z.elim g.1 (fun z => nomatch z), g.2⟩, e⟩) (ih rs)
            exact ⟨a, xs, rfl, .inl (.inl e2), by rw [rs.length, hl], env, L, N, [], _, r.less (fun b z => z.elim id (fun z => nomatch z)), conv rs, (fun a z => nomatch z), h⟩
          · rw [if_neg hl] at h
            exact h.elim
end
end DL
namespace DL
open PySem PySem.Spec L2 TL
abbrev numS (i : Int) : Str := (toString i : String)
theorem joinL_len {S : List Nat} {M : Nat} : ∀ {ps : List (List Nat)}, (∀ p ∈ ps, p.length ≤ M) → (joinL S ps).length ≤ ps.length * (M + S.length)
  | [], _ => by simp [joinL]
  | [p], h => by
    have := h p (List.mem_singleton.mpr rfl)
    simp [joinL]
    omega
  | p :: q :: r, h => by
    have h1 := h p List.mem_cons_self
    have := joinL_len (S := S) (ps := q :: r) fun z hz => h z (List.mem_cons_of_mem _ hz)
    show (p ++ (S ++ joinL S (q :: r))).length ≤ _
    simp only [List.length_append, List.length_cons] at this ⊢
    rw [Nat.succ_mul]
    omega
theorem join_tl (y : Str) (ps : List Str) : tl (Txt.join y ps) = joinL (tl y) (ps.map tl) := by rw [join_eq, tl_join]
theorem join_len {y : Str} {M : Nat} {ps : List Str} (h : ∀ p ∈ ps, p.length ≤ M) : (Txt.join y ps).length ≤ ps.length * (M + y.length) := by
  rw [len_tl, join_tl, len_tl y]
  have := joinL_len (S := tl y) (M := M) (ps := ps.map tl) fun p hp => by
    obtain ⟨z, hz, rfl⟩ := List.mem_map.mp hp
    rw [← len_tl]
    exact h z hz
  simpa using this
theorem sum_len {M : Nat} : ∀ {ps : List Str}, (∀ p ∈ ps, p.length ≤ M) → (ps.map (·.length)).sum ≤ ps.length * M
  | [], _ => by simp
  | p :: ps, h => by
    have := sum_len (ps := ps) fun z hz => h z (List.mem_cons_of_mem _ hz)
    have := h p List.mem_cons_self
    simp only [List.map_cons, List.sum_cons, List.length_cons]
    rw [Nat.succ_mul]
    omega
theorem dJoin_of {y : Str} {M : Nat} {ps : List Str} {d : D} (hd : items d = some (ps.map D.str)) (h : ∀ p ∈ ps, p.length ≤ M) (hb : ps.length * M + ps.length * y.length ≤ 16777216) : dJoin y d = some (.im (.str (Txt.join y ps))) := by
  unfold dJoin
  rw [hd]
  dsimp only
  rw [strsOf_map]
  dsimp only
  have := sum_len h
  rw [if_pos (by omega)]
theorem join_two (y a b : Str) : Txt.join y [a, b] = a ++ y ++ b := ext_tl (by
  rw [join_tl, tl_append, tl_append]
  simp [joinL])
theorem empty_app (x : Str) : Str.empty ++ x = x := ext_tl (by rw [tl_append]; rfl)
theorem num_ok : ∀ n : Fin 100, let x : Str := (toString ((n.val : Nat) : Int) : String)
    (x == ("-" : Str)) = false ∧ x.length ≤ 2 ∧ Txt.isascii x = true ∧ Txt.isdigit x = true ∧ PySem.intText? x = some (n.val : Int) ∧ (∀ c ∈ tl x, c ≠ 32 ∧ c ≠ 44 ∧ c ≠ 47 ∧ c ≠ 59) := by decide +kernel
end DL
namespace DL
open PySem PySem.Spec L2 PyProof.Rows
inductive FnsD (X : Cx) : List Expr → List V → List FD → Prop
  | nil : FnsD X [] [] []
  | cons {k : Nat} {f : Addr} {fd : FuncData} {ps : List Str} {x : Str} {p : Pos} {g : FD} {es : List Expr} {vs : List V} {gs : List FD} (F : FnOk X.prog X.w X.K X.mg X.base (L2.CX X.prog X.w) k f fd ps (spD X.K X.mg g)) (hr : Room k X.A) (hg : Gl X x) (hm : X.mg x = some (.ref f)) (hk : PySem.W.keepIn X.K (.ref f) = true) (hb : Binds X.K fd ps []) (r : FnsD X es vs gs)
    (hd : (x == ("__debug__" : Str)) = false := by decide) (hs : starEach (.Name x p :: es) X.env = (false, eval (.Name x p) X.env) :: starEach es X.env := by rfl) : FnsD X (.Name x p :: es) (.ref f :: vs) (g :: gs)
def tLit : List V → TA
  | [] => tNil
  | v :: vs => tCons (tC v) (tLit vs)
section
variable {X : Cx} {c : Cc} {W : WX} {pos p tp sp : Pos} {e b : Expr} {es ar : List Expr} {vs : List V} {gs : List FD} {fi : FE} {fa : FA} {x1 : Nat}
theorem FnsD.pa : ∀ {es vs gs}, FnsD X es vs gs → PA X es (tLit vs)
  | _, _, _, .nil => pa_nil
  | _, _, _, .cons F hr hg hm hk hb r hd hs => pa_cons (pe_glob hg hm rfl hd) r.pa hs
theorem FnsD.len : ∀ {es vs gs}, FnsD X es vs gs → vs.length = gs.length
  | _, _, _, .nil => rfl
  | _, _, _, .cons _ _ _ _ _ _ r _ _ => by simp [r.len]
def FnAt (X : Cx) (f : Addr) (g : FD) : Prop := ∃ (k : Nat) (fd : FuncData) (ps : List Str), FnOk X.prog X.w X.K X.mg X.base (L2.CX X.prog X.w) k f fd ps (spD X.K X.mg g) ∧ Room k X.A ∧ PySem.W.keepIn X.K (.ref f) = true ∧ Binds X.K fd ps []
theorem FnsD.get : ∀ {es vs gs}, FnsD X es vs gs → ∀ {n : Nat} {g : FD}, gs[n]? = some g → ∃ f, vs[n]? = some (.ref f) ∧ FnAt X f g
  | _, _, _, .nil, n, g, h => by simp at h
  | _, _, _, .cons F hr hg hm hk hb r hd hs, 0, g, h => by
    cases h
    exact ⟨_, rfl, _, _, _, F, hr, hk, hb⟩
  | _, _, _, .cons F hr hg hm hk hb r hd hs, n + 1, g, h => r.get (n := n) h
end
section
variable {X : Cx} {CX : CXT} {c : Cc} {W : WX} {pos p : Pos} {x : Str} {e : Expr} {es : List Expr} {fa : FA} {g : FD} {k : Nat} {f C : Addr} {fd : FuncData} {ps : List Str} {sp : Sp} {E : L2.St → XK} {t : TA}
end
end DL
namespace DL
open PySem PySem.Spec L2 PyProof.Rows CwR
def dUpper (a : Str) : Option T := if a.length ≤ 1000000 then some (.im (.str (Txt.upper a))) else none
def dRepl (y z a : Str) : Option T := if a.length ≤ 1000 ∧ z.length ≤ 10 then some (.im (.str (Txt.replace a y z))) else none
section
variable {X : Cx} {c : Cc} {W : WX} {pos apos p c0 c1 : Pos} {o e f : Expr} {es : List Expr} {fa fb fe : FE} {fs fr : FA} {te : TE} {t t' : TA} {x : Str} {j k : Nat} {y z : Str}
theorem de_upper (ho : PE X o (dE c W fa)) (hbase : attributeBase o "upper" X.env (eval o X.env) = eval o X.env := by rfl) (hline : (apos.endLine == pos.line) = true := by rfl) : PE X (.Call (.Attribute o "upper" apos) [] [] pos) (dE c W (eM0 dUpper fa)) :=
  PEw (pe_upper ho hbase hline) (d_tM0 fun a t H Q eg => by
    unfold dUpper at eg
    split at eg
    · rename_i hz
      cases eg
      exact ⟨_, rfl, _, fun _ _ => .str _, fun q => ⟨a, rfl, rfl, Nat.le_trans hz (by decide), q⟩⟩
    · cases eg)
theorem dE_monoQ {f : FE} {σ : L2.St} {H : Hp} {Q Q' : VK} (h : dE c W f σ H Q) (k : ∀ v H', Q v H' → Q' v H') : dE c W f σ H Q' := by
  obtain ⟨env, L, r, h⟩ := dE_iff.mp h
  exact dE.of r (h.mono fun t e H' _ _ p v q => k v H' (p v q))
theorem patw (h : PAT X es t) (k : ∀ σ H Q, t' σ H Q → t σ H Q) : PAT X es t' := fun pos pins s σ H Q h0 I q => h pos pins s σ H Q h0 I (k σ H Q q)
theorem petw {t t' : TE} (h : PET X e t) (k : ∀ σ H Q, t' σ H Q → t σ H Q) : PET X e t' := fun pins s σ H Q h0 I q => h pins s σ H Q h0 I (k σ H Q q)
theorem pat_of (h : PA X es t) : PAT X es t := fun pos pins s σ H Q _ I q => h.run pos pins s σ H Q I q
theorem dat_cons (ha : PET X e (dE c W fe)) (hr : PAT X es (dA c W fr)) (hs : starEach (e :: es) X.env = (false, eval e X.env) :: starEach es X.env := by rfl) : PAT X (e :: es) (dA c W (aCons fe fr)) := patw (pat_cons ha hr hs) d_aCons
theorem det_repl (ho : PE X o (dE c W fa)) (hyz : (y == z) = false := by decide)
    (hst : starEach [.Constant (.str y) j c0, .Constant (.str z) k c1] X.env = [(false, eval (.Constant (.str y) j c0) X.env), (false, eval (.Constant (.str z) k c1) X.env)] := by rfl)
    (hbase : attributeBase o "replace" X.env (eval o X.env) = eval o X.env := by rfl) (hline : (apos.endLine == pos.line) = true := by rfl) :
    PET X (.Call (.Attribute o "replace" apos) [.Constant (.str y) j c0, .Constant (.str z) k c1] [] pos) (dE c W (eM0 (dRepl y z) fa)) :=
  petw (pet_replC ho hyz hst hbase hline) fun σ H Q h => dE_monoQ (d_tM0 (c := c) (W := W) (fa := fa) (g := dRepl y z) (r := fun x xs H Q => ∃ a, x = .str a ∧ a.length + (a.length + 1) * z.length ≤ 16777216 ∧ Q (.str (Txt.replace a y z)) H) (fun a t H Q eg => by
    unfold dRepl at eg
    split at eg
    · rename_i hz
      cases eg
      refine ⟨_, rfl, _, fun _ _ => .str _, fun q => ⟨a, rfl, ?_, q⟩⟩
      have := Nat.mul_le_mul (show a.length + 1 ≤ 1001 by omega) hz.2
      omega
    · cases eg) σ H Q h) fun v H' q => q.2
def PEK (X : Cx) (e : Expr) (t : TE) : Prop := ∀ (pins : List (Addr × Obj)) (s : Shared) (σ : L2.St) (H : Hp) (Q : VK), L2.Inv X pins σ H s → t σ H Q →
    wpAny (model X.prog X.w) X.A (eval e X.env) (fun u s1 => 1 ≤ s1.toks ∧ EP X pins σ Q u s1) X.xe s
theorem pekw {t t' : TE} (h : PEK X e t) (k : ∀ σ H Q, t' σ H Q → t σ H Q) : PEK X e t' := fun pins s σ H Q I q => h pins s σ H Q I (k σ H Q q)
theorem pek_str : PEK X (.Constant (.str x) j pos) (tC (.str x)) := fun pins s σ H Q I h => by
  refine Calls.Constant_str ?_
  exact ⟨by show 1 ≤ s.toks + 1; omega, .str x, H, I.tok _, ⟨_, rfl⟩, h⟩
theorem dek_str : PEK X (.Constant (.str x) j pos) (dE c W (eC (.str x))) := pekw pek_str fun σ H Q h => by
  obtain ⟨env, L, r, h⟩ := dE_iff.mp h
  exact h H r .refl _ (.str x)
theorem pa_consK {te : TE} (ha : PEK X e te) (hr : PAT X es t) (hs : starEach (e :: es) X.env = (false, eval e X.env) :: starEach es X.env := by rfl) : PA X (e :: es) (tCons te t) := by
  refine ⟨fun pos pins s σ H Q I h => ?_⟩
  rw [hs]
  show wpAny _ _ (spliced ((false, eval e X.env) :: backTo pos (starEach es X.env))) _ _ s
  refine Calls.spliced_cons (wpAny_mono (ha pins s σ H _ I h) (fun v s1 q => ?_) fun _ _ z => z)
  obtain ⟨hk, x, H1, I1, r1, q1⟩ := q
  exact thn (hr pos pins s1 σ H1 _ hk I1 q1) fun us s2 ⟨xs, H2, I2, r2, q2⟩ => ⟨x :: xs, H2, I2, .cons r1 r2, q2⟩
theorem da_consK (ha : PEK X e (dE c W fe)) (hr : PAT X es (dA c W fr)) (hs : starEach (e :: es) X.env = (false, eval e X.env) :: starEach es X.env := by rfl) : PA X (e :: es) (dA c W (aCons fe fr)) := PAw (pa_consK ha hr hs) d_aCons
theorem pek_op {op : Operator} {r : R2} {ta tb : TE} (ho : OpR X (binaryOp op) r) (ha : PEK X e ta) (hb : PE X f tb) : PEK X (.BinOp e op f pos) (tOp r ta tb) := by
  intro pins s σ H Q I h
  refine wpAny_BinOp (wpAny_mono (ha pins s σ H _ I h) (fun v s1 q => ?_) fun _ _ z => z)
  obtain ⟨hk, x, H1, I1, r1, q1⟩ := q
  refine wpAny_mono (PySem.wpAny_toks (hb.run pins s1 σ H1 _ I1 q1)) (fun u s2 q => ?_) fun _ _ z => z.2
  obtain ⟨hk2, y, H2, I2, r2, q2⟩ := q
  refine wpAny_mono (PySem.wpAny_toks (ho pins s2 σ H2 x y v u Q I2 r1 r2 q2)) (fun w s3 q => ?_) fun _ _ z => z.2
  exact ⟨Nat.le_trans hk (Nat.le_trans hk2 q.1), q.2⟩
end
end DL
namespace DL
open PySem PySem.Spec L2 PyProof.Rows CwR
section
variable {X : Cx} {c : Cc} {W : WX} {pos apos p : Pos} {o e f : Expr} {es : List Expr} {st : Stmt} {rest : List Stmt} {fa fb fe fo : FE} {fs fr fas : FA} {te to : TE} {t ta : TA} {ts us : TS} {g h : FS}
def PAK (X : Cx) (es : List Expr) (t : TA) : Prop := ∀ (at_ : Pos) (pins : List (Addr × Obj)) (s : Shared) (σ : L2.St) (H : Hp) (Q : List V → Hp → Prop), L2.Inv X pins σ H s → t σ H Q →
    wpAny (model X.prog X.w) X.A (spliced (backTo at_ (starEach es X.env))) (fun us s1 => 1 ≤ s1.toks ∧ AP X pins σ Q us s1) X.xe s
theorem pakw {t t' : TA} (h : PAK X es t) (k : ∀ σ H Q, t' σ H Q → t σ H Q) : PAK X es t' := fun at_ pins s σ H Q I q => h at_ pins s σ H Q I (k σ H Q q)
theorem pak_consK (ha : PEK X e te) (hr : PAT X es t) (hs : starEach (e :: es) X.env = (false, eval e X.env) :: starEach es X.env := by rfl) : PAK X (e :: es) (tCons te t) := by
  intro at_ pins s σ H Q I q
  rw [hs]
  show wpAny _ _ (spliced ((false, eval e X.env) :: backTo at_ (starEach es X.env))) _ _ s
  refine Calls.spliced_cons (wpAny_mono (ha pins s σ H _ I q) (fun v s1 y => ?_) fun _ _ z => z)
  obtain ⟨hk, x, H1, I1, r1, q1⟩ := y
  refine wpAny_mono (PySem.wpAny_toks (hr at_ pins s1 σ H1 _ hk I1 q1)) (fun vs s2 y => ?_) fun _ _ z => z.2
  obtain ⟨hk2, xs, H2, I2, r2, q2⟩ := y
  exact ⟨Nat.le_trans hk hk2, x :: xs, H2, I2, .cons r1 r2, q2⟩
theorem pak_cons (ha : PE X e te) (hr : PAK X es t) (hs : starEach (e :: es) X.env = (false, eval e X.env) :: starEach es X.env := by rfl) : PAK X (e :: es) (tCons te t) := by
  intro at_ pins s σ H Q I q
  rw [hs]
  show wpAny _ _ (spliced ((false, eval e X.env) :: backTo at_ (starEach es X.env))) _ _ s
  refine Calls.spliced_cons (thn (ha.run pins s σ H _ I q) fun v s1 ⟨x, H1, I1, r1, q1⟩ => ?_)
  refine wpAny_mono (hr at_ pins s1 σ H1 _ I1 q1) (fun vs s2 y => ?_) fun _ _ z => z
  obtain ⟨hk2, xs, H2, I2, r2, q2⟩ := y
  exact ⟨hk2, x :: xs, H2, I2, .cons r1 r2, q2⟩
theorem pek_lst (ha : PAK X es t) : PEK X (.List es pos) (tLst t) := by
  intro pins s σ H Q I q
  refine wpAny_List_spliced (wpAny_mono (ha pos pins s σ H _ I q) (fun vs s1 y => ?_) fun _ _ z => z)
  obtain ⟨hk, xs, H1, I1, r, z, q⟩ := y
  refine ⟨by rw [← r.length]; exact z, hk, .ref s1.heap.objs.size, upd H1 s1.heap.objs.size (.lst xs), ?_, rfl, q _ (I1.hok.fresh (Nat.le_refl _))⟩
  exact I1.laid (t' := s1.toks) (fun b u y => Heap.get?_push_of_some _ y) (Nat.le_refl _) ⟨z, vs, 0, r, Heap.get?_push_size _ rfl⟩
theorem dak_consK (ha : PEK X e (dE c W fe)) (hr : PAT X es (dA c W fr)) (hs : starEach (e :: es) X.env = (false, eval e X.env) :: starEach es X.env := by rfl) : PAK X (e :: es) (dA c W (aCons fe fr)) := pakw (pak_consK ha hr hs) d_aCons
theorem dak_cons (ha : PE X e (dE c W fe)) (hr : PAK X es (dA c W fr)) (hs : starEach (e :: es) X.env = (false, eval e X.env) :: starEach es X.env := by rfl) : PAK X (e :: es) (dA c W (aCons fe fr)) := pakw (pak_cons ha hr hs) d_aCons
theorem d_tLst : ∀ σ H Q, dE c W (eLst fas) σ H Q → tLst (dA c W fas) σ H Q := fun σ H Q h => by
  obtain ⟨env, L, re, h⟩ := dE_iff.mp h
  refine dA.of re (h.bind.mono fun ts e1 H1 r1 s1 h1 vs As q n r2 => ?_)
  refine disp_ok (N := Nn σ env H) r2 q (fun a z => n a z) (fun a z => s1.back (.inl z)) h1 fun len cs env' Bs r3 s3 q3 n3 h3 => ⟨len, fun p np => ?_⟩
  have rp : Reps c.K (Av L σ env') H1 vs (cs.map Cp.d) := q3.reps (fun b g => ⟨fun z => g.1 (.inl z), g.2⟩) fun a z => ⟨(n3 a z).1, (r3.ext a (.inr z)).1⟩
  obtain ⟨y1, y2, y3⟩ := r3.bare.newL rp np
  exact h3 _ y1 (s3.trans y2) _ (y3.less (fun _ z => z) fun a z => s1.back (s3.back z))
theorem dek_lst (ha : PAK X es (dA c W fas)) : PEK X (.List es pos) (dE c W (eLst fas)) := pekw (pek_lst ha) d_tLst
theorem dek_op {op : Operator} {r : R2} {g : D → D → Option T} (hr : OpR X (binaryOp op) r) (ho : OpD c r g) (ha : PEK X e (dE c W fa)) (hb : PE X f (dE c W fb)) : PEK X (.BinOp e op f pos) (dE c W (eOp g fa fb)) := pekw (pek_op hr ha hb) (d_tOp ho)
def PSK (X : Cx) (st : Stmt) (t : TS) : Prop := ∀ (pins : List (Addr × Obj)) (s : Shared) (σ : L2.St) (H : Hp) (D : Ends), L2.Inv X pins σ H s → t D σ H →
    wpAny (model X.prog X.w) X.A (exec st X.env) (fun f s1 => 1 ≤ s1.toks ∧ SP X pins D f s1) X.xe s
theorem pskw {t t' : TS} (h : PSK X st t) (k : ∀ D σ H, t' D σ H → t D σ H) : PSK X st t' := fun pins s σ H D I q => h pins s σ H D I (k D σ H q)
theorem pstw {t t' : TS} (h : PST X st t) (k : ∀ D σ H, t' D σ H → t D σ H) : PST X st t' := fun pins s σ H D h0 I q => h pins s σ H D h0 I (k D σ H q)
theorem psstw {t t' : TS} (h : PSsT X rest t) (k : ∀ D σ H, t' D σ H → t D σ H) : PSsT X rest t' := fun pins s σ H D h0 I q => h pins s σ H D h0 I (k D σ H q)
theorem psk_set {i : Nat} {x : Str} {pos' : Pos} (hN : X.N.Nodup) (hi : X.N[i]? = some x) (hx : Loc X.env.scope x) (he : PEK X e te) (hs : swapsWith e (some (.Name x pos')) pos.line X.env = pure false := by rfl)
    (hf : X.fn x = true ∨ X.env.scope.names.lookup x = some .local := by first | exact .inl rfl | exact .inr rfl | assumption) : PSK X (.Assign [.Name x pos'] e pos) (tAsg te (gName i)) := by
  intro pins s σ H D I q
  refine wpAny_Assign_Name (wpAny_mono (he pins s σ H _ I q) (fun v s1 y => ?_) fun _ _ z => z) hs
  obtain ⟨hk, y, H1, I1, r1, q1⟩ := y
  refine wpAny_mono (PySem.wpAny_toks (store_ok I1 hN hi hx r1 (Q := fun _ s2 => L2.Inv X pins (σ.set i (some y)) H1 s2) (fun s2 I2 => I2) hf)) (fun _ s2 z => ?_) fun _ _ z => z.2
  exact ⟨Nat.le_trans hk z.1, _, H1, z.2, q1⟩
theorem pss_consK (h1 : PSK X st ts) (h2 : PSsT X rest us) : PSs X (st :: rest) (tSeq ts us) := by
  refine ⟨fun pins s σ H D I q => ?_⟩
  refine wpAny_execs_cons (wpAny_mono (h1 pins s σ H { D with nx := us D } I q) (fun f s1 y => ?_) fun _ _ z => z)
  obtain ⟨hk, y⟩ := y
  cases f with
  | next =>
    obtain ⟨σ', H', I', y⟩ := y
    exact h2 pins s1 σ' H' D hk I' y
  | ret v => exact y
  | brk => exact y
  | cont => exact y
theorem d_seq : ∀ D σ H, dS c W (sSeq g h) D σ H → tSeq (dS c W g) (dS c W h) D σ H := fun D σ H q => by
  obtain ⟨env, L, r, q⟩ := q
  refine dS.of r ?_
  unfold sSeq at q
  cases z : g env with
  | er => rw [z] at q; exact q
  | nx e =>
    rw [z] at q
    exact fun σ' H' r' s' => dS.of r' (q.here s')
  | rt t e => rw [z] at q; exact q
  | bk e => rw [z] at q; exact q
  | ct e => rw [z] at q; exact q
  | ex x e => rw [z] at q; exact q
theorem dsk_set {i : Nat} {x : Str} {pos' : Pos} (hN : X.N.Nodup) (hi : X.N[i]? = some x) (hx : Loc X.env.scope x) (he : PEK X e (dE c W fa)) (hs : swapsWith e (some (.Name x pos')) pos.line X.env = pure false := by rfl)
    (hf : X.fn x = true ∨ X.env.scope.names.lookup x = some .local := by first | exact .inl rfl | exact .inr rfl | assumption) : PSK X (.Assign [.Name x pos'] e pos) (dS c W (sAsg fa (gN i))) :=
  pskw (psk_set hN hi hx he hs hf) fun D σ H h => by
    obtain ⟨env, L, r, q⟩ := d_asg D σ H h
    exact ⟨env, L, r, q.mono fun t e1 H1 r1 s1 h1 v q => d_gN _ _ _ _ (h1 v q)⟩
theorem dss_consK (h1 : PSK X st (dS c W g)) (h2 : PSsT X rest (dS c W h)) : PSs X (st :: rest) (dS c W (sSeq g h)) := PSsw (pss_consK h1 h2) d_seq
theorem dsst_cons (h1 : PST X st (dS c W g)) (h2 : PSsT X rest (dS c W h)) : PSsT X (st :: rest) (dS c W (sSeq g h)) := psstw (psst_cons h1 h2) d_seq
theorem pst_expr (he : PET X e te) (hs : swapsWith e none p.line X.env = pure false := by rfl) : PST X (.Expr e p) (fun D σ H => te σ H fun _ H' => D.nx σ H') := by
  intro pins s σ H D h0 I q
  refine wpAny_Expr_any (thn (he pins s σ H _ h0 I q) fun v s1 ⟨x, H1, I1, r1, q1⟩ => ?_) I.quiet hs
  exact ⟨σ, H1, I1, q1⟩
theorem dst_expr (he : PET X e (dE c W fa)) (hs : swapsWith e none p.line X.env = pure false := by rfl) : PST X (.Expr e p) (dS c W (sDrop fa)) := pstw (pst_expr he hs) fun D σ H h => by
  obtain ⟨env, L, r, h⟩ := h
  exact dE.of r (h.bind.mono fun t e1 H1 r1 s1 h1 v q => h1 σ H1 r1 s1)
theorem pet_bm {T id : String} {name : Str} {r : V → List V → Hp → VK → Prop} (pa : PlainAttrs T) (slot : Slot T name id) (hty : typeOf (.builtin id) = pure (.type "method_descriptor")) (hm : MtR X id r) (ho : PE X o to) (ha : PAT X (e :: es) t)
    (hbase : attributeBase o name X.env (eval o X.env) = eval o X.env := by rfl)
    (hfew : ((backTo p (starEach (e :: es) X.env)).all (fun x => !x.1) && (backToKw p (keywordEach [] X.env)).all (fun x => x.1.isSome) && decide ((e :: es).length + ([] : List Keyword).length + (if ([] : List Keyword).isEmpty then 0 else 1) < 30)) = true := by rfl)
    (hline : (apos.endLine == p.line) = true := by rfl) (hs : starEach (e :: es) X.env = (false, eval e X.env) :: starEach es X.env := by rfl) (hplain : (backTo p (starEach es X.env)).any (·.1) = false := by rfl) :
    PET X (.Call (.Attribute o name apos) (e :: es) [] p) (tBM X.K T r to t) := by
  intro pins s σ H Q h0 I q
  refine wpAny_Call_method_late hbase hfew hline rfl (wpAny_mono (PySem.wpAny_toks (ho.run pins s σ H _ I q)) (fun v s1 y => ?_) fun _ _ z => z.2)
  obtain ⟨hk, x, H1, I1, r1, ty, q1⟩ := y
  obtain ⟨y1, y2⟩ := tyV_is I1 r1 ty
  refine ⟨T, id, pa, slot, hty, y1, y2, ?_⟩
  have hA := ha p pins s1 σ H1 _ (Nat.le_trans h0 hk) I1 q1
  rw [hs] at hA ⊢
  refine Calls.callWith_builtin (by show (false || (backTo p (starEach es X.env)).any (·.1)) = false; rw [hplain] <;> rfl) (Calls.evalArgs_plain ?_)
  exact thn hA fun vs s2 ⟨xs, H2, I2, r2, q2⟩ => hm pins s2 σ H2 x xs v vs Q I2 r1 r2 q2
theorem det_met {r : V → List V → Hp → VK → Prop} {k : List D → List T → En → Option (D × List D × En)} {name : Str} {id : String} (hm : MetD c r k) (slot : Slot "list" name id) (hty : typeOf (.builtin id) = pure (.type "method_descriptor")) (hr : MtR X id r) (ho : PE X o (dE c W fo)) (ha : PAT X (e :: es) (dA c W fas)) (hK : c.K = X.K := by rfl)
    (hbase : attributeBase o name X.env (eval o X.env) = eval o X.env := by rfl)
    (hfew : ((backTo p (starEach (e :: es) X.env)).all (fun x => !x.1) && (backToKw p (keywordEach [] X.env)).all (fun x => x.1.isSome) && decide ((e :: es).length + ([] : List Keyword).length + (if ([] : List Keyword).isEmpty then 0 else 1) < 30)) = true := by rfl)
    (hline : (apos.endLine == p.line) = true := by rfl) (hs : starEach (e :: es) X.env = (false, eval e X.env) :: starEach es X.env := by rfl) (hplain : (backTo p (starEach es X.env)).any (·.1) = false := by rfl) :
    PET X (.Call (.Attribute o name apos) (e :: es) [] p) (dE c W (eMet k fo fas)) :=
  petw (pet_bm PySem.F.plainAttrs_list slot hty hr ho ha hbase hfew hline hs hplain) fun σ H Q h => by
    obtain ⟨env, L, re, h⟩ := dE_iff.mp h
    refine dE.of re (h.bind.mono fun to e1 H1 r1 s1 h1 x q1 => ?_)
    cases to with
    | im d => exact h1.elim
    | fr d => exact h1.elim
    | ft d => exact h1.elim
    | al j =>
      refine ⟨by rw [← hK]; exact q1.tyL r1, dA.of r1 (h1.bind.mono fun ts e2 H2 r2 s2 h2 vs As q n r3 => ?_)⟩
      exact met_ok (H0 := H) hm (s1.trans s2) q1 r2 q n r3 h2
end
end DL
namespace DL
open PySem PySem.Spec L2 PyProof.Rows
abbrev Ke := List (List Int × Addr × V)
abbrev KeV := List (List Int × Addr × Value)
abbrev Sames : Ke → KeV → Prop := Paired fun x y => x.1 = y.1 ∧ x.2.1 = y.2.1 ∧ RelV x.2.2 y.2.2
abbrev kdT (P : Program) (w : World) : HeapKind P w (List Int) := tupleKind (intKind P w)
theorem Sames.keys : ∀ {kvs : Ke} {ys : KeV}, Sames kvs ys → kvs.map (·.1) = ys.map (·.1)
  | _, _, .nil => rfl
  | _, _, .cons r t => by rw [List.map_cons, List.map_cons, r.1, Sames.keys t]
theorem Sames.mem : ∀ {kvs : Ke} {ys : KeV}, Sames kvs ys → ∀ y ∈ ys, ∃ x ∈ kvs, x.1 = y.1 ∧ x.2.1 = y.2.1
  | _, _, .nil, y, h => by cases h
  | _, _, .cons (a := a) (b := b) q t, y, h => by
    rcases List.mem_cons.mp h with rfl | h
    · exact ⟨a, List.mem_cons_self, q.1, q.2.1⟩
    · obtain ⟨x, hx, e⟩ := Sames.mem t y h
      exact ⟨x, List.mem_cons_of_mem _ hx, e⟩
theorem Sames.get {kvs : Ke} {ys : KeV} (h : Sames kvs ys) {i : Nat} {k : List Int} {b : Addr} {v : V} (e : kvs[i]? = some (k, b, v)) : ∃ u, ys[i]? = some (k, b, u) ∧ RelV v u := by
  obtain ⟨⟨k', b', u⟩, e1, e2, e3, e4⟩ := paired_get h e
  cases e2
  cases e3
  exact ⟨u, e1, e4⟩
section
variable {X : Cx} {pins : List (Addr × Obj)} {σ : L2.St} {H : Hp} {s : Shared} {a : Addr} {o : Obj} {kvs : Ke}
abbrev KeyT (K : PySem.W.Frag) (H : Hp) (kvs : Ke) : Prop := ∀ x ∈ kvs, SqT K H x.2.1 (x.1.map V.int)
theorem DcObj.dict (I : Inv X pins σ H s) (d : DcObj a o kvs) (e : s.heap.get? a = some o) (hq : KeyT X.K H kvs) : ∃ ys, Sames kvs ys ∧ s.heap.DictOfH (kdT X.prog X.w) a ys ∧ ys.length ≤ sizeLine := by
  obtain ⟨es, ep, ys, hd, hs, he⟩ := d.dat
  have hs : Sames kvs ys := hs
  refine ⟨ys, hs, ⟨o, es, ep, e, d.ex, hd, he, fun y hy => ?_, by rw [← hs.keys]; exact d.nd⟩, by rw [← Paired.length hs]; exact d.len⟩
  obtain ⟨x, hx, e1, e2⟩ := hs.mem y hy
  rw [← e1, ← e2]
  exact I.isT (hq x hx)
theorem DcObj.of {P : Program} {w : World} {h : Heap} {ys : KeV} (hm : h.DictOfH (kdT P w) a ys) (hs : Sames kvs ys) (sm : (a == sysModules) = false) (hl : kvs.length ≤ sizeLine) : ∃ o, h.get? a = some o ∧ DcObj a o kvs := by
  obtain ⟨o, es, ep, e, ex, hd, he, _, nd⟩ := hm
  exact ⟨o, e, sm, hl, ex, by rw [hs.keys]; exact nd, es, ep, ys, hd, hs, he⟩
end
end DL
namespace DL
open PySem PySem.Spec L2 PyProof.Rows
section
variable {X : Cx} {pos : Pos} {kx vx a b e : Expr} {tk tv ta tb te : TE}
end
section
variable {P : Program} {w : World} {K : PySem.W.Frag} {d : Addr} {o : Obj} {kvs : Ke}
end
section
variable {X : Cx} {e : Expr} {te : TE} {apos cpos pos : Pos}
end
end DL
namespace DL
open PySem PySem.Spec L2 PyProof.Rows
section
variable {Y : Cx} {pins : List (Addr × Obj)} {σ : L2.St} {fp : List Addr} {tn : Nat → Heap → Prop} {W : Nat → Nat → Hp → Prop} {J : It} {Sp : (Hp → Prop) → V → Hp → Prop} {Fin : Hp → Prop} {tg : Expr} {it : Addr} {n : Nat} {s : Shared}
end
section
variable {X : Cx} {tg iter kx vx : Expr} {ifs : List Expr} {rest : List Comprehension} {scope : Scope} {own : List (Str × Nat)} {pos pos' : Pos} {wi : TI}
end
end DL
namespace DL
open PySem PySem.Spec L2 PyProof.Rows
section
variable {X : Cx} {tg iter kx vx tg1 iter1 : Expr} {ifs ifs1 : List Expr} {scope : Scope} {own : List (Str × Nat)} {vs1 : List Nat} {pos pos' spos : Pos} {wi wi1 : TI} {g g1 : TG} {tt tt1 : TT} {tk tv : TE}
abbrev InB (X : Cx) (scope : Scope) (p : Cx → Prop) : Prop := ∀ (s : Shared) (H : Hp) (C : Addr) (cl : List (Str × Addr)) (fp : List Addr), p (X.blk s H scope (compEnvC scope cl C X.env) fp)
section
variable {prog : Program} {w : World} {A : Around} {R : Result → Shared → Prop} {s : Shared} {t0 i0 t1 i1 : Expr} {ifs0 : List Expr} {it : Value} {D : Addr} {env : Env}
end
end
end DL
namespace DL
open PySem PySem.Spec L2 PyProof.Rows
section
variable {X : Cx} {tg iter kx vx tg1 iter1 : Expr} {ifs ifs1 : List Expr} {scope : Scope} {own : List (Str × Nat)} {vs1 : List Nat} {pos pos' spos : Pos} {wi wi1 : TI} {g g1 : TG} {tt tt1 : TT} {tk tv : TE}
section
variable (hc : X.calm = true) (hu : X.A.units < cLine) (hN : X.N.Nodup) (hi : PI X tg iter wi) (ok : BlkOk X.N X.env.scope scope own) (hg : InB X scope fun Y => PG Y tg g) (ht : InB X scope fun Y => PTs Y ifs tt)
include hc hu hN hi ok hg ht
variable {i : Nat} {y : Str} {py : Pos} (hy : X.N[i]? = some y) (hyl : X.env.scope.names.lookup y = some .local)
include hy hyl
end
end
end DL
namespace DL
open PySem PySem.Spec L2
section
variable {c : Cc} {L Z : Addr → Prop} {σ σ' : L2.St} {H H' : Hp} {env env' : En}
abbrev ZOk (L : Addr → Prop) (H : Hp) (Z : Addr → Prop) : Prop := ∀ b, Z b → L b ∨ ∃ φ, H b = some (.ext φ)
theorem RE.zn (re : RE c L σ H env) (hz : ZOk L H Z) {b : Addr} (h : Z b) : ¬ ownM σ env b := by
  intro ow
  rcases hz b h with l | ⟨φ, e⟩
  · exact (re.ext b l).1 ow
  · obtain ⟨i, io, ds, e1, e2⟩ := ow
    obtain ⟨a, xs, e3, e4, _⟩ := re.own i io ds e1
    rw [e2] at e3
    cases e3
    rw [e] at e4
    cases e4
theorem ZOk.step (hz : ZOk L H Z) (re : RE c L σ H env) (s : Stp σ env H σ env' H') : ZOk L H' Z := fun b zb => by
  rcases hz b zb with l | ⟨φ, e⟩
  · exact .inl l
  · refine .inr ⟨φ, ?_⟩
    rw [(s b (Nn.not e (re.zn hz zb))).1, e]
end
section
variable {X : Cx} {c : Cc} {W : WX} {e tg : Expr} {fa : FE} {fas : FA} {p pos : Pos}
end
end DL
namespace DL
open PySem PySem.Spec L2
section
variable {X : Cx} {c : Cc} {W : WX} {α : Type} {L : Addr → Prop} {AR : α → L2.St → En → Hp → Prop} {SB : Sp0} {ft : FT} {t : CT} {vs : List Nat} {body : α → En → R α} {k : Wk} {J : It} {σw : L2.St}
end
end DL
namespace DL
open PySem PySem.Spec L2
def dcOf (m : List (List Int × D)) : D := .dct (m.map fun p => .tup (p.1.map .int)) (m.map (·.2))
section
variable {c : Cc} {W : WX} {L : Addr → Prop} {σ : L2.St} {H : Hp} {env : En} {Dd : Addr}
variable {SB' : Sp0} {fe fk fv : FE}
end
end DL
namespace DL
open PySem PySem.Spec L2
section
variable {X : Cx} {c : Cc} {W : WX} {fi fi1 : FI} {vs vs1 : List Nat} {t t1 : CT} {ft ft1 : FT} {fe fk fv fa fb : FE}
end
end DL
namespace DL
open PySem PySem.Spec L2
section
variable {X : Cx} {c : Cc} {W : WX} {fi fi1 : FI} {vs vs1 : List Nat} {t t1 : CT} {ft ft1 : FT} {fe fk fv fa fb : FE} {pos spos apos cpos p : Pos} {elt kx vx iter iter1 tg tg1 a b e : Expr} {ifs ifs1 : List Expr} {scope : Scope} {own : List (Str × Nat)}
def eDisp1 (fk fv : FE) : FE := fun env => (fk env).bind fun tk e1 => (fv e1).bind fun tv e2 => match tk, tv with
  | .im (.tup ds), .im y => match intsOf ds with
    | some ns => .ok (.im (dcOf [(ns, y)])) e2
    | none => .er
  | _, _ => .er
def getK : List D → List D → List Int → Option D
  | .tup ds :: ks, v :: vs, ns => if intsOf ds = some ns then some v else getK ks vs ns
  | _, _, _ => none
def dDIx : D → D → Option T
  | .dct ks vs, .tup ds => match intsOf ds with
    | some ns => (getK ks vs ns).map T.im
    | none => none
  | _, _ => none
def eDIx (fa fb : FE) : FE := fun env => (fa env).bind fun ta e1 => (fb e1).bind fun tb e2 => match ta with
  | .im d => match tb.val e2 with
    | some k => R.opt (dDIx d k) e2
    | none => .er
  | _ => .er
def pairsD (ks vs : List D) : List D := ks.zipWith (fun k v => .tup [k, v]) vs
def iDi (t : T) (env : En) : R Wk := match t with
  | .im (.dct ks vs) => .ok ⟨pairsD ks vs, none⟩ env
  | _ => .er
def fiDi (fa : FE) : FI := fun env => (fa env).bind iDi
def eDMax (fe : FE) : FE := fun env => (fe env).bind fun t e1 => match t with
  | .im (.dct _ vs) => match intsOf vs with
    | some (n :: ns) => .ok (.im (.int (ns.foldl max n))) e1
    | _ => .er
  | _ => .er
end
end DL
namespace DL
open PySem PySem.Spec L2
@[simp] theorem eDisp1_s (fk fv : FE) (env : En) : eDisp1 fk fv env = ((fk env).bind fun tk e1 => (fv e1).bind fun tv e2 => match tk, tv with
  | .im (.tup ds), .im y => match intsOf ds with
    | some ns => .ok (.im (dcOf [(ns, y)])) e2
    | none => .er
  | _, _ => .er) := rfl
@[simp] theorem eDIx_s (fa fb : FE) (env : En) : eDIx fa fb env = ((fa env).bind fun ta e1 => (fb e1).bind fun tb e2 => match ta with
  | .im d => match tb.val e2 with
    | some k => R.opt (dDIx d k) e2
    | none => .er
  | _ => .er) := rfl
@[simp] theorem fiDi_s (fa : FE) (env : En) : fiDi fa env = ((fa env).bind iDi) := rfl
@[simp] theorem iDi_s (ks vs : List D) (env : En) : iDi (.im (.dct ks vs)) env = .ok ⟨pairsD ks vs, none⟩ env := rfl
@[simp] theorem eDMax_s (fe : FE) (env : En) : eDMax fe env = ((fe env).bind fun t e1 => match t with
  | .im (.dct _ vs) => match intsOf vs with
    | some (n :: ns) => .ok (.im (.int (ns.foldl max n))) e1
    | _ => .er
  | _ => .er) := rfl
end DL
namespace DL
open PySem PySem.Spec L2
section
variable {X : Cx} {c : Cc} {W : WX} {e tg elt a b : Expr} {te : TE} {fe : FE} {fas : FA} {ft : FT} {t : CT} {pos p pc px spos rpos : Pos} {ifs : List Expr} {scope : Scope} {own : List (Str × Nat)} {x : Str} {i : Nat}
end
end DL
namespace DL
open PySem PySem.Spec L2
section
variable {X : Cx} {c : Cc} {pos : Pos} {es : List Expr} {gs : FGs}
def gTA (n : Nat) (gs : FGs) : FG := fun t env => match t with
  | .im (.lst ds) => if ds.length = n then gs (ds.map fun d => ⟨false, d⟩) env else .er
  | t => gT n gs t env
@[simp] theorem gTA_lst (n : Nat) (gs : FGs) (ds : List D) (env : En) : gTA n gs (.im (.lst ds)) env = if ds.length = n then gs (ds.map fun d => ⟨false, d⟩) env else .er := rfl
@[simp] theorem gTA_tup (n : Nat) (gs : FGs) (ds : List D) (env : En) : gTA n gs (.im (.tup ds)) env = gT n gs (.im (.tup ds)) env := rfl
end
end DL
namespace DL
open PySem PySem.Spec L2
section
open PySem.W PyProof.Rows PySem.SeqAt
variable {prog : Program} {w : World} {A : Around} {E : Value → Shared → Prop} {s : Shared}
section
variable {M : Model}
end
end
def relabelS (scope sc : Scope) : Scope :=
  { scope with names := scope.names.map fun (n, k) => if (k == .free && sc.kind == .function && sc.names.lookup n == some .cell) then (n, .cell) else (n, k) }
theorem relabel_is (scope : Scope) (env : Env) : relabel scope env = relabelS scope env.scope := rfl
end DL
namespace DL
open PySem PySem.Spec L2
section
variable {X : Cx} {c : Cc} {W : WX} {pos p kp np : Pos} {e : Expr} {fa : FA}
end
end DL
namespace DL
open PySem PySem.Spec L2
section
open PySem.W PyProof.Rows
def ItA (c : Bool) (h : Heap) (it l : Addr) (k : Nat) : Prop := if c = true then h.IsListIter it l k else h.IsTupleIter it l k
def SqA (c : Bool) (h : Heap) (l : Addr) (xs : Array Value) : Prop := if c = true then h.IsList l xs else h.IsTuple l xs
theorem ItA.ext {c : Bool} {h g : Heap} {it l x : Addr} {k : Nat} (i : ItA c h it l k) (e : Heap.ExtBut x h g) (n : it ≠ x) : ItA c g it l k := by
  cases c
  · exact Heap.IsTupleIter.extBut (show h.IsTupleIter it l k from i) e n
  · exact Heap.IsListIter.extBut (show h.IsListIter it l k from i) e n
theorem ItA.at {c : Bool} {h g : Heap} {it l : Addr} {k : Nat} (i : ItA c h it l k) (e : ∀ o, h.get? it = some o → g.get? it = some o) : ItA c g it l k := by
  cases c
  · exact Heap.IsTupleIter.at (show h.IsTupleIter it l k from i) e
  · exact Heap.IsListIter.at (show h.IsListIter it l k from i) e
theorem SqA.ext {c : Bool} {h g : Heap} {l x : Addr} {xs : Array Value} (i : SqA c h l xs) (e : Heap.ExtBut x h g) (n : l ≠ x) : SqA c g l xs := by
  cases c
  · exact Heap.IsTuple.extBut (show h.IsTuple l xs from i) e n
  · exact Heap.IsList.extBut (show h.IsList l xs from i) e n
section
variable {prog : Program} {w : World} {A : Around} {E : Value → Shared → Prop} {s : Shared}
end
section
variable {X : Cx} {pins : List (Addr × Obj)} {s : Shared} {σ : L2.St} {H : Hp}
end
section
variable {prog : Program} {w : World} {A : Around} {E : Value → Shared → Prop} {s : Shared}
end
end
end DL
namespace DL
open PySem PySem.Spec L2
section
variable {c : Cc}
end
def iZm (fz : Bool) (ts : List T) (env : En) : R Wk := match ts with
  | [t, .im (.tup es)] => onI (fun xs => zipD xs es) (iL fz t.weak env)
  | _ => .er
def fiZm (fz : Bool) (fa : FA) : FI := fun env => (fa env).bind (iZm fz)
def iZn (fz : Bool) (ts : List T) (env : En) : R Wk := match ts with
  | [t, u] => (iL true u.weak env).bind fun k2 e2 => onI (fun xs => zipD xs k2.its) (iL fz t.weak e2)
  | _ => .er
def fiZn (fz : Bool) (fa : FA) : FI := fun env => (fa env).bind (iZn fz)
@[simp] theorem fiZm_s (fz : Bool) (fa : FA) (env : En) : fiZm fz fa env = ((fa env).bind (iZm fz)) := rfl
@[simp] theorem fiZn_s (fz : Bool) (fa : FA) (env : En) : fiZn fz fa env = ((fa env).bind (iZn fz)) := rfl
section
variable {X : Cx} {c : Cc} {W : WX} {pos p : Pos} {tg a b : Expr} {fas : FA}
end
end DL
namespace DL
open PySem PySem.Spec L2
noncomputable def f_is_integer : FS := (sRet (eAn (eIsi "int" (eVar 0)) (eNo (eIsi "bool" (eVar 0)))))
noncomputable def d_is_integer : FD := runD 1 1 f_is_integer
noncomputable def f_is_between : FS := (sRet (eAn (eCall d_is_integer (aCons (eVar 0) aNil)) (eCh dLe dLe (eVar 1) (eVar 0) (eVar 2))))
noncomputable def d_is_between : FD := runD 3 3 f_is_between
noncomputable def f_is_tuple_of : FS := (sRet (eAn (eIsi "tuple" (eVar 0)) (eOp dEqA (eB dLen (aCons (eVar 0) aNil)) (eVar 1))))
noncomputable def d_is_tuple_of : FD := runD 2 2 f_is_tuple_of
noncomputable def f_is_most : FS := (sRet (eOr (eOp dIs (eVar 0) (eC .non)) (eCall d_is_between (aCons (eVar 0) (aCons (eC (.int 1)) (aCons (eC (.int 2)) aNil))))))
noncomputable def d_is_most : FD := runD 1 1 f_is_most
noncomputable def f_is_good : FS := (sSeq (sIf (tNo (tV (eCall d_is_tuple_of (aCons (eVar 0) (aCons (eC (.int 2)) aNil))))) (sRet (eC (.bl false))) sNx)
    (sSeq (sAsg (eVar 0) (gT 2 (gsCons (gN 1) (gsCons (gN 2) gsNil))))
    (sRet (eAn (eCall d_is_between (aCons (eVar 1) (aCons (eC (.int 1)) (aCons (eC (.int 9)) aNil)))) (eCall d_is_between (aCons (eVar 2) (aCons (eC (.int 0)) (aCons (eC (.int 9)) aNil))))))))
noncomputable def d_is_good : FD := runD 3 1 f_is_good
noncomputable def f_is_pack : FS := (sSeq (sIf (tNo (tV (eCall d_is_tuple_of (aCons (eVar 0) (aCons (eC (.int 5)) aNil))))) (sRet (eC (.bl false))) sNx)
    (sSeq (sAsg (eVar 0) (gT 5 (gsCons (gN 2) (gsCons (gN 3) (gsCons (gN 4) (gsCons (gN 5) (gsCons (gN 6) gsNil)))))))
    (sRet (eAn (eCall d_is_between (aCons (eVar 3) (aCons (eC (.int 0)) (aCons (eOp dSub (eVar 1) (eC (.int 1))) aNil)))) (eAn (eCall d_is_between (aCons (eVar 4) (aCons (eC (.int 2)) (aCons (eC (.int 3)) aNil)))) (eAn (eCall d_is_between (aCons (eVar 5) (aCons (eVar 4) (aCons (eC (.int 30)) aNil)))) (eCall d_is_most (aCons (eVar 6) aNil))))))))
noncomputable def d_is_pack : FD := runD 7 2 f_is_pack
noncomputable def f_is_from : FS := (sSeq (sIf (tNo (tV (eCall d_is_tuple_of (aCons (eVar 0) (aCons (eC (.int 4)) aNil))))) (sRet (eC (.bl false))) sNx)
    (sSeq (sAsg (eVar 0) (gT 4 (gsCons (gN 2) (gsCons (gN 3) (gsCons (gN 4) (gsCons (gN 5) gsNil))))))
    (sRet (eAn (eCall d_is_between (aCons (eVar 3) (aCons (eC (.int 0)) (aCons (eOp dSub (eVar 1) (eC (.int 1))) aNil)))) (eAn (eCall d_is_between (aCons (eVar 4) (aCons (eC (.int 2)) (aCons (eC (.int 4)) aNil)))) (eCall d_is_between (aCons (eVar 5) (aCons (eC (.int 1)) (aCons (eC (.int 9)) aNil)))))))))
noncomputable def d_is_from : FD := runD 6 2 f_is_from
noncomputable def f_is_over : FS := (sSeq (sIf (tNo (tV (eCall d_is_tuple_of (aCons (eVar 0) (aCons (eC (.int 3)) aNil))))) (sRet (eC (.bl false))) sNx)
    (sSeq (sAsg (eVar 0) (gT 3 (gsCons (gN 1) (gsCons (gN 2) (gsCons (gN 3) gsNil)))))
    (sRet (eAn (eCall d_is_between (aCons (eVar 2) (aCons (eC (.int 2)) (aCons (eC (.int 12)) aNil)))) (eCall d_is_between (aCons (eVar 3) (aCons (eC (.int 1)) (aCons (eB dMin2 (aCons (eC (.int 6)) (aCons (eVar 2) aNil))) aNil))))))))
noncomputable def d_is_over : FD := runD 4 1 f_is_over
noncomputable def f_is_each : FS := (sSeq (sIf (tNo (tV (eCall d_is_tuple_of (aCons (eVar 0) (aCons (eC (.int 4)) aNil))))) (sRet (eC (.bl false))) sNx)
    (sSeq (sAsg (eVar 0) (gT 4 (gsCons (gN 1) (gsCons (gN 2) (gsCons (gN 3) (gsCons (gN 4) gsNil))))))
    (sSeq (sIf (tOr' (tNo (tV (eCall d_is_between (aCons (eVar 2) (aCons (eC (.int 2)) (aCons (eC (.int 6)) aNil)))))) (tNo (tV (eCall d_is_between (aCons (eVar 3) (aCons (eC (.int 1)) (aCons (eVar 2) aNil))))))) (sRet (eC (.bl false))) sNx)
    (sRet (eAn (eCall d_is_most (aCons (eVar 4) aNil)) (eOr (eOp dNis (eVar 4) (eC .non)) (eOp dLe (eOp dMulA (eC (.int 2)) (eVar 3)) (eVar 2))))))))
noncomputable def d_is_each : FD := runD 5 1 f_is_each
noncomputable def f_is_rule : FS := (sSeq (sIf (tOr' (tNo (tV (eIsi "tuple" (eVar 0)))) (tV (eOp dEqA (eB dLen (aCons (eVar 0) aNil)) (eC (.int 0))))) (sRet (eC (.bl false))) sNx)
    (sSeq (sAsg (eOp dIx (eVar 0) (eC (.int 0))) (gN 2))
    (sSeq (sIf (tNo (tV (eIsi "str" (eVar 2)))) (sRet (eC (.bl false))) sNx)
    (sSeq (sIf (tV (eOp dEqA (eVar 2) (eC (.str "pack")))) (sRet (eCall d_is_pack (aCons (eVar 0) (aCons (eVar 1) aNil)))) sNx)
    (sSeq (sIf (tV (eOp dEqA (eVar 2) (eC (.str "from")))) (sRet (eCall d_is_from (aCons (eVar 0) (aCons (eVar 1) aNil)))) sNx)
    (sSeq (sIf (tV (eOp dEqA (eVar 2) (eC (.str "over")))) (sRet (eCall d_is_over (aCons (eVar 0) aNil))) sNx)
    (sRet (eAn (eOp dEqA (eVar 2) (eC (.str "each"))) (eCall d_is_each (aCons (eVar 0) aNil))))))))))
noncomputable def d_is_rule : FD := runD 3 2 f_is_rule
noncomputable def f_is_endless_each : FS := (sRet (eAn (eOp dEqA (eOp dIx (eVar 0) (eC (.int 0))) (eC (.str "each"))) (eOp dIs (eOp dIx (eVar 0) (eC (.int 3))) (eC .non))))
noncomputable def d_is_endless_each : FD := runD 1 1 f_is_endless_each
noncomputable def f_are_goods : FS := (sSeq (sIf (tOr' (tNo (tV (eIsi "tuple" (eVar 0)))) (tNo (tV (eCh dLe dLe (eC (.int 1)) (eB dLen (aCons (eVar 0) aNil)) (eC (.int 2)))))) (sRet (eC (.bl false))) sNx)
    (sRet (eB dAll (aCons (eLc (fiT (eVar 0)) [1] (.one 1) tT (eCall d_is_good (aCons (eVar 1) aNil))) aNil))))
noncomputable def d_are_goods : FD := runD 2 1 f_are_goods
noncomputable def f_are_rules : FS := (sSeq (sIf (tOr' (tNo (tV (eIsi "tuple" (eVar 0)))) (tV (eOp dGt (eB dLen (aCons (eVar 0) aNil)) (eC (.int 4))))) (sRet (eC (.bl false))) sNx)
    (sSeq (sIf (tNo (tV (eB dAll (aCons (eLc (fiT (eVar 0)) [2] (.one 2) tT (eCall d_is_rule (aCons (eVar 2) (aCons (eVar 1) aNil)))) aNil)))) (sRet (eC (.bl false))) sNx)
    (sRet (eOp dLe (eB dLen (aCons (eLc (fiT (eVar 0)) [2] (.one 2) (tV (eCall d_is_endless_each (aCons (eVar 2) aNil))) (eVar 2)) aNil)) (eC (.int 1))))))
noncomputable def d_are_rules : FD := runD 3 2 f_are_rules
noncomputable def f_is_shop : FS := (sSeq (sIf (tNo (tV (eCall d_is_tuple_of (aCons (eVar 0) (aCons (eC (.int 2)) aNil))))) (sRet (eC (.bl false))) sNx)
    (sSeq (sAsg (eVar 0) (gT 2 (gsCons (gN 1) (gsCons (gN 2) gsNil))))
    (sRet (eAn (eCall d_are_goods (aCons (eVar 1) aNil)) (eCall d_are_rules (aCons (eVar 2) (aCons (eB dLen (aCons (eVar 1) aNil)) aNil)))))))
noncomputable def d_is_shop : FD := runD 3 1 f_is_shop
noncomputable def f__law_cell_at : FS := (sSeq (sIf (tV (eOp dLt (eVar 1) (eB dLen (aCons (eVar 0) aNil)))) (sRet (eOp dIx (eVar 0) (eVar 1))) sNx)
    (sSeq (sIf (tV (eOp dEqA (eVar 0) (eLst aNil))) (sRet (eC (.int 0))) sNx)
    (sSeq (sAsg (eOp dIx (eVar 0) (eOp dMod (eVar 1) (eB dLen (aCons (eVar 0) aNil)))) (gN 2))
    (sSeq (sFor (fiR1 (aCons (eB dMin2 (aCons (eOp dFdiv (eVar 1) (eB dLen (aCons (eVar 0) aNil))) (aCons (eC (.int 60)) aNil))) aNil)) (gN 3) (sAsg (eOp dFdiv (eVar 2) (eC (.int 1000003))) (gN 2)))
    (sRet (eOp dAdd (eOp dAdd (eOp dMulA (eOp dIx (eVar 0) (eOp dMod (eVar 1) (eB dLen (aCons (eVar 0) aNil)))) (eC (.int 31))) (eVar 1)) (eOp dMulA (eVar 2) (eC (.int 101)))))))))
noncomputable def d__law_cell_at : FD := runD 4 2 f__law_cell_at
noncomputable def f__law_mixed : FS := (sSeq (sAsg (eOp dMod (eOp dAdd (eOp dAdd (eOp dMulA (eCall d__law_cell_at (aCons (eVar 0) (aCons (eVar 1) aNil))) (eC (.int 1103515245))) (eOp dMulA (eC (.int 7919)) (eVar 1))) (eC (.int 12345))) (eC (.int 2147483647))) (gN 3))
    (sRet (eOp dMod (eOp dMod (eOp dMod (eOp dPow (eVar 3) (eC (.int 5))) (eC (.int 2147483647))) (eC (.int 999983))) (eVar 2))))
noncomputable def d__law_mixed : FD := runD 4 3 f__law_mixed
noncomputable def f__law_draw : FS := (sSeq (sDrop (eMet kApp (eVar 1) (aCons (eC (.int 0)) aNil)))
    (sRet (eCall d__law_mixed (aCons (eVar 0) (aCons (eB dLen (aCons (eVar 1) aNil)) (aCons (eVar 2) aNil))))))
noncomputable def d__law_draw : FD := runD 3 3 f__law_draw
noncomputable def f__law_pick : FS := (sRet (eOp dIx (eVar 2) (eCallI 1 d__law_draw (aCons (eVar 0) (aCons (eVar 1) (aCons (eB dLen (aCons (eVar 2) aNil)) aNil))))))
noncomputable def d__law_pick : FD := runD 3 3 f__law_pick
noncomputable def f__law_some_rule_1 : FS := (sAsg (eCallI 1 d__law_draw (aCons (eVar 0) (aCons (eVar 1) (aCons (eC (.int 5)) aNil)))) (gN 4))
noncomputable def f__law_some_rule_2 : FS := (sAsg (eCallI 1 d__law_draw (aCons (eVar 0) (aCons (eVar 1) (aCons (eB dLen (aCons (eVar 2) aNil)) aNil)))) (gN 5))
noncomputable def f__law_some_rule_3 : FS := (sAsg (eOp dIx (eOp dIx (eVar 2) (eVar 5)) (eC (.int 0))) (gN 6))
noncomputable def f__law_some_rule_4 : FS := (sIf (tV (eOp dLt (eVar 4) (eC (.int 2)))) (sSeq (sAsg (eOp dAdd (eC (.int 2)) (eCallI 1 d__law_draw (aCons (eVar 0) (aCons (eVar 1) (aCons (eC (.int 2)) aNil))))) (gN 9))
    (sSeq (sAsg (eB dMax2 (aCons (eVar 9) (aCons (eOp dSub (eOp dMulA (eVar 9) (eVar 6)) (eCallI 1 d__law_draw (aCons (eVar 0) (aCons (eVar 1) (aCons (eOp dAdd (eOp dMulA (eC (.int 2)) (eVar 9)) (eC (.int 2))) aNil))))) aNil))) (gN 10))
    (sRet (eTup (aCons (eC (.str "pack")) (aCons (eVar 5) (aCons (eVar 9) (aCons (eVar 10) (aCons (eCallI 1 d__law_pick (aCons (eVar 0) (aCons (eVar 1) (aCons (eTup (aCons (eC .non) (aCons (eC .non) (aCons (eC (.int 1)) (aCons (eC (.int 2)) aNil))))) aNil)))) aNil))))))))) sNx)
noncomputable def f__law_some_rule_5 : FS := (sIf (tV (eOp dEqA (eVar 4) (eC (.int 2)))) (sRet (eTup (aCons (eC (.str "from")) (aCons (eVar 5) (aCons (eOp dAdd (eC (.int 2)) (eCallI 1 d__law_draw (aCons (eVar 0) (aCons (eVar 1) (aCons (eC (.int 3)) aNil))))) (aCons (eB dMax2 (aCons (eC (.int 1)) (aCons (eOp dSub (eVar 6) (eCallI 1 d__law_draw (aCons (eVar 0) (aCons (eVar 1) (aCons (eC (.int 4)) aNil))))) aNil))) aNil)))))) sNx)
noncomputable def f__law_some_rule_6 : FS := (sIf (tV (eOp dEqA (eVar 4) (eC (.int 3)))) (sSeq (sAsg (eOp dAdd (eC (.int 4)) (eCallI 1 d__law_draw (aCons (eVar 0) (aCons (eVar 1) (aCons (eC (.int 9)) aNil))))) (gN 7))
    (sRet (eTup (aCons (eC (.str "over")) (aCons (eVar 7) (aCons (eOp dAdd (eC (.int 1)) (eCallI 1 d__law_draw (aCons (eVar 0) (aCons (eVar 1) (aCons (eC (.int 4)) aNil))))) aNil)))))) sNx)
noncomputable def f__law_some_rule_7 : FS := (sAsg (eOp dAdd (eC (.int 2)) (eCallI 1 d__law_draw (aCons (eVar 0) (aCons (eVar 1) (aCons (eC (.int 5)) aNil))))) (gN 7))
noncomputable def f__law_some_rule_8 : FS := (sAsg (eCallI 1 d__law_pick (aCons (eVar 0) (aCons (eVar 1) (aCons (eIf (tV (eVar 3)) (eTup (aCons (eC (.int 1)) (aCons (eC (.int 2)) aNil))) (eTup (aCons (eC .non) (aCons (eC .non) (aCons (eC (.int 1)) (aCons (eC (.int 2)) aNil)))))) aNil)))) (gN 8))
noncomputable def f__law_some_rule_9 : FS := (sRet (eTup (aCons (eC (.str "each")) (aCons (eVar 7) (aCons (eOp dAdd (eC (.int 1)) (eCallI 1 d__law_draw (aCons (eVar 0) (aCons (eVar 1) (aCons (eOp dFdiv (eVar 7) (eC (.int 2))) aNil))))) (aCons (eVar 8) aNil))))))
noncomputable def f__law_some_rule : FS := sSeq f__law_some_rule_1 (sSeq f__law_some_rule_2 (sSeq f__law_some_rule_3 (sSeq f__law_some_rule_4 (sSeq f__law_some_rule_5 (sSeq f__law_some_rule_6 (sSeq f__law_some_rule_7 (sSeq f__law_some_rule_8 (f__law_some_rule_9))))))))
noncomputable def d__law_some_rule : FD := runD 11 4 f__law_some_rule
noncomputable def f__law_some_goods : FS := (sSeq (sAsg (eIf (tV (eOp dEqA (eCallI 1 d__law_draw (aCons (eVar 0) (aCons (eVar 1) (aCons (eC (.int 3)) aNil)))) (eC (.int 0)))) (eC (.int 2)) (eC (.int 1))) (gN 2))
    (sRet (eB dTuple (aCons (eLc (fiR1 (aCons (eVar 2) aNil)) [3] (.one 3) tT (eTup (aCons (eOp dAdd (eC (.int 3)) (eCallI 1 d__law_draw (aCons (eVar 0) (aCons (eVar 1) (aCons (eC (.int 7)) aNil))))) (aCons (eCallI 1 d__law_draw (aCons (eVar 0) (aCons (eVar 1) (aCons (eC (.int 8)) aNil)))) aNil)))) aNil))))
noncomputable def d__law_some_goods : FD := runD 4 2 f__law_some_goods
noncomputable def f__law_some_shop : FS := (sSeq (sPar 3 4 (aCons (eCallI 1 d__law_some_goods (aCons (eVar 0) (aCons (eVar 1) aNil))) (aCons (eLst aNil) aNil)))
    (sSeq (sFor (fiR1 (aCons (eCallI 1 d__law_draw (aCons (eVar 0) (aCons (eVar 1) (aCons (eC (.int 5)) aNil)))) aNil)) (gN 2) (sSeq (sAsg (eB dAny (aCons (eLc (fiL false (eVar 4)) [6] (.one 6) tT (eAn (eOp dEqA (eOp dIx (eVar 6) (eC (.int 0))) (eC (.str "each"))) (eOp dIs (eOp dIx (eVar 6) (eC (.int 3))) (eC .non)))) aNil)) (gN 5))
    (sDrop (eMet kApp (eVar 4) (aCons (eCallI 1 d__law_some_rule (aCons (eVar 0) (aCons (eVar 1) (aCons (eVar 3) (aCons (eVar 5) aNil))))) aNil)))))
    (sRet (eTup (aCons (eVar 3) (aCons (eB dTuple (aCons (eVar 4) aNil)) aNil))))))
noncomputable def d__law_some_shop : FD := runD 7 2 f__law_some_shop
noncomputable def f_check_shop : FS := (sIf (tNo (tV (eCall d_is_shop (aCons (eVar 0) aNil)))) (sRz "InvalidShop") sNx)
noncomputable def d_check_shop : FD := runD 1 1 f_check_shop
end DL
namespace DL
open PySem PySem.Spec L2
def isBetween (v : D) (lo hi : Int) : Bool := match v with
  | .int i => decide (lo ≤ i) && decide (i ≤ hi)
  | _ => false
def isInt : D → Bool
  | .int _ => true
  | _ => false
theorem r_is_integer (v : D) : d_is_integer [.im v] = .ok (.im (.bl (isInt v))) [.no] := by
  cases v <;> simp [d_is_integer, f_is_integer, isInt, sEr, op2, op1, T.val, R.opt, toB, opL, vals, consT, disp, mvs, mkTup, callT, callI, argE, others, isAl, isAli, finT, outE, padE, runD, cpsOf, cpT, toI, slT, T.weak, metT, kApp, kExt, elemD, iT, iL, iR1, iR2, iE, iZ, onI]
theorem r_is_between (v : D) (lo hi : Int) : d_is_between [.im v, .im (.int lo), .im (.int hi)] = .ok (.im (.bl (isBetween v lo hi))) [.no, .no, .no] := by
  cases v <;> simp [d_is_between, f_is_between, isBetween, r_is_integer, isInt, sEr, op2, op1, T.val, R.opt, toB, opL, vals, consT, disp, mvs, mkTup, callT, callI, argE, others, isAl, isAli, finT, outE, padE, runD, cpsOf, cpT, toI, slT, T.weak, metT, kApp, kExt, elemD, iT, iL, iR1, iR2, iE, iZ, onI]
def isTupleOf (v : D) (n : Int) : Bool := match v with
  | .tup ds => (ds.length : Int) == n
  | _ => false
theorem r_is_tuple_of (v : D) (n : Int) : d_is_tuple_of [.im v, .im (.int n)] = .ok (.im (.bl (isTupleOf v n))) [.no, .no] := by
  cases v <;> simp [d_is_tuple_of, f_is_tuple_of, isTupleOf, sEr, op2, op1, T.val, R.opt, toB, opL, vals, consT, disp, mvs, mkTup, callT, callI, argE, others, isAl, isAli, finT, outE, padE, runD, cpsOf, cpT, toI, slT, T.weak, metT, kApp, kExt, elemD, iT, iL, iR1, iR2, iE, iZ, onI]
def isMost (v : D) : Bool := match v with
  | .non => true
  | v => isBetween v 1 2
theorem r_is_most (v : D) : d_is_most [.im v] = .ok (.im (.bl (isMost v))) [.no] := by
  cases v <;> simp [d_is_most, f_is_most, isMost, r_is_between, sEr, op2, op1, T.val, R.opt, toB, opL, vals, consT, disp, mvs, mkTup, callT, callI, argE, others, isAl, isAli, finT, outE, padE, runD, cpsOf, cpT, toI, slT, T.weak, metT, kApp, kExt, elemD, iT, iL, iR1, iR2, iE, iZ, onI]
def isGood (v : D) : Bool := match v with
  | .tup [p, c] => isBetween p 1 9 && isBetween c 0 9
  | _ => false
theorem r_is_good (v : D) : d_is_good [.im v] = .ok (.im (.bl (isGood v))) [.no] := by
  by_cases h : isTupleOf v 2 = true
  · obtain ⟨a, b, rfl⟩ : ∃ a b, v = .tup [a, b] := by
      cases v <;> simp [isTupleOf] at h
      rename_i ds
      match ds, h with
      | [a, b], _ => exact ⟨a, b, rfl⟩
    simp [d_is_good, f_is_good, isGood, r_is_tuple_of, r_is_between, h, sEr, op2, op1, T.val, R.opt, toB, opL, vals, consT, disp, mvs, mkTup, callT, callI, argE, others, isAl, isAli, finT, outE, padE, runD, cpsOf, cpT, toI, slT, T.weak, metT, kApp, kExt, elemD, iT, iL, iR1, iR2, iE, iZ, onI]
  · have e : isGood v = false := by
      unfold isGood
      split
      · simp [isTupleOf] at h
      · rfl
    simp [d_is_good, f_is_good, e, r_is_tuple_of, h, sEr, op2, op1, T.val, R.opt, toB, opL, vals, consT, disp, mvs, mkTup, callT, callI, argE, others, isAl, isAli, finT, outE, padE, runD, cpsOf, cpT, toI, slT, T.weak, metT, kApp, kExt, elemD, iT, iL, iR1, iR2, iE, iZ, onI]
theorem isBt_int {v : D} {a b : Int} (h : isBetween v a b = true) : ∃ i, v = .int i := by
  cases v <;> first | exact ⟨_, rfl⟩ | exact (Bool.false_ne_true h).elim
theorem isTup_get {v : D} {n : Int} (h : isTupleOf v n = true) : ∃ ds, v = .tup ds ∧ (ds.length : Int) = n := by
  cases v <;> simp [isTupleOf] at h
  exact ⟨_, rfl, h⟩
def isPack (v : D) (n : Int) : Bool := match v with
  | .tup [_, .int g, .int s, p, m] => isBetween (.int g) 0 (n - 1) && (isBetween (.int s) 2 3 && (isBetween p s 30 && isMost m))
  | _ => false
theorem r_is_pack (v : D) (n : Int) : d_is_pack [.im v, .im (.int n)] = .ok (.im (.bl (isPack v n))) [.no, .no] := by
  by_cases h : isTupleOf v 5 = true
  · obtain ⟨ds, rfl, hl⟩ := isTup_get h
    match ds, hl with
    | [a, g, s, p, m], _ =>
      by_cases hg : isBetween g 0 (n - 1) = true
      · by_cases hs : isBetween s 2 3 = true
        · obtain ⟨g, rfl⟩ := isBt_int hg
          obtain ⟨s, rfl⟩ := isBt_int hs
          simp [d_is_pack, f_is_pack, isPack, r_is_tuple_of, r_is_between, r_is_most, h, sEr, op2, op1, T.val, R.opt, toB, opL, vals, consT, disp, mvs, mkTup, callT, callI, argE, others, isAl, isAli, finT, outE, padE, runD, cpsOf, cpT, toI, slT, T.weak, metT, kApp, kExt, elemD, iT, iL, iR1, iR2, iE, iZ, onI]
        · have e : isPack (.tup [a, g, s, p, m]) n = false := by
            unfold isPack
            split
            · rename_i z; cases z; simp [hs]
            · rfl
          simp [d_is_pack, f_is_pack, e, r_is_tuple_of, r_is_between, r_is_most, h, hs, sEr, op2, op1, T.val, R.opt, toB, opL, vals, consT, disp, mvs, mkTup, callT, callI, argE, others, isAl, isAli, finT, outE, padE, runD, cpsOf, cpT, toI, slT, T.weak, metT, kApp, kExt, elemD, iT, iL, iR1, iR2, iE, iZ, onI]
      · have e : isPack (.tup [a, g, s, p, m]) n = false := by
          unfold isPack
          split
          · rename_i z; cases z; simp [hg]
          · rfl
        simp [d_is_pack, f_is_pack, e, r_is_tuple_of, r_is_between, r_is_most, h, hg, sEr, op2, op1, T.val, R.opt, toB, opL, vals, consT, disp, mvs, mkTup, callT, callI, argE, others, isAl, isAli, finT, outE, padE, runD, cpsOf, cpT, toI, slT, T.weak, metT, kApp, kExt, elemD, iT, iL, iR1, iR2, iE, iZ, onI]
  · have e : isPack v n = false := by
      unfold isPack
      split
      · simp [isTupleOf] at h
      · rfl
    simp [d_is_pack, f_is_pack, e, r_is_tuple_of, h, sEr, op2, op1, T.val, R.opt, toB, opL, vals, consT, disp, mvs, mkTup, callT, callI, argE, others, isAl, isAli, finT, outE, padE, runD, cpsOf, cpT, toI, slT, T.weak, metT, kApp, kExt, elemD, iT, iL, iR1, iR2, iE, iZ, onI]
def isFrom (v : D) (n : Int) : Bool := match v with
  | .tup [_, g, l, p] => isBetween g 0 (n - 1) && (isBetween l 2 4 && isBetween p 1 9)
  | _ => false
theorem r_is_from (v : D) (n : Int) : d_is_from [.im v, .im (.int n)] = .ok (.im (.bl (isFrom v n))) [.no, .no] := by
  by_cases h : isTupleOf v 4 = true
  · obtain ⟨ds, rfl, hl⟩ := isTup_get h
    match ds, hl with
    | [a, g, s, p], _ => simp [d_is_from, f_is_from, isFrom, r_is_tuple_of, r_is_between, h, sEr, op2, op1, T.val, R.opt, toB, opL, vals, consT, disp, mvs, mkTup, callT, callI, argE, others, isAl, isAli, finT, outE, padE, runD, cpsOf, cpT, toI, slT, T.weak, metT, kApp, kExt, elemD, iT, iL, iR1, iR2, iE, iZ, onI]
  · have e : isFrom v n = false := by
      unfold isFrom
      split
      · simp [isTupleOf] at h
      · rfl
    simp [d_is_from, f_is_from, e, r_is_tuple_of, h, sEr, op2, op1, T.val, R.opt, toB, opL, vals, consT, disp, mvs, mkTup, callT, callI, argE, others, isAl, isAli, finT, outE, padE, runD, cpsOf, cpT, toI, slT, T.weak, metT, kApp, kExt, elemD, iT, iL, iR1, iR2, iE, iZ, onI]
def isOver (v : D) : Bool := match v with
  | .tup [_, .int f, o] => isBetween (.int f) 2 12 && isBetween o 1 (if f < 6 then f else 6)
  | _ => false
theorem r_is_over (v : D) : d_is_over [.im v] = .ok (.im (.bl (isOver v))) [.no] := by
  by_cases h : isTupleOf v 3 = true
  · obtain ⟨ds, rfl, hl⟩ := isTup_get h
    match ds, hl with
    | [a, f, o], _ =>
      by_cases hf : isBetween f 2 12 = true
      · obtain ⟨f, rfl⟩ := isBt_int hf
        simp [d_is_over, f_is_over, isOver, r_is_tuple_of, r_is_between, h, dMin2, sEr, op2, op1, T.val, R.opt, toB, opL, vals, consT, disp, mvs, mkTup, callT, callI, argE, others, isAl, isAli, finT, outE, padE, runD, cpsOf, cpT, toI, slT, T.weak, metT, kApp, kExt, elemD, iT, iL, iR1, iR2, iE, iZ, onI]
      · have e : isOver (.tup [a, f, o]) = false := by
          unfold isOver
          split
          · rename_i z; cases z; simp [hf]
          · rfl
        simp [d_is_over, f_is_over, e, r_is_tuple_of, r_is_between, h, hf, sEr, op2, op1, T.val, R.opt, toB, opL, vals, consT, disp, mvs, mkTup, callT, callI, argE, others, isAl, isAli, finT, outE, padE, runD, cpsOf, cpT, toI, slT, T.weak, metT, kApp, kExt, elemD, iT, iL, iR1, iR2, iE, iZ, onI]
  · have e : isOver v = false := by
      unfold isOver
      split
      · simp [isTupleOf] at h
      · rfl
    simp [d_is_over, f_is_over, e, r_is_tuple_of, h, sEr, op2, op1, T.val, R.opt, toB, opL, vals, consT, disp, mvs, mkTup, callT, callI, argE, others, isAl, isAli, finT, outE, padE, runD, cpsOf, cpT, toI, slT, T.weak, metT, kApp, kExt, elemD, iT, iL, iR1, iR2, iE, iZ, onI]
def isNon : D → Bool
  | .non => true
  | _ => false
def isEach (v : D) : Bool := match v with
  | .tup [_, .int f, .int o, m] => isBetween (.int f) 2 6 && (isBetween (.int o) 1 f && (isMost m && (!isNon m || decide (2 * o ≤ f))))
  | _ => false
theorem dNis_non (m : D) : dNis m .non = some (.im (.bl (!isNon m))) := by cases m <;> rfl
theorem dIs_non (m : D) : dIs m .non = some (.im (.bl (isNon m))) := by cases m <;> rfl
theorem r_is_each (v : D) : d_is_each [.im v] = .ok (.im (.bl (isEach v))) [.no] := by
  by_cases h : isTupleOf v 4 = true
  · obtain ⟨ds, rfl, hl⟩ := isTup_get h
    match ds, hl with
    | [a, f, o, m], _ =>
      by_cases hf : isBetween f 2 6 = true
      · obtain ⟨f, rfl⟩ := isBt_int hf
        by_cases ho : isBetween o 1 f = true
        · obtain ⟨o, rfl⟩ := isBt_int ho
          have q : (-(2 ^ 64) < (2 : Int) ∧ (2 : Int) < 2 ^ 64) ∨ (-(2 ^ 64) < o ∧ o < 2 ^ 64) := .inl (by decide)
          simp [d_is_each, f_is_each, isEach, r_is_tuple_of, r_is_between, r_is_most, h, hf, ho, dNis_non, dMulA, sEr, op2, op1, T.val, R.opt, toB, opL, vals, consT, disp, mvs, mkTup, callT, callI, argE, others, isAl, isAli, finT, outE, padE, runD, cpsOf, cpT, toI, slT, T.weak, metT, kApp, kExt, elemD, iT, iL, iR1, iR2, iE, iZ, onI, -dNis]
        · have e : isEach (.tup [a, .int f, o, m]) = false := by
            unfold isEach
            split
            · rename_i z; cases z; simp [ho]
            · rfl
          simp [d_is_each, f_is_each, e, r_is_tuple_of, r_is_between, h, ho, hf, sEr, op2, op1, T.val, R.opt, toB, opL, vals, consT, disp, mvs, mkTup, callT, callI, argE, others, isAl, isAli, finT, outE, padE, runD, cpsOf, cpT, toI, slT, T.weak, metT, kApp, kExt, elemD, iT, iL, iR1, iR2, iE, iZ, onI]
      · have e : isEach (.tup [a, f, o, m]) = false := by
          unfold isEach
          split
          · rename_i z; cases z; simp [hf]
          · rfl
        simp [d_is_each, f_is_each, e, r_is_tuple_of, r_is_between, h, hf, sEr, op2, op1, T.val, R.opt, toB, opL, vals, consT, disp, mvs, mkTup, callT, callI, argE, others, isAl, isAli, finT, outE, padE, runD, cpsOf, cpT, toI, slT, T.weak, metT, kApp, kExt, elemD, iT, iL, iR1, iR2, iE, iZ, onI]
  · have e : isEach v = false := by
      unfold isEach
      split
      · simp [isTupleOf] at h
      · rfl
    simp [d_is_each, f_is_each, e, r_is_tuple_of, h, sEr, op2, op1, T.val, R.opt, toB, opL, vals, consT, disp, mvs, mkTup, callT, callI, argE, others, isAl, isAli, finT, outE, padE, runD, cpsOf, cpT, toI, slT, T.weak, metT, kApp, kExt, elemD, iT, iL, iR1, iR2, iE, iZ, onI]
def isRule (v : D) (n : Int) : Bool := match v with
  | .tup (.str x :: ds) => bif x == "pack" then isPack v n else bif x == "from" then isFrom v n else bif x == "over" then isOver v else (x == "each" && isEach v)
  | _ => false
theorem r_is_rule (v : D) (n : Int) : d_is_rule [.im v, .im (.int n)] = .ok (.im (.bl (isRule v n))) [.no, .no] := by
  have q : ∀ k : Nat, ((k : Int) + 1 == 0) = false := fun k => by simp; omega
  rcases v with _ | _ | _ | _ | ds | _ | _ <;> try (simp [d_is_rule, f_is_rule, isRule, sEr, op2, op1, T.val, R.opt, toB, opL, vals, consT, disp, mvs, mkTup, callT, callI, argE, others, isAl, isAli, finT, outE, padE, runD, cpsOf, cpT, toI, slT, T.weak, metT, kApp, kExt, elemD, iT, iL, iR1, iR2, iE, iZ, onI]; done)
  cases ds with
  | nil => simp [d_is_rule, f_is_rule, isRule, sEr, op2, op1, T.val, R.opt, toB, opL, vals, consT, disp, mvs, mkTup, callT, callI, argE, others, isAl, isAli, finT, outE, padE, runD, cpsOf, cpT, toI, slT, T.weak, metT, kApp, kExt, elemD, iT, iL, iR1, iR2, iE, iZ, onI]
  | cons w ds =>
    cases w <;> simp [d_is_rule, f_is_rule, isRule, dIx, atI, ixN, q, r_is_pack, r_is_from, r_is_over, r_is_each, sEr, op2, op1, T.val, R.opt, toB, opL, vals, consT, disp, mvs, mkTup, callT, callI, argE, others, isAl, isAli, finT, outE, padE, runD, cpsOf, cpT, toI, slT, T.weak, metT, kApp, kExt, elemD, iT, iL, iR1, iR2, iE, iZ, onI]

end DL
namespace DL
open PySem PySem.Spec L2
def isEndless (v : D) : Bool := match v with
  | .tup [.str x, _, _, m] => x == "each" && isNon m
  | _ => false
theorem rule_word {v : D} {n : Int} (h : isRule v n = true) : ∃ x ds, v = .tup (.str x :: ds) := by
  unfold isRule at h
  split at h
  · exact ⟨_, _, rfl⟩
  · cases h
theorem each_form {ds : List D} (h : isEach (.tup ds) = true) : ∃ a b c m, ds = [a, b, c, m] := by
  unfold isEach at h
  split at h
  · rename_i z; cases z; exact ⟨_, _, _, _, rfl⟩
  · cases h
theorem rule_each {x : Str} {ds : List D} {n : Int} (h : isRule (.tup (.str x :: ds)) n = true) (e : x = "each") : ∃ b c m, ds = [b, c, m] := by
  subst e
  have h : isEach (.tup (.str "each" :: ds)) = true := h
  obtain ⟨a, b, c, m, e⟩ := each_form h
  cases e
  exact ⟨b, c, m, rfl⟩
theorem r_endless {v : D} {n : Int} (h : isRule v n = true) : d_is_endless_each [.im v] = .ok (.im (.bl (isEndless v))) [.no] := by
  obtain ⟨x, ds, rfl⟩ := rule_word h
  have q : ∀ k : Nat, (0 : Int) < (k : Int) + 1 := fun k => by omega
  by_cases e : x = "each"
  · obtain ⟨b, c, m, rfl⟩ := rule_each h e
    subst e
    simp [d_is_endless_each, f_is_endless_each, isEndless, dIx, atI, ixN, dIs_non, sEr, op2, op1, T.val, R.opt, toB, opL, vals, consT, disp, mvs, mkTup, callT, callI, argE, others, isAl, isAli, finT, outE, padE, runD, cpsOf, cpT, toI, slT, T.weak, metT, kApp, kExt, elemD, iT, iL, iR1, iR2, iE, iZ, onI, -dIs]
  · have e' : (x == "each") = false := by simpa using e
    have e2 : isEndless (.tup (.str x :: ds)) = false := by
      unfold isEndless
      split
      · rename_i z; cases z; simp [e']
      · rfl
    simp [d_is_endless_each, f_is_endless_each, e2, e', dIx, atI, ixN, q, sEr, op2, op1, T.val, R.opt, toB, opL, vals, consT, disp, mvs, mkTup, callT, callI, argE, others, isAl, isAli, finT, outE, padE, runD, cpsOf, cpT, toI, slT, T.weak, metT, kApp, kExt, elemD, iT, iL, iR1, iR2, iE, iZ, onI, -dIs]
def areGoods (v : D) : Bool := match v with
  | .tup ds => (decide (1 ≤ ds.length) && decide (ds.length ≤ 2)) && ds.all isGood
  | _ => false
theorem small_size {n : Nat} (h : n ≤ 1000) : n ≤ sizeLine := Nat.le_trans h (by decide)
theorem l_goods (ds : List D) (h : ds.length ≤ 1000) : eLc (fiT (eVar 0)) [1] (.one 1) tT (eCall d_is_good (aCons (eVar 1) aNil)) [.im (.tup ds), .no] = .ok (.fr (ds.map fun d => .bl (isGood d))) [.im (.tup ds), .no] := by
  have := lc_map (k := ⟨ds, none⟩) (vs := [1]) (t := .one 1) (fe := eCall d_is_good (aCons (eVar 1) aNil)) (h := fun d => .bl (isGood d)) (env := [.im (.tup ds), .no]) trivial ds [] (small_size (by simpa using h)) fun d _ =>
    ⟨_, _, _, rfl, by simp [r_is_good, sEr, op2, op1, T.val, R.opt, toB, opL, vals, consT, disp, mvs, mkTup, callT, callI, argE, others, isAl, isAli, finT, outE, padE, runD, cpsOf, cpT, toI, slT, T.weak, metT, kApp, kExt, elemD, iT, iL, iR1, iR2, iE, iZ, onI]; exact ⟨rfl, rfl⟩, rfl, rfl⟩
  rw [eLc_s]
  simp [wipeE, this, sEr, op2, op1, T.val, R.opt, toB, opL, vals, consT, disp, mvs, mkTup, callT, callI, argE, others, isAl, isAli, finT, outE, padE, runD, cpsOf, cpT, toI, slT, T.weak, metT, kApp, kExt, elemD, iT, iL, iR1, iR2, iE, iZ, onI]
theorem r_are_goods (v : D) : d_are_goods [.im v] = .ok (.im (.bl (areGoods v))) [.no] := by
  rcases v with _ | _ | _ | _ | ds | _ | _ <;> try (simp [d_are_goods, f_are_goods, areGoods, sEr, op2, op1, T.val, R.opt, toB, opL, vals, consT, disp, mvs, mkTup, callT, callI, argE, others, isAl, isAli, finT, outE, padE, runD, cpsOf, cpT, toI, slT, T.weak, metT, kApp, kExt, elemD, iT, iL, iR1, iR2, iE, iZ, onI]; done)
  by_cases h : 1 ≤ ds.length ∧ ds.length ≤ 2
  · have h1 : (1 : Int) ≤ ds.length := by omega
    have h2 : (ds.length : Int) ≤ 2 := by omega
    simp [d_are_goods, f_are_goods, areGoods, h, h1, h2, l_goods ds (by omega), sEr, op2, op1, T.val, R.opt, toB, opL, vals, consT, disp, mvs, mkTup, callT, callI, argE, others, isAl, isAli, finT, outE, padE, runD, cpsOf, cpT, toI, slT, T.weak, metT, kApp, kExt, elemD, iT, iL, iR1, iR2, iE, iZ, onI]
  · have e : (decide (1 ≤ ds.length) && decide (ds.length ≤ 2)) = false := by simpa using h
    have e2 : (!decide ((1 : Int) ≤ ds.length) || !decide ((ds.length : Int) ≤ 2)) = true := by simp; omega
    simp [d_are_goods, f_are_goods, areGoods, e, e2, sEr, op2, op1, T.val, R.opt, toB, opL, vals, consT, disp, mvs, mkTup, callT, callI, argE, others, isAl, isAli, finT, outE, padE, runD, cpsOf, cpT, toI, slT, T.weak, metT, kApp, kExt, elemD, iT, iL, iR1, iR2, iE, iZ, onI]
def rulesOk (ds : List D) (n : Int) : Bool := ds.all fun d => isRule d n
def areRules (v : D) (n : Int) : Bool := match v with
  | .tup ds => (decide (ds.length ≤ 4) && rulesOk ds n) && decide ((ds.filter isEndless).length ≤ 1)
  | _ => false
theorem l_rules1 (ds : List D) (n : Int) (h : ds.length ≤ 1000) : eLc (fiT (eVar 0)) [2] (.one 2) tT (eCall d_is_rule (aCons (eVar 2) (aCons (eVar 1) aNil))) [.im (.tup ds), .im (.int n), .no] = .ok (.fr (ds.map fun d => .bl (isRule d n))) [.im (.tup ds), .im (.int n), .no] := by
  have := lc_map (k := ⟨ds, none⟩) (vs := [2]) (t := .one 2) (fe := eCall d_is_rule (aCons (eVar 2) (aCons (eVar 1) aNil))) (h := fun d => .bl (isRule d n)) (env := [.im (.tup ds), .im (.int n), .no]) trivial ds [] (small_size (by simpa using h)) fun d _ =>
    ⟨_, _, _, rfl, by simp [r_is_rule, sEr, op2, op1, T.val, R.opt, toB, opL, vals, consT, disp, mvs, mkTup, callT, callI, argE, others, isAl, isAli, finT, outE, padE, runD, cpsOf, cpT, toI, slT, T.weak, metT, kApp, kExt, elemD, iT, iL, iR1, iR2, iE, iZ, onI]; exact ⟨rfl, rfl⟩, rfl, rfl⟩
  rw [eLc_s]
  simp [wipeE, this, sEr, op2, op1, T.val, R.opt, toB, opL, vals, consT, disp, mvs, mkTup, callT, callI, argE, others, isAl, isAli, finT, outE, padE, runD, cpsOf, cpT, toI, slT, T.weak, metT, kApp, kExt, elemD, iT, iL, iR1, iR2, iE, iZ, onI]
theorem l_rules2 (ds : List D) (n : Int) (h : ds.length ≤ 1000) (hr : rulesOk ds n = true) : eLc (fiT (eVar 0)) [2] (.one 2) (tV (eCall d_is_endless_each (aCons (eVar 2) aNil))) (eVar 2) [.im (.tup ds), .im (.int n), .no] = .ok (.fr (ds.filter isEndless)) [.im (.tup ds), .im (.int n), .no] := by
  have hr : ∀ d ∈ ds, isRule d n = true := by simpa [rulesOk] using hr
  have := lc_filter (k := ⟨ds, none⟩) (vs := [2]) (t := .one 2) (ft := tV (eCall d_is_endless_each (aCons (eVar 2) aNil))) (fe := eVar 2) (p := isEndless) (h := id) (env := [.im (.tup ds), .im (.int n), .no]) trivial ds [] (small_size (by simpa using h)) fun d z =>
    ⟨_, _, rfl, by simp [r_endless (hr d z), sEr, op2, op1, T.val, R.opt, toB, opL, vals, consT, disp, mvs, mkTup, callT, callI, argE, others, isAl, isAli, finT, outE, padE, runD, cpsOf, cpT, toI, slT, T.weak, metT, kApp, kExt, elemD, iT, iL, iR1, iR2, iE, iZ, onI]; exact rfl, rfl, fun _ => ⟨_, _, rfl, rfl, rfl⟩⟩
  rw [eLc_s]
  simp [wipeE, this, sEr, op2, op1, T.val, R.opt, toB, opL, vals, consT, disp, mvs, mkTup, callT, callI, argE, others, isAl, isAli, finT, outE, padE, runD, cpsOf, cpT, toI, slT, T.weak, metT, kApp, kExt, elemD, iT, iL, iR1, iR2, iE, iZ, onI]
theorem r_are_rules (v : D) (n : Int) : d_are_rules [.im v, .im (.int n)] = .ok (.im (.bl (areRules v n))) [.no, .no] := by
  rcases v with _ | _ | _ | _ | ds | _ | _ <;> try (simp [d_are_rules, f_are_rules, areRules, sEr, op2, op1, T.val, R.opt, toB, opL, vals, consT, disp, mvs, mkTup, callT, callI, argE, others, isAl, isAli, finT, outE, padE, runD, cpsOf, cpT, toI, slT, T.weak, metT, kApp, kExt, elemD, iT, iL, iR1, iR2, iE, iZ, onI]; done)
  by_cases h : ds.length ≤ 4
  · have h1 : ¬ (4 : Int) < ds.length := by omega
    by_cases hr : rulesOk ds n = true
    · have hr' : (ds.all fun d => isRule d n) = true := hr
      have e2 : decide (((ds.filter isEndless).length : Int) ≤ 1) = decide ((ds.filter isEndless).length ≤ 1) := by
        rw [Bool.eq_iff_iff]; simp; omega
      simp [d_are_rules, f_are_rules, areRules, h, h1, hr', hr, l_rules1 ds n (by omega), l_rules2 ds n (by omega) hr, e2, sEr, op2, op1, T.val, R.opt, toB, opL, vals, consT, disp, mvs, mkTup, callT, callI, argE, others, isAl, isAli, finT, outE, padE, runD, cpsOf, cpT, toI, slT, T.weak, metT, kApp, kExt, elemD, iT, iL, iR1, iR2, iE, iZ, onI]
    · have hr' : (ds.all fun d => isRule d n) = false := by simpa [rulesOk] using hr
      simp [d_are_rules, f_are_rules, areRules, h, h1, hr', hr, l_rules1 ds n (by omega), sEr, op2, op1, T.val, R.opt, toB, opL, vals, consT, disp, mvs, mkTup, callT, callI, argE, others, isAl, isAli, finT, outE, padE, runD, cpsOf, cpT, toI, slT, T.weak, metT, kApp, kExt, elemD, iT, iL, iR1, iR2, iE, iZ, onI]
  · have h1 : (4 : Int) < ds.length := by omega
    simp [d_are_rules, f_are_rules, areRules, h, h1, sEr, op2, op1, T.val, R.opt, toB, opL, vals, consT, disp, mvs, mkTup, callT, callI, argE, others, isAl, isAli, finT, outE, padE, runD, cpsOf, cpT, toI, slT, T.weak, metT, kApp, kExt, elemD, iT, iL, iR1, iR2, iE, iZ, onI]
def isShop (v : D) : Bool := match v with
  | .tup [.tup gs, rs] => areGoods (.tup gs) && areRules rs gs.length
  | _ => false
theorem goods_tup {v : D} (h : areGoods v = true) : ∃ gs, v = .tup gs := by
  cases v <;> first | exact ⟨_, rfl⟩ | exact (Bool.false_ne_true h).elim
theorem r_is_shop (v : D) : d_is_shop [.im v] = .ok (.im (.bl (isShop v))) [.no] := by
  by_cases h : isTupleOf v 2 = true
  · obtain ⟨ds, rfl, hl⟩ := isTup_get h
    match ds, hl with
    | [g, r], _ =>
      by_cases hg : areGoods g = true
      · obtain ⟨gs, rfl⟩ := goods_tup hg
        simp [d_is_shop, f_is_shop, isShop, r_is_tuple_of, r_are_goods, r_are_rules, h, hg, sEr, op2, op1, T.val, R.opt, toB, opL, vals, consT, disp, mvs, mkTup, callT, callI, argE, others, isAl, isAli, finT, outE, padE, runD, cpsOf, cpT, toI, slT, T.weak, metT, kApp, kExt, elemD, iT, iL, iR1, iR2, iE, iZ, onI]
      · have e : isShop (.tup [g, r]) = false := by
          unfold isShop
          split
          · rename_i z; cases z; simp [hg]
          · rfl
        simp [d_is_shop, f_is_shop, e, r_is_tuple_of, r_are_goods, h, hg, sEr, op2, op1, T.val, R.opt, toB, opL, vals, consT, disp, mvs, mkTup, callT, callI, argE, others, isAl, isAli, finT, outE, padE, runD, cpsOf, cpT, toI, slT, T.weak, metT, kApp, kExt, elemD, iT, iL, iR1, iR2, iE, iZ, onI]
  · have e : isShop v = false := by
      unfold isShop
      split
      · simp [isTupleOf] at h
      · rfl
    simp [d_is_shop, f_is_shop, e, r_is_tuple_of, h, sEr, op2, op1, T.val, R.opt, toB, opL, vals, consT, disp, mvs, mkTup, callT, callI, argE, others, isAl, isAli, finT, outE, padE, runD, cpsOf, cpT, toI, slT, T.weak, metT, kApp, kExt, elemD, iT, iL, iR1, iR2, iE, iZ, onI]
theorem fin4 {p0 : En} {r : D} {m : Nat} {rest : En} {n p : Nat} {f : FS} (hp : p0.length = p) (h : f (padE n p0) = .rt (.im r) rest) (o : En) (ho : outE p0 rest = some o) : runD n p f p0 = .ok (.im r) o := by
  show (if p0.length = p then finF p0 (f (padE n p0)) else .er) = _
  rw [if_pos hp, h]
  show (match outE p0 rest with
    | some o => R.ok (T.im r) o
    | none => .er) = _
  rw [ho]
theorem sFor_of {fi : FI} {g : FG} {f : FS} {env e : En} {its : List D} {x : Fl} (h1 : fi env = .ok ⟨its, none⟩ e) (h2 : loopF g f its e = x) : sFor fi g f env = x := by
  rw [sFor_s, h1]
  exact h2

end DL
namespace DL
open PySem PySem.Spec L2
abbrev scr (ns : List Int) : Sl := .im (.fz (ns.map D.int))
theorem atI_ok {ds : List D} {i : Int} (h0 : 0 ≤ i) (h : i < ds.length) : ∃ d, atI ds i = some d ∧ ds[i.toNat]? = some d := by
  have hi : i.toNat < ds.length := by omega
  refine ⟨ds[i.toNat], ?_, List.getElem?_eq_getElem hi⟩
  unfold atI ixN
  simp [h0, h, hi]
theorem at_ints {ns : List Int} {i : Int} (h0 : 0 ≤ i) (h : i < ns.length) : ∃ z, atI (ns.map D.int) i = some (.int z) := by
  obtain ⟨d, e, q⟩ := atI_ok (ds := ns.map D.int) h0 (by simpa using h)
  rw [List.getElem?_map] at q
  obtain ⟨z, q1, q2⟩ := Option.map_eq_some_iff.mp q
  exact ⟨z, by rw [e, q2]⟩
theorem lays_ints : ∀ ns : List Int, lays (ns.map D.int) = true
  | [] => rfl
  | n :: ns => by rw [List.map_cons]; unfold lays; rw [lays_ints ns]; rfl
theorem deps_ints : ∀ ns : List Int, deps (ns.map D.int) = 0
  | [] => rfl
  | n :: ns => by rw [List.map_cons]; unfold deps; rw [deps_ints ns]; rfl
theorem shp_ints (ns : List Int) : shp (.fz (ns.map D.int)) = true := by
  rw [shp_eq, lay, dep, lays_ints, deps_ints]
  rfl
theorem eq_nil (ns : List Int) : dEqA (.fz (ns.map D.int)) (.lst []) = some (.im (.bl ns.isEmpty)) := by
  have e : shp (.lst []) = true := by rfl
  unfold dEqA dEqS dEq
  simp [shp_ints, e]
  cases ns <;> rfl
theorem r_cell (ns : List Int) (k : Int) (hl : ns.length ≤ 63) (hk : 0 ≤ k) : ∃ z, d__law_cell_at [scr ns, .im (.int k)] = .ok (.im (.int z)) [.no, .no] := by
  by_cases h : k < ns.length
  · obtain ⟨z, e⟩ := at_ints hk h
    exact ⟨z, by simp [d__law_cell_at, f__law_cell_at, scr, h, e, dIx, sEr, op2, op1, T.val, R.opt, toB, opL, vals, consT, disp, mvs, mkTup, callT, callI, argE, others, isAl, isAli, finT, outE, padE, runD, cpsOf, cpT, toI, slT, T.weak, metT, kApp, kExt, elemD, iT, iL, iR1, iR2, iE, iZ, onI]⟩
  · by_cases he : ns = []
    · subst he
      have e := eq_nil []
      refine ⟨0, ?_⟩
      have hk' : ¬ k < 0 := by omega
      simp at e
      simp [d__law_cell_at, f__law_cell_at, scr, hk', e, sEr, op2, op1, T.val, R.opt, toB, opL, vals, consT, disp, mvs, mkTup, callT, callI, argE, others, isAl, isAli, finT, outE, padE, runD, cpsOf, cpT, toI, slT, T.weak, metT, kApp, kExt, elemD, iT, iL, iR1, iR2, iE, iZ, onI]
    · have hp : 0 < ns.length := List.length_pos_iff.mpr he
      have hp' : (0 : Int) < ns.length := by omega
      have hp2 : (ns.length : Int) < 1073741824 := by omega
      obtain ⟨s, es⟩ := at_ints (ns := ns) (i := k % ns.length) (Int.emod_nonneg _ (by omega)) (Int.emod_lt_of_pos _ hp')
      have e := eq_nil ns
      have hne : ns.isEmpty = false := by cases ns <;> first | rfl | exact (he rfl).elim
      rw [hne] at e
      have hq : 0 ≤ k / ns.length := Int.ediv_nonneg hk (by omega)
      -- the loop
      obtain ⟨n, en⟩ : ∃ n : Int, n = if 60 < k / (ns.length : Int) then 60 else k / (ns.length : Int) := ⟨_, rfl⟩
      have hb : (-4611686018427387904 ≤ n) ∧ n < 4611686018427387904 := by
        rw [en]
        split <;> omega
      obtain ⟨e2, q1, s2, a2, q2⟩ := loop_all (g := gN 3) (f := sAsg (eOp dFdiv (eVar 2) (eC (.int 1000003))) (gN 2)) (ds := rngD 0 n) (env := [scr ns, .im (.int k), .im (.int s), .no]) (I := fun _ e => ∃ (s : Int) (a : Sl), e = [scr ns, .im (.int k), .im (.int s), a]) ⟨s, .no, rfl⟩ (by
        rintro i d _ hd ⟨s, a, rfl⟩
        exact ⟨_, [scr ns, .im (.int k), .im (.int (s / 1000003)), .im d], rfl, .inl (by simp [scr, sEr, op2, op1, T.val, R.opt, toB, opL, vals, consT, disp, mvs, mkTup, callT, callI, argE, others, isAl, isAli, finT, outE, padE, runD, cpsOf, cpT, toI, slT, T.weak, metT, kApp, kExt, elemD, iT, iL, iR1, iR2, iE, iZ, onI]), _, _, rfl⟩)
      subst q2
      have fl : sFor (fiR1 (aCons (eB dMin2 (aCons (eOp dFdiv (eVar 1) (eB dLen (aCons (eVar 0) aNil))) (aCons (eC (.int 60)) aNil))) aNil)) (gN 3) (sAsg (eOp dFdiv (eVar 2) (eC (.int 1000003))) (gN 2)) [scr ns, .im (.int k), .im (.int s), .no] = .nx [scr ns, .im (.int k), .im (.int s2), a2] := by
        rw [sFor_s]
        simp [scr, hp, hp', hp2, dMin2, sEr, op2, op1, T.val, R.opt, toB, opL, vals, consT, disp, mvs, mkTup, callT, callI, argE, others, isAl, isAli, finT, outE, padE, runD, cpsOf, cpT, toI, slT, T.weak, metT, kApp, kExt, elemD, iT, iL, iR1, iR2, iE, iZ, onI]
        rw [← en, if_pos hb]
        exact q1
      refine ⟨s * 31 + k + s2 * 101, ?_⟩
      simp [d__law_cell_at, f__law_cell_at, scr, h, e, es, dIx, hp, hp', fl, dMulA, sEr, op2, op1, T.val, R.opt, toB, opL, vals, consT, disp, mvs, mkTup, callT, callI, argE, others, isAl, isAli, finT, outE, padE, runD, cpsOf, cpT, toI, slT, T.weak, metT, kApp, kExt, elemD, iT, iL, iR1, iR2, iE, iZ, onI]

end DL
namespace DL
open PySem PySem.Spec L2
theorem r_mixed (ns : List Int) (k m : Int) (hl : ns.length ≤ 63) (hk : 0 ≤ k) (hm : 0 < m) : ∃ v, d__law_mixed [scr ns, .im (.int k), .im (.int m)] = .ok (.im (.int v)) [.no, .no, .no] ∧ 0 ≤ v ∧ v < m := by
  obtain ⟨z, e⟩ := r_cell ns k hl hk
  have b1 : 0 ≤ (z * 1103515245 + 7919 * k + 12345) % 2147483647 := Int.emod_nonneg _ (by decide)
  have b2 : (z * 1103515245 + 7919 * k + 12345) % 2147483647 < 2147483647 := Int.emod_lt_of_pos _ (by decide)
  obtain ⟨s, es⟩ : ∃ s, s = (z * 1103515245 + 7919 * k + 12345) % 2147483647 := ⟨_, rfl⟩
  rw [← es] at b1 b2
  have b3 : s.natAbs < 18446744073709551616 := by omega
  refine ⟨s ^ 5 % 2147483647 % 999983 % m, ?_, Int.emod_nonneg _ (by omega), Int.emod_lt_of_pos _ hm⟩
  unfold scr at e
  simp [d__law_mixed, f__law_mixed, scr, e, dMulA, hm, ← es, b3, sEr, op2, op1, T.val, R.opt, toB, opL, vals, consT, disp, mvs, mkTup, callT, callI, argE, others, isAl, isAli, finT, outE, padE, runD, cpsOf, cpT, toI, slT, T.weak, metT, kApp, kExt, elemD, iT, iL, iR1, iR2, iE, iZ, onI]
abbrev rep0 (n : Nat) : List D := List.replicate n (.int 0)
theorem rep0_app (n : Nat) : rep0 n ++ [.int 0] = rep0 (n + 1) := by
  unfold rep0
  rw [List.replicate_succ', ]
theorem r_draw (ns : List Int) (n : Nat) (m : Int) (hl : ns.length ≤ 63) (hn : n < 999999) (hm : 0 < m) : ∃ v, d__law_draw [scr ns, .own true (rep0 n), .im (.int m)] = .ok (.im (.int v)) [.no, .own true (rep0 (n + 1)), .no] ∧ 0 ≤ v ∧ v < m := by
  obtain ⟨v, e, h⟩ := r_mixed ns (n + 1 : Nat) m hl (by omega) hm
  refine ⟨v, ?_, h⟩
  have hn' : n < 1000000 := by omega
  unfold scr at e
  have a := rep0_app n
  unfold rep0 at a
  simp at e
  simp [d__law_draw, f__law_draw, scr, rep0, a, hn', e, sEr, op2, op1, T.val, R.opt, toB, opL, vals, consT, disp, mvs, mkTup, callT, callI, argE, others, isAl, isAli, finT, outE, padE, runD, cpsOf, cpT, toI, slT, T.weak, metT, kApp, kExt, elemD, iT, iL, iR1, iR2, iE, iZ, onI]
theorem r_pick (ns : List Int) (n : Nat) (d : D) (ds : List D) (hd : d = .lst ds ∨ d = .tup ds) (hl : ns.length ≤ 63) (hn : n < 999999) (h0 : 0 < ds.length) : ∃ x ∈ ds, d__law_pick [scr ns, .own true (rep0 n), .im d] = .ok (.im x) [.no, .own true (rep0 (n + 1)), .no] := by
  obtain ⟨v, e, h1, h2⟩ := r_draw ns n ds.length hl hn (by omega)
  obtain ⟨x, e1, e2⟩ := atI_ok h1 h2
  refine ⟨x, List.mem_of_getElem? e2, ?_⟩
  unfold scr rep0 at e
  rcases hd with rfl | rfl <;> simp [d__law_pick, f__law_pick, scr, rep0, e, dIx, e1, sEr, op2, op1, T.val, R.opt, toB, opL, vals, consT, disp, mvs, mkTup, callT, callI, argE, others, isAl, isAli, finT, outE, padE, runD, cpsOf, cpT, toI, slT, T.weak, metT, kApp, kExt, elemD, iT, iL, iR1, iR2, iE, iZ, onI]

end DL
namespace DL
open PySem PySem.Spec L2
structure GoodGs (gs : List D) : Prop where
  len : 1 ≤ gs.length ∧ gs.length ≤ 2
  all : ∀ g ∈ gs, ∃ p c : Int, g = .tup [.int p, .int c] ∧ (3 ≤ p ∧ p ≤ 9) ∧ (0 ≤ c ∧ c ≤ 7)
abbrev Er (ns : List Int) (n : Nat) (gs : List D) (cap : Bool) (a b c d e f g : Sl) : En := [scr ns, .own true (rep0 n), .im (.tup gs), .im (.bl cap), a, b, c, d, e, f, g]
theorem isPack_of {g s p n : Int} {m : D} (h1 : 0 ≤ g ∧ g < n) (h2 : 2 ≤ s ∧ s ≤ 3) (h3 : s ≤ p ∧ p ≤ 30) (h4 : isMost m = true) : isRule (.tup [.str "pack", .int g, .int s, .int p, m]) n = true := by
  show isPack (.tup [.str "pack", .int g, .int s, .int p, m]) n = true
  simp [isPack, isBetween, h4, h1.1, h2, h3]
  omega
theorem isFrom_of {g s p n : Int} (h1 : 0 ≤ g ∧ g < n) (h2 : 2 ≤ s ∧ s ≤ 4) (h3 : 1 ≤ p ∧ p ≤ 9) : isRule (.tup [.str "from", .int g, .int s, .int p]) n = true := by
  show isFrom (.tup [.str "from", .int g, .int s, .int p]) n = true
  simp [isFrom, isBetween, h1.1, h2, h3]
  omega
theorem isOver_of {f o n : Int} (h1 : 2 ≤ f ∧ f ≤ 12) (h2 : 1 ≤ o ∧ o ≤ 6) (h3 : o ≤ f) : isRule (.tup [.str "over", .int f, .int o]) n = true := by
  show isOver (.tup [.str "over", .int f, .int o]) = true
  simp [isOver, isBetween, h1, h2.1]
  split <;> omega
theorem isEach_of {f o n : Int} {m : D} (h1 : 2 ≤ f ∧ f ≤ 6) (h2 : 1 ≤ o) (h3 : 2 * o ≤ f) (h4 : isMost m = true) : isRule (.tup [.str "each", .int f, .int o, m]) n = true := by
  show isEach (.tup [.str "each", .int f, .int o, m]) = true
  have h5 : o ≤ f := by omega
  simp [isEach, isBetween, h1, h2, h3, h4, h5]
theorem most_mem {x : D} (h : x ∈ [D.non, .non, .int 1, .int 2]) : isMost x = true := by
  simp at h
  rcases h with rfl | rfl | rfl <;> rfl
def drawnR (gs : List D) (r : D) : Prop := ∀ (g s p : Int) (m : D), r = .tup [.str "pack", .int g, .int s, .int p, m] → ∃ pr c : Int, atI gs g = some (.tup [.int pr, .int c]) ∧ s * pr - (2 * s + 1) ≤ p
def widD : D → Nat
  | .tup l => l.length
  | _ => 0
theorem drawn_not {gs : List D} {r : D} (h : widD r ≠ 5) : drawnR gs r := fun g s p m z => (h (by rw [z]; rfl)).elim
theorem r_some_rule2 (ns : List Int) (n : Nat) (gs : List D) (cap : Bool) (hl : ns.length ≤ 63) (hn : n < 900000) (hg : GoodGs gs) : ∃ (r : D) (m : Nat), d__law_some_rule [scr ns, .own true (rep0 n), .im (.tup gs), .im (.bl cap)] = .ok (.im r) [.no, .own true (rep0 m), .no, .no] ∧ n ≤ m ∧ m ≤ n + 6 ∧ isRule r gs.length = true ∧ (cap = true → isEndless r = false) ∧ D.flat r = true ∧ drawnR gs r := by
  obtain ⟨l1, l2⟩ := hg.len
  obtain ⟨kind, e1, k1, k2⟩ := r_draw ns n 5 hl (by omega) (by decide)
  obtain ⟨good, e2, g1, g2⟩ := r_draw ns (n + 1) gs.length hl (by omega) (by omega)
  obtain ⟨gd, e3, e4⟩ := atI_ok g1 g2
  obtain ⟨p, c, rfl, hp, hc⟩ := hg.all gd (List.mem_of_getElem? e4)
  have s1 : f__law_some_rule_1 (Er ns n gs cap .no .no .no .no .no .no .no) = .nx (Er ns (n + 1) gs cap (.im (.int kind)) .no .no .no .no .no .no) := by
    simp [scr] at e1
    simp [f__law_some_rule_1, scr, e1, sEr, op2, op1, T.val, R.opt, toB, opL, vals, consT, disp, mvs, mkTup, callT, callI, argE, others, isAl, isAli, finT, outE, padE, runD, cpsOf, cpT, toI, slT, T.weak, metT, kApp, kExt, elemD, iT, iL, iR1, iR2, iE, iZ, onI]
  have s2 : f__law_some_rule_2 (Er ns (n + 1) gs cap (.im (.int kind)) .no .no .no .no .no .no) = .nx (Er ns (n + 2) gs cap (.im (.int kind)) (.im (.int good)) .no .no .no .no .no) := by
    simp [scr] at e2
    simp [f__law_some_rule_2, scr, e2, sEr, op2, op1, T.val, R.opt, toB, opL, vals, consT, disp, mvs, mkTup, callT, callI, argE, others, isAl, isAli, finT, outE, padE, runD, cpsOf, cpT, toI, slT, T.weak, metT, kApp, kExt, elemD, iT, iL, iR1, iR2, iE, iZ, onI]
  have s3 : f__law_some_rule_3 (Er ns (n + 2) gs cap (.im (.int kind)) (.im (.int good)) .no .no .no .no .no) = .nx (Er ns (n + 2) gs cap (.im (.int kind)) (.im (.int good)) (.im (.int p)) .no .no .no .no) := by
    simp [f__law_some_rule_3, scr, dIx, e3, sEr, op2, op1, T.val, R.opt, toB, opL, vals, consT, disp, mvs, mkTup, callT, callI, argE, others, isAl, isAli, finT, outE, padE, runD, cpsOf, cpT, toI, slT, T.weak, metT, kApp, kExt, elemD, iT, iL, iR1, iR2, iE, iZ, onI]
    simp [atI, ixN]
  -- from the body's end to the whole
  have fin : ∀ {r : D} {m : Nat} {a b c d e f g : Sl}, f__law_some_rule (Er ns n gs cap .no .no .no .no .no .no .no) = .rt (.im r) (Er ns m gs cap a b c d e f g) → d__law_some_rule [scr ns, .own true (rep0 n), .im (.tup gs), .im (.bl cap)] = .ok (.im r) [.no, .own true (rep0 m), .no, .no] := fun {r m a b c d e f g} h => by
    show (if [scr ns, .own true (rep0 n), .im (.tup gs), .im (.bl cap)].length = 4 then finF [scr ns, .own true (rep0 n), .im (.tup gs), .im (.bl cap)] (f__law_some_rule (Er ns n gs cap .no .no .no .no .no .no .no)) else .er) = _
    rw [if_pos (show [scr ns, Sl.own true (rep0 n), .im (.tup gs), .im (.bl cap)].length = 4 from rfl), h]
    rfl
  have whole : ∀ {x : Fl}, sSeq f__law_some_rule_4 (sSeq f__law_some_rule_5 (sSeq f__law_some_rule_6 (sSeq f__law_some_rule_7 (sSeq f__law_some_rule_8 f__law_some_rule_9)))) (Er ns (n + 2) gs cap (.im (.int kind)) (.im (.int good)) (.im (.int p)) .no .no .no .no) = x → f__law_some_rule (Er ns n gs cap .no .no .no .no .no .no .no) = x := fun {x} h => by
    unfold f__law_some_rule
    rw [sSeq_s, s1, seq_nx, sSeq_s, s2, seq_nx, sSeq_s, s3, seq_nx]
    exact h
  by_cases c1 : kind < 2
  · -- pack
    obtain ⟨sz, e5, z1, z2⟩ := r_draw ns (n + 2) 2 hl (by omega) (by decide)
    obtain ⟨off, e6, o1, o2⟩ := r_draw ns (n + 3) (2 * (2 + sz) + 2) hl (by omega) (by omega)
    obtain ⟨mo, hm, e7⟩ := r_pick ns (n + 4) (.tup [.non, .non, .int 1, .int 2]) _ (.inr rfl) hl (by omega) (by decide)
    have pr : (2 + sz) * p ≤ 27 := by
      have : (2 + sz) * p ≤ 3 * 9 := Int.mul_le_mul (by omega) (by omega) (by omega) (by decide)
      omega
    obtain ⟨pri, ep⟩ : ∃ pri : Int, pri = if (2 + sz) * p - off > 2 + sz then (2 + sz) * p - off else 2 + sz := ⟨_, rfl⟩
    have hpri : 2 + sz ≤ pri ∧ pri ≤ 30 := by rw [ep]; split <;> omega
    have bb : -18446744073709551616 < 2 + sz ∧ 2 + sz < 18446744073709551616 := by omega
    have bb2 : -18446744073709551616 < p ∧ p < 18446744073709551616 := by omega
    have q : sSeq f__law_some_rule_4 (sSeq f__law_some_rule_5 (sSeq f__law_some_rule_6 (sSeq f__law_some_rule_7 (sSeq f__law_some_rule_8 f__law_some_rule_9)))) (Er ns (n + 2) gs cap (.im (.int kind)) (.im (.int good)) (.im (.int p)) .no .no .no .no) = .rt (.im (.tup [.str "pack", .int good, .int (2 + sz), .int pri, mo])) (Er ns (n + 5) gs cap (.im (.int kind)) (.im (.int good)) (.im (.int p)) .no .no (.im (.int (2 + sz))) (.im (.int pri))) := by
      rw [sSeq_s]
      simp [scr] at e5 e6 e7
      simp [f__law_some_rule_4, scr, c1, e5, e6, e7, dMulA, bb, bb2, dMax2, ← ep, sEr, op2, op1, T.val, R.opt, toB, opL, vals, consT, disp, mvs, mkTup, callT, callI, argE, others, isAl, isAli, finT, outE, padE, runD, cpsOf, cpT, toI, slT, T.weak, metT, kApp, kExt, elemD, iT, iL, iR1, iR2, iE, iZ, onI]
    have hf : D.flat mo = true := by
      simp at hm
      rcases hm with rfl | rfl | rfl <;> rfl
    exact ⟨_, n + 5, fin (whole q), by omega, by omega, isPack_of ⟨g1, g2⟩ (by omega) hpri (most_mem hm), fun _ => rfl, by simp [D.flat, D.flats, hf], fun g' s' p' m' z => by
      injection z with z
      injection z with _ z
      injection z with z1 z
      injection z with z2 z
      injection z with z3 z
      injection z1 with z1
      injection z2 with z2
      injection z3 with z3
      refine ⟨p, c, by rw [← z1]; exact e3, ?_⟩
      rw [← z2, ← z3, ep]
      split <;> omega⟩
  · have s4 : f__law_some_rule_4 (Er ns (n + 2) gs cap (.im (.int kind)) (.im (.int good)) (.im (.int p)) .no .no .no .no) = .nx (Er ns (n + 2) gs cap (.im (.int kind)) (.im (.int good)) (.im (.int p)) .no .no .no .no) := by
      simp [f__law_some_rule_4, scr, c1, sEr, op2, op1, T.val, R.opt, toB, opL, vals, consT, disp, mvs, mkTup, callT, callI, argE, others, isAl, isAli, finT, outE, padE, runD, cpsOf, cpT, toI, slT, T.weak, metT, kApp, kExt, elemD, iT, iL, iR1, iR2, iE, iZ, onI]
    by_cases c2 : kind = 2
    · -- from
      subst c2
      obtain ⟨le, e5, z1, z2⟩ := r_draw ns (n + 2) 3 hl (by omega) (by decide)
      obtain ⟨off, e6, o1, o2⟩ := r_draw ns (n + 3) 4 hl (by omega) (by decide)
      obtain ⟨pri, ep⟩ : ∃ pri : Int, pri = if p - off > 1 then p - off else 1 := ⟨_, rfl⟩
      have hpri : 1 ≤ pri ∧ pri ≤ 9 := by rw [ep]; split <;> omega
      have q : sSeq f__law_some_rule_5 (sSeq f__law_some_rule_6 (sSeq f__law_some_rule_7 (sSeq f__law_some_rule_8 f__law_some_rule_9))) (Er ns (n + 2) gs cap (.im (.int 2)) (.im (.int good)) (.im (.int p)) .no .no .no .no) = .rt (.im (.tup [.str "from", .int good, .int (2 + le), .int pri])) (Er ns (n + 4) gs cap (.im (.int 2)) (.im (.int good)) (.im (.int p)) .no .no .no .no) := by
        rw [sSeq_s]
        simp [scr] at e5 e6
        simp [f__law_some_rule_5, scr, e5, e6, dMax2, ← ep, sEr, op2, op1, T.val, R.opt, toB, opL, vals, consT, disp, mvs, mkTup, callT, callI, argE, others, isAl, isAli, finT, outE, padE, runD, cpsOf, cpT, toI, slT, T.weak, metT, kApp, kExt, elemD, iT, iL, iR1, iR2, iE, iZ, onI]
      exact ⟨_, n + 4, fin (whole (by rw [sSeq_s, s4, seq_nx]; exact q)), by omega, by omega, isFrom_of ⟨g1, g2⟩ (by omega) hpri, fun _ => rfl, by simp [D.flat, D.flats], drawn_not (by simp [widD])⟩
    · have s5 : f__law_some_rule_5 (Er ns (n + 2) gs cap (.im (.int kind)) (.im (.int good)) (.im (.int p)) .no .no .no .no) = .nx (Er ns (n + 2) gs cap (.im (.int kind)) (.im (.int good)) (.im (.int p)) .no .no .no .no) := by
        have c2' : (kind == 2) = false := by simpa using c2
        simp [f__law_some_rule_5, scr, c2', sEr, op2, op1, T.val, R.opt, toB, opL, vals, consT, disp, mvs, mkTup, callT, callI, argE, others, isAl, isAli, finT, outE, padE, runD, cpsOf, cpT, toI, slT, T.weak, metT, kApp, kExt, elemD, iT, iL, iR1, iR2, iE, iZ, onI]
      by_cases c3 : kind = 3
      · -- over
        subst c3
        obtain ⟨wh, e5, z1, z2⟩ := r_draw ns (n + 2) 9 hl (by omega) (by decide)
        obtain ⟨off, e6, o1, o2⟩ := r_draw ns (n + 3) 4 hl (by omega) (by decide)
        have q : sSeq f__law_some_rule_6 (sSeq f__law_some_rule_7 (sSeq f__law_some_rule_8 f__law_some_rule_9)) (Er ns (n + 2) gs cap (.im (.int 3)) (.im (.int good)) (.im (.int p)) .no .no .no .no) = .rt (.im (.tup [.str "over", .int (4 + wh), .int (1 + off)])) (Er ns (n + 4) gs cap (.im (.int 3)) (.im (.int good)) (.im (.int p)) (.im (.int (4 + wh))) .no .no .no) := by
          rw [sSeq_s]
          simp [scr] at e5 e6
          simp [f__law_some_rule_6, scr, e5, e6, sEr, op2, op1, T.val, R.opt, toB, opL, vals, consT, disp, mvs, mkTup, callT, callI, argE, others, isAl, isAli, finT, outE, padE, runD, cpsOf, cpT, toI, slT, T.weak, metT, kApp, kExt, elemD, iT, iL, iR1, iR2, iE, iZ, onI]
        exact ⟨_, n + 4, fin (whole (by rw [sSeq_s, s4, seq_nx, sSeq_s, s5, seq_nx]; exact q)), by omega, by omega, isOver_of (by omega) (by omega) (by omega), fun _ => rfl, by simp [D.flat, D.flats], drawn_not (by simp [widD])⟩
      · -- each
        have s6 : f__law_some_rule_6 (Er ns (n + 2) gs cap (.im (.int kind)) (.im (.int good)) (.im (.int p)) .no .no .no .no) = .nx (Er ns (n + 2) gs cap (.im (.int kind)) (.im (.int good)) (.im (.int p)) .no .no .no .no) := by
          have c3' : (kind == 3) = false := by simpa using c3
          simp [f__law_some_rule_6, scr, c3', sEr, op2, op1, T.val, R.opt, toB, opL, vals, consT, disp, mvs, mkTup, callT, callI, argE, others, isAl, isAli, finT, outE, padE, runD, cpsOf, cpT, toI, slT, T.weak, metT, kApp, kExt, elemD, iT, iL, iR1, iR2, iE, iZ, onI]
        obtain ⟨wh, e5, z1, z2⟩ := r_draw ns (n + 2) 5 hl (by omega) (by decide)
        obtain ⟨ms, ems⟩ : ∃ ms : List D, ms = if cap = true then [.int 1, .int 2] else [.non, .non, .int 1, .int 2] := ⟨_, rfl⟩
        have hms : 0 < ms.length ∧ (∀ x ∈ ms, x ∈ [D.non, .non, .int 1, .int 2] ∧ (cap = true → isNon x = false)) := by
          rw [ems]
          cases cap with
          | true => exact ⟨by decide, fun x hx => by simp at hx; rcases hx with rfl | rfl <;> exact ⟨by simp, fun _ => rfl⟩⟩
          | false => exact ⟨by decide, fun x hx => ⟨hx, fun z => nomatch z⟩⟩
        obtain ⟨mo, hm, e6⟩ := r_pick ns (n + 3) (.tup ms) _ (.inr rfl) hl (by omega) hms.1
        have hw : 0 < (2 + wh) / 2 := by omega
        obtain ⟨off, e7, o1, o2⟩ := r_draw ns (n + 4) ((2 + wh) / 2) hl (by omega) hw
        have s7 : f__law_some_rule_7 (Er ns (n + 2) gs cap (.im (.int kind)) (.im (.int good)) (.im (.int p)) .no .no .no .no) = .nx (Er ns (n + 3) gs cap (.im (.int kind)) (.im (.int good)) (.im (.int p)) (.im (.int (2 + wh))) .no .no .no) := by
          simp [scr] at e5
          simp [f__law_some_rule_7, scr, e5, sEr, op2, op1, T.val, R.opt, toB, opL, vals, consT, disp, mvs, mkTup, callT, callI, argE, others, isAl, isAli, finT, outE, padE, runD, cpsOf, cpT, toI, slT, T.weak, metT, kApp, kExt, elemD, iT, iL, iR1, iR2, iE, iZ, onI]
        have s8 : f__law_some_rule_8 (Er ns (n + 3) gs cap (.im (.int kind)) (.im (.int good)) (.im (.int p)) (.im (.int (2 + wh))) .no .no .no) = .nx (Er ns (n + 4) gs cap (.im (.int kind)) (.im (.int good)) (.im (.int p)) (.im (.int (2 + wh))) (.im mo) .no .no) := by
          simp [scr] at e6
          cases cap with
          | true => rw [if_pos rfl] at ems; subst ems; simp [f__law_some_rule_8, scr, e6, sEr, op2, op1, T.val, R.opt, toB, opL, vals, consT, disp, mvs, mkTup, callT, callI, argE, others, isAl, isAli, finT, outE, padE, runD, cpsOf, cpT, toI, slT, T.weak, metT, kApp, kExt, elemD, iT, iL, iR1, iR2, iE, iZ, onI]
          | false => rw [if_neg (by decide)] at ems; subst ems; simp [f__law_some_rule_8, scr, e6, sEr, op2, op1, T.val, R.opt, toB, opL, vals, consT, disp, mvs, mkTup, callT, callI, argE, others, isAl, isAli, finT, outE, padE, runD, cpsOf, cpT, toI, slT, T.weak, metT, kApp, kExt, elemD, iT, iL, iR1, iR2, iE, iZ, onI]
        have q : f__law_some_rule_9 (Er ns (n + 4) gs cap (.im (.int kind)) (.im (.int good)) (.im (.int p)) (.im (.int (2 + wh))) (.im mo) .no .no) = .rt (.im (.tup [.str "each", .int (2 + wh), .int (1 + off), mo])) (Er ns (n + 5) gs cap (.im (.int kind)) (.im (.int good)) (.im (.int p)) (.im (.int (2 + wh))) (.im mo) .no .no) := by
          simp [scr] at e7
          simp [f__law_some_rule_9, scr, e7, sEr, op2, op1, T.val, R.opt, toB, opL, vals, consT, disp, mvs, mkTup, callT, callI, argE, others, isAl, isAli, finT, outE, padE, runD, cpsOf, cpT, toI, slT, T.weak, metT, kApp, kExt, elemD, iT, iL, iR1, iR2, iE, iZ, onI]
        have hf : D.flat mo = true := by
          have := (hms.2 mo hm).1
          simp at this
          rcases this with rfl | rfl | rfl <;> rfl
        refine ⟨_, n + 5, fin (whole (by rw [sSeq_s, s4, seq_nx, sSeq_s, s5, seq_nx, sSeq_s, s6, seq_nx, sSeq_s, s7, seq_nx, sSeq_s, s8, seq_nx]; exact q)), by omega, by omega, isEach_of (by omega) (by omega) (by omega) (most_mem (hms.2 mo hm).1), fun z => ?_, by simp [D.flat, D.flats, hf], drawn_not (by simp [widD])⟩
        show (("each" : Str) == "each" && isNon mo) = false
        rw [(hms.2 mo hm).2 z]
        decide
end DL
namespace DL
open PySem PySem.Spec L2
def GoodD (y : D) : Prop := ∃ p c : Int, y = .tup [.int p, .int c] ∧ (3 ≤ p ∧ p ≤ 9) ∧ (0 ≤ c ∧ c ≤ 7)
theorem flats_mem : ∀ {ds : List D}, (∀ d ∈ ds, D.flat d = true) → D.flats ds = true
  | [], _ => rfl
  | d :: ds, h => by
    unfold D.flats
    rw [h d List.mem_cons_self, flats_mem fun x z => h x (List.mem_cons_of_mem _ z)]
    rfl
theorem flats_app : ∀ {ds es : List D}, D.flats ds = true → D.flats es = true → D.flats (ds ++ es) = true
  | [], es, _, h => h
  | d :: ds, es, h1, h2 => by
    simp [D.flats] at h1
    show (D.flat d && D.flats (ds ++ es)) = true
    rw [h1.1, flats_app h1.2 h2]
    rfl
theorem GoodGs.flat {gs : List D} (h : GoodGs gs) : D.flats gs = true := flats_mem fun d z => by
  obtain ⟨p, c, rfl, _⟩ := h.all d z
  rfl
theorem GoodGs.are {gs : List D} (h : GoodGs gs) : areGoods (.tup gs) = true := by
  have : gs.all isGood = true := by
    rw [List.all_eq_true]
    intro d z
    obtain ⟨p, c, rfl, h1, h2⟩ := h.all d z
    simp [isGood, isBetween]
    omega
  simp [areGoods, this, h.len]
theorem r_some_goods (ns : List Int) (n : Nat) (hl : ns.length ≤ 63) (hn : n < 900000) : ∃ (gs : List D) (m : Nat), d__law_some_goods [scr ns, .own true (rep0 n)] = .ok (.im (.tup gs)) [.no, .own true (rep0 m)] ∧ n ≤ m ∧ m ≤ n + 5 ∧ GoodGs gs := by
  obtain ⟨d0, e1, k1, k2⟩ := r_draw ns n 3 hl (by omega) (by decide)
  obtain ⟨k, ek⟩ : ∃ k : Int, k = bif d0 == 0 then 2 else 1 := ⟨_, rfl⟩
  have hk : 1 ≤ k ∧ k ≤ 2 := by
    rw [ek]
    cases d0 == 0 <;> decide
  have hlen : (rngD 0 k).length = k.toNat := by simp [rngD]
  obtain ⟨ys, q, h1, h2⟩ := lc_some (k := ⟨rngD 0 k, none⟩) (vs := [3]) (t := .one 3) (fe := eTup (aCons (eOp dAdd (eC (.int 3)) (eCallI 1 d__law_draw (aCons (eVar 0) (aCons (eVar 1) (aCons (eC (.int 7)) aNil))))) (aCons (eCallI 1 d__law_draw (aCons (eVar 0) (aCons (eVar 1) (aCons (eC (.int 8)) aNil)))) aNil))) (Pd := fun _ y => GoodD y) (E := fun i => [scr ns, .own true (rep0 (n + 1 + 2 * i)), .im (.int k), .no]) (fun j => trivial) (rngD 0 k) [] 0 (small_size (by rw [hlen]; show 0 + k.toNat ≤ 1000; omega)) (fun d _ i hi => by
    have hi : i < 2 := by rw [hlen] at hi; omega
    obtain ⟨a, ea, a1, a2⟩ := r_draw ns (n + 1 + 2 * i) 7 hl (by omega) (by decide)
    obtain ⟨b, eb, b1, b2⟩ := r_draw ns (n + 1 + 2 * i + 1) 8 hl (by omega) (by decide)
    refine ⟨_, .im (.tup [.int (3 + a), .int b]), [scr ns, .own true (rep0 (n + 1 + 2 * i + 1 + 1)), .im (.int k), .im d], _, rfl, ?_, rfl, ⟨3 + a, b, rfl, by omega, by omega⟩, rfl⟩
    simp [scr] at ea eb
    simp [scr, ea, eb, sEr, op2, op1, T.val, R.opt, toB, opL, vals, consT, disp, mvs, mkTup, callT, callI, argE, others, isAl, isAli, finT, outE, padE, runD, cpsOf, cpT, toI, slT, T.weak, metT, kApp, kExt, elemD, iT, iL, iR1, iR2, iE, iZ, onI])
  have hm : n + 1 + 2 * (0 + (rngD 0 k).length) ≤ n + 5 := by rw [hlen]; omega
  refine ⟨ys, n + 1 + 2 * (0 + (rngD 0 k).length), ?_, by omega, hm, by rw [h1, hlen]; omega, fun g hg => ?_⟩
  · have q2 := eLc_of (fi := fiR1 (aCons (eVar 2) aNil)) (env := [scr ns, .own true (rep0 (n + 1)), .im (.int k), .no]) (k := ⟨rngD 0 k, none⟩) (e := [scr ns, .own true (rep0 (n + 1)), .im (.int k), .no]) (by
      have b : (-4611686018427387904 ≤ k) ∧ k < 4611686018427387904 := by omega
      simp [b, sEr, op2, op1, T.val, R.opt, toB, opL, vals, consT, disp, mvs, mkTup, callT, callI, argE, others, isAl, isAli, finT, outE, padE, runD, cpsOf, cpT, toI, slT, T.weak, metT, kApp, kExt, elemD, iT, iL, iR1, iR2, iE, iZ, onI]) q
    refine fin4 (rest := [scr ns, .own true (rep0 (n + 1 + 2 * (0 + (rngD 0 k).length))), .im (.int k), .no]) (m := 0) rfl ?_ _ rfl
    unfold f__law_some_goods
    have q2' : eLc (fiR1 (aCons (eVar 2) aNil)) [3] (.one 3) tT _ [scr ns, .own true (rep0 (n + 1)), .im (.int k), .no] = .ok (.fr ys) [scr ns, .own true (rep0 (n + 1 + 2 * (0 + (rngD 0 k).length))), .im (.int k), .no] := q2
    simp [scr] at e1
    simp only [scr, rep0] at q2'
    simp [scr, e1, ← ek, q2', sEr, op2, op1, T.val, R.opt, toB, opL, vals, consT, disp, mvs, mkTup, callT, callI, argE, others, isAl, isAli, finT, outE, padE, runD, cpsOf, cpT, toI, slT, T.weak, metT, kApp, kExt, elemD, iT, iL, iR1, iR2, iE, iZ, onI]
  · obtain ⟨i, hi⟩ := List.getElem?_of_mem hg
    have hil : i < (rngD 0 k).length := by
      rw [← h1]
      exact (List.getElem?_eq_some_iff.mp hi).1
    obtain ⟨y', e1, e2⟩ := h2 i _ (List.getElem?_eq_getElem hil)
    rw [hi] at e1
    cases e1
    exact e2

end DL
namespace DL
open PySem PySem.Spec L2
theorem eLst_rule {v : D} {n : Int} (h : isRule v n = true) : ∃ x a ds, v = .tup (.str x :: ds) ∧ (x = "each" → ∃ b m, ds = [a, b, m]) := by
  obtain ⟨x, ds, rfl⟩ := rule_word h
  by_cases e : x = "each"
  · obtain ⟨a, b, m, rfl⟩ := rule_each h e
    exact ⟨x, a, _, rfl, fun _ => ⟨b, m, rfl⟩⟩
  · exact ⟨x, .non, ds, rfl, fun z => (e z).elim⟩
structure GoodRs (rs : List D) (n : Nat) : Prop where
  len : rs.length ≤ 4
  all : ∀ r ∈ rs, isRule r n = true
  one : (rs.filter isEndless).length ≤ 1
  flat : D.flats rs = true
theorem l_capped (i j : Nat) (rs : List D) (n : Nat) (env : En) (hr : ∀ r ∈ rs, isRule r n = true) (hl : rs.length ≤ 1000) (hi : env[i]? = some (.own false rs)) (hw : wipeE env [j] = env) (hj : j < env.length) (hij : ∀ d, wipeE (env.set j (.im d)) [j] = env) :
    eLc (fiL false (eVar i)) [j] (.one j) tT (eAn (eOp dEqA (eOp dIx (eVar j) (eC (.int 0))) (eC (.str "each"))) (eOp dIs (eOp dIx (eVar j) (eC (.int 3))) (eC .non))) env = .ok (.fr (rs.map fun d => .bl (isEndless d))) env := by
  refine eLc_of (k := ⟨rs, some (i, rs)⟩) (e := env) (by simp [hi, sEr, op2, op1, T.val, R.opt, toB, opL, vals, consT, disp, mvs, mkTup, callT, callI, argE, others, isAl, isAli, finT, outE, padE, runD, cpsOf, cpT, toI, slT, T.weak, metT, kApp, kExt, elemD, iT, iL, iR1, iR2, iE, iZ, onI]) ?_
  rw [hw]
  refine lc_map (k := ⟨rs, some (i, rs)⟩) (h := fun d => .bl (isEndless d)) ⟨false, hi⟩ rs [] (small_size (by simpa using hl)) fun d z => ?_
  refine ⟨_, .im (.bl (isEndless d)), env.set j (.im d), rfl, ?_, rfl, hij d⟩
  have hg : (env.set j (.im d))[j]? = some (.im d) := List.getElem?_set_self hj
  obtain ⟨x, a, ds, rfl, he⟩ := eLst_rule (hr d z)
  have q : ∀ k : Nat, (0 : Int) < (k : Int) + 1 := fun k => by omega
  by_cases e : x = "each"
  · obtain ⟨b, m, rfl⟩ := he e
    subst e
    simp [hg, dIx, atI, ixN, isEndless, dIs_non, sEr, op2, op1, T.val, R.opt, toB, opL, vals, consT, disp, mvs, mkTup, callT, callI, argE, others, isAl, isAli, finT, outE, padE, runD, cpsOf, cpT, toI, slT, T.weak, metT, kApp, kExt, elemD, iT, iL, iR1, iR2, iE, iZ, onI, -dIs]
  · have e' : (x == "each") = false := by simpa using e
    have e2 : isEndless (.tup (.str x :: ds)) = false := by
      unfold isEndless
      split
      · rename_i z; cases z; simp [e']
      · rfl
    simp [hg, dIx, atI, ixN, e2, e', q, sEr, op2, op1, T.val, R.opt, toB, opL, vals, consT, disp, mvs, mkTup, callT, callI, argE, others, isAl, isAli, finT, outE, padE, runD, cpsOf, cpT, toI, slT, T.weak, metT, kApp, kExt, elemD, iT, iL, iR1, iR2, iE, iZ, onI, -dIs]
theorem any_endless {rs : List D} (h : rs.any isEndless = false) : rs.filter isEndless = [] := by
  rw [List.filter_eq_nil_iff]
  intro a z
  rw [List.any_eq_false] at h
  exact h a z
theorem r_some_shop2 (ns : List Int) (n : Nat) (hl : ns.length ≤ 63) (hn : n < 800000) : ∃ (gs rs : List D) (m : Nat), d__law_some_shop [scr ns, .own true (rep0 n)] = .ok (.im (.tup [.tup gs, .tup rs])) [.no, .own true (rep0 m)] ∧ n ≤ m ∧ m ≤ n + 40 ∧ GoodGs gs ∧ GoodRs rs gs.length ∧ ∀ r ∈ rs, drawnR gs r := by
  obtain ⟨gs, m1, e1, n1, n2, hg⟩ := r_some_goods ns n hl (by omega)
  obtain ⟨k, e2, k1, k2⟩ := r_draw ns m1 5 hl (by omega) (by decide)
  have hlen : (rngD 0 k).length = k.toNat := by simp [rngD]
  obtain ⟨e3, q1, m2, a2, rs, c2, i1, i2, i3, i4, i5, i6, i7⟩ := loop_all (g := gN 2) (f := sSeq (sAsg (eB dAny (aCons (eLc (fiL false (eVar 4)) [6] (.one 6) tT (eAn (eOp dEqA (eOp dIx (eVar 6) (eC (.int 0))) (eC (.str "each"))) (eOp dIs (eOp dIx (eVar 6) (eC (.int 3))) (eC .non)))) aNil)) (gN 5))
    (sDrop (eMet kApp (eVar 4) (aCons (eCallI 1 d__law_some_rule (aCons (eVar 0) (aCons (eVar 1) (aCons (eVar 3) (aCons (eVar 5) aNil))))) aNil)))) (ds := rngD 0 k) (env := [scr ns, .own true (rep0 (m1 + 1)), .no, .im (.tup gs), .own false [], .no, .no])
    (I := fun i e => ∃ (m : Nat) (a : Sl) (rs : List D) (c : Sl), e = [scr ns, .own true (rep0 m), a, .im (.tup gs), .own false rs, c, .no] ∧ m1 + 1 ≤ m ∧ m ≤ m1 + 1 + 6 * i ∧ rs.length = i ∧ ((∀ r ∈ rs, isRule r gs.length = true) ∧ (rs.filter isEndless).length ≤ 1) ∧ D.flats rs = true ∧ ∀ r ∈ rs, drawnR gs r)
    ⟨m1 + 1, .no, [], .no, rfl, by omega, by omega, rfl, ⟨fun r z => (by cases z), Nat.zero_le _⟩, rfl, fun r z => (by cases z)⟩ (by
    rintro i d _ hd ⟨m, a, rs, c, rfl, j1, j2, j3, ⟨j4, j5⟩, j6, j7⟩
    have hi : i < k.toNat := by
      rw [← hlen]
      exact (List.getElem?_eq_some_iff.mp hd).1
    have lc := l_capped 4 6 rs gs.length [scr ns, .own true (rep0 m), .im d, .im (.tup gs), .own false rs, c, .no] j4 (by omega) rfl rfl (by simp) (fun _ => rfl)
    obtain ⟨r, m', e4, p1, p2, p3, p4, p5, p6⟩ := r_some_rule2 ns m gs (rs.any isEndless) hl (by omega) hg
    refine ⟨_, [scr ns, .own true (rep0 m'), .im d, .im (.tup gs), .own false (rs ++ [r]), .im (.bl (rs.any isEndless)), .no], rfl, .inl ?_, m', _, rs ++ [r], _, rfl, by omega, by omega, by simp [j3], ⟨fun x z => ?_, ?_⟩, flats_app j6 (by simp [D.flats, p5]), fun x z => ?_⟩
    · have hlen2 : rs.length < 1000000 := by omega
      simp only [scr, rep0] at lc e4
      try simp at e4
      simp [lc, e4, hlen2, scr, p5, flatT, hg.flat, sEr, op2, op1, T.val, R.opt, toB, opL, vals, consT, disp, mvs, mkTup, callT, callI, argE, others, isAl, isAli, finT, outE, padE, runD, cpsOf, cpT, toI, slT, T.weak, metT, kApp, kExt, elemD, iT, iL, iR1, iR2, iE, iZ, onI]
    · rcases List.mem_append.mp z with z | z
      · exact j4 x z
      · simp at z
        subst z
        exact p3
    · rw [List.filter_append]
      cases hc : rs.any isEndless with
      | true => simp [p4 hc, j5]
      | false =>
        rw [any_endless hc]
        simp
        exact Nat.le_trans (List.length_filter_le _ _) (by simp)
    · rcases List.mem_append.mp z with z | z
      · exact j7 x z
      · simp at z
        subst z
        exact p6)
  subst i1
  refine ⟨gs, rs, m2, ?_, by omega, by rw [hlen] at i3; omega, hg, ⟨by rw [i4, hlen]; omega, i5.1, i5.2, i6⟩, i7⟩
  refine fin4 (rest := [scr ns, .own true (rep0 m2), a2, .im (.tup gs), .own false rs, c2, .no]) (m := 0) rfl ?_ _ rfl
  have s2 := sFor_of (fi := fiR1 (aCons (eCallI 1 d__law_draw (aCons (eVar 0) (aCons (eVar 1) (aCons (eC (.int 5)) aNil)))) aNil)) (env := [scr ns, .own true (rep0 m1), .no, .im (.tup gs), .own false [], .no, .no]) (by
    have b : (-4611686018427387904 ≤ k) ∧ k < 4611686018427387904 := by omega
    try simp [scr] at e2
    simp [scr, e2, b, sEr, op2, op1, T.val, R.opt, toB, opL, vals, consT, disp, mvs, mkTup, callT, callI, argE, others, isAl, isAli, finT, outE, padE, runD, cpsOf, cpT, toI, slT, T.weak, metT, kApp, kExt, elemD, iT, iL, iR1, iR2, iE, iZ, onI]) q1
  unfold f__law_some_shop
  simp only [scr, rep0] at s2 e1
  try simp at e1
  simp [scr, e1, s2, hg.flat, flatT, sEr, op2, op1, T.val, R.opt, toB, opL, vals, consT, disp, mvs, mkTup, callT, callI, argE, others, isAl, isAli, finT, outE, padE, runD, cpsOf, cpT, toI, slT, T.weak, metT, kApp, kExt, elemD, iT, iL, iR1, iR2, iE, iZ, onI]
end DL
namespace DL
open PySem PySem.Spec L2
@[simp] theorem at_0 (a : D) (ds : List D) : atI (a :: ds) 0 = some a := by
  have q : (0 : Int) < (ds.length : Int) + 1 := by omega
  simp [atI, ixN, q]
@[simp] theorem at_1 (a b : D) (ds : List D) : atI (a :: b :: ds) 1 = some b := by
  have q : (1 : Int) < (ds.length : Int) + 1 + 1 := by omega
  simp [atI, ixN, q]
@[simp] theorem at_2 (a b c : D) (ds : List D) : atI (a :: b :: c :: ds) 2 = some c := by
  have q : (2 : Int) < (ds.length : Int) + 1 + 1 + 1 := by omega
  simp [atI, ixN, q]
@[simp] theorem at_3 (a b c d : D) (ds : List D) : atI (a :: b :: c :: d :: ds) 3 = some d := by
  have q : (3 : Int) < (ds.length : Int) + 1 + 1 + 1 + 1 := by omega
  simp [atI, ixN, q]
@[simp] theorem at_4 (a b c d e : D) (ds : List D) : atI (a :: b :: c :: d :: e :: ds) 4 = some e := by
  have q : (4 : Int) < (ds.length : Int) + 1 + 1 + 1 + 1 + 1 := by omega
  simp [atI, ixN, q]
inductive Ru where
  | pack (g s p : Int) (m : Option Int) | frm (g l p : Int) | over (f o : Int) | each (f o : Int) (m : Option Int)
def oD : Option Int → D
  | none => .non
  | some i => .int i
def Ru.d : Ru → D
  | .pack g s p m => .tup [.str "pack", .int g, .int s, .int p, oD m]
  | .frm g l p => .tup [.str "from", .int g, .int l, .int p]
  | .over f o => .tup [.str "over", .int f, .int o]
  | .each f o m => .tup [.str "each", .int f, .int o, oD m]
def okM : Option Int → Prop
  | none => True
  | some k => 1 ≤ k ∧ k ≤ 2
def Ru.ok : Ru → Int → Prop
  | .pack g s p m, n => (0 ≤ g ∧ g < n) ∧ (2 ≤ s ∧ s ≤ 3) ∧ (s ≤ p ∧ p ≤ 30) ∧ okM m
  | .frm g l p, n => (0 ≤ g ∧ g < n) ∧ (2 ≤ l ∧ l ≤ 4) ∧ (1 ≤ p ∧ p ≤ 9)
  | .over f o, _ => (2 ≤ f ∧ f ≤ 12) ∧ 1 ≤ o ∧ o ≤ 6 ∧ o ≤ f
  | .each f o m, _ => (2 ≤ f ∧ f ≤ 6) ∧ (1 ≤ o ∧ o ≤ f) ∧ okM m ∧ (m = none → 2 * o ≤ f)
theorem isBt_of {i a b : Int} (h : isBetween (.int i) a b = true) : a ≤ i ∧ i ≤ b := by simpa [isBetween] using h
theorem most_of {m : D} (h : isMost m = true) : ∃ o, m = oD o ∧ okM o := by
  cases m with
  | non => exact ⟨none, rfl, trivial⟩
  | int i => exact ⟨some i, rfl, isBt_of h⟩
  | _ => exact (Bool.false_ne_true h).elim
theorem rule_ru {v : D} {n : Int} (h : isRule v n = true) : ∃ r : Ru, v = r.d ∧ r.ok n := by
  obtain ⟨x, ds, rfl⟩ := rule_word h
  by_cases e1 : x = "pack"
  · subst e1
    replace h : isPack (.tup (.str "pack" :: ds)) n = true := h
    unfold isPack at h
    split at h
    · rename_i z
      cases z
      simp only [Bool.and_eq_true] at h
      obtain ⟨h1, h2, h3, h4⟩ := h
      obtain ⟨p, rfl⟩ := isBt_int h3
      obtain ⟨o, rfl, h5⟩ := most_of h4
      have := isBt_of h1
      exact ⟨.pack _ _ p o, rfl, by omega, isBt_of h2, isBt_of h3, h5⟩
    · cases h
  · by_cases e2 : x = "from"
    · subst e2
      replace h : isFrom (.tup (.str "from" :: ds)) n = true := h
      unfold isFrom at h
      split at h
      · rename_i z
        cases z
        simp only [Bool.and_eq_true] at h
        obtain ⟨h1, h2, h3⟩ := h
        obtain ⟨g, rfl⟩ := isBt_int h1
        obtain ⟨l, rfl⟩ := isBt_int h2
        obtain ⟨p, rfl⟩ := isBt_int h3
        have := isBt_of h1
        exact ⟨.frm g l p, rfl, by omega, isBt_of h2, isBt_of h3⟩
      · cases h
    · by_cases e3 : x = "over"
      · subst e3
        replace h : isOver (.tup (.str "over" :: ds)) = true := h
        unfold isOver at h
        split at h
        · rename_i z
          cases z
          simp only [Bool.and_eq_true] at h
          obtain ⟨h1, h2⟩ := h
          obtain ⟨o, rfl⟩ := isBt_int h2
          have a1 := isBt_of h1
          have a2 := isBt_of h2
          refine ⟨.over _ o, rfl, a1, a2.1, ?_, ?_⟩ <;> (have := a2.2; split at this <;> omega)
        · cases h
      · by_cases e4 : x = "each"
        · subst e4
          replace h : isEach (.tup (.str "each" :: ds)) = true := h
          unfold isEach at h
          split at h
          · rename_i z
            cases z
            simp only [Bool.and_eq_true] at h
            obtain ⟨h1, h2, h3, h4⟩ := h
            obtain ⟨o, rfl, h5⟩ := most_of h3
            refine ⟨.each _ _ o, rfl, isBt_of h1, isBt_of h2, h5, fun z => ?_⟩
            subst z
            simpa [isNon, oD] using h4
          · cases h
        · have q1 : (x == "pack") = false := by simpa using e1
          have q2 : (x == "from") = false := by simpa using e2
          have q3 : (x == "over") = false := by simpa using e3
          have q4 : (x == "each") = false := by simpa using e4
          simp [isRule, q1, q2, q3, q4] at h
theorem rules_ru {n : Int} : ∀ {rs : List D}, (∀ r ∈ rs, isRule r n = true) → ∃ us : List Ru, rs = us.map Ru.d ∧ ∀ u ∈ us, u.ok n
  | [], _ => ⟨[], rfl, fun u z => by cases z⟩
  | r :: rs, h => by
    obtain ⟨u, rfl, q⟩ := rule_ru (h r List.mem_cons_self)
    obtain ⟨us, rfl, qs⟩ := rules_ru fun x z => h x (List.mem_cons_of_mem _ z)
    exact ⟨u :: us, rfl, fun x z => (List.mem_cons.mp z).elim (fun z => z ▸ q) (qs x)⟩
@[simp] theorem w1 : (("over" : Str) == "pack") = false := by decide +kernel
@[simp] theorem w2 : (("over" : Str) == "from") = false := by decide +kernel
@[simp] theorem w3 : (("over" : Str) == "each") = false := by decide +kernel
@[simp] theorem w4 : (("each" : Str) == "pack") = false := by decide +kernel
@[simp] theorem w5 : (("each" : Str) == "from") = false := by decide +kernel
@[simp] theorem w6 : (("each" : Str) == "over") = false := by decide +kernel
@[simp] theorem w7 : (("pack" : Str) == "over") = false := by decide +kernel
@[simp] theorem w8 : (("pack" : Str) == "each") = false := by decide +kernel
@[simp] theorem w9' : (("pack" : Str) == "from") = false := by decide +kernel
@[simp] theorem w10' : (("from" : Str) == "over") = false := by decide +kernel
@[simp] theorem w11' : (("from" : Str) == "each") = false := by decide +kernel
@[simp] theorem w12' : (("from" : Str) == "pack") = false := by decide +kernel
end DL
namespace DL
open PySem PySem.Spec L2
def full (w p : Int) : Option Int → Int
  | none => w / p
  | some k => if k < w / p then k else w / p
def gd (g : Int × Int) : D := .tup [.int g.1, .int g.2]
end DL
namespace DL
open PySem PySem.Spec L2
def wr (u : Ru) (x : Int) : Int := match u with
  | .pack _ s _ m => full x s m
  | _ => 1
end DL
namespace DL
open PySem PySem.Spec L2
theorem r_check_shop {v : D} (h : isShop v = true) : d_check_shop [.im v] = .ok (.im .non) [.no] := by
  simp [d_check_shop, f_check_shop, r_is_shop, h, sEr, op2, op1, T.val, R.opt, toB, opL, vals, consT, disp, mvs, mkTup, callT, callI, argE, others, isAl, isAli, finT, outE, padE, runD, cpsOf, cpT, toI, slT, T.weak, metT, kApp, kExt, elemD, iT, iL, iR1, iR2, iE, iZ, onI]
end DL
namespace DL
open PySem PySem.Spec L2
def Ru.endless : Ru → Bool
  | .each _ _ none => true
  | _ => false
theorem endless_is (u : Ru) : isEndless u.d = u.endless := by
  cases u with
  | pack g s p m => rfl
  | frm g l p => simp [Ru.d, isEndless, Ru.endless]
  | over f o => rfl
  | each f o m => cases m <;> rfl
structure Shp (gi : List (Int × Int)) (us : List Ru) : Prop where
  len : 1 ≤ gi.length ∧ gi.length ≤ 2
  pr : ∀ g ∈ gi, (1 ≤ g.1 ∧ g.1 ≤ 9) ∧ (0 ≤ g.2 ∧ g.2 ≤ 9)
  few : us.length ≤ 4
  ru : ∀ u ∈ us, u.ok gi.length ∧ isRule u.d gi.length = true
  one : (us.filter Ru.endless).length ≤ 1
abbrev shopD (gi : List (Int × Int)) (us : List Ru) : D := .tup [.tup (gi.map gd), .tup (us.map Ru.d)]
theorem Shp.is {gi : List (Int × Int)} {us : List Ru} (h : Shp gi us) : isShop (shopD gi us) = true := by
  have e1 : (gi.map gd).all isGood = true := by
    rw [List.all_eq_true]
    intro d hd
    obtain ⟨g, hg, rfl⟩ := List.mem_map.mp hd
    obtain ⟨h1, h2⟩ := h.pr g hg
    simp [gd, isGood, isBetween, h1, h2]
  have e2 : rulesOk (us.map Ru.d) gi.length = true := by
    unfold rulesOk
    rw [List.all_eq_true]
    intro d hd
    obtain ⟨u, hu, rfl⟩ := List.mem_map.mp hd
    exact (h.ru u hu).2
  have e3 : ((us.map Ru.d).filter isEndless).length = (us.filter Ru.endless).length := by
    rw [List.filter_map, List.length_map]
    congr 2
    funext u
    exact endless_is u
  show (areGoods (.tup (gi.map gd)) && areRules (.tup (us.map Ru.d)) (gi.map gd).length) = true
  rw [List.length_map]
  have h1 := h.one
  simp [areGoods, areRules, h.len, h.few, e1, e2, e3, h1]
theorem Shp.less {gi : List (Int × Int)} {us : List Ru} (h : Shp gi us) (p : Ru → Bool) : Shp gi (us.filter p) := by
  refine ⟨h.len, h.pr, Nat.le_trans (List.length_filter_le _ _) h.few, fun u z => h.ru u (List.mem_filter.mp z).1, ?_⟩
  rw [List.filter_filter]
  refine Nat.le_trans ?_ h.one
  rw [show (fun a => Ru.endless a && p a) = fun a => p a && Ru.endless a from funext fun a => Bool.and_comm _ _, ← List.filter_filter]
  exact List.length_filter_le _ _
theorem goods_gi {gs : List D} (h : ∀ g ∈ gs, ∃ p c : Int, g = .tup [.int p, .int c] ∧ (3 ≤ p ∧ p ≤ 9) ∧ (0 ≤ c ∧ c ≤ 7)) : ∃ gi : List (Int × Int), gs = gi.map gd ∧ ∀ g ∈ gi, (3 ≤ g.1 ∧ g.1 ≤ 9) ∧ (0 ≤ g.2 ∧ g.2 ≤ 7) := by
  induction gs with
  | nil => exact ⟨[], rfl, fun g z => by cases z⟩
  | cons g gs ih =>
    obtain ⟨p, c, rfl, h1, h2⟩ := h g List.mem_cons_self
    obtain ⟨gi, rfl, q⟩ := ih fun x z => h x (List.mem_cons_of_mem _ z)
    exact ⟨(p, c) :: gi, rfl, fun x z => (List.mem_cons.mp z).elim (fun z => by subst z; exact ⟨h1, h2⟩) (q x)⟩
theorem draw_shop2 (ns : List Int) (n : Nat) (hl : ns.length ≤ 63) (hn : n < 800000) : ∃ gi us m, d__law_some_shop [scr ns, .own true (rep0 n)] = .ok (.im (shopD gi us)) [.no, .own true (rep0 m)] ∧ n ≤ m ∧ m ≤ n + 40 ∧ Shp gi us ∧ (∀ g ∈ gi, (3 ≤ g.1 ∧ g.1 ≤ 9) ∧ (0 ≤ g.2 ∧ g.2 ≤ 7)) ∧ D.flats (us.map Ru.d) = true ∧ ∀ u ∈ us, drawnR (gi.map gd) u.d := by
  obtain ⟨gs, rs, m, e, h1, h2, hg, hr, hdr⟩ := r_some_shop2 ns n hl hn
  obtain ⟨gi, rfl, q⟩ := goods_gi hg.all
  have hlen := hg.len
  rw [List.length_map] at hlen
  have ha := hr.all
  rw [List.length_map] at ha
  obtain ⟨us, rfl, qu⟩ := rules_ru ha
  refine ⟨gi, us, m, e, h1, h2, ⟨hlen, fun g z => ?_, ?_, fun u z => ⟨qu u z, ha _ (List.mem_map_of_mem z)⟩, ?_⟩, q, hr.flat, fun u z => hdr _ (List.mem_map_of_mem z)⟩
  · have := q g z
    omega
  · have := hr.len
    rwa [List.length_map] at this
  · have := hr.one
    rw [List.filter_map, List.length_map] at this
    rw [show (isEndless ∘ Ru.d) = Ru.endless from funext endless_is] at this
    exact this
theorem draw_shop (ns : List Int) (n : Nat) (hl : ns.length ≤ 63) (hn : n < 800000) : ∃ gi us m, d__law_some_shop [scr ns, .own true (rep0 n)] = .ok (.im (shopD gi us)) [.no, .own true (rep0 m)] ∧ n ≤ m ∧ m ≤ n + 40 ∧ Shp gi us ∧ (∀ g ∈ gi, (3 ≤ g.1 ∧ g.1 ≤ 9) ∧ (0 ≤ g.2 ∧ g.2 ≤ 7)) ∧ D.flats (us.map Ru.d) = true := by
  obtain ⟨gi, us, m, h1, h2, h3, h4, h5, h6, _⟩ := draw_shop2 ns n hl hn
  exact ⟨gi, us, m, h1, h2, h3, h4, h5, h6⟩
end DL
namespace DL
open PySem PySem.Spec L2
end DL
namespace DL
open PySem PySem.Spec L2
def Ru.off : Ru → Int → Int
  | .over f _, t => if f ≤ t then 1 else 0
  | .each f _ m, t => full t f m
  | _, _ => 0
def Ru.cut : Ru → Int
  | .pack _ s _ _ => s
  | .frm _ l _ => l
  | .over _ o => o
  | .each _ o _ => o
end DL
namespace DL
open PySem PySem.Spec L2
inductive Ac where
  | off (n : Nat) | most (n : Nat) (m : Int)
deriving DecidableEq
def Ac.d : Ac → D
  | .off n => .tup [.str "off", .int n]
  | .most n m => .tup [.str "most", .int n, .int m]
def Ru.lessM : Ru → Int → Bool
  | .pack _ _ _ none, _ => true
  | .pack _ _ _ (some k), m => decide (m < k)
  | .each _ _ none, _ => true
  | .each _ _ (some k), m => decide (m < k)
  | _, _ => false
@[simp] theorem at_m3 (a b c : D) : atI [a, b, c] (-1) = some c := rfl
@[simp] theorem at_m4 (a b c d : D) : atI [a, b, c, d] (-1) = some d := rfl
@[simp] theorem at_m5 (a b c d e : D) : atI [a, b, c, d, e] (-1) = some e := rfl
end DL
namespace DL
open PySem PySem.Spec L2
def keep (as : List Ac) (n : Nat) : Bool := !as.any fun a => decide (a = Ac.off n)
def Ac.ok (us : List Ru) : Ac → Prop
  | .off n => n < us.length
  | .most n m => (1 ≤ m ∧ m ≤ 2) ∧ ∃ u, us[n]? = some u ∧ u.lessM m = true
theorem ok_off : PyData.strOk ("off" : Str) = true := by decide +kernel
theorem ok_most : PyData.strOk ("most" : Str) = true := by decide +kernel
@[simp] theorem v1 : (("off" : Str) == "most") = false := by decide +kernel
@[simp] theorem v2 : (("most" : Str) == "off") = false := by decide +kernel
theorem shp_off (k : Int) : shp (.tup [.str "off", .int k]) = true := by
  rw [shp_eq]
  simp [lay, lays, dep, deps, ok_off]
theorem shp_most (k m : Int) : shp (.tup [.str "most", .int k, .int m]) = true := by
  rw [shp_eq]
  simp [lay, lays, dep, deps, ok_most]
theorem Ac.shp (a : Ac) : DL.shp a.d = true := by
  cases a with
  | off n => exact shp_off n
  | most n m => exact shp_most n m
def keepD (as : List Ac) : D → Bool
  | .int i => keep as i.toNat
  | _ => false
end DL
namespace DL
open PySem PySem.Spec L2
end DL
namespace DL
open PySem PySem.Spec L2
end DL
namespace DL
open PySem PySem.Spec L2
abbrev rsd (k : Int) : D := .tup [.str "raised", .int k]
theorem try_ex {i : Nat} {f : FS} {env e : En} {x : Str} (h : f env = .ex x e) : sTry i f env = tryE i x e := by
  unfold sTry
  rw [h]
theorem try_rt {i : Nat} {f : FS} {env e : En} {t : T} (h : f env = .rt t e) : sTry i f env = .rt t e := by
  unfold sTry
  rw [h]
theorem te_of {i : Nat} {e : En} {x : Str} {k : Nat} (h : i < e.length) (hx : xn.idxOf? x = some k) : tryE i x e = .rt (.im (rsd k)) e := by
  unfold tryE
  rw [if_pos h, hx]
theorem so_raised : PyData.strOk ("raised" : Str) = true := by decide +kernel
theorem shp_rsd (k : Int) : shp (rsd k) = true := by
  rw [shp_eq]
  simp [lay, lays, dep, deps, so_raised]
theorem eqv_rsd (j k : Int) : eqv (rsd j) (rsd k) = decide (j = k) := by
  rw [Bool.eq_iff_iff]; simp
theorem ne_rsd (k : Int) : dNeA (rsd k) (rsd k) = some (.im (.bl false)) := by
  unfold dNeA dNeS dNe
  dsimp only
  rw [if_pos ⟨shp_rsd k, shp_rsd k⟩, eqv_rsd]
  simp
theorem eq_rsd (k : Int) : dEqA (rsd k) (rsd k) = some (.im (.bl true)) := by
  unfold dEqA dEqS dEq
  dsimp only
  rw [if_pos ⟨shp_rsd k, shp_rsd k⟩, eqv_rsd]
  simp
end DL
namespace DL
open PySem PySem.Spec L2
theorem so1 : PyData.strOk ("pack" : Str) = true := by decide +kernel
theorem so2 : PyData.strOk ("from" : Str) = true := by decide +kernel
theorem so3 : PyData.strOk ("over" : Str) = true := by decide +kernel
theorem so4 : PyData.strOk ("each" : Str) = true := by decide +kernel
theorem ru_lay (u : Ru) : lay u.d = true ∧ dep u.d = 1 := by
  cases u with
  | pack g s p m => cases m <;> simp [Ru.d, oD, lay, lays, dep, deps, so1]
  | frm g l p => simp [Ru.d, oD, lay, lays, dep, deps, so2]
  | over f o => simp [Ru.d, oD, lay, lays, dep, deps, so3]
  | each f o m => cases m <;> simp [Ru.d, oD, lay, lays, dep, deps, so4]
theorem lays_rus : ∀ us : List Ru, lays (us.map Ru.d) = true
  | [] => rfl
  | u :: us => by rw [List.map_cons]; unfold lays; rw [(ru_lay u).1, lays_rus us]; rfl
theorem deps_rus : ∀ us : List Ru, deps (us.map Ru.d) ≤ 1
  | [] => by simp [deps]
  | u :: us => by
    rw [List.map_cons]
    unfold deps
    have := deps_rus us
    have := (ru_lay u).2
    omega
theorem gd_lays : ∀ gi : List (Int × Int), lays (gi.map gd) = true ∧ deps (gi.map gd) ≤ 1
  | [] => ⟨rfl, by simp [deps]⟩
  | g :: gi => by
    obtain ⟨h1, h2⟩ := gd_lays gi
    rw [List.map_cons]
    unfold lays deps
    have e1 : lay (gd g) = true := by simp [gd, lay, lays]
    have e2 : dep (gd g) = 1 := by simp [gd, dep, deps]
    rw [e1, e2, h1]
    exact ⟨rfl, by omega⟩
theorem shp_shop (gi : List (Int × Int)) (us : List Ru) : shp (shopD gi us) = true := by
  obtain ⟨h1, h2⟩ := gd_lays gi
  have h3 := deps_rus us
  rw [shp_eq]
  simp only [lay, lays, dep, deps, h1, lays_rus]
  simp
  omega
end DL
namespace DL
open PySem PySem.Spec L2
theorem seq_of {f g : FS} {e e1 : En} {x : Fl} (h : f e = .nx e1) (k : g e1 = x) : sSeq f g e = x := by
  rw [sSeq_s, h, seq_nx]
  exact k

end DL
namespace DL
open PySem PySem.Spec L2
def topS (i : Nat) : Stmt := PySem.Challenge.pw_sureprices_k38_whole_spoiled_texts.main.body.getD i (.Pass ⟨0, 0, 0, 0⟩)
def g_NO_MOST : D := .str "-"
def g_NO_RULES : D := .str "none"
structure Bl (K : PySem.W.Frag) (mg : Str → Option Value) : Prop where
  b_ValueError : mg "ValueError" = none
  b_all : mg "all" = none
  b_any : mg "any" = none
  b_bool : mg "bool" = none
  b_int : mg "int" = none
  b_isinstance : mg "isinstance" = none
  b_len : mg "len" = none
  b_max : mg "max" = none
  b_min : mg "min" = none
  b_range : mg "range" = none
  b_str : mg "str" = none
  b_tuple : mg "tuple" = none
  g_MOST_DIGITS : ∃ u, mg "MOST_DIGITS" = some u ∧ RelV (.int 2) u
  g_MOST_GOODS : ∃ u, mg "MOST_GOODS" = some u ∧ RelV (.int 2) u
  g_MOST_RULES : ∃ u, mg "MOST_RULES" = some u ∧ RelV (.int 4) u
  g_NO_MOST : GlT K mg "NO_MOST" g_NO_MOST
  g_NO_RULES : GlT K mg "NO_RULES" g_NO_RULES
  k_InvalidShop : ExcK K mg "InvalidShop"
  k_ParseError : ExcK K mg "ParseError"
abbrev s_is_integer : Stmt := topS 17
theorem sc_is_integer : FnScope ["value"] ["value"] (defScope s_is_integer) := ⟨rfl, rfl, rfl, by decide +kernel, rfl, by decide +kernel, by decide +kernel⟩
abbrev s_is_between : Stmt := topS 18
theorem sc_is_between : FnScope ["value", "low", "high"] ["value", "low", "high"] (defScope s_is_between) := ⟨rfl, rfl, rfl, by decide +kernel, rfl, by decide +kernel, by decide +kernel⟩
abbrev s_is_tuple_of : Stmt := topS 19
theorem sc_is_tuple_of : FnScope ["value", "length"] ["value", "length"] (defScope s_is_tuple_of) := ⟨rfl, rfl, rfl, by decide +kernel, rfl, by decide +kernel, by decide +kernel⟩
abbrev s_is_most : Stmt := topS 20
theorem sc_is_most : FnScope ["value"] ["value"] (defScope s_is_most) := ⟨rfl, rfl, rfl, by decide +kernel, rfl, by decide +kernel, by decide +kernel⟩
abbrev s_is_good : Stmt := topS 21
theorem sc_is_good : FnScope ["value", "price", "cost"] ["value"] (defScope s_is_good) := ⟨rfl, rfl, rfl, by decide +kernel, rfl, by decide +kernel, by decide +kernel⟩
abbrev s_is_pack : Stmt := topS 22
theorem sc_is_pack : FnScope ["value", "many_goods", "_", "good", "size", "price", "most"] ["value", "many_goods"] (defScope s_is_pack) := ⟨rfl, rfl, rfl, by decide +kernel, rfl, by decide +kernel, by decide +kernel⟩
abbrev s_is_from : Stmt := topS 23
theorem sc_is_from : FnScope ["value", "many_goods", "_", "good", "least", "price"] ["value", "many_goods"] (defScope s_is_from) := ⟨rfl, rfl, rfl, by decide +kernel, rfl, by decide +kernel, by decide +kernel⟩
abbrev s_is_over : Stmt := topS 24
theorem sc_is_over : FnScope ["value", "_", "full", "off"] ["value"] (defScope s_is_over) := ⟨rfl, rfl, rfl, by decide +kernel, rfl, by decide +kernel, by decide +kernel⟩
abbrev s_is_each : Stmt := topS 25
theorem sc_is_each : FnScope ["value", "_", "full", "off", "most"] ["value"] (defScope s_is_each) := ⟨rfl, rfl, rfl, by decide +kernel, rfl, by decide +kernel, by decide +kernel⟩
abbrev s_is_rule : Stmt := topS 26
theorem sc_is_rule : FnScope ["value", "many_goods", "word"] ["value", "many_goods"] (defScope s_is_rule) := ⟨rfl, rfl, rfl, by decide +kernel, rfl, by decide +kernel, by decide +kernel⟩
abbrev s_is_endless_each : Stmt := topS 27
theorem sc_is_endless_each : FnScope ["rule"] ["rule"] (defScope s_is_endless_each) := ⟨rfl, rfl, rfl, by decide +kernel, rfl, by decide +kernel, by decide +kernel⟩
abbrev s_are_goods : Stmt := topS 28
theorem sc_are_goods : FnScope ["value", "good"] ["value"] (defScope s_are_goods) := ⟨rfl, rfl, rfl, by decide +kernel, rfl, by decide +kernel, by decide +kernel⟩
abbrev s_are_rules : Stmt := topS 29
theorem sc_are_rules : FnScope ["value", "many_goods", "rule"] ["value", "many_goods"] (defScope s_are_rules) := ⟨rfl, rfl, rfl, by decide +kernel, rfl, by decide +kernel, by decide +kernel⟩
abbrev s_is_shop : Stmt := topS 30
theorem sc_is_shop : FnScope ["value", "goods", "rules"] ["value"] (defScope s_is_shop) := ⟨rfl, rfl, rfl, by decide +kernel, rfl, by decide +kernel, by decide +kernel⟩
abbrev s_check_shop : Stmt := topS 31
theorem sc_check_shop : FnScope ["shop"] ["shop"] (defScope s_check_shop) := ⟨rfl, rfl, rfl, by decide +kernel, rfl, by decide +kernel, by decide +kernel⟩
abbrev s_format_item : Stmt := topS 36
theorem sc_format_item : FnScope ["item"] ["item"] (defScope s_format_item) := ⟨rfl, rfl, rfl, by decide +kernel, rfl, by decide +kernel, by decide +kernel⟩
noncomputable def f_format_item : FS := (sRet (eIf (tV (eOp dIs (eVar 0) (eC .non))) (eC g_NO_MOST) (eB dStr (aCons (eVar 0) aNil))))
noncomputable def d_format_item : FD := runD 1 1 f_format_item
abbrev s_format_good : Stmt := topS 37
theorem sc_format_good : FnScope ["good", "price", "cost"] ["good"] (defScope s_format_good) := ⟨rfl, rfl, rfl, by decide +kernel, rfl, by decide +kernel, by decide +kernel⟩
noncomputable def f_format_good_1 : FS := (sAsg (eVar 0) (gT 2 (gsCons (gN 1) (gsCons (gN 2) gsNil))))
noncomputable def f_format_good_2 : FS := (sRet (eJs ((eUn dFmt (eVar 1)) :: ((eC (.str "/")) :: ((eUn dFmt (eVar 2)) :: [])))))
noncomputable def f_format_good : FS := sSeq f_format_good_1 (f_format_good_2)
noncomputable def d_format_good : FD := runD 3 1 f_format_good
abbrev s_format_rule : Stmt := topS 38
theorem sc_format_rule : FnScope ["rule", "item"] ["rule"] (defScope s_format_rule) := ⟨rfl, rfl, rfl, by decide +kernel, rfl, by decide +kernel, by decide +kernel⟩
noncomputable def f_format_rule : FS := (sRet (eM1 dJoin (eC (.str " ")) (eLc (fiT (eVar 0)) [1] (.one 1) tT (eCall d_format_item (aCons (eVar 1) aNil)))))
noncomputable def d_format_rule : FD := runD 2 1 f_format_rule
abbrev s_format_shop : Stmt := topS 39
theorem sc_format_shop : FnScope ["shop", "first", "second", "goods", "rules", "good", "rule"] ["shop"] (defScope s_format_shop) := ⟨rfl, rfl, rfl, by decide +kernel, rfl, by decide +kernel, by decide +kernel⟩
noncomputable def f_format_shop_1 : FS := (sDrop (eCall d_check_shop (aCons (eVar 0) aNil)))
noncomputable def f_format_shop_2 : FS := (sAsg (eVar 0) (gT 2 (gsCons (gN 3) (gsCons (gN 4) gsNil))))
noncomputable def f_format_shop_3 : FS := (sAsg (eM1 dJoin (eC (.str ", ")) (eLc (fiT (eVar 3)) [5] (.one 5) tT (eCall d_format_good (aCons (eVar 5) aNil)))) (gN 1))
noncomputable def f_format_shop_4 : FS := (sAsg (eIf (tV (eOp dGt (eB dLen (aCons (eVar 4) aNil)) (eC (.int 0)))) (eM1 dJoin (eC (.str ", ")) (eLc (fiT (eVar 4)) [6] (.one 6) tT (eCall d_format_rule (aCons (eVar 6) aNil)))) (eC g_NO_RULES)) (gN 2))
noncomputable def f_format_shop_5 : FS := (sRet (eJs ((eUn dFmt (eVar 1)) :: ((eC (.str "; ")) :: ((eUn dFmt (eVar 2)) :: [])))))
noncomputable def f_format_shop : FS := sSeq f_format_shop_1 (sSeq f_format_shop_2 (sSeq f_format_shop_3 (sSeq f_format_shop_4 (f_format_shop_5))))
noncomputable def d_format_shop : FD := runD 7 1 f_format_shop
abbrev s_read_item : Stmt := topS 40
theorem sc_read_item : FnScope ["text", "number"] ["text"] (defScope s_read_item) := ⟨rfl, rfl, rfl, by decide +kernel, rfl, by decide +kernel, by decide +kernel⟩
noncomputable def f_read_item_1 : FS := (sIf (tV (eOp dEqA (eVar 0) (eC g_NO_MOST))) (sRet (eC .non)) sNx)
noncomputable def f_read_item_2 : FS := (sIf (tOr' (tV (eOp dGt (eB dLen (aCons (eVar 0) aNil)) (eC (.int 2)))) (tOr' (tNo (tV (eM0 dAscii (eVar 0)))) (tNo (tV (eM0 dDigit (eVar 0)))))) (sRet (eVar 0)) sNx)
noncomputable def f_read_item_3 : FS := (sAsg (eB dInt (aCons (eVar 0) aNil)) (gN 1))
noncomputable def f_read_item_4 : FS := (sRet (eIf (tV (eOp dEqA (eB dStr (aCons (eVar 1) aNil)) (eVar 0))) (eVar 1) (eVar 0)))
noncomputable def f_read_item : FS := sSeq f_read_item_1 (sSeq f_read_item_2 (sSeq f_read_item_3 (f_read_item_4)))
noncomputable def d_read_item : FD := runD 2 1 f_read_item
abbrev s_read_items : Stmt := topS 41
theorem sc_read_items : FnScope ["text", "between", "part"] ["text", "between"] (defScope s_read_items) := ⟨rfl, rfl, rfl, by decide +kernel, rfl, by decide +kernel, by decide +kernel⟩
noncomputable def f_read_items : FS := (sRet (eB dTuple (aCons (eLc (fiL false (eM1 dSplit (eVar 0) (eVar 1))) [2] (.one 2) tT (eCall d_read_item (aCons (eVar 2) aNil))) aNil)))
noncomputable def d_read_items : FD := runD 3 2 f_read_items
abbrev s_read_rules : Stmt := topS 42
theorem sc_read_rules : FnScope ["text", "part"] ["text"] (defScope s_read_rules) := ⟨rfl, rfl, rfl, by decide +kernel, rfl, by decide +kernel, by decide +kernel⟩
noncomputable def f_read_rules_1 : FS := (sIf (tV (eOp dEqA (eVar 0) (eC g_NO_RULES))) (sRet (eTup aNil)) sNx)
noncomputable def f_read_rules_2 : FS := (sRet (eB dTuple (aCons (eLc (fiL false (eM1 dSplit (eVar 0) (eC (.str ", ")))) [1] (.one 1) tT (eCall d_read_items (aCons (eVar 1) (aCons (eC (.str " ")) aNil)))) aNil)))
noncomputable def f_read_rules : FS := sSeq f_read_rules_1 (f_read_rules_2)
noncomputable def d_read_rules : FD := runD 2 1 f_read_rules
abbrev s_read_shop : Stmt := topS 43
theorem sc_read_shop : FnScope ["text", "parts", "first", "second", "part"] ["text"] (defScope s_read_shop) := ⟨rfl, rfl, rfl, by decide +kernel, rfl, by decide +kernel, by decide +kernel⟩
noncomputable def f_read_shop_1 : FS := (sAsg (eM1 dSplit (eVar 0) (eC (.str "; "))) (gN 1))
noncomputable def f_read_shop_2 : FS := (sIf (tV (eOp dNeA (eB dLen (aCons (eVar 1) aNil)) (eC (.int 2)))) (sRet (eC .non)) sNx)
noncomputable def f_read_shop_3 : FS := (sAsg (eVar 1) (gTl 2 (gsCons (gN 2) (gsCons (gN 3) gsNil))))
noncomputable def f_read_shop_4 : FS := (sRet (eTup (aCons (eB dTuple (aCons (eLc (fiL false (eM1 dSplit (eVar 2) (eC (.str ", ")))) [4] (.one 4) tT (eCall d_read_items (aCons (eVar 4) (aCons (eC (.str "/")) aNil)))) aNil)) (aCons (eCall d_read_rules (aCons (eVar 3) aNil)) aNil))))
noncomputable def f_read_shop : FS := sSeq f_read_shop_1 (sSeq f_read_shop_2 (sSeq f_read_shop_3 (f_read_shop_4)))
noncomputable def d_read_shop : FD := runD 5 1 f_read_shop
abbrev s_parse_shop : Stmt := topS 44
theorem sc_parse_shop : FnScope ["text", "shop"] ["text"] (defScope s_parse_shop) := ⟨rfl, rfl, rfl, by decide +kernel, rfl, by decide +kernel, by decide +kernel⟩
noncomputable def f_parse_shop_1 : FS := (sIf (tNo (tV (eIsi "str" (eVar 0)))) (sRz "ParseError") sNx)
noncomputable def f_parse_shop_2 : FS := (sAsg (eCall d_read_shop (aCons (eVar 0) aNil)) (gN 1))
noncomputable def f_parse_shop_3 : FS := (sIf (tNo (tV (eCall d_is_shop (aCons (eVar 1) aNil)))) (sRz "ParseError") sNx)
noncomputable def f_parse_shop_4 : FS := (sRet (eVar 1))
noncomputable def f_parse_shop : FS := sSeq f_parse_shop_1 (sSeq f_parse_shop_2 (sSeq f_parse_shop_3 (f_parse_shop_4)))
noncomputable def d_parse_shop : FD := runD 2 1 f_parse_shop
abbrev s__law_cell_at : Stmt := topS 46
theorem sc__law_cell_at : FnScope ["_law_script", "_law_k", "_law_spare", "_law_again"] ["_law_script", "_law_k"] (defScope s__law_cell_at) := ⟨rfl, rfl, rfl, by decide +kernel, rfl, by decide +kernel, by decide +kernel⟩
abbrev s__law_mixed : Stmt := topS 47
theorem sc__law_mixed : FnScope ["_law_script", "_law_k", "_law_many", "_law_spun"] ["_law_script", "_law_k", "_law_many"] (defScope s__law_mixed) := ⟨rfl, rfl, rfl, by decide +kernel, rfl, by decide +kernel, by decide +kernel⟩
abbrev s__law_draw : Stmt := topS 48
theorem sc__law_draw : FnScope ["_law_script", "_law_state", "_law_many"] ["_law_script", "_law_state", "_law_many"] (defScope s__law_draw) := ⟨rfl, rfl, rfl, by decide +kernel, rfl, by decide +kernel, by decide +kernel⟩
abbrev s__law_pick : Stmt := topS 49
theorem sc__law_pick : FnScope ["_law_script", "_law_state", "_law_some"] ["_law_script", "_law_state", "_law_some"] (defScope s__law_pick) := ⟨rfl, rfl, rfl, by decide +kernel, rfl, by decide +kernel, by decide +kernel⟩
abbrev s__law_which : Stmt := topS 50
theorem sc__law_which : FnScope ["_law_e", "_law_own"] ["_law_e"] (defScope s__law_which) := ⟨rfl, rfl, rfl, by decide +kernel, rfl, by decide +kernel, by decide +kernel⟩
abbrev s__law_some_rule : Stmt := topS 51
theorem sc__law_some_rule : FnScope ["_law_script", "_law_state", "_law_goods", "_law_capped", "_law_kind", "_law_good", "_law_single", "_law_whole", "_law_most", "_law_size", "_law_price"] ["_law_script", "_law_state", "_law_goods", "_law_capped"] (defScope s__law_some_rule) := ⟨rfl, rfl, rfl, by decide +kernel, rfl, by decide +kernel, by decide +kernel⟩
abbrev s__law_some_goods : Stmt := topS 52
theorem sc__law_some_goods : FnScope ["_law_script", "_law_state", "_law_count", "_law_again"] ["_law_script", "_law_state"] (defScope s__law_some_goods) := ⟨rfl, rfl, rfl, by decide +kernel, rfl, by decide +kernel, by decide +kernel⟩
abbrev s__law_some_shop : Stmt := topS 53
theorem sc__law_some_shop : FnScope ["_law_script", "_law_state", "_law_again", "_law_goods", "_law_rules", "_law_capped", "_law_rule"] ["_law_script", "_law_state"] (defScope s__law_some_shop) := ⟨rfl, rfl, rfl, by decide +kernel, rfl, by decide +kernel, by decide +kernel⟩
abbrev s__law_read : Stmt := topS 54
theorem sc__law_read : FnScope ["_law_text", "_law_e"] ["_law_text"] (defScope s__law_read) := ⟨rfl, rfl, rfl, by decide +kernel, rfl, by decide +kernel, by decide +kernel⟩
noncomputable def f__law_read : FS := (sTry 1 (sRet (eCall d_parse_shop (aCons (eVar 0) aNil))))
noncomputable def d__law_read : FD := runD 2 1 f__law_read
abbrev s_law : Stmt := topS 55
theorem sc_law : FnScope ["_law_script", "_law_state", "_law_shop", "_law_text", "_law_again", "_law_bad", "_law_at", "_law_sign", "_law_kind", "_law_other", "_law_own", "_law_one"] ["_law_script"] (defScope s_law) := ⟨rfl, rfl, rfl, by decide +kernel, rfl, by decide +kernel, by decide +kernel⟩
noncomputable def b_law_1_1 : FS := (sAsg (eCallI 1 d__law_draw (aCons (eVar 0) (aCons (eVar 1) (aCons (eB dLen (aCons (eVar 3) aNil)) aNil)))) (gN 6))
noncomputable def b_law_1_2 : FS := (sAsg (eCallI 1 d__law_pick (aCons (eVar 0) (aCons (eVar 1) (aCons (eC (.str "0123459;,/ -a")) aNil)))) (gN 7))
noncomputable def b_law_1_3 : FS := (sAsg (eCallI 1 d__law_draw (aCons (eVar 0) (aCons (eVar 1) (aCons (eC (.int 3)) aNil)))) (gN 8))
noncomputable def b_law_1_4 : FS := (sAsg (eOp dAdd (eOp dAdd (eSl (eVar 3) tNp (tPa (eVar 6))) (eIf (tV (eOp dLt (eVar 8) (eC (.int 2)))) (eVar 7) (eC (.str "")))) (eSl (eVar 3) (tPa (eOp dAdd (eVar 6) (eIf (tV (eOp dNeA (eVar 8) (eC (.int 1)))) (eC (.int 1)) (eC (.int 0))))) tNp)) (gN 9))
noncomputable def b_law_1_5 : FS := (sAsg (eCall d__law_read (aCons (eVar 9) aNil)) (gN 10))
noncomputable def b_law_1_6 : FS := (sIf (tAn (tV (eOp dNeA (eVar 10) (eTup (aCons (eC (.str "raised")) (aCons (eC (.int 11)) aNil))))) (tOr' (tV (eOp dNis (eCall d_is_shop (aCons (eVar 10) aNil)) (eC (.bl true)))) (tV (eOp dNeA (eCall d_format_shop (aCons (eVar 10) aNil)) (eVar 9))))) (sRet (eC (.bl false))) sNx)
noncomputable def b_law_1 : FS := sSeq b_law_1_1 (sSeq b_law_1_2 (sSeq b_law_1_3 (sSeq b_law_1_4 (sSeq b_law_1_5 (b_law_1_6)))))
noncomputable def f_law_1 : FS := (sAsg (eLst aNil) (gN 1))
noncomputable def f_law_2 : FS := (sAsg (eCallI 1 d__law_some_shop (aCons (eVar 0) (aCons (eVar 1) aNil))) (gN 2))
noncomputable def f_law_3 : FS := (sAsg (eCall d_format_shop (aCons (eVar 2) aNil)) (gN 3))
noncomputable def f_law_4 : FS := (sFor (fiR1 (aCons (eC (.int 6)) aNil)) (gN 4) b_law_1)
noncomputable def f_law_5 : FS := (sAsg (eLst (aCons (eC .non) (aCons (eC (.int 5)) (aCons (eC (.str "")) (aCons (eOp dAdd (eVar 3) (eC (.str "; 0"))) (aCons (eOp dAdd (eC (.str " ")) (eVar 3)) (aCons (eOp dAdd (eVar 3) (eC (.str " "))) (aCons (eOp dAdd (eVar 3) (eC (.str ", 0"))) (aCons (eM0 (dRepl "; " ";") (eVar 3)) (aCons (eOp dAdd (eM0 dUpper (eVar 3)) (eC (.str "X"))) aNil)))))))))) (gN 5))
noncomputable def f_law_6 : FS := (sDrop (eMet kExt (eVar 5) (aCons (eLst (aCons (eOp dMulA (eC (.str "9")) (eC (.int 4000))) (aCons (eOp dAdd (eOp dMulA (eC (.str "9")) (eC (.int 4000))) (eC (.str "/1; none"))) (aCons (eOp dAdd (eVar 3) (eC (.str "\n"))) (aCons (eOp dMulA (eC (.str "(")) (eC (.int 1200))) (aCons (eM0 (dRepl "/" "/0") (eVar 3)) aNil)))))) aNil)))
noncomputable def f_law_7 : FS := (sDrop (eMet kApp (eVar 5) (aCons (eM0 (dRepl " " "  ") (eVar 3)) aNil)))
noncomputable def f_law_8 : FS := (sRet (eB dAll (aCons (eLc (fiL false (eVar 5)) [11] (.one 11) tT (eOp dEqA (eCall d__law_read (aCons (eVar 11) aNil)) (eTup (aCons (eC (.str "raised")) (aCons (eC (.int 11)) aNil))))) aNil)))
noncomputable def f_law : FS := sSeq f_law_1 (sSeq f_law_2 (sSeq f_law_3 (sSeq f_law_4 (sSeq f_law_5 (sSeq f_law_6 (sSeq f_law_7 (f_law_8)))))))
noncomputable def d_law : FD := runD 12 1 f_law
section
variable {P : Program} {w : World} {K : PySem.W.Frag} {mg : Str → Option Value} {base : Heap}
theorem ok_is_integer {f : Addr} {fd : FuncData} (B : Bl K mg) (F : Fun K "is_integer" "is_integer" s_is_integer f fd) :
    FnOk P w K mg base (L2.CX P w) 1 f fd ["value"] (spD K mg d_is_integer) :=
  fn_ok F sc_is_integer rfl rfl fun cdv A outer s H vs E env0 hr => by
    exact (dss_one (ds_ret (de_and (de_isi (by rfl) B.b_isinstance (de_var 0 (pv 0)) (pe_bltn (by rfl) B.b_int bo_int rfl)) (de_one (de_not (de_isi (by rfl) B.b_isinstance (de_var 0 (pv 0)) (pe_bltn (by rfl) B.b_bool bo_bool rfl)))))))
theorem ok_is_between {f : Addr} {fd : FuncData} (B : Bl K mg) (F : Fun K "is_between" "is_between" s_is_between f fd)
    {a_is_integer : Addr} {e_is_integer : FuncData} (C_is_integer : Cd K mg "is_integer" s_is_integer ["value"] a_is_integer e_is_integer) (G_is_integer : FnOk P w K mg base (L2.CX P w) 1 a_is_integer e_is_integer ["value"] (spD K mg d_is_integer)) :
    FnOk P w K mg base (L2.CX P w) 2 f fd ["value", "low", "high"] (spD K mg d_is_between) :=
  fn_ok F sc_is_between rfl rfl fun cdv A outer s H vs E env0 hr => by
    exact (dss_one (ds_ret (de_and (de_call G_is_integer (hr.mono (by decide)) (by rfl) C_is_integer.g C_is_integer.F.kp C_is_integer.b (takes_of rfl rfl rfl rfl) (da_cons (de_var 0 (pv 0)) da_nil)) (de_one (de_chain op_le d_le op_le d_le (de_var 1 (pv 1)) (de_var 0 (pv 0)) (de_var 2 (pv 2)) (by rfl))))))
theorem ok_is_tuple_of {f : Addr} {fd : FuncData} (B : Bl K mg) (F : Fun K "is_tuple_of" "is_tuple_of" s_is_tuple_of f fd) :
    FnOk P w K mg base (L2.CX P w) 1 f fd ["value", "length"] (spD K mg d_is_tuple_of) :=
  fn_ok F sc_is_tuple_of rfl rfl fun cdv A outer s H vs E env0 hr => by
    exact (dss_one (ds_ret (de_and (de_isi (by rfl) B.b_isinstance (de_var 0 (pv 0)) (pe_bltn (by rfl) B.b_tuple bo_tuple rfl)) (de_one (de_cmp (op_eqA hr.units) d_eqA (de_b d_len call_lenA (by rfl) B.b_len bo_len (da_cons (de_var 0 (pv 0)) da_nil)) (de_var 1 (pv 1)) (nomark _))))))
theorem ok_is_most {f : Addr} {fd : FuncData} (B : Bl K mg) (F : Fun K "is_most" "is_most" s_is_most f fd)
    {a_is_between : Addr} {e_is_between : FuncData} (C_is_between : Cd K mg "is_between" s_is_between ["value", "low", "high"] a_is_between e_is_between) (G_is_between : FnOk P w K mg base (L2.CX P w) 2 a_is_between e_is_between ["value", "low", "high"] (spD K mg d_is_between)) :
    FnOk P w K mg base (L2.CX P w) 3 f fd ["value"] (spD K mg d_is_most) :=
  fn_ok F sc_is_most rfl rfl fun cdv A outer s H vs E env0 hr => by
    exact (dss_one (ds_ret (de_or (de_cmp op_is d_is (de_var 0 (pv 0)) de_non (nomark _)) (de_one (de_call G_is_between (hr.mono (by decide)) (by rfl) C_is_between.g C_is_between.F.kp C_is_between.b (takes_of rfl rfl rfl rfl) (da_cons (de_var 0 (pv 0)) (da_cons de_int (da_cons de_int da_nil))))))))
theorem ok_is_good {f : Addr} {fd : FuncData} (B : Bl K mg) (F : Fun K "is_good" "is_good" s_is_good f fd)
    {a_is_tuple_of : Addr} {e_is_tuple_of : FuncData} (C_is_tuple_of : Cd K mg "is_tuple_of" s_is_tuple_of ["value", "length"] a_is_tuple_of e_is_tuple_of) (G_is_tuple_of : FnOk P w K mg base (L2.CX P w) 1 a_is_tuple_of e_is_tuple_of ["value", "length"] (spD K mg d_is_tuple_of))
    {a_is_between : Addr} {e_is_between : FuncData} (C_is_between : Cd K mg "is_between" s_is_between ["value", "low", "high"] a_is_between e_is_between) (G_is_between : FnOk P w K mg base (L2.CX P w) 2 a_is_between e_is_between ["value", "low", "high"] (spD K mg d_is_between)) :
    FnOk P w K mg base (L2.CX P w) 3 f fd ["value"] (spD K mg d_is_good) :=
  fn_ok F sc_is_good rfl rfl fun cdv A outer s H vs E env0 hr => by
    exact (dss_cons (ds_if (dt_not (dt_val (de_call G_is_tuple_of (hr.mono (by decide)) (by rfl) C_is_tuple_of.g C_is_tuple_of.F.kp C_is_tuple_of.b (takes_of rfl rfl rfl rfl) (da_cons (de_var 0 (pv 0)) (da_cons de_int da_nil))))) (dss_one (ds_ret de_bl)) dss_nil)
    (dss_cons (ds_asg (de_var 0 (pv 0)) (dg_tup rfl (dgs_cons (dg_name (pg_name (i := 1) sc_is_good.nd rfl (by first | exact .inl rfl | exact .inr rfl))) (dgs_cons (dg_name (pg_name (i := 2) sc_is_good.nd rfl (by first | exact .inl rfl | exact .inr rfl))) dgs_nil))))
    (dss_one (ds_ret (de_and (de_call G_is_between (hr.mono (by decide)) (by rfl) C_is_between.g C_is_between.F.kp C_is_between.b (takes_of rfl rfl rfl rfl) (da_cons (de_var 1 (pv 1)) (da_cons de_int (da_cons de_int da_nil)))) (de_one (de_call G_is_between (hr.mono (by decide)) (by rfl) C_is_between.g C_is_between.F.kp C_is_between.b (takes_of rfl rfl rfl rfl) (da_cons (de_var 2 (pv 2)) (da_cons de_int (da_cons de_int da_nil))))))))))
theorem ok_is_pack {f : Addr} {fd : FuncData} (B : Bl K mg) (F : Fun K "is_pack" "is_pack" s_is_pack f fd)
    {a_is_tuple_of : Addr} {e_is_tuple_of : FuncData} (C_is_tuple_of : Cd K mg "is_tuple_of" s_is_tuple_of ["value", "length"] a_is_tuple_of e_is_tuple_of) (G_is_tuple_of : FnOk P w K mg base (L2.CX P w) 1 a_is_tuple_of e_is_tuple_of ["value", "length"] (spD K mg d_is_tuple_of))
    {a_is_between : Addr} {e_is_between : FuncData} (C_is_between : Cd K mg "is_between" s_is_between ["value", "low", "high"] a_is_between e_is_between) (G_is_between : FnOk P w K mg base (L2.CX P w) 2 a_is_between e_is_between ["value", "low", "high"] (spD K mg d_is_between))
    {a_is_most : Addr} {e_is_most : FuncData} (C_is_most : Cd K mg "is_most" s_is_most ["value"] a_is_most e_is_most) (G_is_most : FnOk P w K mg base (L2.CX P w) 3 a_is_most e_is_most ["value"] (spD K mg d_is_most)) :
    FnOk P w K mg base (L2.CX P w) 4 f fd ["value", "many_goods"] (spD K mg d_is_pack) :=
  fn_ok F sc_is_pack rfl rfl fun cdv A outer s H vs E env0 hr => by
    exact (dss_cons (ds_if (dt_not (dt_val (de_call G_is_tuple_of (hr.mono (by decide)) (by rfl) C_is_tuple_of.g C_is_tuple_of.F.kp C_is_tuple_of.b (takes_of rfl rfl rfl rfl) (da_cons (de_var 0 (pv 0)) (da_cons de_int da_nil))))) (dss_one (ds_ret de_bl)) dss_nil)
    (dss_cons (ds_asg (de_var 0 (pv 0)) (dg_tup rfl (dgs_cons (dg_name (pg_name (i := 2) sc_is_pack.nd rfl (by first | exact .inl rfl | exact .inr rfl))) (dgs_cons (dg_name (pg_name (i := 3) sc_is_pack.nd rfl (by first | exact .inl rfl | exact .inr rfl))) (dgs_cons (dg_name (pg_name (i := 4) sc_is_pack.nd rfl (by first | exact .inl rfl | exact .inr rfl))) (dgs_cons (dg_name (pg_name (i := 5) sc_is_pack.nd rfl (by first | exact .inl rfl | exact .inr rfl))) (dgs_cons (dg_name (pg_name (i := 6) sc_is_pack.nd rfl (by first | exact .inl rfl | exact .inr rfl))) dgs_nil)))))))
    (dss_one (ds_ret (de_and (de_call G_is_between (hr.mono (by decide)) (by rfl) C_is_between.g C_is_between.F.kp C_is_between.b (takes_of rfl rfl rfl rfl) (da_cons (de_var 3 (pv 3)) (da_cons de_int (da_cons (de_op op_sub d_sub (de_var 1 (pv 1)) de_int) da_nil)))) (de_and (de_call G_is_between (hr.mono (by decide)) (by rfl) C_is_between.g C_is_between.F.kp C_is_between.b (takes_of rfl rfl rfl rfl) (da_cons (de_var 4 (pv 4)) (da_cons de_int (da_cons de_int da_nil)))) (de_and (de_call G_is_between (hr.mono (by decide)) (by rfl) C_is_between.g C_is_between.F.kp C_is_between.b (takes_of rfl rfl rfl rfl) (da_cons (de_var 5 (pv 5)) (da_cons (de_var 4 (pv 4)) (da_cons de_int da_nil)))) (de_one (de_call G_is_most (hr.mono (by decide)) (by rfl) C_is_most.g C_is_most.F.kp C_is_most.b (takes_of rfl rfl rfl rfl) (da_cons (de_var 6 (pv 6)) da_nil))))))))))
theorem ok_is_from {f : Addr} {fd : FuncData} (B : Bl K mg) (F : Fun K "is_from" "is_from" s_is_from f fd)
    {a_is_tuple_of : Addr} {e_is_tuple_of : FuncData} (C_is_tuple_of : Cd K mg "is_tuple_of" s_is_tuple_of ["value", "length"] a_is_tuple_of e_is_tuple_of) (G_is_tuple_of : FnOk P w K mg base (L2.CX P w) 1 a_is_tuple_of e_is_tuple_of ["value", "length"] (spD K mg d_is_tuple_of))
    {a_is_between : Addr} {e_is_between : FuncData} (C_is_between : Cd K mg "is_between" s_is_between ["value", "low", "high"] a_is_between e_is_between) (G_is_between : FnOk P w K mg base (L2.CX P w) 2 a_is_between e_is_between ["value", "low", "high"] (spD K mg d_is_between)) :
    FnOk P w K mg base (L2.CX P w) 3 f fd ["value", "many_goods"] (spD K mg d_is_from) :=
  fn_ok F sc_is_from rfl rfl fun cdv A outer s H vs E env0 hr => by
    exact (dss_cons (ds_if (dt_not (dt_val (de_call G_is_tuple_of (hr.mono (by decide)) (by rfl) C_is_tuple_of.g C_is_tuple_of.F.kp C_is_tuple_of.b (takes_of rfl rfl rfl rfl) (da_cons (de_var 0 (pv 0)) (da_cons de_int da_nil))))) (dss_one (ds_ret de_bl)) dss_nil)
    (dss_cons (ds_asg (de_var 0 (pv 0)) (dg_tup rfl (dgs_cons (dg_name (pg_name (i := 2) sc_is_from.nd rfl (by first | exact .inl rfl | exact .inr rfl))) (dgs_cons (dg_name (pg_name (i := 3) sc_is_from.nd rfl (by first | exact .inl rfl | exact .inr rfl))) (dgs_cons (dg_name (pg_name (i := 4) sc_is_from.nd rfl (by first | exact .inl rfl | exact .inr rfl))) (dgs_cons (dg_name (pg_name (i := 5) sc_is_from.nd rfl (by first | exact .inl rfl | exact .inr rfl))) dgs_nil))))))
    (dss_one (ds_ret (de_and (de_call G_is_between (hr.mono (by decide)) (by rfl) C_is_between.g C_is_between.F.kp C_is_between.b (takes_of rfl rfl rfl rfl) (da_cons (de_var 3 (pv 3)) (da_cons de_int (da_cons (de_op op_sub d_sub (de_var 1 (pv 1)) de_int) da_nil)))) (de_and (de_call G_is_between (hr.mono (by decide)) (by rfl) C_is_between.g C_is_between.F.kp C_is_between.b (takes_of rfl rfl rfl rfl) (da_cons (de_var 4 (pv 4)) (da_cons de_int (da_cons de_int da_nil)))) (de_one (de_call G_is_between (hr.mono (by decide)) (by rfl) C_is_between.g C_is_between.F.kp C_is_between.b (takes_of rfl rfl rfl rfl) (da_cons (de_var 5 (pv 5)) (da_cons de_int (da_cons de_int da_nil)))))))))))
theorem ok_is_over {f : Addr} {fd : FuncData} (B : Bl K mg) (F : Fun K "is_over" "is_over" s_is_over f fd)
    {a_is_tuple_of : Addr} {e_is_tuple_of : FuncData} (C_is_tuple_of : Cd K mg "is_tuple_of" s_is_tuple_of ["value", "length"] a_is_tuple_of e_is_tuple_of) (G_is_tuple_of : FnOk P w K mg base (L2.CX P w) 1 a_is_tuple_of e_is_tuple_of ["value", "length"] (spD K mg d_is_tuple_of))
    {a_is_between : Addr} {e_is_between : FuncData} (C_is_between : Cd K mg "is_between" s_is_between ["value", "low", "high"] a_is_between e_is_between) (G_is_between : FnOk P w K mg base (L2.CX P w) 2 a_is_between e_is_between ["value", "low", "high"] (spD K mg d_is_between)) :
    FnOk P w K mg base (L2.CX P w) 3 f fd ["value"] (spD K mg d_is_over) :=
  fn_ok F sc_is_over rfl rfl fun cdv A outer s H vs E env0 hr => by
    exact (dss_cons (ds_if (dt_not (dt_val (de_call G_is_tuple_of (hr.mono (by decide)) (by rfl) C_is_tuple_of.g C_is_tuple_of.F.kp C_is_tuple_of.b (takes_of rfl rfl rfl rfl) (da_cons (de_var 0 (pv 0)) (da_cons de_int da_nil))))) (dss_one (ds_ret de_bl)) dss_nil)
    (dss_cons (ds_asg (de_var 0 (pv 0)) (dg_tup rfl (dgs_cons (dg_name (pg_name (i := 1) sc_is_over.nd rfl (by first | exact .inl rfl | exact .inr rfl))) (dgs_cons (dg_name (pg_name (i := 2) sc_is_over.nd rfl (by first | exact .inl rfl | exact .inr rfl))) (dgs_cons (dg_name (pg_name (i := 3) sc_is_over.nd rfl (by first | exact .inl rfl | exact .inr rfl))) dgs_nil)))))
    (dss_one (ds_ret (de_and (de_call G_is_between (hr.mono (by decide)) (by rfl) C_is_between.g C_is_between.F.kp C_is_between.b (takes_of rfl rfl rfl rfl) (da_cons (de_var 2 (pv 2)) (da_cons de_int (da_cons de_int da_nil)))) (de_one (de_call G_is_between (hr.mono (by decide)) (by rfl) C_is_between.g C_is_between.F.kp C_is_between.b (takes_of rfl rfl rfl rfl) (da_cons (de_var 3 (pv 3)) (da_cons de_int (da_cons (de_b d_min2 (call_min2 rfl) (by rfl) B.b_min bo_min (da_cons de_int (da_cons (de_var 2 (pv 2)) da_nil))) da_nil))))))))))
theorem ok_is_each {f : Addr} {fd : FuncData} (B : Bl K mg) (F : Fun K "is_each" "is_each" s_is_each f fd)
    {a_is_tuple_of : Addr} {e_is_tuple_of : FuncData} (C_is_tuple_of : Cd K mg "is_tuple_of" s_is_tuple_of ["value", "length"] a_is_tuple_of e_is_tuple_of) (G_is_tuple_of : FnOk P w K mg base (L2.CX P w) 1 a_is_tuple_of e_is_tuple_of ["value", "length"] (spD K mg d_is_tuple_of))
    {a_is_most : Addr} {e_is_most : FuncData} (C_is_most : Cd K mg "is_most" s_is_most ["value"] a_is_most e_is_most) (G_is_most : FnOk P w K mg base (L2.CX P w) 3 a_is_most e_is_most ["value"] (spD K mg d_is_most))
    {a_is_between : Addr} {e_is_between : FuncData} (C_is_between : Cd K mg "is_between" s_is_between ["value", "low", "high"] a_is_between e_is_between) (G_is_between : FnOk P w K mg base (L2.CX P w) 2 a_is_between e_is_between ["value", "low", "high"] (spD K mg d_is_between)) :
    FnOk P w K mg base (L2.CX P w) 4 f fd ["value"] (spD K mg d_is_each) :=
  fn_ok F sc_is_each rfl rfl fun cdv A outer s H vs E env0 hr => by
    exact (dss_cons (ds_if (dt_not (dt_val (de_call G_is_tuple_of (hr.mono (by decide)) (by rfl) C_is_tuple_of.g C_is_tuple_of.F.kp C_is_tuple_of.b (takes_of rfl rfl rfl rfl) (da_cons (de_var 0 (pv 0)) (da_cons de_int da_nil))))) (dss_one (ds_ret de_bl)) dss_nil)
    (dss_cons (ds_asg (de_var 0 (pv 0)) (dg_tup rfl (dgs_cons (dg_name (pg_name (i := 1) sc_is_each.nd rfl (by first | exact .inl rfl | exact .inr rfl))) (dgs_cons (dg_name (pg_name (i := 2) sc_is_each.nd rfl (by first | exact .inl rfl | exact .inr rfl))) (dgs_cons (dg_name (pg_name (i := 3) sc_is_each.nd rfl (by first | exact .inl rfl | exact .inr rfl))) (dgs_cons (dg_name (pg_name (i := 4) sc_is_each.nd rfl (by first | exact .inl rfl | exact .inr rfl))) dgs_nil))))))
    (dss_cons (ds_if (PW.pt (dt_or (dt_not (dt_val (de_call G_is_between (hr.mono (by decide)) (by rfl) C_is_between.g C_is_between.F.kp C_is_between.b (takes_of rfl rfl rfl rfl) (da_cons (de_var 2 (pv 2)) (da_cons de_int (da_cons de_int da_nil)))))) (dt_or1 (dt_not (dt_val (de_call G_is_between (hr.mono (by decide)) (by rfl) C_is_between.g C_is_between.F.kp C_is_between.b (takes_of rfl rfl rfl rfl) (da_cons (de_var 3 (pv 3)) (da_cons de_int (da_cons (de_var 2 (pv 2)) da_nil))))))))) (dss_one (ds_ret de_bl)) dss_nil)
    (dss_one (ds_ret (de_and (de_call G_is_most (hr.mono (by decide)) (by rfl) C_is_most.g C_is_most.F.kp C_is_most.b (takes_of rfl rfl rfl rfl) (da_cons (de_var 4 (pv 4)) da_nil)) (de_one (de_or (de_cmp op_nis d_nis (de_var 4 (pv 4)) de_non (nomark _)) (de_one (de_cmp op_le d_le (de_op op_mulA d_mulA de_int (de_var 3 (pv 3))) (de_var 2 (pv 2)) (nomark _)))))))))))
theorem ok_is_rule {f : Addr} {fd : FuncData} (B : Bl K mg) (F : Fun K "is_rule" "is_rule" s_is_rule f fd)
    {a_is_pack : Addr} {e_is_pack : FuncData} (C_is_pack : Cd K mg "is_pack" s_is_pack ["value", "many_goods"] a_is_pack e_is_pack) (G_is_pack : FnOk P w K mg base (L2.CX P w) 4 a_is_pack e_is_pack ["value", "many_goods"] (spD K mg d_is_pack))
    {a_is_from : Addr} {e_is_from : FuncData} (C_is_from : Cd K mg "is_from" s_is_from ["value", "many_goods"] a_is_from e_is_from) (G_is_from : FnOk P w K mg base (L2.CX P w) 3 a_is_from e_is_from ["value", "many_goods"] (spD K mg d_is_from))
    {a_is_over : Addr} {e_is_over : FuncData} (C_is_over : Cd K mg "is_over" s_is_over ["value"] a_is_over e_is_over) (G_is_over : FnOk P w K mg base (L2.CX P w) 3 a_is_over e_is_over ["value"] (spD K mg d_is_over))
    {a_is_each : Addr} {e_is_each : FuncData} (C_is_each : Cd K mg "is_each" s_is_each ["value"] a_is_each e_is_each) (G_is_each : FnOk P w K mg base (L2.CX P w) 4 a_is_each e_is_each ["value"] (spD K mg d_is_each)) :
    FnOk P w K mg base (L2.CX P w) 5 f fd ["value", "many_goods"] (spD K mg d_is_rule) :=
  fn_ok F sc_is_rule rfl rfl fun cdv A outer s H vs E env0 hr => by
    exact (dss_cons (ds_if (PW.pt (dt_or (dt_not (dt_val (de_isi (by rfl) B.b_isinstance (de_var 0 (pv 0)) (pe_bltn (by rfl) B.b_tuple bo_tuple rfl)))) (dt_or1 (dt_cmp (op_eqA hr.units) d_eqA (de_b d_len call_lenA (by rfl) B.b_len bo_len (da_cons (de_var 0 (pv 0)) da_nil)) de_int (nomark _))))) (dss_one (ds_ret de_bl)) dss_nil)
    (dss_cons (ds_set (i := 2) sc_is_rule.nd rfl (by first | exact .inl rfl | exact .inr rfl) (de_ix (de_var 0 (pv 0)) de_int (fun _ _ => rfl)))
    (dss_cons (ds_if (dt_not (dt_val (de_isi (by rfl) B.b_isinstance (de_var 2 (pv 2)) (pe_bltn (by rfl) B.b_str bo_str rfl)))) (dss_one (ds_ret de_bl)) dss_nil)
    (dss_cons (ds_if (dt_cmp (op_eqA hr.units) d_eqA (de_var 2 (pv 2)) de_str (nomark _)) (dss_one (ds_ret (de_call G_is_pack (hr.mono (by decide)) (by rfl) C_is_pack.g C_is_pack.F.kp C_is_pack.b (takes_of rfl rfl rfl rfl) (da_cons (de_var 0 (pv 0)) (da_cons (de_var 1 (pv 1)) da_nil))))) dss_nil)
    (dss_cons (ds_if (dt_cmp (op_eqA hr.units) d_eqA (de_var 2 (pv 2)) de_str (nomark _)) (dss_one (ds_ret (de_call G_is_from (hr.mono (by decide)) (by rfl) C_is_from.g C_is_from.F.kp C_is_from.b (takes_of rfl rfl rfl rfl) (da_cons (de_var 0 (pv 0)) (da_cons (de_var 1 (pv 1)) da_nil))))) dss_nil)
    (dss_cons (ds_if (dt_cmp (op_eqA hr.units) d_eqA (de_var 2 (pv 2)) de_str (nomark _)) (dss_one (ds_ret (de_call G_is_over (hr.mono (by decide)) (by rfl) C_is_over.g C_is_over.F.kp C_is_over.b (takes_of rfl rfl rfl rfl) (da_cons (de_var 0 (pv 0)) da_nil)))) dss_nil)
    (dss_one (ds_ret (de_and (de_cmp (op_eqA hr.units) d_eqA (de_var 2 (pv 2)) de_str (nomark _)) (de_one (de_call G_is_each (hr.mono (by decide)) (by rfl) C_is_each.g C_is_each.F.kp C_is_each.b (takes_of rfl rfl rfl rfl) (da_cons (de_var 0 (pv 0)) da_nil))))))))))))
theorem ok_is_endless_each {f : Addr} {fd : FuncData} (B : Bl K mg) (F : Fun K "is_endless_each" "is_endless_each" s_is_endless_each f fd) :
    FnOk P w K mg base (L2.CX P w) 1 f fd ["rule"] (spD K mg d_is_endless_each) :=
  fn_ok F sc_is_endless_each rfl rfl fun cdv A outer s H vs E env0 hr => by
    exact (dss_one (ds_ret (de_and (de_cmp (op_eqA hr.units) d_eqA (de_ix (de_var 0 (pv 0)) de_int (fun _ _ => rfl)) de_str (nomark _)) (de_one (de_cmp op_is d_is (de_ix (de_var 0 (pv 0)) de_int (fun _ _ => rfl)) de_non (nomark _))))))
theorem ok_are_goods {f : Addr} {fd : FuncData} (B : Bl K mg) (F : Fun K "are_goods" "are_goods" s_are_goods f fd)
    {a_is_good : Addr} {e_is_good : FuncData} (C_is_good : Cd K mg "is_good" s_is_good ["value"] a_is_good e_is_good) (G_is_good : FnOk P w K mg base (L2.CX P w) 3 a_is_good e_is_good ["value"] (spD K mg d_is_good)) :
    FnOk P w K mg base (L2.CX P w) 4 f fd ["value"] (spD K mg d_are_goods) :=
  fn_ok F sc_are_goods rfl rfl fun cdv A outer s H vs E env0 hr => by
    exact (dss_cons (ds_if (PW.pt (dt_or (dt_not (dt_val (de_isi (by rfl) B.b_isinstance (de_var 0 (pv 0)) (pe_bltn (by rfl) B.b_tuple bo_tuple rfl)))) (dt_or1 (dt_not (dt_chain op_le d_le op_le d_le de_int (de_b d_len call_lenA (by rfl) B.b_len bo_len (da_cons (de_var 0 (pv 0)) da_nil)) (de_gc (by rfl) B.g_MOST_GOODS fun _ _ => .int _) (by rfl)))))) (dss_one (ds_ret de_bl)) dss_nil)
    (dss_one (ds_ret (de_b d_all (cr_all rfl) (by rfl) B.b_all bo_all (da_cons (de_lc (own := [("good", 1)]) (t := (.one 1)) rfl sc_are_goods.nd (di_tup (de_var 0 (pv 0))) (blkOk_by (own := [("good", 1)]) (N := ["value", "good"]) (sc := defScope s_are_goods) (by first | decide +kernel | (dsimp only [Cx.blk, compEnvC]; rw [relabel_is]; dsimp only [cxOf, PyProof.Rows.envOfC]; decide +kernel))) (fun _ _ _ _ _ => (pg_name (i := 1) sc_are_goods.nd rfl (by first | exact .inl rfl | exact .inr rfl))) (fun _ _ _ _ _ => dts_nil) (fun _ _ _ _ _ => (de_call G_is_good (hr.mono (by decide)) (by rfl) C_is_good.g C_is_good.F.kp C_is_good.b takes0 (da_cons (de_var 1 (pv 1)) da_nil))) (by simp [CT.ins])) da_nil)))))
theorem ok_are_rules {f : Addr} {fd : FuncData} (B : Bl K mg) (F : Fun K "are_rules" "are_rules" s_are_rules f fd)
    {a_is_rule : Addr} {e_is_rule : FuncData} (C_is_rule : Cd K mg "is_rule" s_is_rule ["value", "many_goods"] a_is_rule e_is_rule) (G_is_rule : FnOk P w K mg base (L2.CX P w) 5 a_is_rule e_is_rule ["value", "many_goods"] (spD K mg d_is_rule))
    {a_is_endless_each : Addr} {e_is_endless_each : FuncData} (C_is_endless_each : Cd K mg "is_endless_each" s_is_endless_each ["rule"] a_is_endless_each e_is_endless_each) (G_is_endless_each : FnOk P w K mg base (L2.CX P w) 1 a_is_endless_each e_is_endless_each ["rule"] (spD K mg d_is_endless_each)) :
    FnOk P w K mg base (L2.CX P w) 6 f fd ["value", "many_goods"] (spD K mg d_are_rules) :=
  fn_ok F sc_are_rules rfl rfl fun cdv A outer s H vs E env0 hr => by
    exact (dss_cons (ds_if (PW.pt (dt_or (dt_not (dt_val (de_isi (by rfl) B.b_isinstance (de_var 0 (pv 0)) (pe_bltn (by rfl) B.b_tuple bo_tuple rfl)))) (dt_or1 (dt_cmp op_gt d_gt (de_b d_len call_lenA (by rfl) B.b_len bo_len (da_cons (de_var 0 (pv 0)) da_nil)) (de_gc (by rfl) B.g_MOST_RULES fun _ _ => .int _) (nomark _))))) (dss_one (ds_ret de_bl)) dss_nil)
    (dss_cons (ds_if (dt_not (dt_val (de_b d_all (cr_all rfl) (by rfl) B.b_all bo_all (da_cons (de_lc (own := [("rule", 2)]) (t := (.one 2)) rfl sc_are_rules.nd (di_tup (de_var 0 (pv 0))) (blkOk_by (own := [("rule", 2)]) (N := ["value", "many_goods", "rule"]) (sc := defScope s_are_rules) (by first | decide +kernel | (dsimp only [Cx.blk, compEnvC]; rw [relabel_is]; dsimp only [cxOf, PyProof.Rows.envOfC]; decide +kernel))) (fun _ _ _ _ _ => (pg_name (i := 2) sc_are_rules.nd rfl (by first | exact .inl rfl | exact .inr rfl))) (fun _ _ _ _ _ => dts_nil) (fun _ _ _ _ _ => (de_call G_is_rule (hr.mono (by decide)) (by rfl) C_is_rule.g C_is_rule.F.kp C_is_rule.b takes0 (da_cons (de_var 2 (pv 2)) (da_cons (de_var 1 (pv 1)) da_nil)))) (by simp [CT.ins])) da_nil)))) (dss_one (ds_ret de_bl)) dss_nil)
    (dss_one (ds_ret (de_cmp op_le d_le (de_b d_len call_lenA (by rfl) B.b_len bo_len (da_cons (de_lc (own := [("rule", 2)]) (t := (.one 2)) rfl sc_are_rules.nd (di_tup (de_var 0 (pv 0))) (blkOk_by (own := [("rule", 2)]) (N := ["value", "many_goods", "rule"]) (sc := defScope s_are_rules) (by first | decide +kernel | (dsimp only [Cx.blk, compEnvC]; rw [relabel_is]; dsimp only [cxOf, PyProof.Rows.envOfC]; decide +kernel))) (fun _ _ _ _ _ => (pg_name (i := 2) sc_are_rules.nd rfl (by first | exact .inl rfl | exact .inr rfl))) (fun _ _ _ _ _ => (dts_one (dt_val (de_call G_is_endless_each (hr.mono (by decide)) (by rfl) C_is_endless_each.g C_is_endless_each.F.kp C_is_endless_each.b takes0 (da_cons (de_var 2 (pv 2)) da_nil))))) (fun _ _ _ _ _ => (de_var 2 (pv 2))) (by simp [CT.ins])) da_nil)) de_int (nomark _))))))
theorem ok_is_shop {f : Addr} {fd : FuncData} (B : Bl K mg) (F : Fun K "is_shop" "is_shop" s_is_shop f fd)
    {a_is_tuple_of : Addr} {e_is_tuple_of : FuncData} (C_is_tuple_of : Cd K mg "is_tuple_of" s_is_tuple_of ["value", "length"] a_is_tuple_of e_is_tuple_of) (G_is_tuple_of : FnOk P w K mg base (L2.CX P w) 1 a_is_tuple_of e_is_tuple_of ["value", "length"] (spD K mg d_is_tuple_of))
    {a_are_goods : Addr} {e_are_goods : FuncData} (C_are_goods : Cd K mg "are_goods" s_are_goods ["value"] a_are_goods e_are_goods) (G_are_goods : FnOk P w K mg base (L2.CX P w) 4 a_are_goods e_are_goods ["value"] (spD K mg d_are_goods))
    {a_are_rules : Addr} {e_are_rules : FuncData} (C_are_rules : Cd K mg "are_rules" s_are_rules ["value", "many_goods"] a_are_rules e_are_rules) (G_are_rules : FnOk P w K mg base (L2.CX P w) 6 a_are_rules e_are_rules ["value", "many_goods"] (spD K mg d_are_rules)) :
    FnOk P w K mg base (L2.CX P w) 7 f fd ["value"] (spD K mg d_is_shop) :=
  fn_ok F sc_is_shop rfl rfl fun cdv A outer s H vs E env0 hr => by
    exact (dss_cons (ds_if (dt_not (dt_val (de_call G_is_tuple_of (hr.mono (by decide)) (by rfl) C_is_tuple_of.g C_is_tuple_of.F.kp C_is_tuple_of.b (takes_of rfl rfl rfl rfl) (da_cons (de_var 0 (pv 0)) (da_cons de_int da_nil))))) (dss_one (ds_ret de_bl)) dss_nil)
    (dss_cons (ds_asg (de_var 0 (pv 0)) (dg_tup rfl (dgs_cons (dg_name (pg_name (i := 1) sc_is_shop.nd rfl (by first | exact .inl rfl | exact .inr rfl))) (dgs_cons (dg_name (pg_name (i := 2) sc_is_shop.nd rfl (by first | exact .inl rfl | exact .inr rfl))) dgs_nil))))
    (dss_one (ds_ret (de_and (de_call G_are_goods (hr.mono (by decide)) (by rfl) C_are_goods.g C_are_goods.F.kp C_are_goods.b (takes_of rfl rfl rfl rfl) (da_cons (de_var 1 (pv 1)) da_nil)) (de_one (de_call G_are_rules (hr.mono (by decide)) (by rfl) C_are_rules.g C_are_rules.F.kp C_are_rules.b (takes_of rfl rfl rfl rfl) (da_cons (de_var 2 (pv 2)) (da_cons (de_b d_len call_lenA (by rfl) B.b_len bo_len (da_cons (de_var 1 (pv 1)) da_nil)) da_nil)))))))))
theorem ok_check_shop {f : Addr} {fd : FuncData} (B : Bl K mg) (F : Fun K "check_shop" "check_shop" s_check_shop f fd)
    {a_is_shop : Addr} {e_is_shop : FuncData} (C_is_shop : Cd K mg "is_shop" s_is_shop ["value"] a_is_shop e_is_shop) (G_is_shop : FnOk P w K mg base (L2.CX P w) 7 a_is_shop e_is_shop ["value"] (spD K mg d_is_shop)) :
    FnOk P w K mg base (L2.CX P w) 8 f fd ["shop"] (spD K mg d_check_shop) :=
  fn_ok F sc_check_shop rfl rfl fun cdv A outer s H vs E env0 hr => by
    exact (dss_one (ds_if (dt_not (dt_val (de_call G_is_shop (hr.mono (by decide)) (by rfl) C_is_shop.g C_is_shop.F.kp C_is_shop.b (takes_of rfl rfl rfl rfl) (da_cons (de_var 0 (pv 0)) da_nil)))) (dss_one (ds_raise rfl (takes_of rfl rfl rfl rfl) B.k_InvalidShop (by rfl))) dss_nil))
theorem ok_format_item {f : Addr} {fd : FuncData} (B : Bl K mg) (F : Fun K "format_item" "format_item" s_format_item f fd) :
    FnOk P w K mg base (L2.CX P w) 1 f fd ["item"] (spD K mg d_format_item) :=
  fn_ok F sc_format_item rfl rfl fun cdv A outer s H vs E env0 hr => by
    exact (dss_one (ds_ret (de_if (dt_cmp op_is d_is (de_var 0 (pv 0)) de_non (nomark _)) (de_gt (by rfl) B.g_NO_MOST) (de_ty d_str call_strA (by rfl) B.b_str bo_str (da_cons (de_var 0 (pv 0)) da_nil)))))
theorem ok_format_good {f : Addr} {fd : FuncData} (B : Bl K mg) (F : Fun K "format_good" "format_good" s_format_good f fd) :
    FnOk P w K mg base (L2.CX P w) 1 f fd ["good"] (spD K mg d_format_good) :=
  fn_ok F sc_format_good rfl rfl fun cdv A outer s H vs E env0 hr => by
    exact (dss_cons (ds_asg (de_var 0 (pv 0)) (dg_tup rfl (dgs_cons (dg_name (pg_name (i := 1) sc_format_good.nd rfl (by first | exact .inl rfl | exact .inr rfl))) (dgs_cons (dg_name (pg_name (i := 2) sc_format_good.nd rfl (by first | exact .inl rfl | exact .inr rfl))) dgs_nil))))
    (dss_one (ds_ret (de_js (.cons (de_fmt (de_var 1 (pv 1))) (.cons de_str (.cons (de_fmt (de_var 2 (pv 2))) .nil)))))))
theorem ok_format_rule {f : Addr} {fd : FuncData} (B : Bl K mg) (F : Fun K "format_rule" "format_rule" s_format_rule f fd)
    {a_format_item : Addr} {e_format_item : FuncData} (C_format_item : Cd K mg "format_item" s_format_item ["item"] a_format_item e_format_item) (G_format_item : FnOk P w K mg base (L2.CX P w) 1 a_format_item e_format_item ["item"] (spD K mg d_format_item)) :
    FnOk P w K mg base (L2.CX P w) 2 f fd ["rule"] (spD K mg d_format_rule) :=
  fn_ok F sc_format_rule rfl rfl fun cdv A outer s H vs E env0 hr => by
    exact (dss_one (ds_ret (de_join de_str (de_lc (own := [("item", 1)]) (t := (.one 1)) rfl sc_format_rule.nd (di_tup (de_var 0 (pv 0))) (blkOk_by (own := [("item", 1)]) (N := ["rule", "item"]) (sc := defScope s_format_rule) (by first | decide +kernel | (dsimp only [Cx.blk, compEnvC]; rw [relabel_is]; dsimp only [cxOf, PyProof.Rows.envOfC]; decide +kernel))) (fun _ _ _ _ _ => (pg_name (i := 1) sc_format_rule.nd rfl (by first | exact .inl rfl | exact .inr rfl))) (fun _ _ _ _ _ => dts_nil) (fun _ _ _ _ _ => (de_call G_format_item (hr.mono (by decide)) (by rfl) C_format_item.g C_format_item.F.kp C_format_item.b takes0 (da_cons (de_var 1 (pv 1)) da_nil))) (by simp [CT.ins])))))
theorem ok_format_shop {f : Addr} {fd : FuncData} (B : Bl K mg) (F : Fun K "format_shop" "format_shop" s_format_shop f fd)
    {a_check_shop : Addr} {e_check_shop : FuncData} (C_check_shop : Cd K mg "check_shop" s_check_shop ["shop"] a_check_shop e_check_shop) (G_check_shop : FnOk P w K mg base (L2.CX P w) 8 a_check_shop e_check_shop ["shop"] (spD K mg d_check_shop))
    {a_format_good : Addr} {e_format_good : FuncData} (C_format_good : Cd K mg "format_good" s_format_good ["good"] a_format_good e_format_good) (G_format_good : FnOk P w K mg base (L2.CX P w) 1 a_format_good e_format_good ["good"] (spD K mg d_format_good))
    {a_format_rule : Addr} {e_format_rule : FuncData} (C_format_rule : Cd K mg "format_rule" s_format_rule ["rule"] a_format_rule e_format_rule) (G_format_rule : FnOk P w K mg base (L2.CX P w) 2 a_format_rule e_format_rule ["rule"] (spD K mg d_format_rule)) :
    FnOk P w K mg base (L2.CX P w) 9 f fd ["shop"] (spD K mg d_format_shop) :=
  fn_ok F sc_format_shop rfl rfl fun cdv A outer s H vs E env0 hr => by
    exact (dss_cons (ds_expr (de_call G_check_shop (hr.mono (by decide)) (by rfl) C_check_shop.g C_check_shop.F.kp C_check_shop.b (takes_of rfl rfl rfl rfl) (da_cons (de_var 0 (pv 0)) da_nil)))
    (dss_cons (ds_asg (de_var 0 (pv 0)) (dg_tup rfl (dgs_cons (dg_name (pg_name (i := 3) sc_format_shop.nd rfl (by first | exact .inl rfl | exact .inr rfl))) (dgs_cons (dg_name (pg_name (i := 4) sc_format_shop.nd rfl (by first | exact .inl rfl | exact .inr rfl))) dgs_nil))))
    (dss_cons (ds_set (i := 1) sc_format_shop.nd rfl (by first | exact .inl rfl | exact .inr rfl) (de_join de_str (de_lc (own := [("good", 5)]) (t := (.one 5)) rfl sc_format_shop.nd (di_tup (de_var 3 (pv 3))) (blkOk_by (own := [("good", 5)]) (N := ["shop", "first", "second", "goods", "rules", "good", "rule"]) (sc := defScope s_format_shop) (by first | decide +kernel | (dsimp only [Cx.blk, compEnvC]; rw [relabel_is]; dsimp only [cxOf, PyProof.Rows.envOfC]; decide +kernel))) (fun _ _ _ _ _ => (pg_name (i := 5) sc_format_shop.nd rfl (by first | exact .inl rfl | exact .inr rfl))) (fun _ _ _ _ _ => dts_nil) (fun _ _ _ _ _ => (de_call G_format_good (hr.mono (by decide)) (by rfl) C_format_good.g C_format_good.F.kp C_format_good.b takes0 (da_cons (de_var 5 (pv 5)) da_nil))) (by simp [CT.ins]))))
    (dss_cons (ds_set (i := 2) sc_format_shop.nd rfl (by first | exact .inl rfl | exact .inr rfl) (de_if (dt_cmp op_gt d_gt (de_b d_len call_lenA (by rfl) B.b_len bo_len (da_cons (de_var 4 (pv 4)) da_nil)) de_int (nomark _)) (de_join de_str (de_lc (own := [("rule", 6)]) (t := (.one 6)) rfl sc_format_shop.nd (di_tup (de_var 4 (pv 4))) (blkOk_by (own := [("rule", 6)]) (N := ["shop", "first", "second", "goods", "rules", "good", "rule"]) (sc := defScope s_format_shop) (by first | decide +kernel | (dsimp only [Cx.blk, compEnvC]; rw [relabel_is]; dsimp only [cxOf, PyProof.Rows.envOfC]; decide +kernel))) (fun _ _ _ _ _ => (pg_name (i := 6) sc_format_shop.nd rfl (by first | exact .inl rfl | exact .inr rfl))) (fun _ _ _ _ _ => dts_nil) (fun _ _ _ _ _ => (de_call G_format_rule (hr.mono (by decide)) (by rfl) C_format_rule.g C_format_rule.F.kp C_format_rule.b takes0 (da_cons (de_var 6 (pv 6)) da_nil))) (by simp [CT.ins]))) (de_gt (by rfl) B.g_NO_RULES)))
    (dss_one (ds_ret (de_js (.cons (de_fmt (de_var 1 (pv 1))) (.cons de_str (.cons (de_fmt (de_var 2 (pv 2))) .nil))))))))))
theorem ok_read_item {f : Addr} {fd : FuncData} (B : Bl K mg) (F : Fun K "read_item" "read_item" s_read_item f fd) :
    FnOk P w K mg base (L2.CX P w) 1 f fd ["text"] (spD K mg d_read_item) :=
  fn_ok F sc_read_item rfl rfl fun cdv A outer s H vs E env0 hr => by
    exact (dss_cons (ds_if (dt_cmp (op_eqA hr.units) d_eqA (de_var 0 (pv 0)) (de_gt (by rfl) B.g_NO_MOST) (nomark _)) (dss_one (ds_ret de_non)) dss_nil)
    (dss_cons (ds_if (PW.pt (dt_or (dt_cmp op_gt d_gt (de_b d_len call_lenA (by rfl) B.b_len bo_len (da_cons (de_var 0 (pv 0)) da_nil)) (de_gc (by rfl) B.g_MOST_DIGITS fun _ _ => .int _) (nomark _)) (dt_or (dt_not (dt_val (de_isascii (de_var 0 (pv 0))))) (dt_or1 (dt_not (dt_val (de_isdigit (de_var 0 (pv 0))))))))) (dss_one (ds_ret (de_var 0 (pv 0)))) dss_nil)
    (dss_cons (ds_set (i := 1) sc_read_item.nd rfl (by first | exact .inl rfl | exact .inr rfl) (de_ty d_intS call_int_str (by rfl) B.b_int bo_int (da_cons (de_var 0 (pv 0)) da_nil)))
    (dss_one (ds_ret (de_if (dt_cmp (op_eqA hr.units) d_eqA (de_ty d_str call_strA (by rfl) B.b_str bo_str (da_cons (de_var 1 (pv 1)) da_nil)) (de_var 0 (pv 0)) (nomark _)) (de_var 1 (pv 1)) (de_var 0 (pv 0))))))))
theorem ok_read_items {f : Addr} {fd : FuncData} (B : Bl K mg) (F : Fun K "read_items" "read_items" s_read_items f fd)
    {a_read_item : Addr} {e_read_item : FuncData} (C_read_item : Cd K mg "read_item" s_read_item ["text"] a_read_item e_read_item) (G_read_item : FnOk P w K mg base (L2.CX P w) 1 a_read_item e_read_item ["text"] (spD K mg d_read_item)) :
    FnOk P w K mg base (L2.CX P w) 2 f fd ["text", "between"] (spD K mg d_read_items) :=
  fn_ok F sc_read_items rfl rfl fun cdv A outer s H vs E env0 hr => by
    exact (dss_one (ds_ret (de_ty d_tuple call_tuple_of (by rfl) B.b_tuple bo_tuple (da_cons (de_lc (own := [("part", 2)]) (t := (.one 2)) rfl sc_read_items.nd (di_list false (de_split (de_var 0 (pv 0)) (de_var 1 (pv 1)))) (blkOk_by (own := [("part", 2)]) (N := ["text", "between", "part"]) (sc := defScope s_read_items) (by first | decide +kernel | (dsimp only [Cx.blk, compEnvC]; rw [relabel_is]; dsimp only [cxOf, PyProof.Rows.envOfC]; decide +kernel))) (fun _ _ _ _ _ => (pg_name (i := 2) sc_read_items.nd rfl (by first | exact .inl rfl | exact .inr rfl))) (fun _ _ _ _ _ => dts_nil) (fun _ _ _ _ _ => (de_call G_read_item (hr.mono (by decide)) (by rfl) C_read_item.g C_read_item.F.kp C_read_item.b takes0 (da_cons (de_var 2 (pv 2)) da_nil))) (by simp [CT.ins])) da_nil))))
theorem ok_read_rules {f : Addr} {fd : FuncData} (B : Bl K mg) (F : Fun K "read_rules" "read_rules" s_read_rules f fd)
    {a_read_items : Addr} {e_read_items : FuncData} (C_read_items : Cd K mg "read_items" s_read_items ["text", "between"] a_read_items e_read_items) (G_read_items : FnOk P w K mg base (L2.CX P w) 2 a_read_items e_read_items ["text", "between"] (spD K mg d_read_items)) :
    FnOk P w K mg base (L2.CX P w) 3 f fd ["text"] (spD K mg d_read_rules) :=
  fn_ok F sc_read_rules rfl rfl fun cdv A outer s H vs E env0 hr => by
    exact (dss_cons (ds_if (dt_cmp (op_eqA hr.units) d_eqA (de_var 0 (pv 0)) (de_gt (by rfl) B.g_NO_RULES) (nomark _)) (dss_one (ds_ret (de_tup da_nil))) dss_nil)
    (dss_one (ds_ret (de_ty d_tuple call_tuple_of (by rfl) B.b_tuple bo_tuple (da_cons (de_lc (own := [("part", 1)]) (t := (.one 1)) rfl sc_read_rules.nd (di_list false (de_split (de_var 0 (pv 0)) de_str)) (blkOk_by (own := [("part", 1)]) (N := ["text", "part"]) (sc := defScope s_read_rules) (by first | decide +kernel | (dsimp only [Cx.blk, compEnvC]; rw [relabel_is]; dsimp only [cxOf, PyProof.Rows.envOfC]; decide +kernel))) (fun _ _ _ _ _ => (pg_name (i := 1) sc_read_rules.nd rfl (by first | exact .inl rfl | exact .inr rfl))) (fun _ _ _ _ _ => dts_nil) (fun _ _ _ _ _ => (de_call G_read_items (hr.mono (by decide)) (by rfl) C_read_items.g C_read_items.F.kp C_read_items.b takes0 (da_cons (de_var 1 (pv 1)) (da_cons de_str da_nil)))) (by simp [CT.ins])) da_nil)))))
theorem ok_read_shop {f : Addr} {fd : FuncData} (B : Bl K mg) (F : Fun K "read_shop" "read_shop" s_read_shop f fd)
    {a_read_rules : Addr} {e_read_rules : FuncData} (C_read_rules : Cd K mg "read_rules" s_read_rules ["text"] a_read_rules e_read_rules) (G_read_rules : FnOk P w K mg base (L2.CX P w) 3 a_read_rules e_read_rules ["text"] (spD K mg d_read_rules))
    {a_read_items : Addr} {e_read_items : FuncData} (C_read_items : Cd K mg "read_items" s_read_items ["text", "between"] a_read_items e_read_items) (G_read_items : FnOk P w K mg base (L2.CX P w) 2 a_read_items e_read_items ["text", "between"] (spD K mg d_read_items)) :
    FnOk P w K mg base (L2.CX P w) 4 f fd ["text"] (spD K mg d_read_shop) :=
  fn_ok F sc_read_shop rfl rfl fun cdv A outer s H vs E env0 hr => by
    exact (dss_cons (ds_set (i := 1) sc_read_shop.nd rfl (by first | exact .inl rfl | exact .inr rfl) (de_split (de_var 0 (pv 0)) de_str))
    (dss_cons (ds_if (dt_cmp (op_neA hr.units) d_neA (de_b d_len call_lenA (by rfl) B.b_len bo_len (da_cons (de_var 1 (pv 1)) da_nil)) de_int (nomark _)) (dss_one (ds_ret de_non)) dss_nil)
    (dss_cons (ds_asg (de_var 1 (pv 1)) (dg_lst rfl (dgs_cons (dg_name (pg_name (i := 2) sc_read_shop.nd rfl (by first | exact .inl rfl | exact .inr rfl))) (dgs_cons (dg_name (pg_name (i := 3) sc_read_shop.nd rfl (by first | exact .inl rfl | exact .inr rfl))) dgs_nil))))
    (dss_one (ds_ret (de_tup (da_cons (de_ty d_tuple call_tuple_of (by rfl) B.b_tuple bo_tuple (da_cons (de_lc (own := [("part", 4)]) (t := (.one 4)) rfl sc_read_shop.nd (di_list false (de_split (de_var 2 (pv 2)) de_str)) (blkOk_by (own := [("part", 4)]) (N := ["text", "parts", "first", "second", "part"]) (sc := defScope s_read_shop) (by first | decide +kernel | (dsimp only [Cx.blk, compEnvC]; rw [relabel_is]; dsimp only [cxOf, PyProof.Rows.envOfC]; decide +kernel))) (fun _ _ _ _ _ => (pg_name (i := 4) sc_read_shop.nd rfl (by first | exact .inl rfl | exact .inr rfl))) (fun _ _ _ _ _ => dts_nil) (fun _ _ _ _ _ => (de_call G_read_items (hr.mono (by decide)) (by rfl) C_read_items.g C_read_items.F.kp C_read_items.b takes0 (da_cons (de_var 4 (pv 4)) (da_cons de_str da_nil)))) (by simp [CT.ins])) da_nil)) (da_cons (de_call G_read_rules (hr.mono (by decide)) (by rfl) C_read_rules.g C_read_rules.F.kp C_read_rules.b (takes_of rfl rfl rfl rfl) (da_cons (de_var 3 (pv 3)) da_nil)) da_nil))))))))
theorem ok_parse_shop {f : Addr} {fd : FuncData} (B : Bl K mg) (F : Fun K "parse_shop" "parse_shop" s_parse_shop f fd)
    {a_read_shop : Addr} {e_read_shop : FuncData} (C_read_shop : Cd K mg "read_shop" s_read_shop ["text"] a_read_shop e_read_shop) (G_read_shop : FnOk P w K mg base (L2.CX P w) 4 a_read_shop e_read_shop ["text"] (spD K mg d_read_shop))
    {a_is_shop : Addr} {e_is_shop : FuncData} (C_is_shop : Cd K mg "is_shop" s_is_shop ["value"] a_is_shop e_is_shop) (G_is_shop : FnOk P w K mg base (L2.CX P w) 7 a_is_shop e_is_shop ["value"] (spD K mg d_is_shop)) :
    FnOk P w K mg base (L2.CX P w) 8 f fd ["text"] (spD K mg d_parse_shop) :=
  fn_ok F sc_parse_shop rfl rfl fun cdv A outer s H vs E env0 hr => by
    exact (dss_cons (ds_if (dt_not (dt_val (de_isi (by rfl) B.b_isinstance (de_var 0 (pv 0)) (pe_bltn (by rfl) B.b_str bo_str rfl)))) (dss_one (ds_raise rfl (takes_of rfl rfl rfl rfl) B.k_ParseError (by rfl))) dss_nil)
    (dss_cons (ds_set (i := 1) sc_parse_shop.nd rfl (by first | exact .inl rfl | exact .inr rfl) (de_call G_read_shop (hr.mono (by decide)) (by rfl) C_read_shop.g C_read_shop.F.kp C_read_shop.b (takes_of rfl rfl rfl rfl) (da_cons (de_var 0 (pv 0)) da_nil)))
    (dss_cons (ds_if (dt_not (dt_val (de_call G_is_shop (hr.mono (by decide)) (by rfl) C_is_shop.g C_is_shop.F.kp C_is_shop.b (takes_of rfl rfl rfl rfl) (da_cons (de_var 1 (pv 1)) da_nil)))) (dss_one (ds_raise rfl (takes_of rfl rfl rfl rfl) B.k_ParseError (by rfl))) dss_nil)
    (dss_one (ds_ret (de_var 1 (pv 1)))))))
theorem ok__law_cell_at {f : Addr} {fd : FuncData} (B : Bl K mg) (F : Fun K "_law_cell_at" "_law_cell_at" s__law_cell_at f fd) :
    FnOk P w K mg base (L2.CX P w) 1 f fd ["_law_script", "_law_k"] (spD K mg d__law_cell_at) :=
  fn_ok F sc__law_cell_at rfl rfl fun cdv A outer s H vs E env0 hr => by
    exact (dss_cons (ds_if (dt_cmp op_lt d_lt (de_var 1 (pv 1)) (de_b d_len call_lenA (by rfl) B.b_len bo_len (da_cons (de_var 0 (pv 0)) da_nil)) (nomark _)) (dss_one (ds_ret (de_ix (de_var 0 (pv 0)) (de_var 1 (pv 1)) (fun _ _ => rfl)))) dss_nil)
    (dss_cons (ds_if (dt_cmp (op_eqA hr.units) d_eqA (de_var 0 (pv 0)) (de_lst da_nil) (nomark _)) (dss_one (ds_ret de_int)) dss_nil)
    (dss_cons (ds_set (i := 2) sc__law_cell_at.nd rfl (by first | exact .inl rfl | exact .inr rfl) (de_ix (de_var 0 (pv 0)) (de_op op_mod d_mod (de_var 1 (pv 1)) (de_b d_len call_lenA (by rfl) B.b_len bo_len (da_cons (de_var 0 (pv 0)) da_nil))) (fun _ _ => rfl)))
    (dss_cons (ds_for (passes_of rfl) rfl (di_range1 (by rfl) B.b_range (da_cons (de_b d_min2 (call_min2 rfl) (by rfl) B.b_min bo_min (da_cons (de_op op_fdiv d_fdiv (de_var 1 (pv 1)) (de_b d_len call_lenA (by rfl) B.b_len bo_len (da_cons (de_var 0 (pv 0)) da_nil))) (da_cons de_int da_nil))) da_nil)) (dg_name (pg_name (i := 3) sc__law_cell_at.nd rfl (by first | exact .inl rfl | exact .inr rfl))) (dss_one (ds_set (i := 2) sc__law_cell_at.nd rfl (by first | exact .inl rfl | exact .inr rfl) (de_op op_fdiv d_fdiv (de_var 2 (pv 2)) de_int))))
    (dss_one (ds_ret (de_op op_addA d_add (de_op op_addA d_add (de_op op_mulA d_mulA (de_ix (de_var 0 (pv 0)) (de_op op_mod d_mod (de_var 1 (pv 1)) (de_b d_len call_lenA (by rfl) B.b_len bo_len (da_cons (de_var 0 (pv 0)) da_nil))) (fun _ _ => rfl)) de_int) (de_var 1 (pv 1))) (de_op op_mulA d_mulA (de_var 2 (pv 2)) de_int))))))))
theorem ok__law_mixed {f : Addr} {fd : FuncData} (B : Bl K mg) (F : Fun K "_law_mixed" "_law_mixed" s__law_mixed f fd)
    {a__law_cell_at : Addr} {e__law_cell_at : FuncData} (C__law_cell_at : Cd K mg "_law_cell_at" s__law_cell_at ["_law_script", "_law_k"] a__law_cell_at e__law_cell_at) (G__law_cell_at : FnOk P w K mg base (L2.CX P w) 1 a__law_cell_at e__law_cell_at ["_law_script", "_law_k"] (spD K mg d__law_cell_at)) :
    FnOk P w K mg base (L2.CX P w) 2 f fd ["_law_script", "_law_k", "_law_many"] (spD K mg d__law_mixed) :=
  fn_ok F sc__law_mixed rfl rfl fun cdv A outer s H vs E env0 hr => by
    exact (dss_cons (ds_set (i := 3) sc__law_mixed.nd rfl (by first | exact .inl rfl | exact .inr rfl) (de_op op_mod d_mod (de_op op_addA d_add (de_op op_addA d_add (de_op op_mulA d_mulA (de_call G__law_cell_at (hr.mono (by decide)) (by rfl) C__law_cell_at.g C__law_cell_at.F.kp C__law_cell_at.b (takes_of rfl rfl rfl rfl) (da_cons (de_var 0 (pv 0)) (da_cons (de_var 1 (pv 1)) da_nil))) de_int) (de_op op_mulA d_mulA de_int (de_var 1 (pv 1)))) de_int) de_int))
    (dss_one (ds_ret (de_op op_mod d_mod (de_op op_mod d_mod (de_op op_mod d_mod (de_op op_pow d_pow (de_var 3 (pv 3)) de_int) de_int) de_int) (de_var 2 (pv 2))))))
theorem ok__law_draw {f : Addr} {fd : FuncData} (B : Bl K mg) (F : Fun K "_law_draw" "_law_draw" s__law_draw f fd)
    {a__law_mixed : Addr} {e__law_mixed : FuncData} (C__law_mixed : Cd K mg "_law_mixed" s__law_mixed ["_law_script", "_law_k", "_law_many"] a__law_mixed e__law_mixed) (G__law_mixed : FnOk P w K mg base (L2.CX P w) 2 a__law_mixed e__law_mixed ["_law_script", "_law_k", "_law_many"] (spD K mg d__law_mixed)) :
    FnOk P w K mg base (L2.CX P w) 3 f fd ["_law_script", "_law_state", "_law_many"] (spD K mg d__law_draw) :=
  fn_ok F sc__law_draw rfl rfl fun cdv A outer s H vs E env0 hr => by
    exact (dss_cons (ds_expr (de_met m_app PySem.F.slot_list_append PySem.F.type_list_append mt_append (de_var 1 (pv 1)) (da_cons de_int da_nil)))
    (dss_one (ds_ret (de_call G__law_mixed (hr.mono (by decide)) (by rfl) C__law_mixed.g C__law_mixed.F.kp C__law_mixed.b (takes_of rfl rfl rfl rfl) (da_cons (de_var 0 (pv 0)) (da_cons (de_b d_len call_lenA (by rfl) B.b_len bo_len (da_cons (de_var 1 (pv 1)) da_nil)) (da_cons (de_var 2 (pv 2)) da_nil)))))))
theorem ok__law_pick {f : Addr} {fd : FuncData} (B : Bl K mg) (F : Fun K "_law_pick" "_law_pick" s__law_pick f fd)
    {a__law_draw : Addr} {e__law_draw : FuncData} (C__law_draw : Cd K mg "_law_draw" s__law_draw ["_law_script", "_law_state", "_law_many"] a__law_draw e__law_draw) (G__law_draw : FnOk P w K mg base (L2.CX P w) 3 a__law_draw e__law_draw ["_law_script", "_law_state", "_law_many"] (spD K mg d__law_draw)) :
    FnOk P w K mg base (L2.CX P w) 4 f fd ["_law_script", "_law_state", "_law_some"] (spD K mg d__law_pick) :=
  fn_ok F sc__law_pick rfl rfl fun cdv A outer s H vs E env0 hr => by
    exact (dss_one (ds_ret (de_ix (de_var 2 (pv 2)) (de_callI 1 G__law_draw (hr.mono (by decide)) (by rfl) C__law_draw.g C__law_draw.F.kp C__law_draw.b (takes_of rfl rfl rfl rfl) (da_cons (de_var 0 (pv 0)) (da_cons (de_var 1 (pv 1)) (da_cons (de_b d_len call_lenA (by rfl) B.b_len bo_len (da_cons (de_var 2 (pv 2)) da_nil)) da_nil)))) (fun _ _ => rfl))))
theorem ok__law_which {P0 : Addr} {cs : List Addr} (XS : Exn K mg P0 cs) {f : Addr} {fd : FuncData} (B : Bl K mg) (F : Fun K "_law_which" "_law_which" s__law_which f fd) :
    FnX P w K mg base (L2.CX P w) 1 f fd ["_law_e"] (spWhich cs) := by
  obtain ⟨oc, od, kV, doc, pm, an, cdv, ct, osl, rfl, lk, hcd⟩ := F.ex
  refine fn_ofX lk hcd sc__law_which spWhich_len fun A outer s H vs Q E p hr hsp => ?_
  obtain ⟨rfl, C, j, hj, hz, hfd, q⟩ := hsp
  have hu : (A.deeper (PyProof.Rows.envOfC "_law_which" (defScope s__law_which) s.heap.objs.size f cdv)).units + 65 < cLine := by have := hr.un; omega
  obtain ⟨c0, h0, g0, f0⟩ := XS.xs.get (j := 0) (x := "InvalidShop") rfl
  obtain ⟨c1, h1, g1, f1⟩ := XS.xs.get (j := 1) (x := "InvalidBasket") rfl
  obtain ⟨c2, h2, g2, f2⟩ := XS.xs.get (j := 2) (x := "InvalidActs") rfl
  obtain ⟨c3, h3, g3, f3⟩ := XS.xs.get (j := 3) (x := "InvalidAct") rfl
  obtain ⟨c4, h4, g4, f4⟩ := XS.xs.get (j := 4) (x := "InvalidOffers") rfl
  obtain ⟨c5, h5, g5, f5⟩ := XS.xs.get (j := 5) (x := "InvalidKinds") rfl
  obtain ⟨c6, h6, g6, f6⟩ := XS.xs.get (j := 6) (x := "InvalidNumber") rfl
  obtain ⟨c7, h7, g7, f7⟩ := XS.xs.get (j := 7) (x := "Different") rfl
  obtain ⟨c8, h8, g8, f8⟩ := XS.xs.get (j := 8) (x := "NoFault") rfl
  obtain ⟨c9, h9, g9, f9⟩ := XS.xs.get (j := 9) (x := "NotThere") rfl
  obtain ⟨c10, h10, g10, f10⟩ := XS.xs.get (j := 10) (x := "NothingToUndo") rfl
  obtain ⟨c11, h11, g11, f11⟩ := XS.xs.get (j := 11) (x := "ParseError") rfl
  have fC : XF K P0 C := XS.at hj
  have k0 := XS.kit hj h0 fC f0
  have k1 := XS.kit hj h1 fC f1
  have k2 := XS.kit hj h2 fC f2
  have k3 := XS.kit hj h3 fC f3
  have k4 := XS.kit hj h4 fC f4
  have k5 := XS.kit hj h5 fC f5
  have k6 := XS.kit hj h6 fC f6
  have k7 := XS.kit hj h7 fC f7
  have k8 := XS.kit hj h8 fC f8
  have k9 := XS.kit hj h9 fC f9
  have k10 := XS.kit hj h10 fC f10
  have k11 := XS.kit hj h11 fC f11
  have hcall := call_isX (X := L2H.cxH (L2.CX P w) P w K mg base ["_law_e", "_law_own"] "_law_which" (defScope s__law_which) f cdv A outer s H E p) (a := p.1) (oe := p.2) (List.mem_singleton.mpr rfl) (XS.excC fC) hz hfd
  refine ⟨_, pss_cons (ps_set (i := 1) sc__law_which.nd rfl (.inl rfl) (pe_lst (pa_cons (pe_callB hcall (by rfl) B.b_isinstance bo_isinstance (pa_cons (pv 0) (pa_cons (pe_glob (by rfl) g0 rel_me) pa_nil))) (pa_cons (pe_callB hcall (by rfl) B.b_isinstance bo_isinstance (pa_cons (pv 0) (pa_cons (pe_glob (by rfl) g1 rel_me) pa_nil))) (pa_cons (pe_callB hcall (by rfl) B.b_isinstance bo_isinstance (pa_cons (pv 0) (pa_cons (pe_glob (by rfl) g2 rel_me) pa_nil))) pa_nil)))))
    (pss_cons (ps_expr (pe_bm PySem.F.plainAttrs_list PySem.F.slot_list_extend PySem.F.type_list_extend mt_extend (pv 1) (pa_cons (pe_lst (pa_cons (pe_callB hcall (by rfl) B.b_isinstance bo_isinstance (pa_cons (pv 0) (pa_cons (pe_glob (by rfl) g3 rel_me) pa_nil))) (pa_cons (pe_callB hcall (by rfl) B.b_isinstance bo_isinstance (pa_cons (pv 0) (pa_cons (pe_glob (by rfl) g4 rel_me) pa_nil))) (pa_cons (pe_callB hcall (by rfl) B.b_isinstance bo_isinstance (pa_cons (pv 0) (pa_cons (pe_glob (by rfl) g5 rel_me) pa_nil))) pa_nil)))) pa_nil)))
    (pss_cons (ps_expr (pe_bm PySem.F.plainAttrs_list PySem.F.slot_list_extend PySem.F.type_list_extend mt_extend (pv 1) (pa_cons (pe_lst (pa_cons (pe_callB hcall (by rfl) B.b_isinstance bo_isinstance (pa_cons (pv 0) (pa_cons (pe_glob (by rfl) g6 rel_me) pa_nil))) (pa_cons (pe_callB hcall (by rfl) B.b_isinstance bo_isinstance (pa_cons (pv 0) (pa_cons (pe_glob (by rfl) g7 rel_me) pa_nil))) (pa_cons (pe_callB hcall (by rfl) B.b_isinstance bo_isinstance (pa_cons (pv 0) (pa_cons (pe_glob (by rfl) g8 rel_me) pa_nil))) pa_nil)))) pa_nil)))
    (pss_cons (ps_expr (pe_bm PySem.F.plainAttrs_list PySem.F.slot_list_extend PySem.F.type_list_extend mt_extend (pv 1) (pa_cons (pe_lst (pa_cons (pe_callB hcall (by rfl) B.b_isinstance bo_isinstance (pa_cons (pv 0) (pa_cons (pe_glob (by rfl) g9 rel_me) pa_nil))) (pa_cons (pe_callB hcall (by rfl) B.b_isinstance bo_isinstance (pa_cons (pv 0) (pa_cons (pe_glob (by rfl) g10 rel_me) pa_nil))) (pa_cons (pe_callB hcall (by rfl) B.b_isinstance bo_isinstance (pa_cons (pv 0) (pa_cons (pe_glob (by rfl) g11 rel_me) pa_nil))) pa_nil)))) pa_nil)))
    (pss_cons (ps_if (PW.pt (pw_or (pt_cmpR op_ne (pe_bm PySem.F.plainAttrs_list PySem.F.slot_list_count PySem.F.type_list_count (mt_countD hu) (pv 1) (pa_cons pe_bl pa_nil)) pe_int (nomark _)) (pw_or1 (pt_not (pt_val (pe_callB hcall (by rfl) B.b_isinstance bo_isinstance (pa_cons (pv 0) (pa_cons (pe_bltn (v := .ty "ValueError") (by rfl) B.b_ValueError bo_ValueError rfl) pa_nil)))))))) (pss_one (ps_ret (pe_tup (pa_cons pe_str (pa_cons (pe_un un_neg pe_int) pa_nil))))) pss_nil)
    (pss_one (ps_ret (pe_tup (pa_cons pe_str (pa_cons (pe_bm PySem.F.plainAttrs_list PySem.F.slot_list_index PySem.F.type_list_index (mt_indexD hu) (pv 1) (pa_cons pe_bl pa_nil)) pa_nil))))))))), ?_⟩
  exact which_reading (XS.len ▸ (List.getElem?_eq_some_iff.mp hj).1) k0 k1 k2 k3 k4 k5 k6 k7 k8 k9 k10 k11 (XS.kitV fC) q
theorem ok__law_some_rule {f : Addr} {fd : FuncData} (B : Bl K mg) (F : Fun K "_law_some_rule" "_law_some_rule" s__law_some_rule f fd)
    {a__law_draw : Addr} {e__law_draw : FuncData} (C__law_draw : Cd K mg "_law_draw" s__law_draw ["_law_script", "_law_state", "_law_many"] a__law_draw e__law_draw) (G__law_draw : FnOk P w K mg base (L2.CX P w) 3 a__law_draw e__law_draw ["_law_script", "_law_state", "_law_many"] (spD K mg d__law_draw))
    {a__law_pick : Addr} {e__law_pick : FuncData} (C__law_pick : Cd K mg "_law_pick" s__law_pick ["_law_script", "_law_state", "_law_some"] a__law_pick e__law_pick) (G__law_pick : FnOk P w K mg base (L2.CX P w) 4 a__law_pick e__law_pick ["_law_script", "_law_state", "_law_some"] (spD K mg d__law_pick)) :
    FnOk P w K mg base (L2.CX P w) 5 f fd ["_law_script", "_law_state", "_law_goods", "_law_capped"] (spD K mg d__law_some_rule) :=
  fn_ok F sc__law_some_rule rfl rfl fun cdv A outer s H vs E env0 hr => by
    exact (dss_cons (ds_set (i := 4) sc__law_some_rule.nd rfl (by first | exact .inl rfl | exact .inr rfl) (de_callI 1 G__law_draw (hr.mono (by decide)) (by rfl) C__law_draw.g C__law_draw.F.kp C__law_draw.b (takes_of rfl rfl rfl rfl) (da_cons (de_var 0 (pv 0)) (da_cons (de_var 1 (pv 1)) (da_cons de_int da_nil)))))
    (dss_cons (ds_set (i := 5) sc__law_some_rule.nd rfl (by first | exact .inl rfl | exact .inr rfl) (de_callI 1 G__law_draw (hr.mono (by decide)) (by rfl) C__law_draw.g C__law_draw.F.kp C__law_draw.b (takes_of rfl rfl rfl rfl) (da_cons (de_var 0 (pv 0)) (da_cons (de_var 1 (pv 1)) (da_cons (de_b d_len call_lenA (by rfl) B.b_len bo_len (da_cons (de_var 2 (pv 2)) da_nil)) da_nil)))))
    (dss_cons (ds_set (i := 6) sc__law_some_rule.nd rfl (by first | exact .inl rfl | exact .inr rfl) (de_ix (de_ix (de_var 2 (pv 2)) (de_var 5 (pv 5)) (fun _ _ => rfl)) de_int (fun _ _ => rfl)))
    (dss_cons (ds_if (dt_cmp op_lt d_lt (de_var 4 (pv 4)) de_int (nomark _)) (dss_cons (ds_set (i := 9) sc__law_some_rule.nd rfl (by first | exact .inl rfl | exact .inr rfl) (de_op op_addA d_add de_int (de_callI 1 G__law_draw (hr.mono (by decide)) (by rfl) C__law_draw.g C__law_draw.F.kp C__law_draw.b (takes_of rfl rfl rfl rfl) (da_cons (de_var 0 (pv 0)) (da_cons (de_var 1 (pv 1)) (da_cons de_int da_nil))))))
    (dss_cons (ds_set (i := 10) sc__law_some_rule.nd rfl (by first | exact .inl rfl | exact .inr rfl) (de_b d_max2 (call_max2 rfl) (by rfl) B.b_max bo_max (da_cons (de_var 9 (pv 9)) (da_cons (de_op op_sub d_sub (de_op op_mulA d_mulA (de_var 9 (pv 9)) (de_var 6 (pv 6))) (de_callI 1 G__law_draw (hr.mono (by decide)) (by rfl) C__law_draw.g C__law_draw.F.kp C__law_draw.b (takes_of rfl rfl rfl rfl) (da_cons (de_var 0 (pv 0)) (da_cons (de_var 1 (pv 1)) (da_cons (de_op op_addA d_add (de_op op_mulA d_mulA de_int (de_var 9 (pv 9))) de_int) da_nil))))) da_nil))))
    (dss_one (ds_ret (de_tup (da_cons de_str (da_cons (de_var 5 (pv 5)) (da_cons (de_var 9 (pv 9)) (da_cons (de_var 10 (pv 10)) (da_cons (de_callI 1 G__law_pick (hr.mono (by decide)) (by rfl) C__law_pick.g C__law_pick.F.kp C__law_pick.b (takes_of rfl rfl rfl rfl) (da_cons (de_var 0 (pv 0)) (da_cons (de_var 1 (pv 1)) (da_cons (de_tup (da_cons de_non (da_cons de_non (da_cons de_int (da_cons de_int da_nil))))) da_nil)))) da_nil)))))))))) dss_nil)
    (dss_cons (ds_if (dt_cmp (op_eqA hr.units) d_eqA (de_var 4 (pv 4)) de_int (nomark _)) (dss_one (ds_ret (de_tup (da_cons de_str (da_cons (de_var 5 (pv 5)) (da_cons (de_op op_addA d_add de_int (de_callI 1 G__law_draw (hr.mono (by decide)) (by rfl) C__law_draw.g C__law_draw.F.kp C__law_draw.b (takes_of rfl rfl rfl rfl) (da_cons (de_var 0 (pv 0)) (da_cons (de_var 1 (pv 1)) (da_cons de_int da_nil))))) (da_cons (de_b d_max2 (call_max2 rfl) (by rfl) B.b_max bo_max (da_cons de_int (da_cons (de_op op_sub d_sub (de_var 6 (pv 6)) (de_callI 1 G__law_draw (hr.mono (by decide)) (by rfl) C__law_draw.g C__law_draw.F.kp C__law_draw.b (takes_of rfl rfl rfl rfl) (da_cons (de_var 0 (pv 0)) (da_cons (de_var 1 (pv 1)) (da_cons de_int da_nil))))) da_nil))) da_nil))))))) dss_nil)
    (dss_cons (ds_if (dt_cmp (op_eqA hr.units) d_eqA (de_var 4 (pv 4)) de_int (nomark _)) (dss_cons (ds_set (i := 7) sc__law_some_rule.nd rfl (by first | exact .inl rfl | exact .inr rfl) (de_op op_addA d_add de_int (de_callI 1 G__law_draw (hr.mono (by decide)) (by rfl) C__law_draw.g C__law_draw.F.kp C__law_draw.b (takes_of rfl rfl rfl rfl) (da_cons (de_var 0 (pv 0)) (da_cons (de_var 1 (pv 1)) (da_cons de_int da_nil))))))
    (dss_one (ds_ret (de_tup (da_cons de_str (da_cons (de_var 7 (pv 7)) (da_cons (de_op op_addA d_add de_int (de_callI 1 G__law_draw (hr.mono (by decide)) (by rfl) C__law_draw.g C__law_draw.F.kp C__law_draw.b (takes_of rfl rfl rfl rfl) (da_cons (de_var 0 (pv 0)) (da_cons (de_var 1 (pv 1)) (da_cons de_int da_nil))))) da_nil))))))) dss_nil)
    (dss_cons (ds_set (i := 7) sc__law_some_rule.nd rfl (by first | exact .inl rfl | exact .inr rfl) (de_op op_addA d_add de_int (de_callI 1 G__law_draw (hr.mono (by decide)) (by rfl) C__law_draw.g C__law_draw.F.kp C__law_draw.b (takes_of rfl rfl rfl rfl) (da_cons (de_var 0 (pv 0)) (da_cons (de_var 1 (pv 1)) (da_cons de_int da_nil))))))
    (dss_cons (ds_set (i := 8) sc__law_some_rule.nd rfl (by first | exact .inl rfl | exact .inr rfl) (de_callI 1 G__law_pick (hr.mono (by decide)) (by rfl) C__law_pick.g C__law_pick.F.kp C__law_pick.b (takes_of rfl rfl rfl rfl) (da_cons (de_var 0 (pv 0)) (da_cons (de_var 1 (pv 1)) (da_cons (de_if (dt_val (de_var 3 (pv 3))) (de_tup (da_cons de_int (da_cons de_int da_nil))) (de_tup (da_cons de_non (da_cons de_non (da_cons de_int (da_cons de_int da_nil)))))) da_nil)))))
    (dss_one (ds_ret (de_tup (da_cons de_str (da_cons (de_var 7 (pv 7)) (da_cons (de_op op_addA d_add de_int (de_callI 1 G__law_draw (hr.mono (by decide)) (by rfl) C__law_draw.g C__law_draw.F.kp C__law_draw.b (takes_of rfl rfl rfl rfl) (da_cons (de_var 0 (pv 0)) (da_cons (de_var 1 (pv 1)) (da_cons (de_op op_fdiv d_fdiv (de_var 7 (pv 7)) de_int) da_nil))))) (da_cons (de_var 8 (pv 8)) da_nil)))))))))))))))
theorem ok__law_some_goods {f : Addr} {fd : FuncData} (B : Bl K mg) (F : Fun K "_law_some_goods" "_law_some_goods" s__law_some_goods f fd)
    {a__law_draw : Addr} {e__law_draw : FuncData} (C__law_draw : Cd K mg "_law_draw" s__law_draw ["_law_script", "_law_state", "_law_many"] a__law_draw e__law_draw) (G__law_draw : FnOk P w K mg base (L2.CX P w) 3 a__law_draw e__law_draw ["_law_script", "_law_state", "_law_many"] (spD K mg d__law_draw)) :
    FnOk P w K mg base (L2.CX P w) 4 f fd ["_law_script", "_law_state"] (spD K mg d__law_some_goods) :=
  fn_ok F sc__law_some_goods rfl rfl fun cdv A outer s H vs E env0 hr => by
    exact (dss_cons (ds_set (i := 2) sc__law_some_goods.nd rfl (by first | exact .inl rfl | exact .inr rfl) (de_if (dt_cmp (op_eqA hr.units) d_eqA (de_callI 1 G__law_draw (hr.mono (by decide)) (by rfl) C__law_draw.g C__law_draw.F.kp C__law_draw.b (takes_of rfl rfl rfl rfl) (da_cons (de_var 0 (pv 0)) (da_cons (de_var 1 (pv 1)) (da_cons de_int da_nil)))) de_int (nomark _)) de_int de_int))
    (dss_one (ds_ret (de_ty d_tuple call_tuple_of (by rfl) B.b_tuple bo_tuple (da_cons (de_lc (own := [("_law_again", 3)]) (t := (.one 3)) rfl sc__law_some_goods.nd (di_range1 (by rfl) B.b_range (da_cons (de_var 2 (pv 2)) da_nil)) (blkOk_by (own := [("_law_again", 3)]) (N := ["_law_script", "_law_state", "_law_count", "_law_again"]) (sc := defScope s__law_some_goods) (by first | decide +kernel | (dsimp only [Cx.blk, compEnvC]; rw [relabel_is]; dsimp only [cxOf, PyProof.Rows.envOfC]; decide +kernel))) (fun _ _ _ _ _ => (pg_name (i := 3) sc__law_some_goods.nd rfl (by first | exact .inl rfl | exact .inr rfl))) (fun _ _ _ _ _ => dts_nil) (fun _ _ _ _ _ => (de_tup (da_cons (de_op op_addA d_add de_int (de_callI 1 G__law_draw (hr.mono (by decide)) (by rfl) C__law_draw.g C__law_draw.F.kp C__law_draw.b takes0 (da_cons (de_var 0 (pv 0)) (da_cons (de_var 1 (pv 1)) (da_cons de_int da_nil))))) (da_cons (de_callI 1 G__law_draw (hr.mono (by decide)) (by rfl) C__law_draw.g C__law_draw.F.kp C__law_draw.b takes0 (da_cons (de_var 0 (pv 0)) (da_cons (de_var 1 (pv 1)) (da_cons de_int da_nil)))) da_nil)))) (by simp [CT.ins])) da_nil)))))
theorem ok__law_some_shop {f : Addr} {fd : FuncData} (B : Bl K mg) (F : Fun K "_law_some_shop" "_law_some_shop" s__law_some_shop f fd)
    {a__law_some_goods : Addr} {e__law_some_goods : FuncData} (C__law_some_goods : Cd K mg "_law_some_goods" s__law_some_goods ["_law_script", "_law_state"] a__law_some_goods e__law_some_goods) (G__law_some_goods : FnOk P w K mg base (L2.CX P w) 4 a__law_some_goods e__law_some_goods ["_law_script", "_law_state"] (spD K mg d__law_some_goods))
    {a__law_draw : Addr} {e__law_draw : FuncData} (C__law_draw : Cd K mg "_law_draw" s__law_draw ["_law_script", "_law_state", "_law_many"] a__law_draw e__law_draw) (G__law_draw : FnOk P w K mg base (L2.CX P w) 3 a__law_draw e__law_draw ["_law_script", "_law_state", "_law_many"] (spD K mg d__law_draw))
    {a__law_some_rule : Addr} {e__law_some_rule : FuncData} (C__law_some_rule : Cd K mg "_law_some_rule" s__law_some_rule ["_law_script", "_law_state", "_law_goods", "_law_capped"] a__law_some_rule e__law_some_rule) (G__law_some_rule : FnOk P w K mg base (L2.CX P w) 5 a__law_some_rule e__law_some_rule ["_law_script", "_law_state", "_law_goods", "_law_capped"] (spD K mg d__law_some_rule)) :
    FnOk P w K mg base (L2.CX P w) 6 f fd ["_law_script", "_law_state"] (spD K mg d__law_some_shop) :=
  fn_ok F sc__law_some_shop rfl rfl fun cdv A outer s H vs E env0 hr => by
    exact (dss_cons (ds_par (i := 3) (j := 4) rfl sc__law_some_shop.nd rfl rfl (by decide) rfl rfl (da_cons (de_callI 1 G__law_some_goods (hr.mono (by decide)) (by rfl) C__law_some_goods.g C__law_some_goods.F.kp C__law_some_goods.b (takes_of rfl rfl rfl rfl) (da_cons (de_var 0 (pv 0)) (da_cons (de_var 1 (pv 1)) da_nil))) (da_cons (de_lst da_nil) da_nil)))
    (dss_cons (ds_for (passes_of rfl) rfl (di_range1 (by rfl) B.b_range (da_cons (de_callI 1 G__law_draw (hr.mono (by decide)) (by rfl) C__law_draw.g C__law_draw.F.kp C__law_draw.b (takes_of rfl rfl rfl rfl) (da_cons (de_var 0 (pv 0)) (da_cons (de_var 1 (pv 1)) (da_cons de_int da_nil)))) da_nil)) (dg_name (pg_name (i := 2) sc__law_some_shop.nd rfl (by first | exact .inl rfl | exact .inr rfl))) (dss_cons (ds_set (i := 5) sc__law_some_shop.nd rfl (by first | exact .inl rfl | exact .inr rfl) (de_b d_any (cr_any rfl) (by rfl) B.b_any bo_any (da_cons (de_lc (own := [("_law_rule", 6)]) (t := (.one 6)) rfl sc__law_some_shop.nd (di_list false (de_var 4 (pv 4))) (blkOk_by (own := [("_law_rule", 6)]) (N := ["_law_script", "_law_state", "_law_again", "_law_goods", "_law_rules", "_law_capped", "_law_rule"]) (sc := defScope s__law_some_shop) (by first | decide +kernel | (dsimp only [Cx.blk, compEnvC]; rw [relabel_is]; dsimp only [cxOf, PyProof.Rows.envOfC]; decide +kernel))) (fun _ _ _ _ _ => (pg_name (i := 6) sc__law_some_shop.nd rfl (by first | exact .inl rfl | exact .inr rfl))) (fun _ _ _ _ _ => dts_nil) (fun _ _ _ _ _ => (de_and (de_cmp (op_eqA hr.units) d_eqA (de_ix (de_var 6 (pv 6)) de_int (fun _ _ => rfl)) de_str (nomark _)) (de_one (de_cmp op_is d_is (de_ix (de_var 6 (pv 6)) de_int (fun _ _ => rfl)) de_non (nomark _))))) (by simp [CT.ins])) da_nil)))
    (dss_one (ds_expr (de_met m_app PySem.F.slot_list_append PySem.F.type_list_append mt_append (de_var 4 (pv 4)) (da_cons (de_callI 1 G__law_some_rule (hr.mono (by decide)) (by rfl) C__law_some_rule.g C__law_some_rule.F.kp C__law_some_rule.b (takes_of rfl rfl rfl rfl) (da_cons (de_var 0 (pv 0)) (da_cons (de_var 1 (pv 1)) (da_cons (de_var 3 (pv 3)) (da_cons (de_var 5 (pv 5)) da_nil))))) da_nil))))))
    (dss_one (ds_ret (de_tup (da_cons (de_var 3 (pv 3)) (da_cons (de_ty d_tuple call_tuple_of (by rfl) B.b_tuple bo_tuple (da_cons (de_var 4 (pv 4)) da_nil)) da_nil)))))))
theorem ok__law_read {P0 : Addr} {cs : List Addr} (XS : Exn K mg P0 cs) {f : Addr} {fd : FuncData} (B : Bl K mg) (F : Fun K "_law_read" "_law_read" s__law_read f fd)
    {a_parse_shop : Addr} {e_parse_shop : FuncData} (C_parse_shop : Cd K mg "parse_shop" s_parse_shop ["text"] a_parse_shop e_parse_shop) (G_parse_shop : FnOk P w K mg base (L2.CX P w) 8 a_parse_shop e_parse_shop ["text"] (spD K mg d_parse_shop))
    {a__law_which : Addr} {e__law_which : FuncData} (C__law_which : Cd K mg "_law_which" s__law_which ["_law_e"] a__law_which e__law_which) (G__law_which : FnX P w K mg base (L2.CX P w) 1 a__law_which e__law_which ["_law_e"] (spWhich cs)) :
    FnOk P w K mg base (L2.CX P w) 9 f fd ["_law_text"] (spD K mg d__law_read) :=
  fn_ok F sc__law_read rfl rfl fun cdv A outer s H vs E env0 hr => by
    exact (dss_one (ds_try (i := 1) G__law_which (L2H.roomH_of (hr.mono (by decide))) (by rfl) C__law_which.g C__law_which.F.kp C__law_which.b XS (by rfl) rfl rfl sc__law_read.nd rfl rfl (by first | exact Or.inl rfl | exact Or.inr (Or.inl rfl)) (by decide) (by decide) (takes_of rfl rfl rfl rfl) rfl (fun W pn xe tk po => (dss_one (ds_ret (de_call G_parse_shop (hr.mono (by decide)) (by rfl) C_parse_shop.g C_parse_shop.F.kp C_parse_shop.b tk (da_cons (de_var 0 (pv 0)) da_nil)))))))
theorem ok_law {f : Addr} {fd : FuncData} (B : Bl K mg) (F : Fun K "law" "law" s_law f fd)
    {a__law_some_shop : Addr} {e__law_some_shop : FuncData} (C__law_some_shop : Cd K mg "_law_some_shop" s__law_some_shop ["_law_script", "_law_state"] a__law_some_shop e__law_some_shop) (G__law_some_shop : FnOk P w K mg base (L2.CX P w) 6 a__law_some_shop e__law_some_shop ["_law_script", "_law_state"] (spD K mg d__law_some_shop))
    {a_format_shop : Addr} {e_format_shop : FuncData} (C_format_shop : Cd K mg "format_shop" s_format_shop ["shop"] a_format_shop e_format_shop) (G_format_shop : FnOk P w K mg base (L2.CX P w) 9 a_format_shop e_format_shop ["shop"] (spD K mg d_format_shop))
    {a__law_draw : Addr} {e__law_draw : FuncData} (C__law_draw : Cd K mg "_law_draw" s__law_draw ["_law_script", "_law_state", "_law_many"] a__law_draw e__law_draw) (G__law_draw : FnOk P w K mg base (L2.CX P w) 3 a__law_draw e__law_draw ["_law_script", "_law_state", "_law_many"] (spD K mg d__law_draw))
    {a__law_pick : Addr} {e__law_pick : FuncData} (C__law_pick : Cd K mg "_law_pick" s__law_pick ["_law_script", "_law_state", "_law_some"] a__law_pick e__law_pick) (G__law_pick : FnOk P w K mg base (L2.CX P w) 4 a__law_pick e__law_pick ["_law_script", "_law_state", "_law_some"] (spD K mg d__law_pick))
    {a__law_read : Addr} {e__law_read : FuncData} (C__law_read : Cd K mg "_law_read" s__law_read ["_law_text"] a__law_read e__law_read) (G__law_read : FnOk P w K mg base (L2.CX P w) 9 a__law_read e__law_read ["_law_text"] (spD K mg d__law_read))
    {a_is_shop : Addr} {e_is_shop : FuncData} (C_is_shop : Cd K mg "is_shop" s_is_shop ["value"] a_is_shop e_is_shop) (G_is_shop : FnOk P w K mg base (L2.CX P w) 7 a_is_shop e_is_shop ["value"] (spD K mg d_is_shop)) :
    FnOk P w K mg base (L2.CX P w) 10 f fd ["_law_script"] (spD K mg d_law) :=
  fn_ok F sc_law rfl rfl fun cdv A outer s H vs E env0 hr => by
    exact (dss_cons (ds_set (i := 1) sc_law.nd rfl (by first | exact .inl rfl | exact .inr rfl) (de_lst da_nil))
    (dss_cons (ds_set (i := 2) sc_law.nd rfl (by first | exact .inl rfl | exact .inr rfl) (de_callI 1 G__law_some_shop (hr.mono (by decide)) (by rfl) C__law_some_shop.g C__law_some_shop.F.kp C__law_some_shop.b (takes_of rfl rfl rfl rfl) (da_cons (de_var 0 (pv 0)) (da_cons (de_var 1 (pv 1)) da_nil))))
    (dss_cons (ds_set (i := 3) sc_law.nd rfl (by first | exact .inl rfl | exact .inr rfl) (de_call G_format_shop (hr.mono (by decide)) (by rfl) C_format_shop.g C_format_shop.F.kp C_format_shop.b (takes_of rfl rfl rfl rfl) (da_cons (de_var 2 (pv 2)) da_nil)))
    (dss_cons (ds_for (passes_of rfl) rfl (di_range1 (by rfl) B.b_range (da_cons de_int da_nil)) (dg_name (pg_name (i := 4) sc_law.nd rfl (by first | exact .inl rfl | exact .inr rfl))) (dss_cons (ds_set (i := 6) sc_law.nd rfl (by first | exact .inl rfl | exact .inr rfl) (de_callI 1 G__law_draw (hr.mono (by decide)) (by rfl) C__law_draw.g C__law_draw.F.kp C__law_draw.b (takes_of rfl rfl rfl rfl) (da_cons (de_var 0 (pv 0)) (da_cons (de_var 1 (pv 1)) (da_cons (de_b d_len call_lenA (by rfl) B.b_len bo_len (da_cons (de_var 3 (pv 3)) da_nil)) da_nil)))))
    (dss_cons (ds_set (i := 7) sc_law.nd rfl (by first | exact .inl rfl | exact .inr rfl) (de_callI 1 G__law_pick (hr.mono (by decide)) (by rfl) C__law_pick.g C__law_pick.F.kp C__law_pick.b (takes_of rfl rfl rfl rfl) (da_cons (de_var 0 (pv 0)) (da_cons (de_var 1 (pv 1)) (da_cons de_str da_nil)))))
    (dss_cons (ds_set (i := 8) sc_law.nd rfl (by first | exact .inl rfl | exact .inr rfl) (de_callI 1 G__law_draw (hr.mono (by decide)) (by rfl) C__law_draw.g C__law_draw.F.kp C__law_draw.b (takes_of rfl rfl rfl rfl) (da_cons (de_var 0 (pv 0)) (da_cons (de_var 1 (pv 1)) (da_cons de_int da_nil)))))
    (dss_cons (ds_set (i := 9) sc_law.nd rfl (by first | exact .inl rfl | exact .inr rfl) (de_op op_addA d_add (de_op op_addA d_add (de_slice (de_var 3 (pv 3)) do_none (do_some (de_var 6 (pv 6)))) (de_if (dt_cmp op_lt d_lt (de_var 8 (pv 8)) de_int (nomark _)) (de_var 7 (pv 7)) de_str)) (de_slice (de_var 3 (pv 3)) (do_some (de_op op_addA d_add (de_var 6 (pv 6)) (de_if (dt_cmp (op_neA hr.units) d_neA (de_var 8 (pv 8)) de_int (nomark _)) de_int de_int))) do_none)))
    (dss_cons (ds_set (i := 10) sc_law.nd rfl (by first | exact .inl rfl | exact .inr rfl) (de_call G__law_read (hr.mono (by decide)) (by rfl) C__law_read.g C__law_read.F.kp C__law_read.b (takes_of rfl rfl rfl rfl) (da_cons (de_var 9 (pv 9)) da_nil)))
    (dss_one (ds_if (PW.pt (dt_and (dt_cmp (op_neA hr.units) d_neA (de_var 10 (pv 10)) (de_tup (da_cons de_str (da_cons de_int da_nil))) (nomark _)) (dt_and1 (PW.pt (dt_or (dt_cmp op_nis d_nis (de_call G_is_shop (hr.mono (by decide)) (by rfl) C_is_shop.g C_is_shop.F.kp C_is_shop.b (takes_of rfl rfl rfl rfl) (da_cons (de_var 10 (pv 10)) da_nil)) de_bl (nomark _)) (dt_or1 (dt_cmp (op_neA hr.units) d_neA (de_call G_format_shop (hr.mono (by decide)) (by rfl) C_format_shop.g C_format_shop.F.kp C_format_shop.b (takes_of rfl rfl rfl rfl) (da_cons (de_var 10 (pv 10)) da_nil)) (de_var 9 (pv 9)) (nomark _)))))))) (dss_one (ds_ret de_bl)) dss_nil))))))))
    (dss_consK (dsk_set (i := 5) sc_law.nd rfl (by first | exact .inl rfl | exact .inr rfl) (dek_lst (dak_cons de_non (dak_cons de_int (dak_consK dek_str (dat_cons (CwR.PET.of (de_op op_addA d_add (de_var 3 (pv 3)) de_str)) (dat_cons (CwR.PET.of (de_op op_addA d_add de_str (de_var 3 (pv 3)))) (dat_cons (CwR.PET.of (de_op op_addA d_add (de_var 3 (pv 3)) de_str)) (dat_cons (CwR.PET.of (de_op op_addA d_add (de_var 3 (pv 3)) de_str)) (dat_cons (det_repl (de_var 3 (pv 3))) (dat_cons (CwR.PET.of (de_op op_addA d_add (de_upper (de_var 3 (pv 3))) de_str)) (pat_of da_nil))))))))))))
    (dsst_cons (PST.of (ds_expr (de_met m_ext PySem.F.slot_list_extend PySem.F.type_list_extend mt_extend (de_var 5 (pv 5)) (da_cons (de_lst (da_consK (dek_op op_mulA d_mulA dek_str de_int) (dat_cons (CwR.PET.of (de_op op_addA d_add (de_op op_mulA d_mulA de_str de_int) de_str)) (dat_cons (CwR.PET.of (de_op op_addA d_add (de_var 3 (pv 3)) de_str)) (dat_cons (CwR.PET.of (de_op op_mulA d_mulA de_str de_int)) (dat_cons (det_repl (de_var 3 (pv 3))) (pat_of da_nil))))))) da_nil))))
    (dsst_cons (dst_expr (det_met m_app PySem.F.slot_list_append PySem.F.type_list_append mt_append (de_var 5 (pv 5)) (dat_cons (det_repl (de_var 3 (pv 3))) (pat_of da_nil))))
    (CwR.psst_one (PST.of (ds_ret (de_b d_all (cr_all rfl) (by rfl) B.b_all bo_all (da_cons (de_lc (own := [("_law_one", 11)]) (t := (.one 11)) rfl sc_law.nd (di_list false (de_var 5 (pv 5))) (blkOk_by (own := [("_law_one", 11)]) (N := ["_law_script", "_law_state", "_law_shop", "_law_text", "_law_again", "_law_bad", "_law_at", "_law_sign", "_law_kind", "_law_other", "_law_own", "_law_one"]) (sc := defScope s_law) (by first | decide +kernel | (dsimp only [Cx.blk, compEnvC]; rw [relabel_is]; dsimp only [cxOf, PyProof.Rows.envOfC]; decide +kernel))) (fun _ _ _ _ _ => (pg_name (i := 11) sc_law.nd rfl (by first | exact .inl rfl | exact .inr rfl))) (fun _ _ _ _ _ => dts_nil) (fun _ _ _ _ _ => (de_cmp (op_eqA hr.units) d_eqA (de_call G__law_read (hr.mono (by decide)) (by rfl) C__law_read.g C__law_read.F.kp C__law_read.b takes0 (da_cons (de_var 11 (pv 11)) da_nil)) (de_tup (da_cons de_str (da_cons de_int da_nil))) (nomark _))) (by simp [CT.ins])) da_nil))))))))))))
end
end DL
namespace DL
open PySem PySem.Spec L2
theorem all_mk {l : PySem.W.OpenLaw} {w : World} {K : PySem.W.Frag} {h : Heap} {mg : Str → Option Value} {fa : Addr} (X : K.In h) (G : h.Ns mainGlobals mg) (hfa : mg "law" = some (.ref fa))
    {f0 f1 f2 f3 f4 f5 f6 f7 f8 f9 f10 f11 f12 f13 f14 f15 f16 f17 f18 f19 f20 f21 f22 f23 f24 f25 f26 f27 f28 f29 f30 f31 f32 f33 : Addr} {od0 an0 od1 an1 od2 an2 od3 an3 od4 an4 od5 an5 od6 an6 od7 an7 od8 an8 od9 an9 od10 an10 od11 an11 od12 an12 od13 an13 od14 an14 od15 an15 od16 an16 od17 an17 od18 an18 od19 an19 od20 an20 od21 an21 od22 an22 od23 an23 od24 an24 od25 an25 od26 an26 od27 an27 od28 an28 od29 an29 od30 an30 od31 an31 od32 an32 od33 an33 : Option Addr} {sl0 sl1 sl2 sl3 sl4 sl5 sl6 sl7 sl8 sl9 sl10 sl11 sl12 sl13 sl14 sl15 sl16 sl17 sl18 sl19 sl20 sl21 sl22 sl23 sl24 sl25 sl26 sl27 sl28 sl29 sl30 sl31 sl32 sl33 : Array (Option Value)}
    {oc0 kV0 dc0 pm0 cd0 ct0 oc1 kV1 dc1 pm1 cd1 ct1 oc2 kV2 dc2 pm2 cd2 ct2 oc3 kV3 dc3 pm3 cd3 ct3 oc4 kV4 dc4 pm4 cd4 ct4 oc5 kV5 dc5 pm5 cd5 ct5 oc6 kV6 dc6 pm6 cd6 ct6 oc7 kV7 dc7 pm7 cd7 ct7 oc8 kV8 dc8 pm8 cd8 ct8 oc9 kV9 dc9 pm9 cd9 ct9 oc10 kV10 dc10 pm10 cd10 ct10 oc11 kV11 dc11 pm11 cd11 ct11 oc12 kV12 dc12 pm12 cd12 ct12 oc13 kV13 dc13 pm13 cd13 ct13 oc14 kV14 dc14 pm14 cd14 ct14 oc15 kV15 dc15 pm15 cd15 ct15 oc16 kV16 dc16 pm16 cd16 ct16 oc17 kV17 dc17 pm17 cd17 ct17 oc18 kV18 dc18 pm18 cd18 ct18 oc19 kV19 dc19 pm19 cd19 ct19 oc20 kV20 dc20 pm20 cd20 ct20 oc21 kV21 dc21 pm21 cd21 ct21 oc22 kV22 dc22 pm22 cd22 ct22 oc23 kV23 dc23 pm23 cd23 ct23 oc24 kV24 dc24 pm24 cd24 ct24 oc25 kV25 dc25 pm25 cd25 ct25 oc26 kV26 dc26 pm26 cd26 ct26 oc27 kV27 dc27 pm27 cd27 ct27 oc28 kV28 dc28 pm28 cd28 ct28 oc29 kV29 dc29 pm29 cd29 ct29 oc30 kV30 dc30 pm30 cd30 ct30 oc31 kV31 dc31 pm31 cd31 ct31 oc32 kV32 dc32 pm32 cd32 ct32 oc33 kV33 dc33 pm33 cd33 ct33 : Value}
    (a0 : PySem.W.nsIn K mainGlobals "is_integer" = some (some (.ref f0)))
    (l0 : K.lookup f0 = some ⟨oc0, od0, .func (PySem.W.fnOf "is_integer" "is_integer" (defArgs s_is_integer) (defBody s_is_integer) (defScope s_is_integer) .none kV0 dc0 pm0 an0 cd0 ct0), sl0⟩) (c0 : PySem.W.codeIn K cd0 "is_integer" = true) (k0 : PySem.W.keepIn K (.ref f0) = true)
    (a1 : PySem.W.nsIn K mainGlobals "is_between" = some (some (.ref f1)))
    (l1 : K.lookup f1 = some ⟨oc1, od1, .func (PySem.W.fnOf "is_between" "is_between" (defArgs s_is_between) (defBody s_is_between) (defScope s_is_between) .none kV1 dc1 pm1 an1 cd1 ct1), sl1⟩) (c1 : PySem.W.codeIn K cd1 "is_between" = true) (k1 : PySem.W.keepIn K (.ref f1) = true)
    (a2 : PySem.W.nsIn K mainGlobals "is_tuple_of" = some (some (.ref f2)))
    (l2 : K.lookup f2 = some ⟨oc2, od2, .func (PySem.W.fnOf "is_tuple_of" "is_tuple_of" (defArgs s_is_tuple_of) (defBody s_is_tuple_of) (defScope s_is_tuple_of) .none kV2 dc2 pm2 an2 cd2 ct2), sl2⟩) (c2 : PySem.W.codeIn K cd2 "is_tuple_of" = true) (k2 : PySem.W.keepIn K (.ref f2) = true)
    (a3 : PySem.W.nsIn K mainGlobals "is_most" = some (some (.ref f3)))
    (l3 : K.lookup f3 = some ⟨oc3, od3, .func (PySem.W.fnOf "is_most" "is_most" (defArgs s_is_most) (defBody s_is_most) (defScope s_is_most) .none kV3 dc3 pm3 an3 cd3 ct3), sl3⟩) (c3 : PySem.W.codeIn K cd3 "is_most" = true) (k3 : PySem.W.keepIn K (.ref f3) = true)
    (a4 : PySem.W.nsIn K mainGlobals "is_good" = some (some (.ref f4)))
    (l4 : K.lookup f4 = some ⟨oc4, od4, .func (PySem.W.fnOf "is_good" "is_good" (defArgs s_is_good) (defBody s_is_good) (defScope s_is_good) .none kV4 dc4 pm4 an4 cd4 ct4), sl4⟩) (c4 : PySem.W.codeIn K cd4 "is_good" = true) (k4 : PySem.W.keepIn K (.ref f4) = true)
    (a5 : PySem.W.nsIn K mainGlobals "is_pack" = some (some (.ref f5)))
    (l5 : K.lookup f5 = some ⟨oc5, od5, .func (PySem.W.fnOf "is_pack" "is_pack" (defArgs s_is_pack) (defBody s_is_pack) (defScope s_is_pack) .none kV5 dc5 pm5 an5 cd5 ct5), sl5⟩) (c5 : PySem.W.codeIn K cd5 "is_pack" = true) (k5 : PySem.W.keepIn K (.ref f5) = true)
    (a6 : PySem.W.nsIn K mainGlobals "is_from" = some (some (.ref f6)))
    (l6 : K.lookup f6 = some ⟨oc6, od6, .func (PySem.W.fnOf "is_from" "is_from" (defArgs s_is_from) (defBody s_is_from) (defScope s_is_from) .none kV6 dc6 pm6 an6 cd6 ct6), sl6⟩) (c6 : PySem.W.codeIn K cd6 "is_from" = true) (k6 : PySem.W.keepIn K (.ref f6) = true)
    (a7 : PySem.W.nsIn K mainGlobals "is_over" = some (some (.ref f7)))
    (l7 : K.lookup f7 = some ⟨oc7, od7, .func (PySem.W.fnOf "is_over" "is_over" (defArgs s_is_over) (defBody s_is_over) (defScope s_is_over) .none kV7 dc7 pm7 an7 cd7 ct7), sl7⟩) (c7 : PySem.W.codeIn K cd7 "is_over" = true) (k7 : PySem.W.keepIn K (.ref f7) = true)
    (a8 : PySem.W.nsIn K mainGlobals "is_each" = some (some (.ref f8)))
    (l8 : K.lookup f8 = some ⟨oc8, od8, .func (PySem.W.fnOf "is_each" "is_each" (defArgs s_is_each) (defBody s_is_each) (defScope s_is_each) .none kV8 dc8 pm8 an8 cd8 ct8), sl8⟩) (c8 : PySem.W.codeIn K cd8 "is_each" = true) (k8 : PySem.W.keepIn K (.ref f8) = true)
    (a9 : PySem.W.nsIn K mainGlobals "is_rule" = some (some (.ref f9)))
    (l9 : K.lookup f9 = some ⟨oc9, od9, .func (PySem.W.fnOf "is_rule" "is_rule" (defArgs s_is_rule) (defBody s_is_rule) (defScope s_is_rule) .none kV9 dc9 pm9 an9 cd9 ct9), sl9⟩) (c9 : PySem.W.codeIn K cd9 "is_rule" = true) (k9 : PySem.W.keepIn K (.ref f9) = true)
    (a10 : PySem.W.nsIn K mainGlobals "is_endless_each" = some (some (.ref f10)))
    (l10 : K.lookup f10 = some ⟨oc10, od10, .func (PySem.W.fnOf "is_endless_each" "is_endless_each" (defArgs s_is_endless_each) (defBody s_is_endless_each) (defScope s_is_endless_each) .none kV10 dc10 pm10 an10 cd10 ct10), sl10⟩) (c10 : PySem.W.codeIn K cd10 "is_endless_each" = true) (k10 : PySem.W.keepIn K (.ref f10) = true)
    (a11 : PySem.W.nsIn K mainGlobals "are_goods" = some (some (.ref f11)))
    (l11 : K.lookup f11 = some ⟨oc11, od11, .func (PySem.W.fnOf "are_goods" "are_goods" (defArgs s_are_goods) (defBody s_are_goods) (defScope s_are_goods) .none kV11 dc11 pm11 an11 cd11 ct11), sl11⟩) (c11 : PySem.W.codeIn K cd11 "are_goods" = true) (k11 : PySem.W.keepIn K (.ref f11) = true)
    (a12 : PySem.W.nsIn K mainGlobals "are_rules" = some (some (.ref f12)))
    (l12 : K.lookup f12 = some ⟨oc12, od12, .func (PySem.W.fnOf "are_rules" "are_rules" (defArgs s_are_rules) (defBody s_are_rules) (defScope s_are_rules) .none kV12 dc12 pm12 an12 cd12 ct12), sl12⟩) (c12 : PySem.W.codeIn K cd12 "are_rules" = true) (k12 : PySem.W.keepIn K (.ref f12) = true)
    (a13 : PySem.W.nsIn K mainGlobals "is_shop" = some (some (.ref f13)))
    (l13 : K.lookup f13 = some ⟨oc13, od13, .func (PySem.W.fnOf "is_shop" "is_shop" (defArgs s_is_shop) (defBody s_is_shop) (defScope s_is_shop) .none kV13 dc13 pm13 an13 cd13 ct13), sl13⟩) (c13 : PySem.W.codeIn K cd13 "is_shop" = true) (k13 : PySem.W.keepIn K (.ref f13) = true)
    (a14 : PySem.W.nsIn K mainGlobals "check_shop" = some (some (.ref f14)))
    (l14 : K.lookup f14 = some ⟨oc14, od14, .func (PySem.W.fnOf "check_shop" "check_shop" (defArgs s_check_shop) (defBody s_check_shop) (defScope s_check_shop) .none kV14 dc14 pm14 an14 cd14 ct14), sl14⟩) (c14 : PySem.W.codeIn K cd14 "check_shop" = true) (k14 : PySem.W.keepIn K (.ref f14) = true)
    (a15 : PySem.W.nsIn K mainGlobals "format_item" = some (some (.ref f15)))
    (l15 : K.lookup f15 = some ⟨oc15, od15, .func (PySem.W.fnOf "format_item" "format_item" (defArgs s_format_item) (defBody s_format_item) (defScope s_format_item) .none kV15 dc15 pm15 an15 cd15 ct15), sl15⟩) (c15 : PySem.W.codeIn K cd15 "format_item" = true) (k15 : PySem.W.keepIn K (.ref f15) = true)
    (a16 : PySem.W.nsIn K mainGlobals "format_good" = some (some (.ref f16)))
    (l16 : K.lookup f16 = some ⟨oc16, od16, .func (PySem.W.fnOf "format_good" "format_good" (defArgs s_format_good) (defBody s_format_good) (defScope s_format_good) .none kV16 dc16 pm16 an16 cd16 ct16), sl16⟩) (c16 : PySem.W.codeIn K cd16 "format_good" = true) (k16 : PySem.W.keepIn K (.ref f16) = true)
    (a17 : PySem.W.nsIn K mainGlobals "format_rule" = some (some (.ref f17)))
    (l17 : K.lookup f17 = some ⟨oc17, od17, .func (PySem.W.fnOf "format_rule" "format_rule" (defArgs s_format_rule) (defBody s_format_rule) (defScope s_format_rule) .none kV17 dc17 pm17 an17 cd17 ct17), sl17⟩) (c17 : PySem.W.codeIn K cd17 "format_rule" = true) (k17 : PySem.W.keepIn K (.ref f17) = true)
    (a18 : PySem.W.nsIn K mainGlobals "format_shop" = some (some (.ref f18)))
    (l18 : K.lookup f18 = some ⟨oc18, od18, .func (PySem.W.fnOf "format_shop" "format_shop" (defArgs s_format_shop) (defBody s_format_shop) (defScope s_format_shop) .none kV18 dc18 pm18 an18 cd18 ct18), sl18⟩) (c18 : PySem.W.codeIn K cd18 "format_shop" = true) (k18 : PySem.W.keepIn K (.ref f18) = true)
    (a19 : PySem.W.nsIn K mainGlobals "read_item" = some (some (.ref f19)))
    (l19 : K.lookup f19 = some ⟨oc19, od19, .func (PySem.W.fnOf "read_item" "read_item" (defArgs s_read_item) (defBody s_read_item) (defScope s_read_item) .none kV19 dc19 pm19 an19 cd19 ct19), sl19⟩) (c19 : PySem.W.codeIn K cd19 "read_item" = true) (k19 : PySem.W.keepIn K (.ref f19) = true)
    (a20 : PySem.W.nsIn K mainGlobals "read_items" = some (some (.ref f20)))
    (l20 : K.lookup f20 = some ⟨oc20, od20, .func (PySem.W.fnOf "read_items" "read_items" (defArgs s_read_items) (defBody s_read_items) (defScope s_read_items) .none kV20 dc20 pm20 an20 cd20 ct20), sl20⟩) (c20 : PySem.W.codeIn K cd20 "read_items" = true) (k20 : PySem.W.keepIn K (.ref f20) = true)
    (a21 : PySem.W.nsIn K mainGlobals "read_rules" = some (some (.ref f21)))
    (l21 : K.lookup f21 = some ⟨oc21, od21, .func (PySem.W.fnOf "read_rules" "read_rules" (defArgs s_read_rules) (defBody s_read_rules) (defScope s_read_rules) .none kV21 dc21 pm21 an21 cd21 ct21), sl21⟩) (c21 : PySem.W.codeIn K cd21 "read_rules" = true) (k21 : PySem.W.keepIn K (.ref f21) = true)
    (a22 : PySem.W.nsIn K mainGlobals "read_shop" = some (some (.ref f22)))
    (l22 : K.lookup f22 = some ⟨oc22, od22, .func (PySem.W.fnOf "read_shop" "read_shop" (defArgs s_read_shop) (defBody s_read_shop) (defScope s_read_shop) .none kV22 dc22 pm22 an22 cd22 ct22), sl22⟩) (c22 : PySem.W.codeIn K cd22 "read_shop" = true) (k22 : PySem.W.keepIn K (.ref f22) = true)
    (a23 : PySem.W.nsIn K mainGlobals "parse_shop" = some (some (.ref f23)))
    (l23 : K.lookup f23 = some ⟨oc23, od23, .func (PySem.W.fnOf "parse_shop" "parse_shop" (defArgs s_parse_shop) (defBody s_parse_shop) (defScope s_parse_shop) .none kV23 dc23 pm23 an23 cd23 ct23), sl23⟩) (c23 : PySem.W.codeIn K cd23 "parse_shop" = true) (k23 : PySem.W.keepIn K (.ref f23) = true)
    (a24 : PySem.W.nsIn K mainGlobals "_law_cell_at" = some (some (.ref f24)))
    (l24 : K.lookup f24 = some ⟨oc24, od24, .func (PySem.W.fnOf "_law_cell_at" "_law_cell_at" (defArgs s__law_cell_at) (defBody s__law_cell_at) (defScope s__law_cell_at) .none kV24 dc24 pm24 an24 cd24 ct24), sl24⟩) (c24 : PySem.W.codeIn K cd24 "_law_cell_at" = true) (k24 : PySem.W.keepIn K (.ref f24) = true)
    (a25 : PySem.W.nsIn K mainGlobals "_law_mixed" = some (some (.ref f25)))
    (l25 : K.lookup f25 = some ⟨oc25, od25, .func (PySem.W.fnOf "_law_mixed" "_law_mixed" (defArgs s__law_mixed) (defBody s__law_mixed) (defScope s__law_mixed) .none kV25 dc25 pm25 an25 cd25 ct25), sl25⟩) (c25 : PySem.W.codeIn K cd25 "_law_mixed" = true) (k25 : PySem.W.keepIn K (.ref f25) = true)
    (a26 : PySem.W.nsIn K mainGlobals "_law_draw" = some (some (.ref f26)))
    (l26 : K.lookup f26 = some ⟨oc26, od26, .func (PySem.W.fnOf "_law_draw" "_law_draw" (defArgs s__law_draw) (defBody s__law_draw) (defScope s__law_draw) .none kV26 dc26 pm26 an26 cd26 ct26), sl26⟩) (c26 : PySem.W.codeIn K cd26 "_law_draw" = true) (k26 : PySem.W.keepIn K (.ref f26) = true)
    (a27 : PySem.W.nsIn K mainGlobals "_law_pick" = some (some (.ref f27)))
    (l27 : K.lookup f27 = some ⟨oc27, od27, .func (PySem.W.fnOf "_law_pick" "_law_pick" (defArgs s__law_pick) (defBody s__law_pick) (defScope s__law_pick) .none kV27 dc27 pm27 an27 cd27 ct27), sl27⟩) (c27 : PySem.W.codeIn K cd27 "_law_pick" = true) (k27 : PySem.W.keepIn K (.ref f27) = true)
    (a28 : PySem.W.nsIn K mainGlobals "_law_which" = some (some (.ref f28)))
    (l28 : K.lookup f28 = some ⟨oc28, od28, .func (PySem.W.fnOf "_law_which" "_law_which" (defArgs s__law_which) (defBody s__law_which) (defScope s__law_which) .none kV28 dc28 pm28 an28 cd28 ct28), sl28⟩) (c28 : PySem.W.codeIn K cd28 "_law_which" = true) (k28 : PySem.W.keepIn K (.ref f28) = true)
    (a29 : PySem.W.nsIn K mainGlobals "_law_some_rule" = some (some (.ref f29)))
    (l29 : K.lookup f29 = some ⟨oc29, od29, .func (PySem.W.fnOf "_law_some_rule" "_law_some_rule" (defArgs s__law_some_rule) (defBody s__law_some_rule) (defScope s__law_some_rule) .none kV29 dc29 pm29 an29 cd29 ct29), sl29⟩) (c29 : PySem.W.codeIn K cd29 "_law_some_rule" = true) (k29 : PySem.W.keepIn K (.ref f29) = true)
    (a30 : PySem.W.nsIn K mainGlobals "_law_some_goods" = some (some (.ref f30)))
    (l30 : K.lookup f30 = some ⟨oc30, od30, .func (PySem.W.fnOf "_law_some_goods" "_law_some_goods" (defArgs s__law_some_goods) (defBody s__law_some_goods) (defScope s__law_some_goods) .none kV30 dc30 pm30 an30 cd30 ct30), sl30⟩) (c30 : PySem.W.codeIn K cd30 "_law_some_goods" = true) (k30 : PySem.W.keepIn K (.ref f30) = true)
    (a31 : PySem.W.nsIn K mainGlobals "_law_some_shop" = some (some (.ref f31)))
    (l31 : K.lookup f31 = some ⟨oc31, od31, .func (PySem.W.fnOf "_law_some_shop" "_law_some_shop" (defArgs s__law_some_shop) (defBody s__law_some_shop) (defScope s__law_some_shop) .none kV31 dc31 pm31 an31 cd31 ct31), sl31⟩) (c31 : PySem.W.codeIn K cd31 "_law_some_shop" = true) (k31 : PySem.W.keepIn K (.ref f31) = true)
    (a32 : PySem.W.nsIn K mainGlobals "_law_read" = some (some (.ref f32)))
    (l32 : K.lookup f32 = some ⟨oc32, od32, .func (PySem.W.fnOf "_law_read" "_law_read" (defArgs s__law_read) (defBody s__law_read) (defScope s__law_read) .none kV32 dc32 pm32 an32 cd32 ct32), sl32⟩) (c32 : PySem.W.codeIn K cd32 "_law_read" = true) (k32 : PySem.W.keepIn K (.ref f32) = true)
    (a33 : PySem.W.nsIn K mainGlobals "law" = some (some (.ref f33)))
    (l33 : K.lookup f33 = some ⟨oc33, od33, .func (PySem.W.fnOf "law" "law" (defArgs s_law) (defBody s_law) (defScope s_law) .none kV33 dc33 pm33 an33 cd33 ct33), sl33⟩) (c33 : PySem.W.codeIn K cd33 "law" = true) (k33 : PySem.W.keepIn K (.ref f33) = true)
    (z_ValueError : PySem.W.nsIn K mainGlobals "ValueError" = some none)
    (z_all : PySem.W.nsIn K mainGlobals "all" = some none)
    (z_any : PySem.W.nsIn K mainGlobals "any" = some none)
    (z_bool : PySem.W.nsIn K mainGlobals "bool" = some none)
    (z_int : PySem.W.nsIn K mainGlobals "int" = some none)
    (z_isinstance : PySem.W.nsIn K mainGlobals "isinstance" = some none)
    (z_len : PySem.W.nsIn K mainGlobals "len" = some none)
    (z_max : PySem.W.nsIn K mainGlobals "max" = some none)
    (z_min : PySem.W.nsIn K mainGlobals "min" = some none)
    (z_range : PySem.W.nsIn K mainGlobals "range" = some none)
    (z_str : PySem.W.nsIn K mainGlobals "str" = some none)
    (z_tuple : PySem.W.nsIn K mainGlobals "tuple" = some none)
    {t_MOST_DIGITS : Tok} (y_MOST_DIGITS : PySem.W.nsIn K mainGlobals "MOST_DIGITS" = some (some (.int 2 t_MOST_DIGITS)))
    {t_MOST_GOODS : Tok} (y_MOST_GOODS : PySem.W.nsIn K mainGlobals "MOST_GOODS" = some (some (.int 2 t_MOST_GOODS)))
    {t_MOST_RULES : Tok} (y_MOST_RULES : PySem.W.nsIn K mainGlobals "MOST_RULES" = some (some (.int 4 t_MOST_RULES)))
    {t_NO_MOST : Tok} (y_NO_MOST : PySem.W.nsIn K mainGlobals "NO_MOST" = some (some (.str "-" t_NO_MOST)))
    {t_NO_RULES : Tok} (y_NO_RULES : PySem.W.nsIn K mainGlobals "NO_RULES" = some (some (.str "none" t_NO_RULES)))
    {c_Different : Addr} (e_Different : PySem.W.nsIn K mainGlobals "Different" = some (some (.ref c_Different)))
    {c_InvalidAct : Addr} (e_InvalidAct : PySem.W.nsIn K mainGlobals "InvalidAct" = some (some (.ref c_InvalidAct)))
    {c_InvalidActs : Addr} (e_InvalidActs : PySem.W.nsIn K mainGlobals "InvalidActs" = some (some (.ref c_InvalidActs)))
    {c_InvalidBasket : Addr} (e_InvalidBasket : PySem.W.nsIn K mainGlobals "InvalidBasket" = some (some (.ref c_InvalidBasket)))
    {c_InvalidKinds : Addr} (e_InvalidKinds : PySem.W.nsIn K mainGlobals "InvalidKinds" = some (some (.ref c_InvalidKinds)))
    {c_InvalidNumber : Addr} (e_InvalidNumber : PySem.W.nsIn K mainGlobals "InvalidNumber" = some (some (.ref c_InvalidNumber)))
    {c_InvalidOffers : Addr} (e_InvalidOffers : PySem.W.nsIn K mainGlobals "InvalidOffers" = some (some (.ref c_InvalidOffers)))
    {c_InvalidShop : Addr} (e_InvalidShop : PySem.W.nsIn K mainGlobals "InvalidShop" = some (some (.ref c_InvalidShop)))
    {c_NoFault : Addr} (e_NoFault : PySem.W.nsIn K mainGlobals "NoFault" = some (some (.ref c_NoFault)))
    {c_NotThere : Addr} (e_NotThere : PySem.W.nsIn K mainGlobals "NotThere" = some (some (.ref c_NotThere)))
    {c_NothingToUndo : Addr} (e_NothingToUndo : PySem.W.nsIn K mainGlobals "NothingToUndo" = some (some (.ref c_NothingToUndo)))
    {c_ParseError : Addr} (e_ParseError : PySem.W.nsIn K mainGlobals "ParseError" = some (some (.ref c_ParseError)))
    {c_PriceError : Addr} (e_PriceError : PySem.W.nsIn K mainGlobals "PriceError" = some (some (.ref c_PriceError)))
    (q_InvalidShop : PySem.W.excIn K c_InvalidShop [.type "ValueError", .type "Exception", .type "BaseException", .type "object"] "ValueError.__new__" = true) (p_InvalidShop : PySem.W.keepIn K (.ref c_InvalidShop) = true) (r_InvalidShop : PySem.W.subIn K (.ref c_InvalidShop) (.type "BaseException") = some true)
    (q_ParseError : PySem.W.excIn K c_ParseError [.type "ValueError", .type "Exception", .type "BaseException", .type "object"] "ValueError.__new__" = true) (p_ParseError : PySem.W.keepIn K (.ref c_ParseError) = true) (r_ParseError : PySem.W.subIn K (.ref c_ParseError) (.type "BaseException") = some true)
    (w_Different : PySem.W.typeIn K (.ref c_Different) = some (.type "type"))
    (w_InvalidAct : PySem.W.typeIn K (.ref c_InvalidAct) = some (.type "type"))
    (w_InvalidActs : PySem.W.typeIn K (.ref c_InvalidActs) = some (.type "type"))
    (w_InvalidBasket : PySem.W.typeIn K (.ref c_InvalidBasket) = some (.type "type"))
    (w_InvalidKinds : PySem.W.typeIn K (.ref c_InvalidKinds) = some (.type "type"))
    (w_InvalidNumber : PySem.W.typeIn K (.ref c_InvalidNumber) = some (.type "type"))
    (w_InvalidOffers : PySem.W.typeIn K (.ref c_InvalidOffers) = some (.type "type"))
    (w_InvalidShop : PySem.W.typeIn K (.ref c_InvalidShop) = some (.type "type"))
    (w_NoFault : PySem.W.typeIn K (.ref c_NoFault) = some (.type "type"))
    (w_NotThere : PySem.W.typeIn K (.ref c_NotThere) = some (.type "type"))
    (w_NothingToUndo : PySem.W.typeIn K (.ref c_NothingToUndo) = some (.type "type"))
    (w_ParseError : PySem.W.typeIn K (.ref c_ParseError) = some (.type "type"))
    (w_PriceError : PySem.W.typeIn K (.ref c_PriceError) = some (.type "type"))
    {d_InvalidShop : ClassData} (m_InvalidShop : PySem.W.clsIn K c_InvalidShop = some d_InvalidShop) (n_InvalidShop : d_InvalidShop.mro = [.ref c_InvalidShop, .ref c_PriceError, .type "ValueError", .type "Exception", .type "BaseException", .type "object"])
    (v_InvalidShop : PySem.W.findIn K (.ref c_InvalidShop) "__getattribute__" = some (some (.builtin "BaseException.__getattribute__"))) (j_InvalidShop : PySem.W.findIn K (.ref c_InvalidShop) "__getattr__" = some none) (o_InvalidShop : PySem.W.hasDictIn K c_InvalidShop = true) (i_InvalidShop : PySem.W.findIn K (.ref c_InvalidShop) "__class__" = some (some (.builtin "object.__class__")))
    {d_InvalidBasket : ClassData} (m_InvalidBasket : PySem.W.clsIn K c_InvalidBasket = some d_InvalidBasket) (n_InvalidBasket : d_InvalidBasket.mro = [.ref c_InvalidBasket, .ref c_PriceError, .type "ValueError", .type "Exception", .type "BaseException", .type "object"])
    (v_InvalidBasket : PySem.W.findIn K (.ref c_InvalidBasket) "__getattribute__" = some (some (.builtin "BaseException.__getattribute__"))) (j_InvalidBasket : PySem.W.findIn K (.ref c_InvalidBasket) "__getattr__" = some none) (o_InvalidBasket : PySem.W.hasDictIn K c_InvalidBasket = true) (i_InvalidBasket : PySem.W.findIn K (.ref c_InvalidBasket) "__class__" = some (some (.builtin "object.__class__")))
    {d_InvalidActs : ClassData} (m_InvalidActs : PySem.W.clsIn K c_InvalidActs = some d_InvalidActs) (n_InvalidActs : d_InvalidActs.mro = [.ref c_InvalidActs, .ref c_PriceError, .type "ValueError", .type "Exception", .type "BaseException", .type "object"])
    (v_InvalidActs : PySem.W.findIn K (.ref c_InvalidActs) "__getattribute__" = some (some (.builtin "BaseException.__getattribute__"))) (j_InvalidActs : PySem.W.findIn K (.ref c_InvalidActs) "__getattr__" = some none) (o_InvalidActs : PySem.W.hasDictIn K c_InvalidActs = true) (i_InvalidActs : PySem.W.findIn K (.ref c_InvalidActs) "__class__" = some (some (.builtin "object.__class__")))
    {d_InvalidAct : ClassData} (m_InvalidAct : PySem.W.clsIn K c_InvalidAct = some d_InvalidAct) (n_InvalidAct : d_InvalidAct.mro = [.ref c_InvalidAct, .ref c_PriceError, .type "ValueError", .type "Exception", .type "BaseException", .type "object"])
    (v_InvalidAct : PySem.W.findIn K (.ref c_InvalidAct) "__getattribute__" = some (some (.builtin "BaseException.__getattribute__"))) (j_InvalidAct : PySem.W.findIn K (.ref c_InvalidAct) "__getattr__" = some none) (o_InvalidAct : PySem.W.hasDictIn K c_InvalidAct = true) (i_InvalidAct : PySem.W.findIn K (.ref c_InvalidAct) "__class__" = some (some (.builtin "object.__class__")))
    {d_InvalidOffers : ClassData} (m_InvalidOffers : PySem.W.clsIn K c_InvalidOffers = some d_InvalidOffers) (n_InvalidOffers : d_InvalidOffers.mro = [.ref c_InvalidOffers, .ref c_PriceError, .type "ValueError", .type "Exception", .type "BaseException", .type "object"])
    (v_InvalidOffers : PySem.W.findIn K (.ref c_InvalidOffers) "__getattribute__" = some (some (.builtin "BaseException.__getattribute__"))) (j_InvalidOffers : PySem.W.findIn K (.ref c_InvalidOffers) "__getattr__" = some none) (o_InvalidOffers : PySem.W.hasDictIn K c_InvalidOffers = true) (i_InvalidOffers : PySem.W.findIn K (.ref c_InvalidOffers) "__class__" = some (some (.builtin "object.__class__")))
    {d_InvalidKinds : ClassData} (m_InvalidKinds : PySem.W.clsIn K c_InvalidKinds = some d_InvalidKinds) (n_InvalidKinds : d_InvalidKinds.mro = [.ref c_InvalidKinds, .ref c_PriceError, .type "ValueError", .type "Exception", .type "BaseException", .type "object"])
    (v_InvalidKinds : PySem.W.findIn K (.ref c_InvalidKinds) "__getattribute__" = some (some (.builtin "BaseException.__getattribute__"))) (j_InvalidKinds : PySem.W.findIn K (.ref c_InvalidKinds) "__getattr__" = some none) (o_InvalidKinds : PySem.W.hasDictIn K c_InvalidKinds = true) (i_InvalidKinds : PySem.W.findIn K (.ref c_InvalidKinds) "__class__" = some (some (.builtin "object.__class__")))
    {d_InvalidNumber : ClassData} (m_InvalidNumber : PySem.W.clsIn K c_InvalidNumber = some d_InvalidNumber) (n_InvalidNumber : d_InvalidNumber.mro = [.ref c_InvalidNumber, .ref c_PriceError, .type "ValueError", .type "Exception", .type "BaseException", .type "object"])
    (v_InvalidNumber : PySem.W.findIn K (.ref c_InvalidNumber) "__getattribute__" = some (some (.builtin "BaseException.__getattribute__"))) (j_InvalidNumber : PySem.W.findIn K (.ref c_InvalidNumber) "__getattr__" = some none) (o_InvalidNumber : PySem.W.hasDictIn K c_InvalidNumber = true) (i_InvalidNumber : PySem.W.findIn K (.ref c_InvalidNumber) "__class__" = some (some (.builtin "object.__class__")))
    {d_Different : ClassData} (m_Different : PySem.W.clsIn K c_Different = some d_Different) (n_Different : d_Different.mro = [.ref c_Different, .ref c_PriceError, .type "ValueError", .type "Exception", .type "BaseException", .type "object"])
    (v_Different : PySem.W.findIn K (.ref c_Different) "__getattribute__" = some (some (.builtin "BaseException.__getattribute__"))) (j_Different : PySem.W.findIn K (.ref c_Different) "__getattr__" = some none) (o_Different : PySem.W.hasDictIn K c_Different = true) (i_Different : PySem.W.findIn K (.ref c_Different) "__class__" = some (some (.builtin "object.__class__")))
    {d_NoFault : ClassData} (m_NoFault : PySem.W.clsIn K c_NoFault = some d_NoFault) (n_NoFault : d_NoFault.mro = [.ref c_NoFault, .ref c_PriceError, .type "ValueError", .type "Exception", .type "BaseException", .type "object"])
    (v_NoFault : PySem.W.findIn K (.ref c_NoFault) "__getattribute__" = some (some (.builtin "BaseException.__getattribute__"))) (j_NoFault : PySem.W.findIn K (.ref c_NoFault) "__getattr__" = some none) (o_NoFault : PySem.W.hasDictIn K c_NoFault = true) (i_NoFault : PySem.W.findIn K (.ref c_NoFault) "__class__" = some (some (.builtin "object.__class__")))
    {d_NotThere : ClassData} (m_NotThere : PySem.W.clsIn K c_NotThere = some d_NotThere) (n_NotThere : d_NotThere.mro = [.ref c_NotThere, .ref c_PriceError, .type "ValueError", .type "Exception", .type "BaseException", .type "object"])
    (v_NotThere : PySem.W.findIn K (.ref c_NotThere) "__getattribute__" = some (some (.builtin "BaseException.__getattribute__"))) (j_NotThere : PySem.W.findIn K (.ref c_NotThere) "__getattr__" = some none) (o_NotThere : PySem.W.hasDictIn K c_NotThere = true) (i_NotThere : PySem.W.findIn K (.ref c_NotThere) "__class__" = some (some (.builtin "object.__class__")))
    {d_NothingToUndo : ClassData} (m_NothingToUndo : PySem.W.clsIn K c_NothingToUndo = some d_NothingToUndo) (n_NothingToUndo : d_NothingToUndo.mro = [.ref c_NothingToUndo, .ref c_PriceError, .type "ValueError", .type "Exception", .type "BaseException", .type "object"])
    (v_NothingToUndo : PySem.W.findIn K (.ref c_NothingToUndo) "__getattribute__" = some (some (.builtin "BaseException.__getattribute__"))) (j_NothingToUndo : PySem.W.findIn K (.ref c_NothingToUndo) "__getattr__" = some none) (o_NothingToUndo : PySem.W.hasDictIn K c_NothingToUndo = true) (i_NothingToUndo : PySem.W.findIn K (.ref c_NothingToUndo) "__class__" = some (some (.builtin "object.__class__")))
    {d_ParseError : ClassData} (m_ParseError : PySem.W.clsIn K c_ParseError = some d_ParseError) (n_ParseError : d_ParseError.mro = [.ref c_ParseError, .ref c_PriceError, .type "ValueError", .type "Exception", .type "BaseException", .type "object"])
    (v_ParseError : PySem.W.findIn K (.ref c_ParseError) "__getattribute__" = some (some (.builtin "BaseException.__getattribute__"))) (j_ParseError : PySem.W.findIn K (.ref c_ParseError) "__getattr__" = some none) (o_ParseError : PySem.W.hasDictIn K c_ParseError = true) (i_ParseError : PySem.W.findIn K (.ref c_ParseError) "__class__" = some (some (.builtin "object.__class__")))
    (bP : PySem.W.subIn K (.ref c_PriceError) (.type "BaseException") = some true) (iP : PySem.W.isClsIn K c_PriceError = true)
    (hn : PySem.W.specialIn K (.builtin "object.__class__") "__get__" = some (some (.builtin "getset_descriptor.__get__"))) (ht : PySem.W.takesIn K (.builtin "object.__class__") = some true)
    (nd : [c_PriceError, c_InvalidShop, c_InvalidBasket, c_InvalidActs, c_InvalidAct, c_InvalidOffers, c_InvalidKinds, c_InvalidNumber, c_Different, c_NoFault, c_NotThere, c_NothingToUndo, c_ParseError].Nodup)
    (D0 : ∀ ns : List Int, ns.length ≤ 63 → ∃ o, d_law [.im (.fz (ns.map D.int))] = .ok (.im (.bl true)) o) :
    ∃ fd : FuncData, (∀ (s : Shared) (v : Value), BindsTo s fd ⟨[v], []⟩ [("_law_script", v)]) ∧ ∀ base : Heap, K.In base → base.Ns mainGlobals mg → FnOk l.prog w K mg base (L2.CX l.prog w) 10 fa fd ["_law_script"] (spLaw K) := by
  have e := hfa.symm.trans (PySem.W.mg_of X G a33)
  cases e
  have B : Bl K mg := ⟨PySem.W.mg_none_of X G z_ValueError, PySem.W.mg_none_of X G z_all, PySem.W.mg_none_of X G z_any, PySem.W.mg_none_of X G z_bool, PySem.W.mg_none_of X G z_int, PySem.W.mg_none_of X G z_isinstance, PySem.W.mg_none_of X G z_len, PySem.W.mg_none_of X G z_max, PySem.W.mg_none_of X G z_min, PySem.W.mg_none_of X G z_range, PySem.W.mg_none_of X G z_str, PySem.W.mg_none_of X G z_tuple, ⟨_, PySem.W.mg_of X G y_MOST_DIGITS, _, rfl⟩, ⟨_, PySem.W.mg_of X G y_MOST_GOODS, _, rfl⟩, ⟨_, PySem.W.mg_of X G y_MOST_RULES, _, rfl⟩, ⟨_, .str "-", PySem.W.mg_of X G y_NO_MOST, ⟨_, rfl⟩, fun _ _ => .str _⟩, ⟨_, .str "none", PySem.W.mg_of X G y_NO_RULES, ⟨_, rfl⟩, fun _ _ => .str _⟩, ⟨_, PySem.W.mg_of X G e_InvalidShop, q_InvalidShop, p_InvalidShop, r_InvalidShop, w_InvalidShop⟩, ⟨_, PySem.W.mg_of X G e_ParseError, q_ParseError, p_ParseError, r_ParseError, w_ParseError⟩⟩
  have F0 := fun_mk (st := s_is_integer) l0 c0 k0
  have C0 : Cd K mg "is_integer" s_is_integer ["value"] _ _ := ⟨F0, PySem.W.mg_of X G a0, F0.binds (ps := ["value"]) fun _ _ _ _ _ _ us hl => match us, hl with | [_], _ => rfl⟩
  have F1 := fun_mk (st := s_is_between) l1 c1 k1
  have C1 : Cd K mg "is_between" s_is_between ["value", "low", "high"] _ _ := ⟨F1, PySem.W.mg_of X G a1, F1.binds (ps := ["value", "low", "high"]) fun _ _ _ _ _ _ us hl => match us, hl with | [_, _, _], _ => rfl⟩
  have F2 := fun_mk (st := s_is_tuple_of) l2 c2 k2
  have C2 : Cd K mg "is_tuple_of" s_is_tuple_of ["value", "length"] _ _ := ⟨F2, PySem.W.mg_of X G a2, F2.binds (ps := ["value", "length"]) fun _ _ _ _ _ _ us hl => match us, hl with | [_, _], _ => rfl⟩
  have F3 := fun_mk (st := s_is_most) l3 c3 k3
  have C3 : Cd K mg "is_most" s_is_most ["value"] _ _ := ⟨F3, PySem.W.mg_of X G a3, F3.binds (ps := ["value"]) fun _ _ _ _ _ _ us hl => match us, hl with | [_], _ => rfl⟩
  have F4 := fun_mk (st := s_is_good) l4 c4 k4
  have C4 : Cd K mg "is_good" s_is_good ["value"] _ _ := ⟨F4, PySem.W.mg_of X G a4, F4.binds (ps := ["value"]) fun _ _ _ _ _ _ us hl => match us, hl with | [_], _ => rfl⟩
  have F5 := fun_mk (st := s_is_pack) l5 c5 k5
  have C5 : Cd K mg "is_pack" s_is_pack ["value", "many_goods"] _ _ := ⟨F5, PySem.W.mg_of X G a5, F5.binds (ps := ["value", "many_goods"]) fun _ _ _ _ _ _ us hl => match us, hl with | [_, _], _ => rfl⟩
  have F6 := fun_mk (st := s_is_from) l6 c6 k6
  have C6 : Cd K mg "is_from" s_is_from ["value", "many_goods"] _ _ := ⟨F6, PySem.W.mg_of X G a6, F6.binds (ps := ["value", "many_goods"]) fun _ _ _ _ _ _ us hl => match us, hl with | [_, _], _ => rfl⟩
  have F7 := fun_mk (st := s_is_over) l7 c7 k7
  have C7 : Cd K mg "is_over" s_is_over ["value"] _ _ := ⟨F7, PySem.W.mg_of X G a7, F7.binds (ps := ["value"]) fun _ _ _ _ _ _ us hl => match us, hl with | [_], _ => rfl⟩
  have F8 := fun_mk (st := s_is_each) l8 c8 k8
  have C8 : Cd K mg "is_each" s_is_each ["value"] _ _ := ⟨F8, PySem.W.mg_of X G a8, F8.binds (ps := ["value"]) fun _ _ _ _ _ _ us hl => match us, hl with | [_], _ => rfl⟩
  have F9 := fun_mk (st := s_is_rule) l9 c9 k9
  have C9 : Cd K mg "is_rule" s_is_rule ["value", "many_goods"] _ _ := ⟨F9, PySem.W.mg_of X G a9, F9.binds (ps := ["value", "many_goods"]) fun _ _ _ _ _ _ us hl => match us, hl with | [_, _], _ => rfl⟩
  have F10 := fun_mk (st := s_is_endless_each) l10 c10 k10
  have C10 : Cd K mg "is_endless_each" s_is_endless_each ["rule"] _ _ := ⟨F10, PySem.W.mg_of X G a10, F10.binds (ps := ["rule"]) fun _ _ _ _ _ _ us hl => match us, hl with | [_], _ => rfl⟩
  have F11 := fun_mk (st := s_are_goods) l11 c11 k11
  have C11 : Cd K mg "are_goods" s_are_goods ["value"] _ _ := ⟨F11, PySem.W.mg_of X G a11, F11.binds (ps := ["value"]) fun _ _ _ _ _ _ us hl => match us, hl with | [_], _ => rfl⟩
  have F12 := fun_mk (st := s_are_rules) l12 c12 k12
  have C12 : Cd K mg "are_rules" s_are_rules ["value", "many_goods"] _ _ := ⟨F12, PySem.W.mg_of X G a12, F12.binds (ps := ["value", "many_goods"]) fun _ _ _ _ _ _ us hl => match us, hl with | [_, _], _ => rfl⟩
  have F13 := fun_mk (st := s_is_shop) l13 c13 k13
  have C13 : Cd K mg "is_shop" s_is_shop ["value"] _ _ := ⟨F13, PySem.W.mg_of X G a13, F13.binds (ps := ["value"]) fun _ _ _ _ _ _ us hl => match us, hl with | [_], _ => rfl⟩
  have F14 := fun_mk (st := s_check_shop) l14 c14 k14
  have C14 : Cd K mg "check_shop" s_check_shop ["shop"] _ _ := ⟨F14, PySem.W.mg_of X G a14, F14.binds (ps := ["shop"]) fun _ _ _ _ _ _ us hl => match us, hl with | [_], _ => rfl⟩
  have F15 := fun_mk (st := s_format_item) l15 c15 k15
  have C15 : Cd K mg "format_item" s_format_item ["item"] _ _ := ⟨F15, PySem.W.mg_of X G a15, F15.binds (ps := ["item"]) fun _ _ _ _ _ _ us hl => match us, hl with | [_], _ => rfl⟩
  have F16 := fun_mk (st := s_format_good) l16 c16 k16
  have C16 : Cd K mg "format_good" s_format_good ["good"] _ _ := ⟨F16, PySem.W.mg_of X G a16, F16.binds (ps := ["good"]) fun _ _ _ _ _ _ us hl => match us, hl with | [_], _ => rfl⟩
  have F17 := fun_mk (st := s_format_rule) l17 c17 k17
  have C17 : Cd K mg "format_rule" s_format_rule ["rule"] _ _ := ⟨F17, PySem.W.mg_of X G a17, F17.binds (ps := ["rule"]) fun _ _ _ _ _ _ us hl => match us, hl with | [_], _ => rfl⟩
  have F18 := fun_mk (st := s_format_shop) l18 c18 k18
  have C18 : Cd K mg "format_shop" s_format_shop ["shop"] _ _ := ⟨F18, PySem.W.mg_of X G a18, F18.binds (ps := ["shop"]) fun _ _ _ _ _ _ us hl => match us, hl with | [_], _ => rfl⟩
  have F19 := fun_mk (st := s_read_item) l19 c19 k19
  have C19 : Cd K mg "read_item" s_read_item ["text"] _ _ := ⟨F19, PySem.W.mg_of X G a19, F19.binds (ps := ["text"]) fun _ _ _ _ _ _ us hl => match us, hl with | [_], _ => rfl⟩
  have F20 := fun_mk (st := s_read_items) l20 c20 k20
  have C20 : Cd K mg "read_items" s_read_items ["text", "between"] _ _ := ⟨F20, PySem.W.mg_of X G a20, F20.binds (ps := ["text", "between"]) fun _ _ _ _ _ _ us hl => match us, hl with | [_, _], _ => rfl⟩
  have F21 := fun_mk (st := s_read_rules) l21 c21 k21
  have C21 : Cd K mg "read_rules" s_read_rules ["text"] _ _ := ⟨F21, PySem.W.mg_of X G a21, F21.binds (ps := ["text"]) fun _ _ _ _ _ _ us hl => match us, hl with | [_], _ => rfl⟩
  have F22 := fun_mk (st := s_read_shop) l22 c22 k22
  have C22 : Cd K mg "read_shop" s_read_shop ["text"] _ _ := ⟨F22, PySem.W.mg_of X G a22, F22.binds (ps := ["text"]) fun _ _ _ _ _ _ us hl => match us, hl with | [_], _ => rfl⟩
  have F23 := fun_mk (st := s_parse_shop) l23 c23 k23
  have C23 : Cd K mg "parse_shop" s_parse_shop ["text"] _ _ := ⟨F23, PySem.W.mg_of X G a23, F23.binds (ps := ["text"]) fun _ _ _ _ _ _ us hl => match us, hl with | [_], _ => rfl⟩
  have F24 := fun_mk (st := s__law_cell_at) l24 c24 k24
  have C24 : Cd K mg "_law_cell_at" s__law_cell_at ["_law_script", "_law_k"] _ _ := ⟨F24, PySem.W.mg_of X G a24, F24.binds (ps := ["_law_script", "_law_k"]) fun _ _ _ _ _ _ us hl => match us, hl with | [_, _], _ => rfl⟩
  have F25 := fun_mk (st := s__law_mixed) l25 c25 k25
  have C25 : Cd K mg "_law_mixed" s__law_mixed ["_law_script", "_law_k", "_law_many"] _ _ := ⟨F25, PySem.W.mg_of X G a25, F25.binds (ps := ["_law_script", "_law_k", "_law_many"]) fun _ _ _ _ _ _ us hl => match us, hl with | [_, _, _], _ => rfl⟩
  have F26 := fun_mk (st := s__law_draw) l26 c26 k26
  have C26 : Cd K mg "_law_draw" s__law_draw ["_law_script", "_law_state", "_law_many"] _ _ := ⟨F26, PySem.W.mg_of X G a26, F26.binds (ps := ["_law_script", "_law_state", "_law_many"]) fun _ _ _ _ _ _ us hl => match us, hl with | [_, _, _], _ => rfl⟩
  have F27 := fun_mk (st := s__law_pick) l27 c27 k27
  have C27 : Cd K mg "_law_pick" s__law_pick ["_law_script", "_law_state", "_law_some"] _ _ := ⟨F27, PySem.W.mg_of X G a27, F27.binds (ps := ["_law_script", "_law_state", "_law_some"]) fun _ _ _ _ _ _ us hl => match us, hl with | [_, _, _], _ => rfl⟩
  have F28 := fun_mk (st := s__law_which) l28 c28 k28
  have C28 : Cd K mg "_law_which" s__law_which ["_law_e"] _ _ := ⟨F28, PySem.W.mg_of X G a28, F28.binds (ps := ["_law_e"]) fun _ _ _ _ _ _ us hl => match us, hl with | [_], _ => rfl⟩
  have F29 := fun_mk (st := s__law_some_rule) l29 c29 k29
  have C29 : Cd K mg "_law_some_rule" s__law_some_rule ["_law_script", "_law_state", "_law_goods", "_law_capped"] _ _ := ⟨F29, PySem.W.mg_of X G a29, F29.binds (ps := ["_law_script", "_law_state", "_law_goods", "_law_capped"]) fun _ _ _ _ _ _ us hl => match us, hl with | [_, _, _, _], _ => rfl⟩
  have F30 := fun_mk (st := s__law_some_goods) l30 c30 k30
  have C30 : Cd K mg "_law_some_goods" s__law_some_goods ["_law_script", "_law_state"] _ _ := ⟨F30, PySem.W.mg_of X G a30, F30.binds (ps := ["_law_script", "_law_state"]) fun _ _ _ _ _ _ us hl => match us, hl with | [_, _], _ => rfl⟩
  have F31 := fun_mk (st := s__law_some_shop) l31 c31 k31
  have C31 : Cd K mg "_law_some_shop" s__law_some_shop ["_law_script", "_law_state"] _ _ := ⟨F31, PySem.W.mg_of X G a31, F31.binds (ps := ["_law_script", "_law_state"]) fun _ _ _ _ _ _ us hl => match us, hl with | [_, _], _ => rfl⟩
  have F32 := fun_mk (st := s__law_read) l32 c32 k32
  have C32 : Cd K mg "_law_read" s__law_read ["_law_text"] _ _ := ⟨F32, PySem.W.mg_of X G a32, F32.binds (ps := ["_law_text"]) fun _ _ _ _ _ _ us hl => match us, hl with | [_], _ => rfl⟩
  have F33 := fun_mk (st := s_law) l33 c33 k33
  have C33 : Cd K mg "law" s_law ["_law_script"] _ _ := ⟨F33, PySem.W.mg_of X G a33, F33.binds (ps := ["_law_script"]) fun _ _ _ _ _ _ us hl => match us, hl with | [_], _ => rfl⟩
  refine ⟨PySem.W.fnOf "law" "law" (defArgs s_law) (defBody s_law) (defScope s_law) .none kV33 dc33 pm33 an33 cd33 ct33, fun s v => .of_eq rfl, fun base _ _ => ?_⟩
  have XS : Exn K mg c_PriceError [c_InvalidShop, c_InvalidBasket, c_InvalidActs, c_InvalidAct, c_InvalidOffers, c_InvalidKinds, c_InvalidNumber, c_Different, c_NoFault, c_NotThere, c_NothingToUndo, c_ParseError] := ⟨(.cons (PySem.W.mg_of X G e_InvalidShop) ⟨⟨_, m_InvalidShop, n_InvalidShop⟩, w_InvalidShop, v_InvalidShop, j_InvalidShop, o_InvalidShop, i_InvalidShop⟩ (.cons (PySem.W.mg_of X G e_InvalidBasket) ⟨⟨_, m_InvalidBasket, n_InvalidBasket⟩, w_InvalidBasket, v_InvalidBasket, j_InvalidBasket, o_InvalidBasket, i_InvalidBasket⟩ (.cons (PySem.W.mg_of X G e_InvalidActs) ⟨⟨_, m_InvalidActs, n_InvalidActs⟩, w_InvalidActs, v_InvalidActs, j_InvalidActs, o_InvalidActs, i_InvalidActs⟩ (.cons (PySem.W.mg_of X G e_InvalidAct) ⟨⟨_, m_InvalidAct, n_InvalidAct⟩, w_InvalidAct, v_InvalidAct, j_InvalidAct, o_InvalidAct, i_InvalidAct⟩ (.cons (PySem.W.mg_of X G e_InvalidOffers) ⟨⟨_, m_InvalidOffers, n_InvalidOffers⟩, w_InvalidOffers, v_InvalidOffers, j_InvalidOffers, o_InvalidOffers, i_InvalidOffers⟩ (.cons (PySem.W.mg_of X G e_InvalidKinds) ⟨⟨_, m_InvalidKinds, n_InvalidKinds⟩, w_InvalidKinds, v_InvalidKinds, j_InvalidKinds, o_InvalidKinds, i_InvalidKinds⟩ (.cons (PySem.W.mg_of X G e_InvalidNumber) ⟨⟨_, m_InvalidNumber, n_InvalidNumber⟩, w_InvalidNumber, v_InvalidNumber, j_InvalidNumber, o_InvalidNumber, i_InvalidNumber⟩ (.cons (PySem.W.mg_of X G e_Different) ⟨⟨_, m_Different, n_Different⟩, w_Different, v_Different, j_Different, o_Different, i_Different⟩ (.cons (PySem.W.mg_of X G e_NoFault) ⟨⟨_, m_NoFault, n_NoFault⟩, w_NoFault, v_NoFault, j_NoFault, o_NoFault, i_NoFault⟩ (.cons (PySem.W.mg_of X G e_NotThere) ⟨⟨_, m_NotThere, n_NotThere⟩, w_NotThere, v_NotThere, j_NotThere, o_NotThere, i_NotThere⟩ (.cons (PySem.W.mg_of X G e_NothingToUndo) ⟨⟨_, m_NothingToUndo, n_NothingToUndo⟩, w_NothingToUndo, v_NothingToUndo, j_NothingToUndo, o_NothingToUndo, i_NothingToUndo⟩ (.cons (PySem.W.mg_of X G e_ParseError) ⟨⟨_, m_ParseError, n_ParseError⟩, w_ParseError, v_ParseError, j_ParseError, o_ParseError, i_ParseError⟩ .nil)))))))))))), nd, PySem.W.mg_of X G e_PriceError, bP, iP, w_PriceError, hn, ht⟩
  have G0 := ok_is_integer (P := l.prog) (w := w) (base := base) B F0 
  have G1 := ok_is_between (P := l.prog) (w := w) (base := base) B F1 C0 G0
  have G2 := ok_is_tuple_of (P := l.prog) (w := w) (base := base) B F2 
  have G3 := ok_is_most (P := l.prog) (w := w) (base := base) B F3 C1 G1
  have G4 := ok_is_good (P := l.prog) (w := w) (base := base) B F4 C2 G2 C1 G1
  have G5 := ok_is_pack (P := l.prog) (w := w) (base := base) B F5 C2 G2 C1 G1 C3 G3
  have G6 := ok_is_from (P := l.prog) (w := w) (base := base) B F6 C2 G2 C1 G1
  have G7 := ok_is_over (P := l.prog) (w := w) (base := base) B F7 C2 G2 C1 G1
  have G8 := ok_is_each (P := l.prog) (w := w) (base := base) B F8 C2 G2 C3 G3 C1 G1
  have G9 := ok_is_rule (P := l.prog) (w := w) (base := base) B F9 C5 G5 C6 G6 C7 G7 C8 G8
  have G10 := ok_is_endless_each (P := l.prog) (w := w) (base := base) B F10 
  have G11 := ok_are_goods (P := l.prog) (w := w) (base := base) B F11 C4 G4
  have G12 := ok_are_rules (P := l.prog) (w := w) (base := base) B F12 C9 G9 C10 G10
  have G13 := ok_is_shop (P := l.prog) (w := w) (base := base) B F13 C2 G2 C11 G11 C12 G12
  have G14 := ok_check_shop (P := l.prog) (w := w) (base := base) B F14 C13 G13
  have G15 := ok_format_item (P := l.prog) (w := w) (base := base) B F15 
  have G16 := ok_format_good (P := l.prog) (w := w) (base := base) B F16 
  have G17 := ok_format_rule (P := l.prog) (w := w) (base := base) B F17 C15 G15
  have G18 := ok_format_shop (P := l.prog) (w := w) (base := base) B F18 C14 G14 C16 G16 C17 G17
  have G19 := ok_read_item (P := l.prog) (w := w) (base := base) B F19 
  have G20 := ok_read_items (P := l.prog) (w := w) (base := base) B F20 C19 G19
  have G21 := ok_read_rules (P := l.prog) (w := w) (base := base) B F21 C20 G20
  have G22 := ok_read_shop (P := l.prog) (w := w) (base := base) B F22 C21 G21 C20 G20
  have G23 := ok_parse_shop (P := l.prog) (w := w) (base := base) B F23 C22 G22 C13 G13
  have G24 := ok__law_cell_at (P := l.prog) (w := w) (base := base) B F24 
  have G25 := ok__law_mixed (P := l.prog) (w := w) (base := base) B F25 C24 G24
  have G26 := ok__law_draw (P := l.prog) (w := w) (base := base) B F26 C25 G25
  have G27 := ok__law_pick (P := l.prog) (w := w) (base := base) B F27 C26 G26
  have G28 := ok__law_which (P := l.prog) (w := w) (base := base) XS B F28
  have G29 := ok__law_some_rule (P := l.prog) (w := w) (base := base) B F29 C26 G26 C27 G27
  have G30 := ok__law_some_goods (P := l.prog) (w := w) (base := base) B F30 C26 G26
  have G31 := ok__law_some_shop (P := l.prog) (w := w) (base := base) B F31 C30 G30 C26 G26 C29 G29
  have G32 := ok__law_read (P := l.prog) (w := w) (base := base) XS B F32 C23 G23 C28 G28
  have G33 := ok_law (P := l.prog) (w := w) (base := base) B F33 C31 G31 C18 G18 C26 G26 C27 G27 C32 G32 C13 G13
  exact law_ok G33 D0
end DL
namespace DL
open PySem PySem.Spec L2
open TL
def wordOk (w : Str) : Prop := w = "pack" ∨ w = "from" ∨ w = "over" ∨ w = "each"
def itS : D → Str
  | .non => "-"
  | .str w => w
  | .int i => numS i
  | _ => ""
def itOk : D → Prop
  | .non => True
  | .str w => wordOk w
  | .int i => 0 ≤ i ∧ i < 100
  | _ => False
def row : Ru → List D
  | .pack g s p m => [.str "pack", .int g, .int s, .int p, oD m]
  | .frm g l p => [.str "from", .int g, .int l, .int p]
  | .over f o => [.str "over", .int f, .int o]
  | .each f o m => [.str "each", .int f, .int o, oD m]
theorem row_is (u : Ru) : u.d = .tup (row u) := by cases u <;> rfl
theorem row_len (u : Ru) : 1 ≤ (row u).length ∧ (row u).length ≤ 5 := by cases u <;> simp [row]
theorem oD_ok {m : Option Int} (h : okM m) : itOk (oD m) := by
  cases m with
  | none => trivial
  | some k => exact ⟨by have := h.1; omega, by have := h.2; omega⟩
theorem row_ok {u : Ru} {n : Int} (h : u.ok n) (hn : n ≤ 2) : ∀ d ∈ row u, itOk d := by
  intro d hd
  cases u with
  | pack g s p m =>
    obtain ⟨h1, h2, h3, h4⟩ := h
    simp only [row, List.mem_cons, List.not_mem_nil, or_false] at hd
    rcases hd with rfl | rfl | rfl | rfl | rfl
    · exact .inl rfl
    · exact ⟨h1.1, by omega⟩
    · exact ⟨by omega, by omega⟩
    · exact ⟨by omega, by omega⟩
    · exact oD_ok h4
  | frm g l p =>
    obtain ⟨h1, h2, h3⟩ := h
    simp only [row, List.mem_cons, List.not_mem_nil, or_false] at hd
    rcases hd with rfl | rfl | rfl | rfl
    · exact .inr (.inl rfl)
    · exact ⟨h1.1, by omega⟩
    · exact ⟨by omega, by omega⟩
    · exact ⟨by omega, by omega⟩
  | over f o =>
    obtain ⟨h1, h2, h3, h4⟩ := h
    simp only [row, List.mem_cons, List.not_mem_nil, or_false] at hd
    rcases hd with rfl | rfl | rfl
    · exact .inr (.inr (.inl rfl))
    · exact ⟨by omega, by omega⟩
    · exact ⟨by omega, by omega⟩
  | each f o m =>
    obtain ⟨h1, h2, h3, h4⟩ := h
    simp only [row, List.mem_cons, List.not_mem_nil, or_false] at hd
    rcases hd with rfl | rfl | rfl | rfl
    · exact .inr (.inr (.inr rfl))
    · exact ⟨by omega, by omega⟩
    · exact ⟨by omega, by omega⟩
    · exact oD_ok h3
theorem num_at {i : Int} (h : 0 ≤ i ∧ i < 100) : (numS i == ("-" : Str)) = false ∧ (numS i).length ≤ 2 ∧ Txt.isascii (numS i) = true ∧ Txt.isdigit (numS i) = true ∧ PySem.intText? (numS i) = some i ∧ (∀ c ∈ tl (numS i), c ≠ 32 ∧ c ≠ 44 ∧ c ≠ 47 ∧ c ≠ 59) := by
  obtain ⟨n, rfl⟩ := Int.eq_ofNat_of_zero_le h.1
  exact num_ok ⟨n, by omega⟩
theorem log_ok : ∀ n : Fin 100, (n.val).log2 < 1920 := by decide +kernel
theorem log_at {i : Int} (h : 0 ≤ i ∧ i < 100) : i.natAbs.log2 < 1920 := by
  obtain ⟨n, rfl⟩ := Int.eq_ofNat_of_zero_le h.1
  exact log_ok ⟨n, by omega⟩
theorem word_facts {w : Str} (h : wordOk w) : (w == ("-" : Str)) = false ∧ w.length = 4 ∧ (∀ c ∈ tl w, c ≠ 32 ∧ c ≠ 44 ∧ c ≠ 47 ∧ c ≠ 59) ∧ (tl w).head? ≠ some 110 := by
  rcases h with rfl | rfl | rfl | rfl <;> decide +kernel
theorem it_facts {d : D} (h : itOk d) : (itS d).length ≤ 4 ∧ ∀ c ∈ tl (itS d), c ≠ 32 ∧ c ≠ 44 ∧ c ≠ 47 ∧ c ≠ 59 := by
  cases d with
  | non => exact ⟨by decide +kernel, by decide +kernel⟩
  | str w => exact ⟨Nat.le_of_eq (word_facts h).2.1, (word_facts h).2.2.1⟩
  | int i => exact ⟨Nat.le_trans (num_at h).2.1 (by decide), (num_at h).2.2.2.2.2⟩
  | bl b => exact h.elim
  | tup b => exact h.elim
  | lst b => exact h.elim
  | fz b => exact h.elim
  | dct _ _ => exact h.elim
theorem dStr_num {i : Int} (h : 0 ≤ i ∧ i < 100) : dStr [.int i] = some (.im (.str (numS i))) := by
  show (if i.natAbs.log2 < 1920 then some (T.im (D.str (numS i))) else none) = _
  rw [if_pos (log_at h)]
theorem dFmt_num {i : Int} (h : 0 ≤ i ∧ i < 100) : dFmt (.int i) = some (.im (.str (numS i))) := by
  show (if i.natAbs.log2 < 1920 then some (T.im (D.str (numS i))) else none) = _
  rw [if_pos (log_at h)]
theorem r_format_item {d : D} (h : itOk d) : d_format_item [.im d] = .ok (.im (.str (itS d))) [.no] := by
  cases d with
  | non => simp [d_format_item, f_format_item, g_NO_MOST, itS, finF, sEr, op2, op1, T.val, R.opt, toB, opL, vals, consT, disp, mvs, mkTup, callT, callI, argE, others, isAl, isAli, finT, outE, padE, runD, cpsOf, cpT, toI, slT, T.weak, metT, kApp, kExt, elemD, iT, iL, iR1, iR2, iE, iZ, onI]
  | str w => simp [d_format_item, f_format_item, g_NO_MOST, itS, dStr, finF, sEr, op2, op1, T.val, R.opt, toB, opL, vals, consT, disp, mvs, mkTup, callT, callI, argE, others, isAl, isAli, finT, outE, padE, runD, cpsOf, cpT, toI, slT, T.weak, metT, kApp, kExt, elemD, iT, iL, iR1, iR2, iE, iZ, onI]
  | int i => simp [d_format_item, f_format_item, g_NO_MOST, itS, dStr_num h, finF, sEr, op2, op1, T.val, R.opt, toB, opL, vals, consT, disp, mvs, mkTup, callT, callI, argE, others, isAl, isAli, finT, outE, padE, runD, cpsOf, cpT, toI, slT, T.weak, metT, kApp, kExt, elemD, iT, iL, iR1, iR2, iE, iZ, onI]
  | bl b => exact h.elim
  | tup b => exact h.elim
  | lst b => exact h.elim
  | fz b => exact h.elim
  | dct _ _ => exact h.elim

def ruS (u : Ru) : Str := Txt.join " " ((row u).map itS)
def gdS (g : Int × Int) : Str := numS g.1 ++ "/" ++ numS g.2
theorem its_map {ds : List D} : items (.lst (ds.map fun d => D.str (itS d))) = some ((ds.map itS).map D.str) := by
  show some _ = _
  rw [List.map_map]
  rfl
theorem join_ru {u : Ru} (h : ∀ d ∈ row u, itOk d) : dJoin " " (.lst ((row u).map fun d => D.str (itS d))) = some (.im (.str (ruS u))) :=
  dJoin_of (M := 4) its_map (fun p hp => by
    obtain ⟨d, hd, rfl⟩ := List.mem_map.mp hp
    exact (it_facts (h d hd)).1) (by
    have := (row_len u).2
    have e : (" " : Str).length = 1 := by decide +kernel
    rw [e, List.length_map]
    omega)
theorem r_format_rule {u : Ru} (h : ∀ d ∈ row u, itOk d) : d_format_rule [.im u.d] = .ok (.im (.str (ruS u))) [.no] := by
  have q := eLc_of (fi := fiT (eVar 0)) (vs := [1]) (t := .one 1) (ft := tT) (fe := eCall d_format_item (aCons (eVar 1) aNil)) (env := [.im (.tup (row u)), .no]) (k := ⟨row u, none⟩) (e := [.im (.tup (row u)), .no]) (by simp [sEr, op2, op1, T.val, R.opt, toB, opL, vals, consT, disp, mvs, mkTup, callT, callI, argE, others, isAl, isAli, finT, outE, padE, runD, cpsOf, cpT, toI, slT, T.weak, metT, kApp, kExt, elemD, iT, iL, iR1, iR2, iE, iZ, onI])
    (lc_map (k := ⟨row u, none⟩) (vs := [1]) (t := .one 1) (h := fun d => .str (itS d)) (env := [.im (.tup (row u)), .no]) trivial (row u) [] (small_size (by have := (row_len u).2; show 0 + (row u).length ≤ 1000; omega)) fun d z => by
      refine ⟨[.im (.tup (row u)), .im d], .im (.str (itS d)), [.im (.tup (row u)), .im d], rfl, ?_, rfl, rfl⟩
      simp [r_format_item (h d z), sEr, op2, op1, T.val, R.opt, toB, opL, vals, consT, disp, mvs, mkTup, callT, callI, argE, others, isAl, isAli, finT, outE, padE, runD, cpsOf, cpT, toI, slT, T.weak, metT, kApp, kExt, elemD, iT, iL, iR1, iR2, iE, iZ, onI])
  rw [row_is]
  refine fin4 (rest := [.im (.tup (row u)), .no]) (m := 0) rfl ?_ _ rfl
  show f_format_rule [.im (.tup (row u)), .no] = _
  unfold f_format_rule
  simp [eM1, q, join_ru h, sEr, op2, op1, T.val, R.opt, toB, opL, vals, consT, disp, mvs, mkTup, callT, callI, argE, others, isAl, isAli, finT, outE, padE, runD, cpsOf, cpT, toI, slT, T.weak, metT, kApp, kExt, elemD, iT, iL, iR1, iR2, iE, iZ, onI]
theorem gd_shape (g : Int × Int) : gd g = .tup [.int g.1, .int g.2] := rfl
theorem len_sl : ("/" : Str).length = 1 := by decide +kernel
theorem js1 (x : Str) (e : En) : eC (.str x) e = .ok (.im (.str x)) e := rfl
theorem r_format_good {g : Int × Int} (h1 : 0 ≤ g.1 ∧ g.1 < 100) (h2 : 0 ≤ g.2 ∧ g.2 < 100) : d_format_good [.im (gd g)] = .ok (.im (.str (gdS g))) [.no] := by
  have l1 := (num_at h1).2.1
  have l2 := (num_at h2).2.1
  have e : eJs ((eUn dFmt (eVar 1)) :: ((eC (.str "/")) :: ((eUn dFmt (eVar 2)) :: []))) [.im (gd g), .im (.int g.1), .im (.int g.2)] = .ok (.im (.str (gdS g))) [.im (gd g), .im (.int g.1), .im (.int g.2)] := by
    have a1 : eUn dFmt (eVar 1) [.im (gd g), .im (.int g.1), .im (.int g.2)] = .ok (.im (.str (numS g.1))) [.im (gd g), .im (.int g.1), .im (.int g.2)] := by simp [eUn, dFmt_num h1, sEr, op2, op1, T.val, R.opt, toB, opL, vals, consT, disp, mvs, mkTup, callT, callI, argE, others, isAl, isAli, finT, outE, padE, runD, cpsOf, cpT, toI, slT, T.weak, metT, kApp, kExt, elemD, iT, iL, iR1, iR2, iE, iZ, onI]
    have a2 : eUn dFmt (eVar 2) [.im (gd g), .im (.int g.1), .im (.int g.2)] = .ok (.im (.str (numS g.2))) [.im (gd g), .im (.int g.1), .im (.int g.2)] := by simp [eUn, dFmt_num h2, sEr, op2, op1, T.val, R.opt, toB, opL, vals, consT, disp, mvs, mkTup, callT, callI, argE, others, isAl, isAli, finT, outE, padE, runD, cpsOf, cpT, toI, slT, T.weak, metT, kApp, kExt, elemD, iT, iL, iR1, iR2, iE, iZ, onI]
    have n1 : (Str.empty ++ numS g.1).length ≤ 1000000 := by rw [empty_app]; omega
    have n2 : (Str.empty ++ numS g.1 ++ "/").length ≤ 1000000 := by rw [empty_app, len_tl, tl_append, List.length_append, ← len_tl, ← len_tl, len_sl]; omega
    have n3 : (Str.empty ++ numS g.1 ++ "/" ++ numS g.2).length ≤ 1000000 := by rw [empty_app, len_tl, tl_append, tl_append, List.length_append, List.length_append, ← len_tl, ← len_tl, ← len_tl, len_sl]; omega
    unfold eJs
    simp only [jsR, a1, a2, js1, bind_ok, if_pos n1, if_pos n2, if_pos n3]
    rw [empty_app]
    rfl
  refine fin4 (rest := [.im (gd g), .im (.int g.1), .im (.int g.2)]) (m := 0) rfl ?_ _ rfl
  show f_format_good [.im (gd g), .no, .no] = _
  refine seq_of (e1 := [.im (gd g), .im (.int g.1), .im (.int g.2)]) ?_ ?_
  · simp [f_format_good_1, gd_shape, sEr, op2, op1, T.val, R.opt, toB, opL, vals, consT, disp, mvs, mkTup, callT, callI, argE, others, isAl, isAli, finT, outE, padE, runD, cpsOf, cpT, toI, slT, T.weak, metT, kApp, kExt, elemD, iT, iL, iR1, iR2, iE, iZ, onI]
  · simp [f_format_good_2, e, sEr, op2, op1, T.val, R.opt, toB, opL, vals, consT, disp, mvs, mkTup, callT, callI, argE, others, isAl, isAli, finT, outE, padE, runD, cpsOf, cpT, toI, slT, T.weak, metT, kApp, kExt, elemD, iT, iL, iR1, iR2, iE, iZ, onI]

theorem gd_ok {gi : List (Int × Int)} {us : List Ru} (h : Shp gi us) : ∀ g ∈ gi, (0 ≤ g.1 ∧ g.1 < 100) ∧ (0 ≤ g.2 ∧ g.2 < 100) := fun g hg => by
  have := h.pr g hg
  omega
theorem ru_ok {gi : List (Int × Int)} {us : List Ru} (h : Shp gi us) : ∀ u ∈ us, ∀ d ∈ row u, itOk d := fun u hu => row_ok (h.ru u hu).1 (by have := h.len.2; omega)
theorem gdS_len {g : Int × Int} (h1 : 0 ≤ g.1 ∧ g.1 < 100) (h2 : 0 ≤ g.2 ∧ g.2 < 100) : (gdS g).length ≤ 5 := by
  have l1 := (num_at h1).2.1
  have l2 := (num_at h2).2.1
  unfold gdS
  rw [len_tl, tl_append, tl_append, List.length_append, List.length_append, ← len_tl, ← len_tl, ← len_tl, len_sl]
  omega
theorem len_sp : (" " : Str).length = 1 := by decide +kernel
theorem len_cs : (", " : Str).length = 2 := by decide +kernel
theorem len_ss : ("; " : Str).length = 2 := by decide +kernel
theorem len_none : ("none" : Str).length = 4 := by decide +kernel
theorem ruS_len {u : Ru} (h : ∀ d ∈ row u, itOk d) : (ruS u).length ≤ 25 := by
  have := join_len (y := (" " : Str)) (M := 4) (ps := (row u).map itS) fun p hp => by
    obtain ⟨d, hd, rfl⟩ := List.mem_map.mp hp
    exact (it_facts (h d hd)).1
  rw [len_sp, List.length_map] at this
  have := (row_len u).2
  unfold ruS
  omega
def firstS (gi : List (Int × Int)) : Str := Txt.join ", " (gi.map gdS)
def secS (us : List Ru) : Str := if us = [] then "none" else Txt.join ", " (us.map ruS)
def shS (gi : List (Int × Int)) (us : List Ru) : Str := firstS gi ++ "; " ++ secS us
theorem first_len {gi : List (Int × Int)} {us : List Ru} (h : Shp gi us) : (firstS gi).length ≤ 14 := by
  have := join_len (y := (", " : Str)) (M := 5) (ps := gi.map gdS) fun p hp => by
    obtain ⟨d, hd, rfl⟩ := List.mem_map.mp hp
    exact gdS_len (gd_ok h d hd).1 (gd_ok h d hd).2
  rw [len_cs, List.length_map] at this
  have := h.len.2
  unfold firstS
  omega
theorem sec_len {gi : List (Int × Int)} {us : List Ru} (h : Shp gi us) : (secS us).length ≤ 108 := by
  unfold secS
  split
  · rw [len_none]; decide
  · have := join_len (y := (", " : Str)) (M := 25) (ps := us.map ruS) fun p hp => by
      obtain ⟨d, hd, rfl⟩ := List.mem_map.mp hp
      exact ruS_len (ru_ok h d hd)
    rw [len_cs, List.length_map] at this
    have := h.few
    omega
theorem join_first {gi : List (Int × Int)} {us : List Ru} (h : Shp gi us) {d : D} (hd : items d = some ((gi.map gdS).map D.str)) : dJoin ", " d = some (.im (.str (firstS gi))) :=
  dJoin_of (M := 5) hd (fun p hp => by
    obtain ⟨d, hd, rfl⟩ := List.mem_map.mp hp
    exact gdS_len (gd_ok h d hd).1 (gd_ok h d hd).2) (by
    have := h.len.2
    rw [len_cs, List.length_map]
    omega)
theorem join_sec {gi : List (Int × Int)} {us : List Ru} (h : Shp gi us) (hu : us ≠ []) {d : D} (hd : items d = some ((us.map ruS).map D.str)) : dJoin ", " d = some (.im (.str (secS us))) := by
  have := dJoin_of (y := (", " : Str)) (M := 25) hd (fun p hp => by
    obtain ⟨d, hd, rfl⟩ := List.mem_map.mp hp
    exact ruS_len (ru_ok h d hd)) (by
    have := h.few
    rw [len_cs, List.length_map]
    omega)
  rw [this]
  unfold secS
  rw [if_neg hu]
abbrev Ef (a b c d e f g : Sl) : En := [a, b, c, d, e, f, g]
theorem f1 (sh : D) (q : d_check_shop [.im sh] = .ok (.im .non) [.no]) : f_format_shop_1 (Ef (.im sh) .no .no .no .no .no .no) = .nx (Ef (.im sh) .no .no .no .no .no .no) := by
  simp [f_format_shop_1, q, sEr, op2, op1, T.val, R.opt, toB, opL, vals, consT, disp, mvs, mkTup, callT, callI, argE, others, isAl, isAli, finT, outE, padE, runD, cpsOf, cpT, toI, slT, T.weak, metT, kApp, kExt, elemD, iT, iL, iR1, iR2, iE, iZ, onI]
theorem f2 (gs rs : D) : f_format_shop_2 (Ef (.im (.tup [gs, rs])) .no .no .no .no .no .no) = .nx (Ef (.im (.tup [gs, rs])) .no .no (.im gs) (.im rs) .no .no) := by
  simp [f_format_shop_2, sEr, op2, op1, T.val, R.opt, toB, opL, vals, consT, disp, mvs, mkTup, callT, callI, argE, others, isAl, isAli, finT, outE, padE, runD, cpsOf, cpT, toI, slT, T.weak, metT, kApp, kExt, elemD, iT, iL, iR1, iR2, iE, iZ, onI]
theorem f3 (sh : Sl) (gs zs : List D) (rs : Sl) (x : Str) (q : eLc (fiT (eVar 3)) [5] (.one 5) tT (eCall d_format_good (aCons (eVar 5) aNil)) (Ef sh .no .no (.im (.tup gs)) rs .no .no) = .ok (.fr zs) (Ef sh .no .no (.im (.tup gs)) rs .no .no)) (hj : dJoin ", " (.lst zs) = some (.im (.str x))) :
    f_format_shop_3 (Ef sh .no .no (.im (.tup gs)) rs .no .no) = .nx (Ef sh (.im (.str x)) .no (.im (.tup gs)) rs .no .no) := by
  simp [f_format_shop_3, eM1, q, hj, sEr, op2, op1, T.val, R.opt, toB, opL, vals, consT, disp, mvs, mkTup, callT, callI, argE, others, isAl, isAli, finT, outE, padE, runD, cpsOf, cpT, toI, slT, T.weak, metT, kApp, kExt, elemD, iT, iL, iR1, iR2, iE, iZ, onI]
theorem f4a (sh fi gs : Sl) (rs zs : List D) (x : Str) (hr : ∃ L : Int, (rs.length : Int) = L ∧ 0 < L) (q : eLc (fiT (eVar 4)) [6] (.one 6) tT (eCall d_format_rule (aCons (eVar 6) aNil)) (Ef sh fi .no gs (.im (.tup rs)) .no .no) = .ok (.fr zs) (Ef sh fi .no gs (.im (.tup rs)) .no .no)) (hj : dJoin ", " (.lst zs) = some (.im (.str x))) :
    f_format_shop_4 (Ef sh fi .no gs (.im (.tup rs)) .no .no) = .nx (Ef sh fi (.im (.str x)) gs (.im (.tup rs)) .no .no) := by
  obtain ⟨L, e, hL⟩ := hr
  simp [f_format_shop_4, eM1, q, hj, e, hL, sEr, op2, op1, T.val, R.opt, toB, opL, vals, consT, disp, mvs, mkTup, callT, callI, argE, others, isAl, isAli, finT, outE, padE, runD, cpsOf, cpT, toI, slT, T.weak, metT, kApp, kExt, elemD, iT, iL, iR1, iR2, iE, iZ, onI]
theorem f4b (sh fi gs : Sl) : f_format_shop_4 (Ef sh fi .no gs (.im (.tup [])) .no .no) = .nx (Ef sh fi (.im (.str "none")) gs (.im (.tup [])) .no .no) := by
  simp [f_format_shop_4, eM1, g_NO_RULES, sEr, op2, op1, T.val, R.opt, toB, opL, vals, consT, disp, mvs, mkTup, callT, callI, argE, others, isAl, isAli, finT, outE, padE, runD, cpsOf, cpT, toI, slT, T.weak, metT, kApp, kExt, elemD, iT, iL, iR1, iR2, iE, iZ, onI]
theorem f5 (sh gs rs : Sl) (x y : Str) (hx : x.length ≤ 1000) (hy : y.length ≤ 1000) : f_format_shop_5 (Ef sh (.im (.str x)) (.im (.str y)) gs rs .no .no) = .rt (.im (.str (x ++ "; " ++ y))) (Ef sh (.im (.str x)) (.im (.str y)) gs rs .no .no) := by
  have a1 : eUn dFmt (eVar 1) (Ef sh (.im (.str x)) (.im (.str y)) gs rs .no .no) = .ok (.im (.str x)) (Ef sh (.im (.str x)) (.im (.str y)) gs rs .no .no) := by
    have : dFmt (.str x) = some (.im (.str x)) := by
      show (if x.length ≤ 1000000 then some (T.im (.str x)) else none) = _
      rw [if_pos (by omega)]
    simp [eUn, this, sEr, op2, op1, T.val, R.opt, toB, opL, vals, consT, disp, mvs, mkTup, callT, callI, argE, others, isAl, isAli, finT, outE, padE, runD, cpsOf, cpT, toI, slT, T.weak, metT, kApp, kExt, elemD, iT, iL, iR1, iR2, iE, iZ, onI]
  have a2 : eUn dFmt (eVar 2) (Ef sh (.im (.str x)) (.im (.str y)) gs rs .no .no) = .ok (.im (.str y)) (Ef sh (.im (.str x)) (.im (.str y)) gs rs .no .no) := by
    have : dFmt (.str y) = some (.im (.str y)) := by
      show (if y.length ≤ 1000000 then some (T.im (.str y)) else none) = _
      rw [if_pos (by omega)]
    simp [eUn, this, sEr, op2, op1, T.val, R.opt, toB, opL, vals, consT, disp, mvs, mkTup, callT, callI, argE, others, isAl, isAli, finT, outE, padE, runD, cpsOf, cpT, toI, slT, T.weak, metT, kApp, kExt, elemD, iT, iL, iR1, iR2, iE, iZ, onI]
  have n1 : (Str.empty ++ x).length ≤ 1000000 := by rw [empty_app]; omega
  have n2 : (Str.empty ++ x ++ "; ").length ≤ 1000000 := by rw [empty_app, len_tl, tl_append, List.length_append, ← len_tl, ← len_tl, len_ss]; omega
  have n3 : (Str.empty ++ x ++ "; " ++ y).length ≤ 1000000 := by rw [empty_app, len_tl, tl_append, tl_append, List.length_append, List.length_append, ← len_tl, ← len_tl, ← len_tl, len_ss]; omega
  have e : eJs ((eUn dFmt (eVar 1)) :: ((eC (.str "; ")) :: ((eUn dFmt (eVar 2)) :: []))) (Ef sh (.im (.str x)) (.im (.str y)) gs rs .no .no) = .ok (.im (.str (x ++ "; " ++ y))) (Ef sh (.im (.str x)) (.im (.str y)) gs rs .no .no) := by
    unfold eJs
    simp only [jsR, a1, a2, js1, bind_ok, if_pos n1, if_pos n2, if_pos n3]
    rw [empty_app]
  unfold f_format_shop_5
  simp only [sRet_s, e, bindF_ok]
def gT' : D → D
  | .tup [.int p, .int c] => .str (gdS (p, c))
  | _ => .non
def rT' : D → D
  | .tup ds => .str (Txt.join " " (ds.map itS))
  | _ => .non
theorem gT_map (gi : List (Int × Int)) : items (.lst ((gi.map gd).map gT')) = some ((gi.map gdS).map D.str) := by
  show some _ = _
  rw [List.map_map, List.map_map]
  rfl
theorem rT_map (us : List Ru) : items (.lst ((us.map Ru.d).map rT')) = some ((us.map ruS).map D.str) := by
  show some _ = _
  rw [List.map_map, List.map_map]
  congr 1
  refine List.map_congr_left fun u _ => ?_
  show rT' u.d = .str (ruS u)
  rw [row_is]
  rfl
theorem r_format_shop {gi : List (Int × Int)} {us : List Ru} (h : Shp gi us) : d_format_shop [.im (shopD gi us)] = .ok (.im (.str (shS gi us))) [.no] := by
  have hc := r_check_shop h.is
  have g1 : eLc (fiT (eVar 3)) [5] (.one 5) tT (eCall d_format_good (aCons (eVar 5) aNil)) (Ef (.im (shopD gi us)) .no .no (.im (.tup (gi.map gd))) (.im (.tup (us.map Ru.d))) .no .no) = .ok (.fr ((gi.map gd).map gT')) (Ef (.im (shopD gi us)) .no .no (.im (.tup (gi.map gd))) (.im (.tup (us.map Ru.d))) .no .no) :=
    eLc_of (k := ⟨gi.map gd, none⟩) (e := Ef (.im (shopD gi us)) .no .no (.im (.tup (gi.map gd))) (.im (.tup (us.map Ru.d))) .no .no) (by simp [sEr, op2, op1, T.val, R.opt, toB, opL, vals, consT, disp, mvs, mkTup, callT, callI, argE, others, isAl, isAli, finT, outE, padE, runD, cpsOf, cpT, toI, slT, T.weak, metT, kApp, kExt, elemD, iT, iL, iR1, iR2, iE, iZ, onI])
    (lc_map (k := ⟨gi.map gd, none⟩) (vs := [5]) (t := .one 5) (h := gT') (env := Ef (.im (shopD gi us)) .no .no (.im (.tup (gi.map gd))) (.im (.tup (us.map Ru.d))) .no .no) trivial (gi.map gd) [] (small_size (by have := h.len.2; rw [List.length_map]; show 0 + gi.length ≤ 1000; omega)) fun d z => by
      obtain ⟨g, hg, rfl⟩ := List.mem_map.mp z
      refine ⟨Ef (.im (shopD gi us)) .no .no (.im (.tup (gi.map gd))) (.im (.tup (us.map Ru.d))) (.im (gd g)) .no, .im (.str (gdS g)), Ef (.im (shopD gi us)) .no .no (.im (.tup (gi.map gd))) (.im (.tup (us.map Ru.d))) (.im (gd g)) .no, rfl, ?_, rfl, rfl⟩
      simp [r_format_good (gd_ok h g hg).1 (gd_ok h g hg).2, sEr, op2, op1, T.val, R.opt, toB, opL, vals, consT, disp, mvs, mkTup, callT, callI, argE, others, isAl, isAli, finT, outE, padE, runD, cpsOf, cpT, toI, slT, T.weak, metT, kApp, kExt, elemD, iT, iL, iR1, iR2, iE, iZ, onI])
  have g2 := f3 (.im (shopD gi us)) (gi.map gd) _ (.im (.tup (us.map Ru.d))) _ g1 (join_first h (gT_map gi))
  have g3 : f_format_shop_4 (Ef (.im (shopD gi us)) (.im (.str (firstS gi))) .no (.im (.tup (gi.map gd))) (.im (.tup (us.map Ru.d))) .no .no) = .nx (Ef (.im (shopD gi us)) (.im (.str (firstS gi))) (.im (.str (secS us))) (.im (.tup (gi.map gd))) (.im (.tup (us.map Ru.d))) .no .no) := by
    by_cases hu : us = []
    · subst hu
      exact f4b _ _ _
    · refine f4a _ _ _ _ ((us.map Ru.d).map rT') _ ⟨_, rfl, ?_⟩ ?_ (join_sec h hu (rT_map us))
      · have := List.length_pos_iff.mpr hu
        rw [List.length_map]
        omega
      · exact eLc_of (k := ⟨us.map Ru.d, none⟩) (e := Ef (.im (shopD gi us)) (.im (.str (firstS gi))) .no (.im (.tup (gi.map gd))) (.im (.tup (us.map Ru.d))) .no .no) (by simp [sEr, op2, op1, T.val, R.opt, toB, opL, vals, consT, disp, mvs, mkTup, callT, callI, argE, others, isAl, isAli, finT, outE, padE, runD, cpsOf, cpT, toI, slT, T.weak, metT, kApp, kExt, elemD, iT, iL, iR1, iR2, iE, iZ, onI])
          (lc_map (k := ⟨us.map Ru.d, none⟩) (vs := [6]) (t := .one 6) (h := rT') (env := Ef (.im (shopD gi us)) (.im (.str (firstS gi))) .no (.im (.tup (gi.map gd))) (.im (.tup (us.map Ru.d))) .no .no) trivial (us.map Ru.d) [] (small_size (by have := h.few; rw [List.length_map]; show 0 + us.length ≤ 1000; omega)) fun d z => by
            obtain ⟨u, hu, rfl⟩ := List.mem_map.mp z
            refine ⟨Ef (.im (shopD gi us)) (.im (.str (firstS gi))) .no (.im (.tup (gi.map gd))) (.im (.tup (us.map Ru.d))) .no (.im u.d), .im (.str (ruS u)), Ef (.im (shopD gi us)) (.im (.str (firstS gi))) .no (.im (.tup (gi.map gd))) (.im (.tup (us.map Ru.d))) .no (.im u.d), rfl, ?_, ?_, rfl⟩
            · simp [r_format_rule (ru_ok h u hu), sEr, op2, op1, T.val, R.opt, toB, opL, vals, consT, disp, mvs, mkTup, callT, callI, argE, others, isAl, isAli, finT, outE, padE, runD, cpsOf, cpT, toI, slT, T.weak, metT, kApp, kExt, elemD, iT, iL, iR1, iR2, iE, iZ, onI]
            · rw [row_is]
              rfl)
  refine fin4 (rest := Ef (.im (shopD gi us)) (.im (.str (firstS gi))) (.im (.str (secS us))) (.im (.tup (gi.map gd))) (.im (.tup (us.map Ru.d))) .no .no) (m := 0) rfl ?_ _ rfl
  show f_format_shop (Ef (.im (shopD gi us)) .no .no .no .no .no .no) = _
  unfold f_format_shop
  exact seq_of (f1 _ hc) (seq_of (f2 _ _) (seq_of g2 (seq_of g3 (f5 _ _ _ _ _ (by have := first_len h; omega) (by have := sec_len h; omega)))))
theorem asc_dig : ∀ a : Fin 128, Unicode.isDigit a.val = true → 48 ≤ a.val ∧ a.val ≤ 57 := by decide +kernel
theorem one_dig : ∀ a : Fin 10, (PySem.intText? ⟨#[48 + a.val]⟩ : Option Int) = some (a.val : Int) := by decide +kernel
theorem two_dig : ∀ a b : Fin 10, (PySem.intText? ⟨#[48 + a.val, 48 + b.val]⟩ : Option Int) = some ((10 * a.val + b.val : Nat) : Int) := by decide +kernel
theorem dig_ok {x : Str} (hl : x.length ≤ 2) (ha : Txt.isascii x = true) (hd : Txt.isdigit x = true) : ∃ n : Nat, PySem.intText? x = some (n : Int) ∧ n < 100 := by
  unfold Txt.isascii at ha
  unfold Txt.isdigit at hd
  rw [Bool.and_eq_true] at hd
  obtain ⟨h0, hd⟩ := hd
  rw [← Array.all_toList, List.all_eq_true] at ha hd
  have dg : ∀ c ∈ x.cps.toList, ∃ a : Fin 10, c = 48 + a.val := fun c hc => by
    have h1 : c < 128 := of_decide_eq_true (ha c hc)
    have := asc_dig ⟨c, h1⟩ (hd c hc)
    exact ⟨⟨c - 48, by have := this.2; dsimp only at this; omega⟩, by have := this.1; dsimp only at this ⊢; omega⟩
  obtain ⟨⟨l⟩⟩ := x
  match l, hl, h0, dg with
  | [], _, h0, _ => exact absurd h0 (by decide)
  | [a], _, _, dg =>
    obtain ⟨a', rfl⟩ := dg a (by simp)
    exact ⟨a'.val, one_dig a', by omega⟩
  | [a, b], _, _, dg =>
    obtain ⟨a', rfl⟩ := dg a (by simp)
    obtain ⟨b', rfl⟩ := dg b (by simp)
    exact ⟨10 * a'.val + b'.val, two_dig a' b', by omega⟩
  | a :: b :: c :: r, hl, _, _ => exact absurd hl (by simp [Str.length])
theorem dStrN {n : Nat} (h : n < 100) : dStr [.int (n : Int)] = some (.im (.str (numS n))) := by
  show (if ((n : Nat) : Int).natAbs.log2 < 1920 then some (T.im (D.str (numS n))) else none) = _
  rw [if_pos (by have := log_ok ⟨n, h⟩; simpa using this)]
theorem dLen_s {x : Str} (h : x.length ≤ 1000000) : dLen [.str x] = some (.im (.int x.length)) := by
  show (if x.length ≤ sizeLine then some (T.im (.int x.length)) else none) = _
  rw [if_pos (line6 h)]
theorem ri1 (x : Str) (h : (x == ("-" : Str)) = true) : d_read_item [.im (.str x)] = .ok (.im .non) [.no] := by
  simp [d_read_item, f_read_item, f_read_item_1, g_NO_MOST, h, finF, sEr, op2, op1, T.val, R.opt, toB, opL, vals, consT, disp, mvs, mkTup, callT, callI, argE, others, isAl, isAli, finT, outE, padE, runD, cpsOf, cpT, toI, slT, T.weak, metT, kApp, kExt, elemD, iT, iL, iR1, iR2, iE, iZ, onI]
theorem ri2 (x : Str) (L : Int) (h : (x == ("-" : Str)) = false) (hl : dLen [.str x] = some (.im (.int L))) (h2 : 2 < L) : d_read_item [.im (.str x)] = .ok (.im (.str x)) [.no] := by
  simp [d_read_item, f_read_item, f_read_item_1, f_read_item_2, g_NO_MOST, h, hl, h2, finF, sEr, op2, op1, T.val, R.opt, toB, opL, vals, consT, disp, mvs, mkTup, callT, callI, argE, others, isAl, isAli, finT, outE, padE, runD, cpsOf, cpT, toI, slT, T.weak, metT, kApp, kExt, elemD, iT, iL, iR1, iR2, iE, iZ, onI]
theorem ri2a (x : Str) (L : Int) (h : (x == ("-" : Str)) = false) (hl : dLen [.str x] = some (.im (.int L))) (h2 : ¬ 2 < L) (h3 : Txt.isascii x = false) : d_read_item [.im (.str x)] = .ok (.im (.str x)) [.no] := by
  have a1 : eM0 dAscii (eVar 0) [.im (.str x), .no] = .ok (.im (.bl false)) [.im (.str x), .no] := by simp [eM0, dAscii, h3, sEr, op2, op1, T.val, R.opt, toB, opL, vals, consT, disp, mvs, mkTup, callT, callI, argE, others, isAl, isAli, finT, outE, padE, runD, cpsOf, cpT, toI, slT, T.weak, metT, kApp, kExt, elemD, iT, iL, iR1, iR2, iE, iZ, onI]
  simp [d_read_item, f_read_item, f_read_item_1, f_read_item_2, g_NO_MOST, h, hl, h2, a1, finF, sEr, op2, op1, T.val, R.opt, toB, opL, vals, consT, disp, mvs, mkTup, callT, callI, argE, others, isAl, isAli, finT, outE, padE, runD, cpsOf, cpT, toI, slT, T.weak, metT, kApp, kExt, elemD, iT, iL, iR1, iR2, iE, iZ, onI]
theorem ri2b (x : Str) (L : Int) (h : (x == ("-" : Str)) = false) (hl : dLen [.str x] = some (.im (.int L))) (h2 : ¬ 2 < L) (h3 : Txt.isascii x = true) (h4 : Txt.isdigit x = false) : d_read_item [.im (.str x)] = .ok (.im (.str x)) [.no] := by
  have a1 : eM0 dAscii (eVar 0) [.im (.str x), .no] = .ok (.im (.bl true)) [.im (.str x), .no] := by simp [eM0, dAscii, h3, sEr, op2, op1, T.val, R.opt, toB, opL, vals, consT, disp, mvs, mkTup, callT, callI, argE, others, isAl, isAli, finT, outE, padE, runD, cpsOf, cpT, toI, slT, T.weak, metT, kApp, kExt, elemD, iT, iL, iR1, iR2, iE, iZ, onI]
  have a2 : eM0 dDigit (eVar 0) [.im (.str x), .no] = .ok (.im (.bl false)) [.im (.str x), .no] := by simp [eM0, dDigit, h4, sEr, op2, op1, T.val, R.opt, toB, opL, vals, consT, disp, mvs, mkTup, callT, callI, argE, others, isAl, isAli, finT, outE, padE, runD, cpsOf, cpT, toI, slT, T.weak, metT, kApp, kExt, elemD, iT, iL, iR1, iR2, iE, iZ, onI]
  simp [d_read_item, f_read_item, f_read_item_1, f_read_item_2, g_NO_MOST, h, hl, h2, a1, a2, finF, sEr, op2, op1, T.val, R.opt, toB, opL, vals, consT, disp, mvs, mkTup, callT, callI, argE, others, isAl, isAli, finT, outE, padE, runD, cpsOf, cpT, toI, slT, T.weak, metT, kApp, kExt, elemD, iT, iL, iR1, iR2, iE, iZ, onI]
theorem ri3 (x y : Str) (L n : Int) (h : (x == ("-" : Str)) = false) (hl : dLen [.str x] = some (.im (.int L))) (h2 : ¬ 2 < L) (h3 : Txt.isascii x = true) (h4 : Txt.isdigit x = true) (h5 : dInt [.str x] = some (.im (.int n))) (h6 : dStr [.int n] = some (.im (.str y))) : d_read_item [.im (.str x)] = .ok (.im (if (y == x) = true then .int n else .str x)) [.no] := by
  have a1 : eM0 dAscii (eVar 0) [.im (.str x), .no] = .ok (.im (.bl true)) [.im (.str x), .no] := by simp [eM0, dAscii, h3, sEr, op2, op1, T.val, R.opt, toB, opL, vals, consT, disp, mvs, mkTup, callT, callI, argE, others, isAl, isAli, finT, outE, padE, runD, cpsOf, cpT, toI, slT, T.weak, metT, kApp, kExt, elemD, iT, iL, iR1, iR2, iE, iZ, onI]
  have a2 : eM0 dDigit (eVar 0) [.im (.str x), .no] = .ok (.im (.bl true)) [.im (.str x), .no] := by simp [eM0, dDigit, h4, sEr, op2, op1, T.val, R.opt, toB, opL, vals, consT, disp, mvs, mkTup, callT, callI, argE, others, isAl, isAli, finT, outE, padE, runD, cpsOf, cpT, toI, slT, T.weak, metT, kApp, kExt, elemD, iT, iL, iR1, iR2, iE, iZ, onI]
  cases hb : (y == x) <;> simp [d_read_item, f_read_item, f_read_item_1, f_read_item_2, f_read_item_3, f_read_item_4, g_NO_MOST, h, hl, h2, a1, a2, h5, h6, hb, finF, sEr, op2, op1, T.val, R.opt, toB, opL, vals, consT, disp, mvs, mkTup, callT, callI, argE, others, isAl, isAli, finT, outE, padE, runD, cpsOf, cpT, toI, slT, T.weak, metT, kApp, kExt, elemD, iT, iL, iR1, iR2, iE, iZ, onI]
def readOk (x : Str) (d : D) : Prop := (d = .non ∧ x = "-") ∨ d = .str x ∨ ∃ n : Nat, d = .int n ∧ n < 100 ∧ x = numS n
theorem readOk.back {x : Str} {d : D} (h : readOk x d) : itS d = x := by
  rcases h with ⟨rfl, rfl⟩ | rfl | ⟨n, rfl, _, rfl⟩ <;> rfl
theorem r_read_item (x : Str) (hl : x.length ≤ 1000000) : ∃ d, d_read_item [.im (.str x)] = .ok (.im d) [.no] ∧ readOk x d := by
  cases h : (x == ("-" : Str)) with
  | true => exact ⟨_, ri1 x h, .inl ⟨rfl, by simpa using h⟩⟩
  | false =>
    by_cases h2 : 2 < (x.length : Int)
    · exact ⟨_, ri2 x _ h (dLen_s hl) h2, .inr (.inl rfl)⟩
    · cases h3 : Txt.isascii x with
      | false => exact ⟨_, ri2a x _ h (dLen_s hl) h2 h3, .inr (.inl rfl)⟩
      | true =>
        cases h4 : Txt.isdigit x with
        | false => exact ⟨_, ri2b x _ h (dLen_s hl) h2 h3 h4, .inr (.inl rfl)⟩
        | true =>
          obtain ⟨n, hn, hlt⟩ := dig_ok (by omega) h3 h4
          have h5 : dInt [.str x] = some (.im (.int n)) := by
            show (match PySem.intText? x with | some n => if x.length ≤ 640 then some (T.im (.int n)) else none | none => none) = _
            rw [hn]
            dsimp only
            rw [if_pos (by omega)]
          refine ⟨_, ri3 x (numS n) _ n h (dLen_s hl) h2 h3 h4 h5 (dStrN hlt), ?_⟩
          cases hb : (numS n == x) with
          | false => exact .inr (.inl (if_neg (by decide)))
          | true => exact .inr (.inr ⟨n, if_pos rfl, hlt, by simpa using (beq_iff_eq.mp hb).symm⟩)

noncomputable def readF (x : Str) : D := open Classical in if h : x.length ≤ 1000000 then (r_read_item x h).choose else .non
theorem readF_is {x : Str} (h : x.length ≤ 1000000) : d_read_item [.im (.str x)] = .ok (.im (readF x)) [.no] ∧ readOk x (readF x) := by
  unfold readF
  rw [dif_pos h]
  exact (r_read_item x h).choose_spec
noncomputable def rdF : D → D
  | .str x => readF x
  | _ => .non
theorem part_len {x y : Str} {p : Str} (hp : p ∈ Txt.split x y) : p.length ≤ x.length := by
  have e : Str.join y (Txt.split x y) = x := StrLaws.join_split x y
  have key : ∀ {ps : List (List Nat)} {S q : List Nat}, q ∈ ps → q.length ≤ (joinL S ps).length := fun {ps S q} h => by
    induction ps with
    | nil => cases h
    | cons a r ih =>
      cases r with
      | nil =>
        rw [List.mem_singleton.mp h]
        exact Nat.le_refl _
      | cons b r =>
        show q.length ≤ (a ++ (S ++ joinL S (b :: r))).length
        rw [List.length_append, List.length_append]
        rcases List.mem_cons.mp h with rfl | h
        · omega
        · have := ih h
          omega
  have := key (S := tl y) (List.mem_map_of_mem (f := tl) hp)
  rw [← tl_join, e] at this
  rw [len_tl, len_tl]
  exact this
theorem r_read_items {x y : Str} (hx : x.length ≤ 500000) (hy : (y.length == 0) = false) (hn : (Txt.split x y).length ≤ 1000000) :
    d_read_items [.im (.str x), .im (.str y)] = .ok (.im (.tup ((Txt.split x y).map readF))) [.no, .no] := by
  have sp : dSplit x (.str y) = some (.fr ((Txt.split x y).map D.str)) := by
    show (if (y.length == 0) = false ∧ x.length + 2 ≤ 1000000 then _ else _) = _
    rw [if_pos ⟨hy, by omega⟩]
  have hp : ∀ p ∈ Txt.split x y, p.length ≤ 1000000 := fun p hp => by have := part_len hp; omega
  have em : ((Txt.split x y).map D.str).map rdF = (Txt.split x y).map readF := by rw [List.map_map]; rfl
  generalize Txt.split x y = ps at sp hn hp em
  have q := eLc_of (fi := fiL false (eM1 dSplit (eVar 0) (eVar 1))) (vs := [2]) (t := .one 2) (ft := tT) (fe := eCall d_read_item (aCons (eVar 2) aNil)) (env := [.im (.str x), .im (.str y), .no]) (k := ⟨ps.map D.str, none⟩) (e := [.im (.str x), .im (.str y), .no]) (by simp [eM1, sp, fiL, sEr, op2, op1, T.val, R.opt, toB, opL, vals, consT, disp, mvs, mkTup, callT, callI, argE, others, isAl, isAli, finT, outE, padE, runD, cpsOf, cpT, toI, slT, T.weak, metT, kApp, kExt, elemD, iT, iL, iR1, iR2, iE, iZ, onI])
    (lc_map (k := ⟨ps.map D.str, none⟩) (vs := [2]) (t := .one 2) (h := rdF) (env := [.im (.str x), .im (.str y), .no]) trivial (ps.map D.str) [] (by rw [List.length_map]; exact line6 (by simpa using hn)) fun d z => by
      obtain ⟨v, hv, rfl⟩ := List.mem_map.mp z
      have qd := (readF_is (hp v hv)).1
      refine ⟨[.im (.str x), .im (.str y), .im (.str v)], .im (readF v), [.im (.str x), .im (.str y), .im (.str v)], rfl, ?_, rfl, rfl⟩
      simp [qd, sEr, op2, op1, T.val, R.opt, toB, opL, vals, consT, disp, mvs, mkTup, callT, callI, argE, others, isAl, isAli, finT, outE, padE, runD, cpsOf, cpT, toI, slT, T.weak, metT, kApp, kExt, elemD, iT, iL, iR1, iR2, iE, iZ, onI])
  refine fin4 (rest := [.im (.str x), .im (.str y), .no]) (m := 0) rfl ?_ _ rfl
  show f_read_items [.im (.str x), .im (.str y), .no] = _
  unfold f_read_items
  rw [em] at q
  simp [q, sEr, op2, op1, T.val, R.opt, toB, opL, vals, consT, disp, mvs, mkTup, callT, callI, argE, others, isAl, isAli, finT, outE, padE, runD, cpsOf, cpT, toI, slT, T.weak, metT, kApp, kExt, elemD, iT, iL, iR1, iR2, iE, iZ, onI]
theorem items_back {x y : Str} (hx : x.length ≤ 500000) : Txt.join y (((Txt.split x y).map readF).map itS) = x := by
  have e : ((Txt.split x y).map readF).map itS = Txt.split x y := by
    rw [List.map_map]
    refine (List.map_congr_left fun p hp => ?_).trans (List.map_id _)
    exact (readF_is (by have := part_len hp; omega)).2.back
  rw [e, join_eq]
  exact StrLaws.join_split x y
theorem goods_of {gs : List D} (h : gs.all isGood = true) : ∃ gi : List (Int × Int), gs = gi.map gd ∧ ∀ g ∈ gi, (1 ≤ g.1 ∧ g.1 ≤ 9) ∧ (0 ≤ g.2 ∧ g.2 ≤ 9) := by
  induction gs with
  | nil => exact ⟨[], rfl, fun g z => by cases z⟩
  | cons g gs ih =>
    rw [List.all_cons, Bool.and_eq_true] at h
    obtain ⟨gi, rfl, q⟩ := ih h.2
    have hg := h.1
    unfold isGood at hg
    split at hg
    · rename_i p c
      rw [Bool.and_eq_true] at hg
      have bt : ∀ {d : D} {a b : Int}, isBetween d a b = true → ∃ i : Int, d = .int i ∧ a ≤ i ∧ i ≤ b := fun {d a b} z => by
        cases d <;> first | exact ⟨_, rfl, isBt_of z⟩ | exact (Bool.false_ne_true z).elim
      obtain ⟨i, rfl, h1⟩ := bt hg.1
      obtain ⟨j, rfl, h2⟩ := bt hg.2
      exact ⟨(i, j) :: gi, rfl, fun x z => (List.mem_cons.mp z).elim (fun z => by subst z; exact ⟨h1, h2⟩) (q x)⟩
    · cases hg
theorem shop_shp {v : D} (h : isShop v = true) : ∃ gi us, v = shopD gi us ∧ Shp gi us := by
  unfold isShop at h
  split at h
  · rename_i gs rs
    rw [Bool.and_eq_true] at h
    obtain ⟨hg, hr⟩ := h
    have hg : ((decide (1 ≤ gs.length) && decide (gs.length ≤ 2)) && gs.all isGood) = true := hg
    simp only [Bool.and_eq_true, decide_eq_true_eq] at hg
    obtain ⟨gi, rfl, hp⟩ := goods_of hg.2
    have hl := hg.1
    rw [List.length_map] at hl
    unfold areRules at hr
    split at hr
    · rename_i ds
      simp only [Bool.and_eq_true, decide_eq_true_eq] at hr
      have hro := hr.1.2
      unfold rulesOk at hro
      rw [List.all_eq_true] at hro
      rw [List.length_map] at hro
      obtain ⟨us, rfl, hu⟩ := rules_ru hro
      refine ⟨gi, us, rfl, ⟨hl, hp, by simpa using hr.1.1, fun u z => ⟨hu u z, hro _ (List.mem_map_of_mem z)⟩, ?_⟩⟩
      have e3 : ((us.map Ru.d).filter isEndless).length = (us.filter Ru.endless).length := by
        rw [List.filter_map, List.length_map]
        congr 2
        funext u
        exact endless_is u
      rw [← e3]
      exact hr.2
    · cases hr
  · cases h
theorem row_back {x y : Str} (hx : x.length ≤ 500000) {ds : List D} (h : (Txt.split x y).map readF = ds) : x = Txt.join y (ds.map itS) := by
  rw [← h]
  exact (items_back hx).symm
theorem ru_back {x : Str} (hx : x.length ≤ 500000) {u : Ru} (h : D.tup ((Txt.split x " ").map readF) = u.d) : x = ruS u := by
  rw [row_is] at h
  injection h with h
  exact row_back hx h
theorem gd_back {x : Str} (hx : x.length ≤ 500000) {g : Int × Int} (h : D.tup ((Txt.split x "/").map readF) = gd g) : x = gdS g := by
  rw [gd_shape] at h
  injection h with h
  rw [row_back hx h]
  exact join_two "/" (numS g.1) (numS g.2)
noncomputable def rdRow (y : Str) : D → D
  | .str x => .tup ((Txt.split x y).map readF)
  | _ => .non
theorem rows_back {y x : Str} {α : Type} {f : α → D} {g : α → Str} {l : List α} (hx : x.length ≤ 500000) (hb : ∀ p a, p.length ≤ 500000 → D.tup ((Txt.split p y).map readF) = f a → p = g a) (h : ((Txt.split x ", ").map D.str).map (rdRow y) = l.map f) : x = Txt.join ", " (l.map g) := by
  have key : ∀ (ps : List Str) (l : List α), (∀ p ∈ ps, p.length ≤ 500000) → (ps.map D.str).map (rdRow y) = l.map f → ps = l.map g := fun ps => by
    induction ps with
    | nil =>
      intro l _ h
      cases l with
      | nil => rfl
      | cons a l => cases h
    | cons p ps ih =>
      intro l hp h
      cases l with
      | nil => cases h
      | cons a l =>
        rw [List.map_cons, List.map_cons, List.map_cons] at h
        injection h with h1 h2
        rw [List.map_cons, hb p a (hp p List.mem_cons_self) h1, ih l (fun q z => hp q (List.mem_cons_of_mem _ z)) h2]
  have e := key _ l (fun p hp => by have := part_len hp; omega) h
  rw [← e, join_eq]
  exact (StrLaws.join_split x ", ").symm
theorem split_len {x y : Str} (hy : (y.length == 0) = false) : (Txt.split x y).length ≤ x.length + 1 := by
  have e : Str.join y (Txt.split x y) = x := StrLaws.join_split x y
  have h1 : 1 ≤ (tl y).length := by
    rw [← len_tl]
    have : y.length ≠ 0 := by simpa using hy
    omega
  have key : ∀ (ps : List (List Nat)), ps.length ≤ (joinL (tl y) ps).length + 1 := fun ps => by
    induction ps with
    | nil => simp
    | cons a r ih =>
      cases r with
      | nil => simp
      | cons b r =>
        show (a :: b :: r).length ≤ (a ++ (tl y ++ joinL (tl y) (b :: r))).length + 1
        rw [List.length_append, List.length_append, List.length_cons]
        omega
  have := key ((Txt.split x y).map tl)
  rw [← tl_join, e, List.length_map] at this
  rw [len_tl]
  exact this
theorem dSplit_ok {x y : Str} (hx : x.length ≤ 500000) (hy : (y.length == 0) = false) : dSplit x (.str y) = some (.fr ((Txt.split x y).map D.str)) := by
  show (if (y.length == 0) = false ∧ x.length + 2 ≤ 1000000 then _ else _) = _
  rw [if_pos ⟨hy, by omega⟩]
theorem r_items {x y : Str} (hx : x.length ≤ 500000) (hy : (y.length == 0) = false) : d_read_items [.im (.str x), .im (.str y)] = .ok (.im (.tup ((Txt.split x y).map readF))) [.no, .no] :=
  r_read_items hx hy (by have := split_len (x := x) hy; omega)
theorem rr1 : d_read_rules [.im (.str "none")] = .ok (.im (.tup [])) [.no] := by
  simp [d_read_rules, f_read_rules, f_read_rules_1, g_NO_RULES, finF, sEr, op2, op1, T.val, R.opt, toB, opL, vals, consT, disp, mvs, mkTup, callT, callI, argE, others, isAl, isAli, finT, outE, padE, runD, cpsOf, cpT, toI, slT, T.weak, metT, kApp, kExt, elemD, iT, iL, iR1, iR2, iE, iZ, onI]
theorem rr2 (x : Str) (zs : List D) (h : (x == ("none" : Str)) = false) (q : eLc (fiL false (eM1 dSplit (eVar 0) (eC (.str ", ")))) [1] (.one 1) tT (eCall d_read_items (aCons (eVar 1) (aCons (eC (.str " ")) aNil))) [.im (.str x), .no] = .ok (.fr zs) [.im (.str x), .no]) : d_read_rules [.im (.str x)] = .ok (.im (.tup zs)) [.no] := by
  simp [d_read_rules, f_read_rules, f_read_rules_1, f_read_rules_2, g_NO_RULES, h, q, finF, sEr, op2, op1, T.val, R.opt, toB, opL, vals, consT, disp, mvs, mkTup, callT, callI, argE, others, isAl, isAli, finT, outE, padE, runD, cpsOf, cpT, toI, slT, T.weak, metT, kApp, kExt, elemD, iT, iL, iR1, iR2, iE, iZ, onI]
theorem e_sp : ((" " : Str).length == 0) = false := by decide +kernel
theorem e_cs : ((", " : Str).length == 0) = false := by decide +kernel
theorem e_sl : (("/" : Str).length == 0) = false := by decide +kernel
theorem e_ss : (("; " : Str).length == 0) = false := by decide +kernel
noncomputable def rulesF (x : Str) : List D := if (x == ("none" : Str)) = true then [] else ((Txt.split x ", ").map D.str).map (rdRow " ")
theorem r_rules {x : Str} (hx : x.length ≤ 500000) : d_read_rules [.im (.str x)] = .ok (.im (.tup (rulesF x))) [.no] := by
  unfold rulesF
  cases h : (x == ("none" : Str)) with
  | true =>
    have : x = "none" := by simpa using h
    subst this
    exact rr1
  | false =>
    rw [if_neg (by decide)]
    refine rr2 x _ h ?_
    have sp := dSplit_ok (y := ", ") hx e_cs
    have hl := split_len (x := x) (y := ", ") e_cs
    have hp : ∀ p ∈ Txt.split x ", ", p.length ≤ 500000 := fun p hp => by have := part_len hp; omega
    generalize Txt.split x ", " = ps at sp hl hp
    exact eLc_of (k := ⟨ps.map D.str, none⟩) (e := [.im (.str x), .no]) (by simp [eM1, sp, fiL, sEr, op2, op1, T.val, R.opt, toB, opL, vals, consT, disp, mvs, mkTup, callT, callI, argE, others, isAl, isAli, finT, outE, padE, runD, cpsOf, cpT, toI, slT, T.weak, metT, kApp, kExt, elemD, iT, iL, iR1, iR2, iE, iZ, onI])
      (lc_map (k := ⟨ps.map D.str, none⟩) (vs := [1]) (t := .one 1) (h := rdRow " ") (env := [.im (.str x), .no]) trivial (ps.map D.str) [] (by rw [List.length_map]; exact line6 (by simp; omega)) fun d z => by
        obtain ⟨v, hv, rfl⟩ := List.mem_map.mp z
        have qd := r_items (hp v hv) e_sp
        refine ⟨[.im (.str x), .im (.str v)], .im (rdRow " " (.str v)), [.im (.str x), .im (.str v)], rfl, ?_, rfl, rfl⟩
        show eCall d_read_items (aCons (eVar 1) (aCons (eC (.str " ")) aNil)) [.im (.str x), .im (.str v)] = .ok (.im (.tup ((Txt.split v " ").map readF))) [.im (.str x), .im (.str v)]
        generalize Txt.split v " " = zz at qd ⊢
        simp [qd, sEr, op2, op1, T.val, R.opt, toB, opL, vals, consT, disp, mvs, mkTup, callT, callI, argE, others, isAl, isAli, finT, outE, padE, runD, cpsOf, cpT, toI, slT, T.weak, metT, kApp, kExt, elemD, iT, iL, iR1, iR2, iE, iZ, onI])

abbrev Erd (a b c d e : Sl) : En := [a, b, c, d, e]
theorem rs1 (x : Str) (ps : List Str) (q : dSplit x (.str "; ") = some (.fr (ps.map D.str))) : f_read_shop_1 (Erd (.im (.str x)) .no .no .no .no) = .nx (Erd (.im (.str x)) (.own false (ps.map D.str)) .no .no .no) := by
  simp [f_read_shop_1, eM1, q, sEr, op2, op1, T.val, R.opt, toB, opL, vals, consT, disp, mvs, mkTup, callT, callI, argE, others, isAl, isAli, finT, outE, padE, runD, cpsOf, cpT, toI, slT, T.weak, metT, kApp, kExt, elemD, iT, iL, iR1, iR2, iE, iZ, onI]
theorem rs2n (t : Sl) (zs : List D) (L : Int) (h : (zs.length : Int) = L) (n : L ≠ 2) : f_read_shop_2 (Erd t (.own false zs) .no .no .no) = .rt (.im .non) (Erd t (.own false zs) .no .no .no) := by
  have n2 : (L == 2) = false := beq_eq_false_iff_ne.mpr n
  simp [f_read_shop_2, h, n2, sEr, op2, op1, T.val, R.opt, toB, opL, vals, consT, disp, mvs, mkTup, callT, callI, argE, others, isAl, isAli, finT, outE, padE, runD, cpsOf, cpT, toI, slT, T.weak, metT, kApp, kExt, elemD, iT, iL, iR1, iR2, iE, iZ, onI]
theorem rs2 (t : Sl) (a b : Str) : f_read_shop_2 (Erd t (.own false [.str a, .str b]) .no .no .no) = .nx (Erd t (.own false [.str a, .str b]) .no .no .no) := by
  simp [f_read_shop_2, sEr, op2, op1, T.val, R.opt, toB, opL, vals, consT, disp, mvs, mkTup, callT, callI, argE, others, isAl, isAli, finT, outE, padE, runD, cpsOf, cpT, toI, slT, T.weak, metT, kApp, kExt, elemD, iT, iL, iR1, iR2, iE, iZ, onI]
theorem rs3 (t : Sl) (a b : Str) : f_read_shop_3 (Erd t (.own false [.str a, .str b]) .no .no .no) = .nx (Erd t (.own false [.str a, .str b]) (.im (.str a)) (.im (.str b)) .no) := by
  simp [f_read_shop_3, gTl, sEr, op2, op1, T.val, R.opt, toB, opL, vals, consT, disp, mvs, mkTup, callT, callI, argE, others, isAl, isAli, finT, outE, padE, runD, cpsOf, cpT, toI, slT, T.weak, metT, kApp, kExt, elemD, iT, iL, iR1, iR2, iE, iZ, onI]
theorem rs4 (t o : Sl) (a b : Str) (zs : List D) (r : D) (q : eLc (fiL false (eM1 dSplit (eVar 2) (eC (.str ", ")))) [4] (.one 4) tT (eCall d_read_items (aCons (eVar 4) (aCons (eC (.str "/")) aNil))) (Erd t o (.im (.str a)) (.im (.str b)) .no) = .ok (.fr zs) (Erd t o (.im (.str a)) (.im (.str b)) .no)) (q2 : d_read_rules [.im (.str b)] = .ok (.im r) [.no]) :
    f_read_shop_4 (Erd t o (.im (.str a)) (.im (.str b)) .no) = .rt (.im (.tup [.tup zs, r])) (Erd t o (.im (.str a)) (.im (.str b)) .no) := by
  simp [f_read_shop_4, q, q2, sEr, op2, op1, T.val, R.opt, toB, opL, vals, consT, disp, mvs, mkTup, callT, callI, argE, others, isAl, isAli, finT, outE, padE, runD, cpsOf, cpT, toI, slT, T.weak, metT, kApp, kExt, elemD, iT, iL, iR1, iR2, iE, iZ, onI]
noncomputable def goodsF (x : Str) : List D := ((Txt.split x ", ").map D.str).map (rdRow "/")
noncomputable def shopF (x : Str) : D := match Txt.split x "; " with
  | [a, b] => .tup [.tup (goodsF a), .tup (rulesF b)]
  | _ => .non
theorem r_read_shop {x : Str} (hx : x.length ≤ 500000) : d_read_shop [.im (.str x)] = .ok (.im (shopF x)) [.no] := by
  have sp := dSplit_ok (y := "; ") hx e_ss
  have hp : ∀ p ∈ Txt.split x "; ", p.length ≤ 500000 := fun p hp => by have := part_len hp; omega
  unfold shopF
  generalize Txt.split x "; " = ps at sp hp
  have other : ps.length ≠ 2 → d_read_shop [.im (.str x)] = .ok (.im .non) [.no] := fun n => by
    refine fin4 (rest := Erd (.im (.str x)) (.own false (ps.map D.str)) .no .no .no) (m := 0) rfl ?_ _ rfl
    show f_read_shop (Erd (.im (.str x)) .no .no .no .no) = _
    unfold f_read_shop
    exact seq_of (rs1 _ _ sp) (by rw [sSeq_s, rs2n _ _ ps.length (by rw [List.length_map]) (by omega)]; rfl)
  match ps, sp, hp, other with
  | [a, b], sp, hp, _ =>
    have ha := hp a List.mem_cons_self
    have hb := hp b (List.mem_cons_of_mem _ List.mem_cons_self)
    have spa := dSplit_ok (y := ", ") ha e_cs
    have hla := split_len (x := a) (y := ", ") e_cs
    have hpa : ∀ p ∈ Txt.split a ", ", p.length ≤ 500000 := fun p hp => by have := part_len hp; omega
    have q : eLc (fiL false (eM1 dSplit (eVar 2) (eC (.str ", ")))) [4] (.one 4) tT (eCall d_read_items (aCons (eVar 4) (aCons (eC (.str "/")) aNil))) (Erd (.im (.str x)) (.own false [.str a, .str b]) (.im (.str a)) (.im (.str b)) .no) = .ok (.fr (goodsF a)) (Erd (.im (.str x)) (.own false [.str a, .str b]) (.im (.str a)) (.im (.str b)) .no) := by
      unfold goodsF
      generalize Txt.split a ", " = qs at spa hla hpa
      exact eLc_of (k := ⟨qs.map D.str, none⟩) (e := Erd (.im (.str x)) (.own false [.str a, .str b]) (.im (.str a)) (.im (.str b)) .no) (by simp [eM1, spa, fiL, sEr, op2, op1, T.val, R.opt, toB, opL, vals, consT, disp, mvs, mkTup, callT, callI, argE, others, isAl, isAli, finT, outE, padE, runD, cpsOf, cpT, toI, slT, T.weak, metT, kApp, kExt, elemD, iT, iL, iR1, iR2, iE, iZ, onI])
        (lc_map (k := ⟨qs.map D.str, none⟩) (vs := [4]) (t := .one 4) (h := rdRow "/") (env := Erd (.im (.str x)) (.own false [.str a, .str b]) (.im (.str a)) (.im (.str b)) .no) trivial (qs.map D.str) [] (by rw [List.length_map]; exact line6 (by simp; omega)) fun d z => by
          obtain ⟨v, hv, rfl⟩ := List.mem_map.mp z
          have qd := r_items (hpa v hv) e_sl
          refine ⟨Erd (.im (.str x)) (.own false [.str a, .str b]) (.im (.str a)) (.im (.str b)) (.im (.str v)), .im (rdRow "/" (.str v)), Erd (.im (.str x)) (.own false [.str a, .str b]) (.im (.str a)) (.im (.str b)) (.im (.str v)), rfl, ?_, rfl, rfl⟩
          show eCall d_read_items (aCons (eVar 4) (aCons (eC (.str "/")) aNil)) (Erd (.im (.str x)) (.own false [.str a, .str b]) (.im (.str a)) (.im (.str b)) (.im (.str v))) = .ok (.im (.tup ((Txt.split v "/").map readF))) (Erd (.im (.str x)) (.own false [.str a, .str b]) (.im (.str a)) (.im (.str b)) (.im (.str v)))
          generalize Txt.split v "/" = zz at qd ⊢
          simp [qd, sEr, op2, op1, T.val, R.opt, toB, opL, vals, consT, disp, mvs, mkTup, callT, callI, argE, others, isAl, isAli, finT, outE, padE, runD, cpsOf, cpT, toI, slT, T.weak, metT, kApp, kExt, elemD, iT, iL, iR1, iR2, iE, iZ, onI])
    refine fin4 (rest := Erd (.im (.str x)) (.own false [.str a, .str b]) (.im (.str a)) (.im (.str b)) .no) (m := 0) rfl ?_ _ rfl
    show f_read_shop (Erd (.im (.str x)) .no .no .no .no) = _
    unfold f_read_shop
    exact seq_of (rs1 _ _ sp) (seq_of (rs2 _ _ _) (seq_of (rs3 _ _ _) (rs4 _ _ _ _ _ _ q (r_rules hb))))
  | [], _, _, other => exact other (by decide)
  | [_], _, _, other => exact other (by simp)
  | _ :: _ :: _ :: _, _, _, other => exact other (by simp)

theorem shopF_back {x : Str} (hx : x.length ≤ 500000) {gi : List (Int × Int)} {us : List Ru} (e : shopF x = shopD gi us) : x = shS gi us := by
  have ex : Txt.join "; " (Txt.split x "; ") = x := by rw [join_eq]; exact StrLaws.join_split x "; "
  have hp : ∀ p ∈ Txt.split x "; ", p.length ≤ 500000 := fun p hp => by have := part_len hp; omega
  unfold shopF at e
  generalize Txt.split x "; " = ps at ex hp e
  match ps, ex, hp, e with
  | [a, b], ex, hp, e =>
    injection e with e
    injection e with e1 e2
    injection e2 with e2
    injection e1 with e1
    injection e2 with e2
    have ha : a = firstS gi := rows_back (hp a List.mem_cons_self) (fun p g hp h => gd_back hp h) e1
    have hb : b = secS us := by
      have hbl := hp b (List.mem_cons_of_mem _ List.mem_cons_self)
      unfold rulesF at e2
      cases h : (b == ("none" : Str)) with
      | true =>
        rw [if_pos h] at e2
        have : us = [] := by
          cases us with
          | nil => rfl
          | cons u us => cases e2
        subst this
        exact beq_iff_eq.mp h
      | false =>
        rw [if_neg (by rw [h]; decide)] at e2
        have hu : us ≠ [] := fun z => by
          subst z
          have e3 : (Txt.split b ", ") = [] := by simpa using e2
          have := StrLaws.join_split b ", "
          rw [e3] at this
          have hb0 : b = "" := this.symm
          have : Txt.split "" ", " ≠ [] := by decide +kernel
          rw [hb0] at e3
          exact this e3
        have := rows_back hbl (fun p u hp h => ru_back hp h) e2
        rw [this]
        unfold secS
        rw [if_neg hu]
    rw [← ex, ha, hb]
    exact join_two _ _ _
  | [], _, _, e => cases e
  | [_], _, _, e => cases e
  | _ :: _ :: _ :: _, _, _, e => cases e
theorem rp (x : Str) (sh : D) (q : d_read_shop [.im (.str x)] = .ok (.im sh) [.no]) (h : isShop sh = true) : d_parse_shop [.im (.str x)] = .ok (.im sh) [.no] := by
  simp [d_parse_shop, f_parse_shop, f_parse_shop_1, f_parse_shop_2, f_parse_shop_3, f_parse_shop_4, q, r_is_shop, h, finF, sEr, op2, op1, T.val, R.opt, toB, opL, vals, consT, disp, mvs, mkTup, callT, callI, argE, others, isAl, isAli, finT, outE, padE, runD, cpsOf, cpT, toI, slT, T.weak, metT, kApp, kExt, elemD, iT, iL, iR1, iR2, iE, iZ, onI]
theorem rpx (x : Str) (sh : D) (q : d_read_shop [.im (.str x)] = .ok (.im sh) [.no]) (h : isShop sh = false) : d_parse_shop [.im (.str x)] = .ex "ParseError" [.no] := by
  simp [d_parse_shop, f_parse_shop, f_parse_shop_1, f_parse_shop_2, f_parse_shop_3, q, r_is_shop, h, finF, sEr, op2, op1, T.val, R.opt, toB, opL, vals, consT, disp, mvs, mkTup, callT, callI, argE, others, isAl, isAli, finT, outE, padE, runD, cpsOf, cpT, toI, slT, T.weak, metT, kApp, kExt, elemD, iT, iL, iR1, iR2, iE, iZ, onI]
theorem parse_any {x : Str} (hx : x.length ≤ 500000) : (∃ gi us, Shp gi us ∧ x = shS gi us ∧ d_parse_shop [.im (.str x)] = .ok (.im (shopD gi us)) [.no]) ∨ d_parse_shop [.im (.str x)] = .ex "ParseError" [.no] := by
  have q := r_read_shop hx
  cases h : isShop (shopF x) with
  | false => exact .inr (rpx _ _ q h)
  | true =>
    obtain ⟨gi, us, e, hS⟩ := shop_shp h
    have p := rp _ _ q h
    rw [e] at p
    exact .inl ⟨gi, us, hS, shopF_back hx e, p⟩

inductive Qs where
  | g0 | g1 | g2 | g3 | gc | s1 | r0 | w | i0 | i1 | c
  deriving DecidableEq
def dig (k : Nat) : Bool := decide (48 ≤ k) && decide (k ≤ 57)
def low (k : Nat) : Bool := decide (97 ≤ k) && decide (k ≤ 122)
def stepQ : Qs → Nat → Option Qs
  | .g0, k => if dig k then some .g1 else none
  | .g1, k => if k = 47 then some .g2 else none
  | .g2, k => if dig k then some .g3 else none
  | .g3, k => if k = 44 then some .gc else if k = 59 then some .s1 else none
  | .gc, k => if k = 32 then some .g0 else none
  | .s1, k => if k = 32 then some .r0 else none
  | .r0, k => if low k then some .w else none
  | .w, k => if low k then some .w else if k = 32 then some .i0 else none
  | .i0, k => if dig k || k = 45 then some .i1 else none
  | .i1, k => if dig k then some .i1 else if k = 32 then some .i0 else if k = 44 then some .c else none
  | .c, k => if k = 32 then some .r0 else none
def runQ : Qs → List Nat → Option Qs
  | q, [] => some q
  | q, k :: l => (stepQ q k).bind fun q => runQ q l
def finQ (q : Qs) : Bool := q = .w || q = .i1
theorem runQ_app : ∀ (a b : List Nat) (q : Qs), runQ q (a ++ b) = (runQ q a).bind fun q => runQ q b
  | [], b, q => rfl
  | k :: a, b, q => by
    show (stepQ q k).bind (fun q => runQ q (a ++ b)) = ((stepQ q k).bind fun q => runQ q a).bind fun q => runQ q b
    cases stepQ q k with
    | none => rfl
    | some q' => exact runQ_app a b q'
theorem runQ_of {a b : List Nat} {q q' q2 : Qs} (h : runQ q a = some q') (h2 : runQ q' b = some q2) : runQ q (a ++ b) = some q2 := by rw [runQ_app, h]; exact h2
theorem num_run : ∀ n : Fin 100, runQ .i0 (tl (numS (n.val : Nat))) = some .i1 := by decide +kernel
theorem num_run' {i : Int} (h : 0 ≤ i ∧ i < 100) : runQ .i0 (tl (numS i)) = some .i1 := by
  obtain ⟨n, rfl⟩ := Int.eq_ofNat_of_zero_le h.1
  exact num_run ⟨n, by omega⟩
theorem dig_run : ∀ n : Fin 10, runQ .g0 (tl (numS (n.val : Nat))) = some .g1 ∧ runQ .g2 (tl (numS (n.val : Nat))) = some .g3 := by decide +kernel
theorem dig_run' {i : Int} (h : 0 ≤ i ∧ i ≤ 9) : runQ .g0 (tl (numS i)) = some .g1 ∧ runQ .g2 (tl (numS i)) = some .g3 := by
  obtain ⟨n, rfl⟩ := Int.eq_ofNat_of_zero_le h.1
  exact dig_run ⟨n, by omega⟩
theorem word_run {w : Str} (h : wordOk w) : runQ .r0 (tl w) = some .w := by
  rcases h with rfl | rfl | rfl | rfl <;> decide +kernel
theorem dash_run : runQ .i0 (tl ("-" : Str)) = some .i1 := by decide +kernel
theorem joinL_run {S : List Nat} {a b : Qs} (hS : runQ b S = some a) : ∀ {ps : List (List Nat)}, ps ≠ [] → (∀ p ∈ ps, runQ a p = some b) → runQ a (joinL S ps) = some b
  | [], h, _ => absurd rfl h
  | [p], _, h => h p (List.mem_singleton.mpr rfl)
  | p :: q :: r, _, h => by
    show runQ a (p ++ (S ++ joinL S (q :: r))) = some b
    exact runQ_of (h p List.mem_cons_self) (runQ_of hS (joinL_run hS (by simp) fun z hz => h z (List.mem_cons_of_mem _ hz)))
theorem join_run {y : Str} {a b : Qs} (hy : runQ b (tl y) = some a) {ps : List Str} (hne : ps ≠ []) (h : ∀ p ∈ ps, runQ a (tl p) = some b) : runQ a (tl (Txt.join y ps)) = some b := by
  rw [join_tl]
  refine joinL_run hy (fun z => hne (List.map_eq_nil_iff.mp z)) fun p hp => ?_
  obtain ⟨z, hz, rfl⟩ := List.mem_map.mp hp
  exact h z hz
theorem row_word (u : Ru) : ∃ w ds, row u = .str w :: ds ∧ wordOk w ∧ ds ≠ [] ∧ ∀ d ∈ ds, ∀ w, d ≠ .str w := by
  cases u with
  | pack g s p m => exact ⟨_, _, rfl, .inl rfl, by simp, fun d hd w z => by cases m <;> simp [oD] at hd <;> rcases hd with rfl | rfl | rfl | rfl <;> cases z⟩
  | frm g l p => exact ⟨_, _, rfl, .inr (.inl rfl), by simp, fun d hd w z => by simp at hd; rcases hd with rfl | rfl | rfl <;> cases z⟩
  | over f o => exact ⟨_, _, rfl, .inr (.inr (.inl rfl)), by simp, fun d hd w z => by simp at hd; rcases hd with rfl | rfl <;> cases z⟩
  | each f o m => exact ⟨_, _, rfl, .inr (.inr (.inr rfl)), by simp, fun d hd w z => by cases m <;> simp [oD] at hd <;> rcases hd with rfl | rfl | rfl <;> cases z⟩
theorem it_run {d : D} (h : itOk d) (hn : ∀ w, d ≠ .str w) : runQ .i0 (tl (itS d)) = some .i1 := by
  cases d with
  | non => exact dash_run
  | str w => exact (hn w rfl).elim
  | int i => exact num_run' h
  | bl b => exact h.elim
  | tup b => exact h.elim
  | lst b => exact h.elim
  | fz b => exact h.elim
  | dct _ _ => exact h.elim
theorem sp_run : runQ .i1 (tl (" " : Str)) = some .i0 := by decide +kernel
theorem sp_run0 : runQ .w (tl (" " : Str)) = some .i0 := by decide +kernel
theorem cs_run : runQ .i1 (tl (", " : Str)) = some .r0 := by decide +kernel
theorem cs_run0 : runQ .g3 (tl (", " : Str)) = some .g0 := by decide +kernel
theorem ss_run : runQ .g3 (tl ("; " : Str)) = some .r0 := by decide +kernel
theorem sl_run : runQ .g1 (tl ("/" : Str)) = some .g2 := by decide +kernel
theorem no_run : runQ .r0 (tl ("none" : Str)) = some .w := by decide +kernel
theorem ru_run {u : Ru} (h : ∀ d ∈ row u, itOk d) : runQ .r0 (tl (ruS u)) = some .i1 := by
  obtain ⟨w, ds, e, hw, hne, hs⟩ := row_word u
  unfold ruS
  rw [e] at h ⊢
  have e2 : Txt.join " " (((.str w : D) :: ds).map itS) = w ++ " " ++ Txt.join " " (ds.map itS) := by
    refine ext_tl ?_
    cases ds with
    | nil => exact absurd rfl hne
    | cons d ds =>
      rw [tl_append, tl_append, join_tl, join_tl, List.append_assoc]
      rfl
  rw [e2, tl_append, tl_append]
  refine runQ_of (runQ_of (word_run hw) sp_run0) (join_run sp_run (fun z => hne (List.map_eq_nil_iff.mp z)) fun p hp => ?_)
  obtain ⟨d, hd, rfl⟩ := List.mem_map.mp hp
  exact it_run (h d (List.mem_cons_of_mem _ hd)) (hs d hd)
theorem gd_run {g : Int × Int} (h : (1 ≤ g.1 ∧ g.1 ≤ 9) ∧ (0 ≤ g.2 ∧ g.2 ≤ 9)) : runQ .g0 (tl (gdS g)) = some .g3 := by
  unfold gdS
  rw [tl_append, tl_append]
  exact runQ_of (runQ_of (dig_run' (by omega)).1 sl_run) (dig_run' (by omega)).2
theorem first_run {gi : List (Int × Int)} {us : List Ru} (h : Shp gi us) : runQ .g0 (tl (firstS gi)) = some .g3 := by
  unfold firstS
  refine join_run cs_run0 (fun z => ?_) fun p hp => ?_
  · have := h.len.1
    rw [List.map_eq_nil_iff.mp z] at this
    simp at this
  · obtain ⟨g, hg, rfl⟩ := List.mem_map.mp hp
    exact gd_run (h.pr g hg)
theorem sec_run {gi : List (Int × Int)} {us : List Ru} (h : Shp gi us) : ∃ q, runQ .r0 (tl (secS us)) = some q ∧ finQ q = true := by
  unfold secS
  split
  · exact ⟨_, no_run, rfl⟩
  · rename_i hne
    refine ⟨.i1, join_run cs_run (fun z => hne (List.map_eq_nil_iff.mp z)) fun p hp => ?_, rfl⟩
    obtain ⟨u, hu, rfl⟩ := List.mem_map.mp hp
    exact ru_run (ru_ok h u hu)
theorem sh_run {gi : List (Int × Int)} {us : List Ru} (h : Shp gi us) : ∃ q, runQ .g0 (tl (shS gi us)) = some q ∧ finQ q = true := by
  obtain ⟨q, h1, h2⟩ := sec_run h
  refine ⟨q, ?_, h2⟩
  unfold shS
  rw [tl_append, tl_append]
  exact runQ_of (runQ_of (first_run h) ss_run) h1
theorem sh_len {gi : List (Int × Int)} {us : List Ru} (h : Shp gi us) : (shS gi us).length ≤ 124 := by
  have h1 := first_len h
  have h2 := sec_len h
  unfold shS
  rw [len_tl, tl_append, tl_append, List.length_append, List.length_append, ← len_tl, ← len_tl, ← len_tl, len_ss]
  omega
def noSh (x : Str) : Prop := ∀ gi us, Shp gi us → x ≠ shS gi us
theorem no_run_of {x : Str} (h : ∀ q, runQ .g0 (tl x) = some q → finQ q = false) : noSh x := fun gi us hs e => by
  obtain ⟨q, h1, h2⟩ := sh_run hs
  rw [← e] at h1
  rw [h q h1] at h2
  cases h2
theorem no_len {x : Str} (h : 124 < x.length) : noSh x := fun gi us hs e => by
  have := sh_len hs
  rw [← e] at this
  omega
theorem fin_cases {q : Qs} (h : finQ q = true) : q = .w ∨ q = .i1 := by cases q <;> first | exact .inl rfl | exact .inr rfl | cases h
theorem no_more {gi : List (Int × Int)} {us : List Ru} (h : Shp gi us) {y : Str} (hw : ∀ q, runQ .w (tl y) = some q → finQ q = false) (hi : ∀ q, runQ .i1 (tl y) = some q → finQ q = false) : noSh (shS gi us ++ y) := no_run_of fun q e => by
  obtain ⟨q0, h1, h2⟩ := sh_run h
  rw [tl_append, runQ_app, h1] at e
  rcases fin_cases h2 with rfl | rfl
  · exact hw q e
  · exact hi q e
theorem no_1 {gi : List (Int × Int)} {us : List Ru} (h : Shp gi us) : noSh (shS gi us ++ "; 0") := no_more h (fun q e => by revert e; revert q; decide +kernel) (fun q e => by revert e; revert q; decide +kernel)
theorem no_2 {gi : List (Int × Int)} {us : List Ru} (h : Shp gi us) : noSh (shS gi us ++ " ") := no_more h (fun q e => by revert e; revert q; decide +kernel) (fun q e => by revert e; revert q; decide +kernel)
theorem no_3 {gi : List (Int × Int)} {us : List Ru} (h : Shp gi us) : noSh (shS gi us ++ ", 0") := no_more h (fun q e => by revert e; revert q; decide +kernel) (fun q e => by revert e; revert q; decide +kernel)
theorem no_4 {gi : List (Int × Int)} {us : List Ru} (h : Shp gi us) : noSh (shS gi us ++ "\n") := no_more h (fun q e => by revert e; revert q; decide +kernel) (fun q e => by revert e; revert q; decide +kernel)
theorem no_5 (x : Str) : noSh (" " ++ x) := no_run_of fun q e => by
  have e0 : tl (" " : Str) = [32] := by decide +kernel
  rw [tl_append, e0] at e
  cases e
theorem no_6 : noSh "" := no_run_of fun q e => by revert e; revert q; decide +kernel
theorem no_7 (x : Str) : noSh (x ++ "X") := no_run_of fun q e => by
  have e0 : tl ("X" : Str) = [88] := by decide +kernel
  rw [tl_append, e0, runQ_app] at e
  cases z : runQ .g0 (tl x) with
  | none => rw [z] at e; cases e
  | some q' =>
    rw [z] at e
    have e : runQ q' [88] = some q := e
    cases q' <;> cases e
theorem no_8 {z : Str} {k : Int} (hz : z.length = 1) (hk : 124 < k) (y : Str) : noSh (repS z k ++ y) := no_len (by
  have := repS_len z k
  rw [len_tl, tl_append, List.length_append, ← len_tl, this, hz]
  omega)
theorem no_8' {z : Str} {k : Int} (hz : z.length = 1) (hk : 124 < k) : noSh (repS z k) := no_len (by
  have := repS_len z k
  rw [this, hz]
  omega)
theorem repl_split {x y z : Str} (hy : (y.length == 0) = false) (h : 2 ≤ (Txt.split x y).length) : Txt.replace x y z = Txt.join z (Txt.split x y) := by
  unfold Txt.split at h ⊢
  unfold Txt.replace
  split at h
  · simp at h
  · rename_i n1
    rw [if_neg n1]
    split at h
    · simp at h
    · rename_i n2
      rw [if_neg n2]
      rw [if_neg (by rw [hy, Bool.false_and, Bool.or_false]; exact n2)]
      rfl
theorem split_two {x y : Str} (hy : (y.length == 0) = false) (h : 2 ≤ (Txt.split x y).length) (z : Str) : ∃ a b r, tl x = tl a ++ (tl y ++ joinL (tl y) (tl b :: r)) ∧ tl (Txt.replace x y z) = tl a ++ (tl z ++ joinL (tl z) (tl b :: r)) := by
  have e1 := repl_split (z := z) hy h
  have e2 : Txt.join y (Txt.split x y) = x := by rw [join_eq]; exact StrLaws.join_split x y
  generalize Txt.split x y = ps at h e1 e2
  match ps, h, e1, e2 with
  | a :: b :: r, _, e1, e2 =>
    refine ⟨a, b, r.map tl, ?_, ?_⟩
    · rw [← e2, join_tl]; rfl
    · rw [e1, join_tl]; rfl
theorem runQ_back {a b : List Nat} {q q2 : Qs} (h : runQ q (a ++ b) = some q2) : ∃ q', runQ q a = some q' ∧ runQ q' b = some q2 := by
  rw [runQ_app] at h
  cases z : runQ q a with
  | none => rw [z] at h; cases h
  | some q' => rw [z] at h; exact ⟨q', rfl, h⟩
theorem runQ_cons {k : Nat} {b : List Nat} {q q2 : Qs} (h : runQ q (k :: b) = some q2) : ∃ q', stepQ q k = some q' ∧ runQ q' b = some q2 := by
  have h : (stepQ q k).bind (fun q => runQ q b) = some q2 := h
  cases z : stepQ q k with
  | none => rw [z] at h; cases h
  | some q' => rw [z] at h; exact ⟨q', rfl, h⟩
theorem keep_run {s : Nat} {p : Qs → Bool} (h : ∀ q k q', p q = true → k ≠ s → stepQ q k = some q' → p q' = true) : ∀ (l : List Nat) (q q' : Qs), p q = true → s ∉ l → runQ q l = some q' → p q' = true
  | [], q, q', hp, _, e => by cases e; exact hp
  | k :: l, q, q', hp, hs, e => by
    obtain ⟨q1, e1, e2⟩ := runQ_cons e
    exact keep_run h l q1 q' (h q k q1 hp (fun z => hs (z ▸ List.mem_cons_self)) e1) (fun z => hs (List.mem_cons_of_mem _ z)) e2
def pSl (q : Qs) : Bool := q = .g0 || q = .g1
def pSp (q : Qs) : Bool := q = .g0 || q = .g1 || q = .g2 || q = .g3 || q = .gc || q = .s1
def back (q : Qs) : Bool := q = .s1 || q = .r0 || q = .w || q = .i0 || q = .i1 || q = .c
theorem stepQ_sl : ∀ q k q', pSl q = true → k ≠ 47 → stepQ q k = some q' → pSl q' = true := fun q k q' hp hk e => by
  cases q <;> simp [pSl] at hp <;> simp only [stepQ] at e
  · split at e
    · cases e; rfl
    · cases e
  · rw [if_neg hk] at e; cases e
theorem stepQ_sp : ∀ q k q', pSp q = true → k ≠ 32 → stepQ q k = some q' → pSp q' = true := fun q k q' hp hk e => by
  cases q <;> simp [pSp] at hp <;> simp only [stepQ] at e
  · split at e
    · cases e; rfl
    · cases e
  · split at e
    · cases e; rfl
    · cases e
  · split at e
    · cases e; rfl
    · cases e
  · split at e
    · cases e; rfl
    · split at e
      · cases e; rfl
      · cases e
  · rw [if_neg hk] at e; cases e
  · rw [if_neg hk] at e; cases e
theorem stepQ_back {q q' : Qs} {k : Nat} (hb : back q = true) (e : stepQ q k = some q') : k ≠ 59 ∧ back q' = true := by
  refine ⟨fun z => ?_, ?_⟩
  · subst z
    cases q <;> simp [back] at hb <;> cases e
  · cases q <;> simp [back] at hb <;> simp only [stepQ] at e <;> (repeat' split at e) <;> cases e <;> rfl
theorem back_59 : ∀ (l : List Nat) (q q' : Qs), back q = true → runQ q l = some q' → 59 ∉ l ∧ back q' = true
  | [], q, q', hb, e => by cases e; exact ⟨by simp, hb⟩
  | k :: l, q, q', hb, e => by
    obtain ⟨q1, e1, e2⟩ := runQ_cons e
    obtain ⟨h1, h2⟩ := stepQ_back hb e1
    obtain ⟨h3, h4⟩ := back_59 l q1 q' h2 e2
    exact ⟨fun z => (List.mem_cons.mp z).elim (fun z => h1 z.symm) h3, h4⟩
theorem front_59 : ∀ (l : List Nat) (q q' : Qs), back q' = false → runQ q l = some q' → 59 ∉ l
  | [], q, q', hb, e => by simp
  | k :: l, q, q', hb, e => by
    obtain ⟨q1, e1, e2⟩ := runQ_cons e
    have h2 := front_59 l q1 q' hb e2
    intro z
    rcases List.mem_cons.mp z with z | z
    · subst z
      have : back q1 = true := by cases q <;> cases e1 <;> rfl
      have := (back_59 l q1 q' this e2).2
      rw [this] at hb
      cases hb
    · exact h2 z
theorem len_of_mem {x : Str} {s : Nat} (h : s ∈ tl x) : 2 ≤ (Txt.split x ⟨#[s]⟩).length := by
  have e2 : Str.join ⟨#[s]⟩ (Txt.split x ⟨#[s]⟩) = x := StrLaws.join_split x _
  have fr := StrLaws.split_free x s
  generalize Txt.split x ⟨#[s]⟩ = ps at e2 fr
  match ps, e2, fr with
  | [], e2, _ => rw [← e2] at h; cases h
  | [a], e2, fr =>
    have e2 : a = x := e2
    rw [← e2] at h
    exact (fr a (List.mem_singleton.mpr rfl) h).elim
  | _ :: _ :: _, _, _ => simp
theorem has_sl {gi : List (Int × Int)} {us : List Ru} (h : Shp gi us) : 47 ∈ tl (shS gi us) := Classical.byContradiction fun n => by
  obtain ⟨q, h1, h2⟩ := sh_run h
  have := keep_run stepQ_sl _ _ _ rfl n h1
  rcases fin_cases h2 with rfl | rfl <;> cases this
theorem has_sp {gi : List (Int × Int)} {us : List Ru} (h : Shp gi us) : 32 ∈ tl (shS gi us) := Classical.byContradiction fun n => by
  obtain ⟨q, h1, h2⟩ := sh_run h
  have := keep_run stepQ_sp _ _ _ rfl n h1
  rcases fin_cases h2 with rfl | rfl <;> cases this
theorem no_9 {gi : List (Int × Int)} {us : List Ru} (h : Shp gi us) : noSh (Txt.replace (shS gi us) "/" "/0") := no_run_of fun q e => by
  have e0 : tl ("/" : Str) = [47] := by decide +kernel
  have e1 : tl ("/0" : Str) = [47, 48] := by decide +kernel
  have es : ("/" : Str) = ⟨#[47]⟩ := by decide +kernel
  obtain ⟨a, b, r, h1, h2⟩ := split_two e_sl (by rw [es]; exact len_of_mem (has_sl h)) "/0"
  obtain ⟨q0, h3, h4⟩ := sh_run h
  rw [h1, e0] at h3
  rw [h2, e1] at e
  obtain ⟨q1, a1, a2⟩ := runQ_back h3
  obtain ⟨q1', b1, b2⟩ := runQ_back e
  rw [a1] at b1
  cases b1
  obtain ⟨q2, c1, c2⟩ := runQ_cons a2
  have : q1 = .g1 ∧ q2 = .g2 := by cases q1 <;> cases c1; exact ⟨rfl, rfl⟩
  obtain ⟨rfl, rfl⟩ := this
  -- behind the stroke comes a digit
  have dg : ∀ S, ∃ k t, dig k = true ∧ joinL S (tl b :: r) = k :: t := fun S => by
    cases hb : tl b with
    | nil =>
      rw [hb] at c2
      cases r with
      | nil => cases c2; rcases fin_cases h4 with z | z <;> cases z
      | cons _ _ => cases c2
    | cons k t =>
      rw [hb] at c2
      have key : ∀ S, ∃ t', joinL S ((k :: t) :: r) = k :: t' := fun S => by cases r with
        | nil => exact ⟨_, rfl⟩
        | cons _ _ => exact ⟨_, rfl⟩
      obtain ⟨t1, k1⟩ := key [47]
      rw [k1] at c2
      obtain ⟨q3, d1, _⟩ := runQ_cons c2
      obtain ⟨t2, k2⟩ := key S
      refine ⟨k, t2, ?_, k2⟩
      simp only [stepQ] at d1
      split at d1
      · assumption
      · cases d1
  obtain ⟨k, t, hk, ek⟩ := dg [47, 48]
  have b2 : runQ .g3 (joinL [47, 48] (tl b :: r)) = some q := b2
  rw [ek] at b2
  obtain ⟨q3, d1, _⟩ := runQ_cons b2
  exfalso
  simp only [stepQ] at d1
  simp [dig] at hk
  rw [if_neg (by omega), if_neg (by omega)] at d1
  cases d1
theorem no_10 {gi : List (Int × Int)} {us : List Ru} (h : Shp gi us) : noSh (Txt.replace (shS gi us) " " "  ") := no_run_of fun q e => by
  have e0 : tl (" " : Str) = [32] := by decide +kernel
  have e1 : tl ("  " : Str) = [32, 32] := by decide +kernel
  have es : (" " : Str) = ⟨#[32]⟩ := by decide +kernel
  obtain ⟨a, b, r, h1, h2⟩ := split_two e_sp (by rw [es]; exact len_of_mem (has_sp h)) "  "
  rw [h2, e1] at e
  obtain ⟨q1', b1, b2⟩ := runQ_back e
  obtain ⟨q2, c1, c2⟩ := runQ_cons b2
  obtain ⟨q3, d1, _⟩ := runQ_cons c2
  exfalso
  cases q1' <;> cases c1 <;> cases d1
theorem no_11 {gi : List (Int × Int)} {us : List Ru} (h : Shp gi us) : noSh (Txt.replace (shS gi us) "; " ";") := no_run_of fun q e => by
  have e0 : tl ("; " : Str) = [59, 32] := by decide +kernel
  have e1 : tl (";" : Str) = [59] := by decide +kernel
  obtain ⟨qs, h3, h4⟩ := sec_run h
  have sp : Txt.split (shS gi us) "; " = [firstS gi, secS us] := by
    have := split_join (y := "; ") e0 (by decide +kernel) (parts := [firstS gi, secS us]) (by simp) (fun p hp => by
      rcases List.mem_cons.mp hp with rfl | hp
      · exact front_59 _ _ _ rfl (first_run h)
      · rw [List.mem_singleton.mp hp]
        exact (back_59 _ _ _ rfl h3).1)
    rw [join_two] at this
    exact this
  rw [repl_split e_ss (by rw [sp]; exact Nat.le_refl 2), sp, join_two, tl_append, tl_append, e1] at e
  rw [List.append_assoc] at e
  obtain ⟨q1, b1, b2⟩ := runQ_back e
  rw [first_run h] at b1
  cases b1
  have b2 : runQ .s1 (tl (secS us)) = some q := b2
  cases hs : tl (secS us) with
  | nil => rw [hs] at h3; cases h3; cases h4
  | cons k t =>
    rw [hs] at h3 b2
    obtain ⟨q2, c1, _⟩ := runQ_cons h3
    obtain ⟨q3, d1, _⟩ := runQ_cons b2
    simp only [stepQ] at c1 d1
    split at d1
    · rename_i hk
      subst hk
      cases c1
    · cases d1
theorem cut_len (x : Str) (lo hi : Option Int) : (cutS x lo hi).length ≤ x.length := by
  show ((x.cps.toList.drop (HT.sIx x.length 0 lo)).take (HT.sIx x.length x.length hi - HT.sIx x.length 0 lo)).toArray.size ≤ _
  rw [List.size_toArray, List.length_take, List.length_drop]
  have : x.cps.toList.length = x.length := by simp [Str.length]
  omega
theorem sl_of {x : Str} (h : x.length ≤ 1000) (lo hi : Option Int) : dSl (.str x) lo hi = some (.im (.str (cutS x lo hi))) := by
  show (if x.length ≤ 1000000 then _ else _) = _
  rw [if_pos (by omega)]
theorem add_s {x y : Str} (h : x.length + y.length ≤ 100000) : dAdd (.str x) (.str y) = some (.im (.str (x ++ y))) := by
  show (if x.length + y.length ≤ sizeLine then some (T.im (.str (x ++ y))) else none) = _
  rw [if_pos (line6 (by omega))]
theorem app_len (x y : Str) : (x ++ y).length = x.length + y.length := by
  rw [len_tl, tl_append, List.length_append, ← len_tl, ← len_tl]
theorem r_pickS (ns : List Int) (n : Nat) (s : Str) (hl : ns.length ≤ 63) (hn : n < 999999) (h0 : 0 < s.length) (h1 : s.length ≤ 1000) : ∃ z : Str, z.length = 1 ∧ d__law_pick [scr ns, .own true (rep0 n), .im (.str s)] = .ok (.im (.str z)) [.no, .own true (rep0 (n + 1)), .no] := by
  obtain ⟨v, e, h2, h3⟩ := r_draw ns n s.length hl hn (by omega)
  have hL : s.cps.toList.length = s.length := by simp [Str.length]
  have hi : v.toNat < s.cps.toList.length := by omega
  have ea : atI s.cps.toList v = some (s.cps.toList[v.toNat]) := by
    have h4 : v < s.cps.toList.length := by omega
    obtain ⟨i, rfl⟩ := Int.eq_ofNat_of_zero_le h2
    unfold atI ixN
    rw [if_pos (by omega)]
    have h5 : i < s.cps.size := by simpa using hi
    simp [h5]
  have ex : dIx (.str s) (.int v) = some (.im (.str ⟨#[s.cps.toList[v.toNat]]⟩)) := by
    show (if s.length ≤ 1000000 then _ else _) = _
    rw [if_pos (by omega), ea]
    rfl
  have el : dLen [.str s] = some (.im (.int s.length)) := dLen_s (by omega)
  refine ⟨⟨#[s.cps.toList[v.toNat]]⟩, rfl, ?_⟩
  unfold scr rep0 at e
  generalize (⟨#[s.cps.toList[v.toNat]]⟩ : Str) = z at ex
  generalize (s.length : Int) = L at e el
  simp [d__law_pick, f__law_pick, scr, rep0, e, el, ex, sEr, op2, op1, T.val, R.opt, toB, opL, vals, consT, disp, mvs, mkTup, callT, callI, argE, others, isAl, isAli, finT, outE, padE, runD, cpsOf, cpT, toI, slT, T.weak, metT, kApp, kExt, elemD, iT, iL, iR1, iR2, iE, iZ, onI]
theorem xi11 : xn.idxOf? ("ParseError" : Str) = some 11 := by decide +kernel
theorem r_read_ok (x : Str) (sh : D) (q : d_parse_shop [.im (.str x)] = .ok (.im sh) [.no]) : d__law_read [.im (.str x)] = .ok (.im sh) [.no] := by
  have e : f__law_read [.im (.str x), .no] = .rt (.im sh) [.im (.str x), .no] := by
    unfold f__law_read
    exact try_rt (by simp [q, sEr, op2, op1, T.val, R.opt, toB, opL, vals, consT, disp, mvs, mkTup, callT, callI, argE, others, isAl, isAli, finT, outE, padE, runD, cpsOf, cpT, toI, slT, T.weak, metT, kApp, kExt, elemD, iT, iL, iR1, iR2, iE, iZ, onI])
  refine fin4 (rest := [.im (.str x), .no]) (m := 0) rfl ?_ _ rfl
  exact e
theorem r_read_ex (v : D) (q : d_parse_shop [.im v] = .ex "ParseError" [.no]) : d__law_read [.im v] = .ok (.im (rsd 11)) [.no] := by
  have e : f__law_read [.im v, .no] = .rt (.im (rsd 11)) [.im v, .no] := by
    unfold f__law_read
    rw [try_ex (x := "ParseError") (e := [.im v, .no]) (by simp [q, sEr, op2, op1, T.val, R.opt, toB, opL, vals, consT, disp, mvs, mkTup, callT, callI, argE, others, isAl, isAli, finT, outE, padE, runD, cpsOf, cpT, toI, slT, T.weak, metT, kApp, kExt, elemD, iT, iL, iR1, iR2, iE, iZ, onI])]
    exact te_of (by show 1 < 2; decide) xi11
  refine fin4 (rest := [.im v, .no]) (m := 0) rfl ?_ _ rfl
  exact e
theorem read_non : d__law_read [.im .non] = .ok (.im (rsd 11)) [.no] := r_read_ex _ (by simp [d_parse_shop, f_parse_shop, f_parse_shop_1, finF, sEr, op2, op1, T.val, R.opt, toB, opL, vals, consT, disp, mvs, mkTup, callT, callI, argE, others, isAl, isAli, finT, outE, padE, runD, cpsOf, cpT, toI, slT, T.weak, metT, kApp, kExt, elemD, iT, iL, iR1, iR2, iE, iZ, onI])
theorem read_int (i : Int) : d__law_read [.im (.int i)] = .ok (.im (rsd 11)) [.no] := r_read_ex _ (by simp [d_parse_shop, f_parse_shop, f_parse_shop_1, finF, sEr, op2, op1, T.val, R.opt, toB, opL, vals, consT, disp, mvs, mkTup, callT, callI, argE, others, isAl, isAli, finT, outE, padE, runD, cpsOf, cpT, toI, slT, T.weak, metT, kApp, kExt, elemD, iT, iL, iR1, iR2, iE, iZ, onI])
theorem read_no {x : Str} (hx : x.length ≤ 500000) (h : noSh x) : d__law_read [.im (.str x)] = .ok (.im (rsd 11)) [.no] := by
  rcases parse_any hx with ⟨gi, us, hs, e, _⟩ | q
  · exact (h gi us hs e).elim
  · exact r_read_ex _ q
theorem ne_shop_rsd (gi : List (Int × Int)) (us : List Ru) : dNeA (shopD gi us) (rsd 11) = some (.im (.bl true)) := by
  unfold dNeA dNeS dNe
  dsimp only
  rw [if_pos ⟨shp_shop gi us, shp_rsd 11⟩]
  have : eqv (shopD gi us) (rsd 11) = false := by rw [Bool.eq_false_iff]; simp
  rw [this]
  rfl
abbrev El (a b c d e f g h i j k l : Sl) : En := [a, b, c, d, e, f, g, h, i, j, k, l]
theorem l1 (s0 : Sl) : f_law_1 (El s0 .no .no .no .no .no .no .no .no .no .no .no) = .nx (El s0 (.own false (rep0 0)) .no .no .no .no .no .no .no .no .no .no) := by
  simp [f_law_1, sEr, op2, op1, T.val, R.opt, toB, opL, vals, consT, disp, mvs, mkTup, callT, callI, argE, others, isAl, isAli, finT, outE, padE, runD, cpsOf, cpT, toI, slT, T.weak, metT, kApp, kExt, elemD, iT, iL, iR1, iR2, iE, iZ, onI]
theorem l2 (ns : List Int) (m : Nat) (sh : D) (e : d__law_some_shop [scr ns, .own true (rep0 0)] = .ok (.im sh) [.no, .own true (rep0 m)]) :
    f_law_2 (El (scr ns) (.own false (rep0 0)) .no .no .no .no .no .no .no .no .no .no) = .nx (El (scr ns) (.own false (rep0 m)) (.im sh) .no .no .no .no .no .no .no .no .no) := by
  simp [scr] at e
  simp [f_law_2, scr, e, sEr, op2, op1, T.val, R.opt, toB, opL, vals, consT, disp, mvs, mkTup, callT, callI, argE, others, isAl, isAli, finT, outE, padE, runD, cpsOf, cpT, toI, slT, T.weak, metT, kApp, kExt, elemD, iT, iL, iR1, iR2, iE, iZ, onI]
theorem l3 (s0 st : Sl) (sh : D) (x : Str) (e : d_format_shop [.im sh] = .ok (.im (.str x)) [.no]) : f_law_3 (El s0 st (.im sh) .no .no .no .no .no .no .no .no .no) = .nx (El s0 st (.im sh) (.im (.str x)) .no .no .no .no .no .no .no .no) := by
  simp [f_law_3, e, sEr, op2, op1, T.val, R.opt, toB, opL, vals, consT, disp, mvs, mkTup, callT, callI, argE, others, isAl, isAli, finT, outE, padE, runD, cpsOf, cpT, toI, slT, T.weak, metT, kApp, kExt, elemD, iT, iL, iR1, iR2, iE, iZ, onI]
theorem b1 (ns : List Int) (n : Nat) (x : Str) (L v : Int) (sh ag at_ sg ki ot ow : Sl) (hd : dLen [.str x] = some (.im (.int L))) (e : d__law_draw [scr ns, .own true (rep0 n), .im (.int L)] = .ok (.im (.int v)) [.no, .own true (rep0 (n + 1)), .no]) :
    b_law_1_1 (El (scr ns) (.own false (rep0 n)) sh (.im (.str x)) ag .no at_ sg ki ot ow .no) = .nx (El (scr ns) (.own false (rep0 (n + 1))) sh (.im (.str x)) ag .no (.im (.int v)) sg ki ot ow .no) := by
  unfold scr rep0 at e
  simp [b_law_1_1, scr, rep0, hd, e, sEr, op2, op1, T.val, R.opt, toB, opL, vals, consT, disp, mvs, mkTup, callT, callI, argE, others, isAl, isAli, finT, outE, padE, runD, cpsOf, cpT, toI, slT, T.weak, metT, kApp, kExt, elemD, iT, iL, iR1, iR2, iE, iZ, onI]
theorem b2 (ns : List Int) (n : Nat) (z : Str) (sh tx ag at_ sg ki ot ow : Sl) (e : d__law_pick [scr ns, .own true (rep0 n), .im (.str "0123459;,/ -a")] = .ok (.im (.str z)) [.no, .own true (rep0 (n + 1)), .no]) :
    b_law_1_2 (El (scr ns) (.own false (rep0 n)) sh tx ag .no at_ sg ki ot ow .no) = .nx (El (scr ns) (.own false (rep0 (n + 1))) sh tx ag .no at_ (.im (.str z)) ki ot ow .no) := by
  unfold scr rep0 at e
  simp [b_law_1_2, scr, rep0, e, sEr, op2, op1, T.val, R.opt, toB, opL, vals, consT, disp, mvs, mkTup, callT, callI, argE, others, isAl, isAli, finT, outE, padE, runD, cpsOf, cpT, toI, slT, T.weak, metT, kApp, kExt, elemD, iT, iL, iR1, iR2, iE, iZ, onI]
theorem b3 (ns : List Int) (n : Nat) (v : Int) (sh tx ag at_ sg ki ot ow : Sl) (e : d__law_draw [scr ns, .own true (rep0 n), .im (.int 3)] = .ok (.im (.int v)) [.no, .own true (rep0 (n + 1)), .no]) :
    b_law_1_3 (El (scr ns) (.own false (rep0 n)) sh tx ag .no at_ sg ki ot ow .no) = .nx (El (scr ns) (.own false (rep0 (n + 1))) sh tx ag .no at_ sg (.im (.int v)) ot ow .no) := by
  unfold scr rep0 at e
  simp [b_law_1_3, scr, rep0, e, sEr, op2, op1, T.val, R.opt, toB, opL, vals, consT, disp, mvs, mkTup, callT, callI, argE, others, isAl, isAli, finT, outE, padE, runD, cpsOf, cpT, toI, slT, T.weak, metT, kApp, kExt, elemD, iT, iL, iR1, iR2, iE, iZ, onI]
theorem b4a (s0 st sh ag ot ow : Sl) (x sg p1 p3 o1 o : Str) (a : Int) (q1 : dSl (.str x) none (some a) = some (.im (.str p1))) (q2 : dAdd (.str p1) (.str sg) = some (.im (.str o1))) (q3 : dSl (.str x) (some (a + 1)) none = some (.im (.str p3))) (q4 : dAdd (.str o1) (.str p3) = some (.im (.str o))) (q5 : dAdd (.int a) (.int 1) = some (.im (.int (a + 1)))) :
    b_law_1_4 (El s0 st sh (.im (.str x)) ag .no (.im (.int a)) (.im (.str sg)) (.im (.int 0)) ot ow .no) = .nx (El s0 st sh (.im (.str x)) ag .no (.im (.int a)) (.im (.str sg)) (.im (.int 0)) (.im (.str o)) ow .no) := by
  simp [-dAdd, b_law_1_4, q1, q2, q3, q4, q5, sEr, op2, op1, T.val, R.opt, toB, opL, vals, consT, disp, mvs, mkTup, callT, callI, argE, others, isAl, isAli, finT, outE, padE, runD, cpsOf, cpT, toI, slT, T.weak, metT, kApp, kExt, elemD, iT, iL, iR1, iR2, iE, iZ, onI]
theorem b4b (s0 st sh ag ot ow : Sl) (x sg p1 p3 o1 o : Str) (a : Int) (q1 : dSl (.str x) none (some a) = some (.im (.str p1))) (q2 : dAdd (.str p1) (.str sg) = some (.im (.str o1))) (q3 : dSl (.str x) (some a) none = some (.im (.str p3))) (q4 : dAdd (.str o1) (.str p3) = some (.im (.str o))) (q5 : dAdd (.int a) (.int 0) = some (.im (.int a))) :
    b_law_1_4 (El s0 st sh (.im (.str x)) ag .no (.im (.int a)) (.im (.str sg)) (.im (.int 1)) ot ow .no) = .nx (El s0 st sh (.im (.str x)) ag .no (.im (.int a)) (.im (.str sg)) (.im (.int 1)) (.im (.str o)) ow .no) := by
  simp [-dAdd, b_law_1_4, q1, q2, q3, q4, q5, sEr, op2, op1, T.val, R.opt, toB, opL, vals, consT, disp, mvs, mkTup, callT, callI, argE, others, isAl, isAli, finT, outE, padE, runD, cpsOf, cpT, toI, slT, T.weak, metT, kApp, kExt, elemD, iT, iL, iR1, iR2, iE, iZ, onI]
theorem b4c (s0 st sh ag ot ow : Sl) (x sg p1 p3 o1 o : Str) (a : Int) (q1 : dSl (.str x) none (some a) = some (.im (.str p1))) (q2 : dAdd (.str p1) (.str "") = some (.im (.str o1))) (q3 : dSl (.str x) (some (a + 1)) none = some (.im (.str p3))) (q4 : dAdd (.str o1) (.str p3) = some (.im (.str o))) (q5 : dAdd (.int a) (.int 1) = some (.im (.int (a + 1)))) :
    b_law_1_4 (El s0 st sh (.im (.str x)) ag .no (.im (.int a)) (.im (.str sg)) (.im (.int 2)) ot ow .no) = .nx (El s0 st sh (.im (.str x)) ag .no (.im (.int a)) (.im (.str sg)) (.im (.int 2)) (.im (.str o)) ow .no) := by
  simp [-dAdd, b_law_1_4, q1, q2, q3, q4, q5, sEr, op2, op1, T.val, R.opt, toB, opL, vals, consT, disp, mvs, mkTup, callT, callI, argE, others, isAl, isAli, finT, outE, padE, runD, cpsOf, cpT, toI, slT, T.weak, metT, kApp, kExt, elemD, iT, iL, iR1, iR2, iE, iZ, onI]
theorem b4 (s0 st sh ag ot ow : Sl) (x sg : Str) (a k : Int) (hx : x.length ≤ 1000) (hs : sg.length = 1) (hk : 0 ≤ k ∧ k < 3) : ∃ o : Str, o.length ≤ 3000 ∧
    b_law_1_4 (El s0 st sh (.im (.str x)) ag .no (.im (.int a)) (.im (.str sg)) (.im (.int k)) ot ow .no) = .nx (El s0 st sh (.im (.str x)) ag .no (.im (.int a)) (.im (.str sg)) (.im (.int k)) (.im (.str o)) ow .no) := by
  have c1 := cut_len x none (some a)
  have c2 := cut_len x (some (a + 1)) none
  have c3 := cut_len x (some a) none
  have e0 : ("" : Str).length = 0 := by decide +kernel
  have : k = 0 ∨ k = 1 ∨ k = 2 := by omega
  rcases this with rfl | rfl | rfl
  · exact ⟨_, by rw [app_len, app_len]; omega, b4a _ _ _ _ _ _ _ _ _ _ _ _ _ (sl_of hx _ _) (add_s (by omega)) (sl_of hx _ _) (add_s (by rw [app_len]; omega)) rfl⟩
  · exact ⟨_, by rw [app_len, app_len]; omega, b4b _ _ _ _ _ _ _ _ _ _ _ _ _ (sl_of hx _ _) (add_s (by omega)) (sl_of hx _ _) (add_s (by rw [app_len]; omega)) (by show some (T.im (.int (a + 0))) = _; rw [Int.add_zero])⟩
  · exact ⟨_, by rw [app_len, app_len, e0]; omega, b4c _ _ _ _ _ _ _ _ _ _ _ _ _ (sl_of hx _ _) (add_s (by omega)) (sl_of hx _ _) (add_s (by rw [app_len]; omega)) rfl⟩
theorem b5 (s0 st sh tx ag at_ sg ki ow : Sl) (o : Str) (w : D) (e : d__law_read [.im (.str o)] = .ok (.im w) [.no]) :
    b_law_1_5 (El s0 st sh tx ag .no at_ sg ki (.im (.str o)) ow .no) = .nx (El s0 st sh tx ag .no at_ sg ki (.im (.str o)) (.im w) .no) := by
  simp [b_law_1_5, e, sEr, op2, op1, T.val, R.opt, toB, opL, vals, consT, disp, mvs, mkTup, callT, callI, argE, others, isAl, isAli, finT, outE, padE, runD, cpsOf, cpT, toI, slT, T.weak, metT, kApp, kExt, elemD, iT, iL, iR1, iR2, iE, iZ, onI]
theorem b6a (s0 st sh tx ag at_ sg ki : Sl) (o : Str) : b_law_1_6 (El s0 st sh tx ag .no at_ sg ki (.im (.str o)) (.im (rsd 11)) .no) = .nx (El s0 st sh tx ag .no at_ sg ki (.im (.str o)) (.im (rsd 11)) .no) := by
  have := ne_rsd 11
  simp [b_law_1_6, this, sEr, op2, op1, T.val, R.opt, toB, opL, vals, consT, disp, mvs, mkTup, callT, callI, argE, others, isAl, isAli, finT, outE, padE, runD, cpsOf, cpT, toI, slT, T.weak, metT, kApp, kExt, elemD, iT, iL, iR1, iR2, iE, iZ, onI]
theorem b6b (s0 st sh tx ag at_ sg ki : Sl) (o : Str) (w : D) (q1 : dNeA w (.tup [.str "raised", .int 11]) = some (.im (.bl true))) (q2 : d_is_shop [.im w] = .ok (.im (.bl true)) [.no]) (q3 : d_format_shop [.im w] = .ok (.im (.str o)) [.no]) :
    b_law_1_6 (El s0 st sh tx ag .no at_ sg ki (.im (.str o)) (.im w) .no) = .nx (El s0 st sh tx ag .no at_ sg ki (.im (.str o)) (.im w) .no) := by
  simp [b_law_1_6, q1, q2, q3, sEr, op2, op1, T.val, R.opt, toB, opL, vals, consT, disp, mvs, mkTup, callT, callI, argE, others, isAl, isAli, finT, outE, padE, runD, cpsOf, cpT, toI, slT, T.weak, metT, kApp, kExt, elemD, iT, iL, iR1, iR2, iE, iZ, onI]
theorem l5 (s0 st sh ag at_ sg ki ot ow : Sl) (x a b c d e u f : Str) (h1 : dAdd (.str x) (.str "; 0") = some (.im (.str a))) (h2 : dAdd (.str " ") (.str x) = some (.im (.str b))) (h3 : dAdd (.str x) (.str " ") = some (.im (.str c))) (h4 : dAdd (.str x) (.str ", 0") = some (.im (.str d)))
    (h5 : eM0 (dRepl "; " ";") (eVar 3) (El s0 st sh (.im (.str x)) ag .no at_ sg ki ot ow .no) = .ok (.im (.str e)) (El s0 st sh (.im (.str x)) ag .no at_ sg ki ot ow .no)) (h6 : eM0 dUpper (eVar 3) (El s0 st sh (.im (.str x)) ag .no at_ sg ki ot ow .no) = .ok (.im (.str u)) (El s0 st sh (.im (.str x)) ag .no at_ sg ki ot ow .no)) (h7 : dAdd (.str u) (.str "X") = some (.im (.str f))) :
    f_law_5 (El s0 st sh (.im (.str x)) ag .no at_ sg ki ot ow .no) = .nx (El s0 st sh (.im (.str x)) ag (.own false [.non, .int 5, .str "", .str a, .str b, .str c, .str d, .str e, .str f]) at_ sg ki ot ow .no) := by
  simp [-dAdd, f_law_5, h1, h2, h3, h4, h5, h6, h7, sEr, op2, op1, T.val, R.opt, toB, opL, vals, consT, disp, mvs, mkTup, callT, callI, argE, others, isAl, isAli, finT, outE, padE, runD, cpsOf, cpT, toI, slT, T.weak, metT, kApp, kExt, elemD, iT, iL, iR1, iR2, iE, iZ, onI]
theorem l6 (s0 st sh ag at_ sg ki ot ow : Sl) (x a b c d e : Str) (bs : List D) (hb : bs.length ≤ 1000) (h1 : dMulA (.str "9") (.int 4000) = some (.im (.str a))) (h2 : dAdd (.str a) (.str "/1; none") = some (.im (.str b))) (h3 : dAdd (.str x) (.str "\n") = some (.im (.str c))) (h4 : dMulA (.str "(") (.int 1200) = some (.im (.str d)))
    (h5 : eM0 (dRepl "/" "/0") (eVar 3) (El s0 st sh (.im (.str x)) ag (.own false bs) at_ sg ki ot ow .no) = .ok (.im (.str e)) (El s0 st sh (.im (.str x)) ag (.own false bs) at_ sg ki ot ow .no)) :
    f_law_6 (El s0 st sh (.im (.str x)) ag (.own false bs) at_ sg ki ot ow .no) = .nx (El s0 st sh (.im (.str x)) ag (.own false (bs ++ [.str a, .str b, .str c, .str d, .str e])) at_ sg ki ot ow .no) := by
  have hb2 : bs.length ≤ 999995 := by omega
  simp [-dAdd, f_law_6, h1, h2, h3, h4, h5, hb2, sEr, op2, op1, T.val, R.opt, toB, opL, vals, consT, disp, mvs, mkTup, callT, callI, argE, others, isAl, isAli, finT, outE, padE, runD, cpsOf, cpT, toI, slT, T.weak, metT, kApp, kExt, elemD, iT, iL, iR1, iR2, iE, iZ, onI]
theorem l7 (s0 st sh ag at_ sg ki ot ow : Sl) (x a : Str) (bs : List D) (hb : bs.length ≤ 1000)
    (h5 : eM0 (dRepl " " "  ") (eVar 3) (El s0 st sh (.im (.str x)) ag (.own false bs) at_ sg ki ot ow .no) = .ok (.im (.str a)) (El s0 st sh (.im (.str x)) ag (.own false bs) at_ sg ki ot ow .no)) :
    f_law_7 (El s0 st sh (.im (.str x)) ag (.own false bs) at_ sg ki ot ow .no) = .nx (El s0 st sh (.im (.str x)) ag (.own false (bs ++ [.str a])) at_ sg ki ot ow .no) := by
  have : bs.length < 1000000 := by omega
  simp [f_law_7, h5, this, sEr, op2, op1, T.val, R.opt, toB, opL, vals, consT, disp, mvs, mkTup, callT, callI, argE, others, isAl, isAli, finT, outE, padE, runD, cpsOf, cpT, toI, slT, T.weak, metT, kApp, kExt, elemD, iT, iL, iR1, iR2, iE, iZ, onI]

theorem eRepl {y z x : Str} {i : Nat} {env : En} (h : env[i]? = some (.im (.str x))) (hx : x.length ≤ 1000) (hz : z.length ≤ 10) : eM0 (dRepl y z) (eVar i) env = .ok (.im (.str (Txt.replace x y z))) env := by
  have : dRepl y z x = some (.im (.str (Txt.replace x y z))) := if_pos ⟨hx, hz⟩
  simp [eM0, h, this, sEr, op2, op1, T.val, R.opt, toB, opL, vals, consT, disp, mvs, mkTup, callT, callI, argE, others, isAl, isAli, finT, outE, padE, runD, cpsOf, cpT, toI, slT, T.weak, metT, kApp, kExt, elemD, iT, iL, iR1, iR2, iE, iZ, onI]
theorem eUpp {x : Str} {i : Nat} {env : En} (h : env[i]? = some (.im (.str x))) (hx : x.length ≤ 1000) : eM0 dUpper (eVar i) env = .ok (.im (.str (Txt.upper x))) env := by
  have : dUpper x = some (.im (.str (Txt.upper x))) := if_pos (by omega)
  simp [eM0, h, this, sEr, op2, op1, T.val, R.opt, toB, opL, vals, consT, disp, mvs, mkTup, callT, callI, argE, others, isAl, isAli, finT, outE, padE, runD, cpsOf, cpT, toI, slT, T.weak, metT, kApp, kExt, elemD, iT, iL, iR1, iR2, iE, iZ, onI]
theorem one_len : ("9" : Str).length = 1 ∧ ("(" : Str).length = 1 ∧ ("0" : Str).length = 1 := by decide +kernel
theorem mul_s {z : Str} {k : Int} (h : 2 ≤ k ∧ k ≤ 1000000 ∧ z.length = 1) : dMulA (.str z) (.int k) = some (.im (.str (repS z k))) := by
  show (if 2 ≤ k ∧ k ≤ 1000000 ∧ z.length = 1 then some (T.im (.str (repS z k))) else none) = _
  rw [if_pos h]
theorem eOne (s0 st sh tx ag bd at_ sg ki ot ow : Sl) (v : D) (e : d__law_read [.im v] = .ok (.im (rsd 11)) [.no]) :
    eOp dEqA (eCall d__law_read (aCons (eVar 11) aNil)) (eTup (aCons (eC (.str "raised")) (aCons (eC (.int 11)) aNil))) (El s0 st sh tx ag bd at_ sg ki ot ow (.im v)) = .ok (.im (.bl true)) (El s0 st sh tx ag bd at_ sg ki ot ow (.im v)) := by
  have := eq_rsd 11
  simp [e, this, sEr, op2, op1, T.val, R.opt, toB, opL, vals, consT, disp, mvs, mkTup, callT, callI, argE, others, isAl, isAli, finT, outE, padE, runD, cpsOf, cpT, toI, slT, T.weak, metT, kApp, kExt, elemD, iT, iL, iR1, iR2, iE, iZ, onI]
theorem l8 (s0 st sh tx ag at_ sg ki ot ow : Sl) (bs : List D) (hb : bs.length ≤ 1000) (h : ∀ v ∈ bs, d__law_read [.im v] = .ok (.im (rsd 11)) [.no]) :
    f_law_8 (El s0 st sh tx ag (.own false bs) at_ sg ki ot ow .no) = .rt (.im (.bl true)) (El s0 st sh tx ag (.own false bs) at_ sg ki ot ow .no) := by
  have q := eLc_of (fi := fiL false (eVar 5)) (vs := [11]) (t := .one 11) (ft := tT) (fe := eOp dEqA (eCall d__law_read (aCons (eVar 11) aNil)) (eTup (aCons (eC (.str "raised")) (aCons (eC (.int 11)) aNil)))) (env := El s0 st sh tx ag (.own false bs) at_ sg ki ot ow .no) (k := ⟨bs, some (5, bs)⟩) (e := El s0 st sh tx ag (.own false bs) at_ sg ki ot ow .no) (by simp [sEr, op2, op1, T.val, R.opt, toB, opL, vals, consT, disp, mvs, mkTup, callT, callI, argE, others, isAl, isAli, finT, outE, padE, runD, cpsOf, cpT, toI, slT, T.weak, metT, kApp, kExt, elemD, iT, iL, iR1, iR2, iE, iZ, onI])
    (lc_map (k := ⟨bs, some (5, bs)⟩) (vs := [11]) (t := .one 11) (h := fun _ => .bl true) (env := El s0 st sh tx ag (.own false bs) at_ sg ki ot ow .no) ⟨false, rfl⟩ bs [] (small_size (by show 0 + bs.length ≤ 1000; omega)) fun d z =>
      ⟨El s0 st sh tx ag (.own false bs) at_ sg ki ot ow (.im d), .im (.bl true), El s0 st sh tx ag (.own false bs) at_ sg ki ot ow (.im d), rfl, eOne _ _ _ _ _ _ _ _ _ _ _ d (h d z), rfl, rfl⟩)
  have qa : dAll [.lst (bs.map fun _ => D.bl true)] = some (.im (.bl true)) := by
    have := dAll_map (fun _ => true) bs
    rw [this]
    simp
  unfold f_law_8
  simp [q, qa, sEr, op2, op1, T.val, R.opt, toB, opL, vals, consT, disp, mvs, mkTup, callT, callI, argE, others, isAl, isAli, finT, outE, padE, runD, cpsOf, cpT, toI, slT, T.weak, metT, kApp, kExt, elemD, iT, iL, iR1, iR2, iE, iZ, onI]
theorem law_data (ns : List Int) (hl : ns.length ≤ 63) : ∃ o, d_law [.im (.fz (ns.map D.int))] = .ok (.im (.bl true)) o := by
  obtain ⟨gi, us, m, e, _, hm, h, _, fl⟩ := draw_shop ns 0 hl (by decide)
  have hx := sh_len h
  have hp : 0 < (shS gi us).length := by
    rw [len_tl]
    exact List.length_pos_of_mem (has_sl h)
  have hF := r_format_shop h
  have n9 := no_9 h
  have n10 := no_10 h
  have n11 := no_11 h
  have n1 := no_1 h
  have n2 := no_2 h
  have n3 := no_3 h
  have n4 := no_4 h
  obtain ⟨sh, hsh⟩ : ∃ sh, shopD gi us = sh := ⟨_, rfl⟩
  obtain ⟨x, hxx⟩ : ∃ x, shS gi us = x := ⟨_, rfl⟩
  rw [hxx] at hx hp n9 n10 n11 n1 n2 n3 n4
  rw [hsh, hxx] at hF
  rw [hsh] at e
  -- the loop
  obtain ⟨e4, ql, n, _, ag, at_, sg, ki, ot, ow, rfl⟩ := loop_all (g := gN 4) (f := b_law_1) (ds := rngD 0 6) (env := El (scr ns) (.own false (rep0 m)) (.im sh) (.im (.str x)) .no .no .no .no .no .no .no .no)
    (I := fun i e => ∃ n, n ≤ m + 3 * i ∧ ∃ ag at_ sg ki ot ow, e = El (scr ns) (.own false (rep0 n)) (.im sh) (.im (.str x)) ag .no at_ sg ki ot ow .no) ⟨m, by omega, .no, .no, .no, .no, .no, .no, rfl⟩ (by
    rintro i d _ hd0 ⟨n, hn, ag, at_, sg, ki, ot, ow, rfl⟩
    have hi : i < 6 := by
      have := (List.getElem?_eq_some_iff.mp hd0).1
      simpa [rngD] using this
    obtain ⟨a, e1, _, _⟩ := r_draw ns n x.length hl (by omega) (by omega)
    obtain ⟨z, hz, e2⟩ := r_pickS ns (n + 1) "0123459;,/ -a" hl (by omega) (by decide +kernel) (by decide +kernel)
    obtain ⟨k, e3, hk1, hk2⟩ := r_draw ns (n + 1 + 1) 3 hl (by omega) (by omega)
    obtain ⟨o, ho, e4⟩ := b4 (scr ns) (.own false (rep0 (n + 1 + 1 + 1))) (.im sh) (.im d) ot ow x z a k (by omega) hz ⟨hk1, hk2⟩
    have key : ∀ w, d__law_read [.im (.str o)] = .ok (.im w) [.no] → b_law_1_6 (El (scr ns) (.own false (rep0 (n + 1 + 1 + 1))) (.im sh) (.im (.str x)) (.im d) .no (.im (.int a)) (.im (.str z)) (.im (.int k)) (.im (.str o)) (.im w) .no) = .nx (El (scr ns) (.own false (rep0 (n + 1 + 1 + 1))) (.im sh) (.im (.str x)) (.im d) .no (.im (.int a)) (.im (.str z)) (.im (.int k)) (.im (.str o)) (.im w) .no) →
        b_law_1 (El (scr ns) (.own false (rep0 n)) (.im sh) (.im (.str x)) (.im d) .no at_ sg ki ot ow .no) = .nx (El (scr ns) (.own false (rep0 (n + 1 + 1 + 1))) (.im sh) (.im (.str x)) (.im d) .no (.im (.int a)) (.im (.str z)) (.im (.int k)) (.im (.str o)) (.im w) .no) := fun w q5 q6 => by
      unfold b_law_1
      exact seq_of (b1 ns n x x.length a _ _ _ _ _ _ _ (dLen_s (by omega)) e1) (seq_of (b2 ns (n + 1) z _ _ _ _ _ _ _ _ e2) (seq_of (b3 ns (n + 1 + 1) k _ _ _ _ _ _ _ _ e3) (seq_of e4 (seq_of (b5 _ _ _ _ _ _ _ _ _ o w q5) q6))))
    refine ⟨El (scr ns) (.own false (rep0 n)) (.im sh) (.im (.str x)) (.im d) .no at_ sg ki ot ow .no, ?_⟩
    rcases parse_any (x := o) (by omega) with ⟨gi', us', hs, eo, q⟩ | q
    · refine ⟨_, rfl, .inl (key _ (r_read_ok _ _ q) (b6b _ _ _ _ _ _ _ _ o _ (ne_shop_rsd gi' us') ?_ ?_)), n + 1 + 1 + 1, by omega, _, _, _, _, _, _, rfl⟩
      · have := r_is_shop (shopD gi' us')
        rw [hs.is] at this
        exact this
      · rw [eo]
        exact r_format_shop hs
    · exact ⟨_, rfl, .inl (key _ (r_read_ex _ q) (b6a _ _ _ _ _ _ _ _ o)), n + 1 + 1 + 1, by omega, _, _, _, _, _, _, rfl⟩)
  have rl : ∀ y z : Str, z.length ≤ 10 → (Txt.replace x y z).length ≤ 500000 := fun y z hz => by
    have h1 := TK.replace_len x y z
    have h2 := Nat.mul_le_mul (show x.length + 1 ≤ 125 by omega) hz
    omega
  have z1 : (";" : Str).length ≤ 10 := by decide +kernel
  have z2 : ("/0" : Str).length ≤ 10 := by decide +kernel
  have z3 : ("  " : Str).length ≤ 10 := by decide +kernel
  have y1 : ("; 0" : Str).length = 3 := by decide +kernel
  have y2 : (" " : Str).length = 1 := by decide +kernel
  have y3 : (", 0" : Str).length = 3 := by decide +kernel
  have y4 : ("X" : Str).length = 1 := by decide +kernel
  have y5 : ("/1; none" : Str).length = 8 := by decide +kernel
  have y6 : ("\n" : Str).length = 1 := by decide +kernel
  have up : (Txt.upper x).length ≤ 3000 := by have := PyProof.Rows.len_upper x; omega
  have r9 : (repS "9" 4000).length = 4000 := by rw [repS_len, one_len.1]; rfl
  have rp : (repS "(" 1200).length = 1200 := by rw [repS_len, one_len.2.1]; rfl
  suffices hx : ∃ bs, f_law (padE 12 [scr ns]) = .rt (.im (.bl true)) (El (scr ns) (.own false (rep0 n)) (.im sh) (.im (.str x)) ag (.own false bs) at_ sg ki ot ow .no) by
    obtain ⟨bs, hfin⟩ := hx
    exact ⟨[.no], fin4 (m := 0) (rest := El (scr ns) (.own false (rep0 n)) (.im sh) (.im (.str x)) ag (.own false bs) at_ sg ki ot ow .no) rfl hfin _ rfl⟩
  unfold f_law
  refine ⟨_, seq_of (l1 (scr ns)) (seq_of (l2 ns m _ e) (seq_of (l3 _ _ _ _ hF) (seq_of (e1 := El (scr ns) (.own false (rep0 n)) (.im sh) (.im (.str x)) ag .no at_ sg ki ot ow .no) ?_ (seq_of (l5 _ _ _ _ _ _ _ _ _ x _ _ _ _ _ _ _ (add_s (by omega)) (add_s (by omega)) (add_s (by omega)) (add_s (by omega)) (eRepl rfl (by omega) z1) (eUpp rfl (by omega)) (add_s (by omega)))
    (seq_of (l6 _ _ _ _ _ _ _ _ _ x _ _ _ _ _ _ (by simp) (mul_s ⟨by decide, by decide, one_len.1⟩) (add_s (by omega)) (add_s (by omega)) (mul_s ⟨by decide, by decide, one_len.2.1⟩) (eRepl rfl (by omega) z2))
    (seq_of (l7 _ _ _ _ _ _ _ _ _ x _ _ (by simp) (eRepl rfl (by omega) z3)) (l8 _ _ _ _ _ _ _ _ _ _ _ (by simp) ?_)))))))⟩
  · unfold f_law_4
    exact sFor_of (its := rngD 0 6) (e := El (scr ns) (.own false (rep0 m)) (.im sh) (.im (.str x)) .no .no .no .no .no .no .no .no) (by simp [sEr, op2, op1, T.val, R.opt, toB, opL, vals, consT, disp, mvs, mkTup, callT, callI, argE, others, isAl, isAli, finT, outE, padE, runD, cpsOf, cpT, toI, slT, T.weak, metT, kApp, kExt, elemD, iT, iL, iR1, iR2, iE, iZ, onI]) ql
  · intro v hv
    simp only [List.mem_append, List.mem_cons, List.not_mem_nil, or_false] at hv
    rcases hv with ((rfl | rfl | rfl | rfl | rfl | rfl | rfl | rfl | rfl) | (rfl | rfl | rfl | rfl | rfl)) | rfl
    · exact read_non
    · exact read_int 5
    · exact read_no (by decide +kernel) no_6
    · exact read_no (by rw [app_len]; omega) n1
    · exact read_no (by rw [app_len]; omega) (no_5 x)
    · exact read_no (by rw [app_len]; omega) n2
    · exact read_no (by rw [app_len]; omega) n3
    · exact read_no (rl _ _ z1) n11
    · exact read_no (by rw [app_len]; omega) (no_7 _)
    · exact read_no (by omega) (no_8' one_len.1 (by decide))
    · exact read_no (by rw [app_len]; omega) (no_8 one_len.1 (by decide) _)
    · exact read_no (by rw [app_len]; omega) n4
    · exact read_no (by omega) (no_8' one_len.2.1 (by decide))
    · exact read_no (rl _ _ z2) n9
    · exact read_no (rl _ _ z3) n10

end DL
open PySem PySem.W PyProof.Rows
set_option maxRecDepth 100000 in
set_option maxHeartbeats 0 in
theorem PySem.Challenge.cw_sureprices_k38_whole_spoiled_texts_holds : PySem.Challenge.rw_sureprices_k38_whole_spoiled_texts.Holds := by
  w_on; o_law; k_head; (case hw => w_witness2)
  k_fill
  refine L2.walk_of (n := 63) (k := 10) (x := "_law_script") (CX := fun w => L2.CX PySem.Challenge.rw_sureprices_k38_whole_spoiled_texts.prog w) (sp := fun w => DL.spLaw _) rfl (by decide) rfl ⟨rfl, by decide, by decide⟩ (fun w h Y => PySem.W.kIn_of Y) ?F (fun _ _ a ns hl hO hS => DL.law_hsp hl hO hS) (fun _ _ _ _ _ z => DL.law_cx z)
  case F =>
    intro w mg fa h KX G hmg
    refine' DL.all_mk KX G hmg ?a0 ?l0 ?c0 ?k0 ?a1 ?l1 ?c1 ?k1 ?a2 ?l2 ?c2 ?k2 ?a3 ?l3 ?c3 ?k3 ?a4 ?l4 ?c4 ?k4 ?a5 ?l5 ?c5 ?k5 ?a6 ?l6 ?c6 ?k6 ?a7 ?l7 ?c7 ?k7 ?a8 ?l8 ?c8 ?k8 ?a9 ?l9 ?c9 ?k9 ?a10 ?l10 ?c10 ?k10 ?a11 ?l11 ?c11 ?k11 ?a12 ?l12 ?c12 ?k12 ?a13 ?l13 ?c13 ?k13 ?a14 ?l14 ?c14 ?k14 ?a15 ?l15 ?c15 ?k15 ?a16 ?l16 ?c16 ?k16 ?a17 ?l17 ?c17 ?k17 ?a18 ?l18 ?c18 ?k18 ?a19 ?l19 ?c19 ?k19 ?a20 ?l20 ?c20 ?k20 ?a21 ?l21 ?c21 ?k21 ?a22 ?l22 ?c22 ?k22 ?a23 ?l23 ?c23 ?k23 ?a24 ?l24 ?c24 ?k24 ?a25 ?l25 ?c25 ?k25 ?a26 ?l26 ?c26 ?k26 ?a27 ?l27 ?c27 ?k27 ?a28 ?l28 ?c28 ?k28 ?a29 ?l29 ?c29 ?k29 ?a30 ?l30 ?c30 ?k30 ?a31 ?l31 ?c31 ?k31 ?a32 ?l32 ?c32 ?k32 ?a33 ?l33 ?c33 ?k33 ?z_ValueError ?z_all ?z_any ?z_bool ?z_int ?z_isinstance ?z_len ?z_max ?z_min ?z_range ?z_str ?z_tuple ?y_MOST_DIGITS ?y_MOST_GOODS ?y_MOST_RULES ?y_NO_MOST ?y_NO_RULES ?e_Different ?e_InvalidAct ?e_InvalidActs ?e_InvalidBasket ?e_InvalidKinds ?e_InvalidNumber ?e_InvalidOffers ?e_InvalidShop ?e_NoFault ?e_NotThere ?e_NothingToUndo ?e_ParseError ?e_PriceError ?q_InvalidShop ?p_InvalidShop ?r_InvalidShop ?q_ParseError ?p_ParseError ?r_ParseError ?w_Different ?w_InvalidAct ?w_InvalidActs ?w_InvalidBasket ?w_InvalidKinds ?w_InvalidNumber ?w_InvalidOffers ?w_InvalidShop ?w_NoFault ?w_NotThere ?w_NothingToUndo ?w_ParseError ?w_PriceError ?m_InvalidShop ?n_InvalidShop ?v_InvalidShop ?j_InvalidShop ?o_InvalidShop ?i_InvalidShop ?m_InvalidBasket ?n_InvalidBasket ?v_InvalidBasket ?j_InvalidBasket ?o_InvalidBasket ?i_InvalidBasket ?m_InvalidActs ?n_InvalidActs ?v_InvalidActs ?j_InvalidActs ?o_InvalidActs ?i_InvalidActs ?m_InvalidAct ?n_InvalidAct ?v_InvalidAct ?j_InvalidAct ?o_InvalidAct ?i_InvalidAct ?m_InvalidOffers ?n_InvalidOffers ?v_InvalidOffers ?j_InvalidOffers ?o_InvalidOffers ?i_InvalidOffers ?m_InvalidKinds ?n_InvalidKinds ?v_InvalidKinds ?j_InvalidKinds ?o_InvalidKinds ?i_InvalidKinds ?m_InvalidNumber ?n_InvalidNumber ?v_InvalidNumber ?j_InvalidNumber ?o_InvalidNumber ?i_InvalidNumber ?m_Different ?n_Different ?v_Different ?j_Different ?o_Different ?i_Different ?m_NoFault ?n_NoFault ?v_NoFault ?j_NoFault ?o_NoFault ?i_NoFault ?m_NotThere ?n_NotThere ?v_NotThere ?j_NotThere ?o_NotThere ?i_NotThere ?m_NothingToUndo ?n_NothingToUndo ?v_NothingToUndo ?j_NothingToUndo ?o_NothingToUndo ?i_NothingToUndo ?m_ParseError ?n_ParseError ?v_ParseError ?j_ParseError ?o_ParseError ?i_ParseError ?bP ?iP ?hn ?ht ?nd DL.law_data
    (case a0 => k_is)
    (case l0 => k_is)
    (case c0 => k_is)
    (case k0 => k_is)
    (case a1 => k_is)
    (case l1 => k_is)
    (case c1 => k_is)
    (case k1 => k_is)
    (case a2 => k_is)
    (case l2 => k_is)
    (case c2 => k_is)
    (case k2 => k_is)
    (case a3 => k_is)
    (case l3 => k_is)
    (case c3 => k_is)
    (case k3 => k_is)
    (case a4 => k_is)
    (case l4 => k_is)
    (case c4 => k_is)
    (case k4 => k_is)
    (case a5 => k_is)
    (case l5 => k_is)
    (case c5 => k_is)
    (case k5 => k_is)
    (case a6 => k_is)
    (case l6 => k_is)
    (case c6 => k_is)
    (case k6 => k_is)
    (case a7 => k_is)
    (case l7 => k_is)
    (case c7 => k_is)
    (case k7 => k_is)
    (case a8 => k_is)
    (case l8 => k_is)
    (case c8 => k_is)
    (case k8 => k_is)
    (case a9 => k_is)
    (case l9 => k_is)
    (case c9 => k_is)
    (case k9 => k_is)
    (case a10 => k_is)
    (case l10 => k_is)
    (case c10 => k_is)
    (case k10 => k_is)
    (case a11 => k_is)
    (case l11 => k_is)
    (case c11 => k_is)
    (case k11 => k_is)
    (case a12 => k_is)
    (case l12 => k_is)
    (case c12 => k_is)
    (case k12 => k_is)
    (case a13 => k_is)
    (case l13 => k_is)
    (case c13 => k_is)
    (case k13 => k_is)
    (case a14 => k_is)
    (case l14 => k_is)
    (case c14 => k_is)
    (case k14 => k_is)
    (case a15 => k_is)
    (case l15 => k_is)
    (case c15 => k_is)
    (case k15 => k_is)
    (case a16 => k_is)
    (case l16 => k_is)
    (case c16 => k_is)
    (case k16 => k_is)
    (case a17 => k_is)
    (case l17 => k_is)
    (case c17 => k_is)
    (case k17 => k_is)
    (case a18 => k_is)
    (case l18 => k_is)
    (case c18 => k_is)
    (case k18 => k_is)
    (case a19 => k_is)
    (case l19 => k_is)
    (case c19 => k_is)
    (case k19 => k_is)
    (case a20 => k_is)
    (case l20 => k_is)
    (case c20 => k_is)
    (case k20 => k_is)
    (case a21 => k_is)
    (case l21 => k_is)
    (case c21 => k_is)
    (case k21 => k_is)
    (case a22 => k_is)
    (case l22 => k_is)
    (case c22 => k_is)
    (case k22 => k_is)
    (case a23 => k_is)
    (case l23 => k_is)
    (case c23 => k_is)
    (case k23 => k_is)
    (case a24 => k_is)
    (case l24 => k_is)
    (case c24 => k_is)
    (case k24 => k_is)
    (case a25 => k_is)
    (case l25 => k_is)
    (case c25 => k_is)
    (case k25 => k_is)
    (case a26 => k_is)
    (case l26 => k_is)
    (case c26 => k_is)
    (case k26 => k_is)
    (case a27 => k_is)
    (case l27 => k_is)
    (case c27 => k_is)
    (case k27 => k_is)
    (case a28 => k_is)
    (case l28 => k_is)
    (case c28 => k_is)
    (case k28 => k_is)
    (case a29 => k_is)
    (case l29 => k_is)
    (case c29 => k_is)
    (case k29 => k_is)
    (case a30 => k_is)
    (case l30 => k_is)
    (case c30 => k_is)
    (case k30 => k_is)
    (case a31 => k_is)
    (case l31 => k_is)
    (case c31 => k_is)
    (case k31 => k_is)
    (case a32 => k_is)
    (case l32 => k_is)
    (case c32 => k_is)
    (case k32 => k_is)
    (case a33 => k_is)
    (case l33 => k_is)
    (case c33 => k_is)
    (case k33 => k_is)
    (case z_ValueError => k_is)
    (case z_all => k_is)
    (case z_any => k_is)
    (case z_bool => k_is)
    (case z_int => k_is)
    (case z_isinstance => k_is)
    (case z_len => k_is)
    (case z_max => k_is)
    (case z_min => k_is)
    (case z_range => k_is)
    (case z_str => k_is)
    (case z_tuple => k_is)
    (case y_MOST_DIGITS => k_is)
    (case y_MOST_GOODS => k_is)
    (case y_MOST_RULES => k_is)
    (case y_NO_MOST => k_is)
    (case y_NO_RULES => k_is)
    (case e_Different => k_is)
    (case e_InvalidAct => k_is)
    (case e_InvalidActs => k_is)
    (case e_InvalidBasket => k_is)
    (case e_InvalidKinds => k_is)
    (case e_InvalidNumber => k_is)
    (case e_InvalidOffers => k_is)
    (case e_InvalidShop => k_is)
    (case e_NoFault => k_is)
    (case e_NotThere => k_is)
    (case e_NothingToUndo => k_is)
    (case e_ParseError => k_is)
    (case e_PriceError => k_is)
    (case q_InvalidShop => k_exc)
    (case p_InvalidShop => k_is)
    (case r_InvalidShop => k_is)
    (case q_ParseError => k_exc)
    (case p_ParseError => k_is)
    (case r_ParseError => k_is)
    (case w_Different => k_is)
    (case w_InvalidAct => k_is)
    (case w_InvalidActs => k_is)
    (case w_InvalidBasket => k_is)
    (case w_InvalidKinds => k_is)
    (case w_InvalidNumber => k_is)
    (case w_InvalidOffers => k_is)
    (case w_InvalidShop => k_is)
    (case w_NoFault => k_is)
    (case w_NotThere => k_is)
    (case w_NothingToUndo => k_is)
    (case w_ParseError => k_is)
    (case w_PriceError => k_is)
    (case m_InvalidShop => k_is)
    (case n_InvalidShop => rfl)
    (case v_InvalidShop => k_is)
    (case j_InvalidShop => k_is)
    (case o_InvalidShop => k_is)
    (case i_InvalidShop => k_is)
    (case m_InvalidBasket => k_is)
    (case n_InvalidBasket => rfl)
    (case v_InvalidBasket => k_is)
    (case j_InvalidBasket => k_is)
    (case o_InvalidBasket => k_is)
    (case i_InvalidBasket => k_is)
    (case m_InvalidActs => k_is)
    (case n_InvalidActs => rfl)
    (case v_InvalidActs => k_is)
    (case j_InvalidActs => k_is)
    (case o_InvalidActs => k_is)
    (case i_InvalidActs => k_is)
    (case m_InvalidAct => k_is)
    (case n_InvalidAct => rfl)
    (case v_InvalidAct => k_is)
    (case j_InvalidAct => k_is)
    (case o_InvalidAct => k_is)
    (case i_InvalidAct => k_is)
    (case m_InvalidOffers => k_is)
    (case n_InvalidOffers => rfl)
    (case v_InvalidOffers => k_is)
    (case j_InvalidOffers => k_is)
    (case o_InvalidOffers => k_is)
    (case i_InvalidOffers => k_is)
    (case m_InvalidKinds => k_is)
    (case n_InvalidKinds => rfl)
    (case v_InvalidKinds => k_is)
    (case j_InvalidKinds => k_is)
    (case o_InvalidKinds => k_is)
    (case i_InvalidKinds => k_is)
    (case m_InvalidNumber => k_is)
    (case n_InvalidNumber => rfl)
    (case v_InvalidNumber => k_is)
    (case j_InvalidNumber => k_is)
    (case o_InvalidNumber => k_is)
    (case i_InvalidNumber => k_is)
    (case m_Different => k_is)
    (case n_Different => rfl)
    (case v_Different => k_is)
    (case j_Different => k_is)
    (case o_Different => k_is)
    (case i_Different => k_is)
    (case m_NoFault => k_is)
    (case n_NoFault => rfl)
    (case v_NoFault => k_is)
    (case j_NoFault => k_is)
    (case o_NoFault => k_is)
    (case i_NoFault => k_is)
    (case m_NotThere => k_is)
    (case n_NotThere => rfl)
    (case v_NotThere => k_is)
    (case j_NotThere => k_is)
    (case o_NotThere => k_is)
    (case i_NotThere => k_is)
    (case m_NothingToUndo => k_is)
    (case n_NothingToUndo => rfl)
    (case v_NothingToUndo => k_is)
    (case j_NothingToUndo => k_is)
    (case o_NothingToUndo => k_is)
    (case i_NothingToUndo => k_is)
    (case m_ParseError => k_is)
    (case n_ParseError => rfl)
    (case v_ParseError => k_is)
    (case j_ParseError => k_is)
    (case o_ParseError => k_is)
    (case i_ParseError => k_is)
    (case bP => k_is)
    (case iP => k_is)
    (case hn => k_is)
    (case ht => k_is)
    (case nd => decide)
