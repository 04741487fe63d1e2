import PyProof.Rows.All
import Wide.All
import OpenK.AllK
import Wide.FinOn
import HandS.ForMost
import HandS.Exc
import HandS.ExcOwn
import HandS.TryOnly
import HandS.WordsExc
import KE.KDictKeyed
import HandS.TupAny
import HandS.Style
import HandS.IsInst
import HandS.Deep
import KE.DataEq
import HandS.Text
import KE.GoesMore
import KE.GoesEnum
import HandS.Zip
import HandS.TupMul
import HandS.Rev
import KE.SortData
import KE.DataCmp
import KE.DataMinMax
import KE.DataFind
import KE.KRevSl
import HandS.HotCalls
import HandS.ExcIs
import HandS.NoneIn
import HandS.FStr
import HandS.StrMore
import HandS.RaiseMore
import HandS.ReplaceLit
import KE.KDictWalk
import HandS.TupSets
import HandS.DictSubView
import HandS.DictComp
import KE.KDictDisplayH
import HandS.Gcd
import KE.KMathGC
import HandS.Sort
import HandS.SortKw
import HandS.MakeKw
import KE.KDictZip
import KE.KItemsList
import HandS.DictTup
import KE.KStateDown
import HandS.Head0
import HandS.Head1
import HandS.Head2
import HandS.Head3
import HandS.HeadHook1
import PySem.Challenge.RW_sureprices_k40_whole_tills_undone
set_option Elab.async false
set_option linter.all false
set_option maxRecDepth 100000
set_option maxHeartbeats 2000000
namespace DL
open PySem PySem.Spec L2
class Wd where
  w : World
instance (priority := low) wd0 : Wd := ⟨⟨fun _ _ => 0, { strHash := fun _ => 0, shareClass := fun _ => 0, mergeTok := id, idOf := fun _ => 0, idOfShared := fun _ _ => 0, followText := fun _ => false, idOfImm := fun _ => 0 }⟩⟩

inductive D where
  | non | bl (b : Bool) | int (i : Int) | str (x : Str) | tup (xs : List D) | lst (xs : List D) | fz (xs : List D) | dct (ks vs : List D) | kd (ks vs : List D)

def entT (x : List Int × Addr × Value) : DictEntry := ⟨reduceHash (Builtin.Tuple.tupleHashOf (x.1.map hashInt)), .ref x.2.1, x.2.2⟩
structure DcObj (a : Addr) (o : Obj) (kvs : List (List Int × Addr × V)) : Prop where
  sm : (a == sysModules) = false
  len : kvs.length ≤ sizeLine
  ex : o.ExactDict
  nd : (kvs.map (·.1)).Nodup
  dat : ∃ (es : Array DictEntry) (ep : Nat) (ys : List (List Int × Addr × Value)), o.data = .dict es ep ∧ Paired (fun x y => x.1 = y.1 ∧ x.2.1 = y.2.1 ∧ RelV x.2.2 y.2.2) kvs ys ∧ es.toList = ys.map entT

abbrev Kn := List (NestedKey × Addr × V)
mutual
/-- a key as a datum -/
def keyD : NestedKey → D
  | .none => .non
  | .num i => .int i
  | .text x => .str x
  | .tup ks => .tup (keysD ks)
def keysD : List NestedKey → List D
  | [] => []
  | k :: ks => keyD k :: keysD ks
end
mutual
/-- the value v is the key k -/
inductive KeyV (K : PySem.W.Frag) (H : Hp) : NestedKey → V → Prop
  | none : KeyV K H .none .non
  | num (i : Int) : KeyV K H (.num i) (.int i)
  | text (x : Str) : KeyV K H (.text x) (.str x)
  | tup {a xs ks} (h : SqT K H a xs) (r : KeysV K H ks xs) : KeyV K H (.tup ks) (.ref a)
inductive KeysV (K : PySem.W.Frag) (H : Hp) : List NestedKey → List V → Prop
  | nil : KeysV K H [] []
  | cons {k v ks vs} (r : KeyV K H k v) (rs : KeysV K H ks vs) : KeysV K H (k :: ks) (v :: vs)
end
def entN (w : World) (x : NestedKey × Addr × Value) : DictEntry := ⟨x.1.hash w, .ref x.2.1, x.2.2⟩
structure NdObj (w : World) (a : Addr) (o : Obj) (kvs : Kn) : Prop where
  sm : (a == sysModules) = false
  len : kvs.length ≤ sizeLine
  ex : o.ExactDict
  nd : (kvs.map (·.1)).Nodup
  dat : ∃ (es : Array DictEntry) (ep : Nat) (ys : List (NestedKey × Addr × Value)), o.data = .dict es ep ∧ Paired (fun x y => x.1 = y.1 ∧ x.2.1 = y.2.1 ∧ RelV x.2.2 y.2.2) kvs ys ∧ es.toList = ys.map (entN w)
abbrev KeyN (K : PySem.W.Frag) (H : Hp) (kvs : Kn) : Prop := ∀ x ∈ kvs, KeyV K H x.1 (.ref x.2.1) ∧ x.1.depth ≤ 8

inductive Sl where
  | no | im (d : D) | own (io : Bool) (xs : List D) | hd (a : Addr)
abbrev En := List Sl
structure Cp where
  fr : Bool
  d : D
inductive T where
  | im (d : D) | al (i : Nat) | fr (ds : List D) | ft (cs : List Cp)
inductive R (α : Type) where
  | er | ex (c : Str) (e : En) | ok (a : α) (e : En)

def FzAt (K : PySem.W.Frag) (H : Hp) (a : Addr) (xs : List V) : Prop :=
  (∃ o, H a = some (.frz o (.lst xs))) ∨
    ∃ (o : Obj) (its : Array Value) (n : Nat), K.lookup a = some o ∧ o.cls = .type "list" ∧ o.dict = none ∧ o.data = .seq its n ∧ its.size ≤ sizeLine ∧ Vals xs its.toList
theorem FzAt.sql {K : PySem.W.Frag} {H : Hp} {a : Addr} {xs : List V} (h : FzAt K H a xs) : SqL K H a xs := by
  rcases h with ⟨o, h⟩ | h
  · exact .inl (.inr ⟨o, h⟩)
  · exact .inr h

variable [Wd]
mutual
inductive Rep (K : PySem.W.Frag) (G : Addr → Prop) (H : Hp) : V → D → Prop
  | non : Rep K G H .non .non
  | bl (b : Bool) : Rep K G H (.bl b) (.bl b)
  | int (i : Int) : Rep K G H (.int i) (.int i)
  | str (x : Str) : Rep K G H (.str x) (.str x)
  | tup {a xs ds} (h : SqT K H a xs) (r : Reps K G H xs ds) : Rep K G H (.ref a) (.tup ds)
  | lst {a xs ds} (g : G a) (h : H a = some (.lst xs)) (r : Reps K G H xs ds) : Rep K G H (.ref a) (.lst ds)
  | fz {a xs ds} (h : FzAt K H a xs) (r : Reps K G H xs ds) : Rep K G H (.ref a) (.fz ds)
  | dct {a o u} {kvs : List (List Int × Addr × V)} {ks vs} (h : H a = some (.frz o u)) (ho : DcObj a o kvs) (hq : ∀ x ∈ kvs, SqT K H x.2.1 (x.1.map V.int)) (hk : ks = kvs.map fun x => .tup (x.1.map .int)) (r : Reps K G H (kvs.map (·.2.2)) vs) : Rep K G H (.ref a) (.dct ks vs)
  | kd {a o u} {kvs : Kn} {ks vs} (h : H a = some (.frz o u)) (ho : NdObj Wd.w a o kvs) (hq : KeyN K H kvs) (hk : ks = kvs.map fun x => keyD x.1) (r : Reps K G H (kvs.map (·.2.2)) vs) : Rep K G H (.ref a) (.kd ks vs)
inductive Reps (K : PySem.W.Frag) (G : Addr → Prop) (H : Hp) : List V → List D → Prop
  | nil : Reps K G H [] []
  | cons {v d vs ds} (r : Rep K G H v d) (rs : Reps K G H vs ds) : Reps K G H (v :: vs) (d :: ds)
end
structure TK (H H' : Hp) : Prop where
  tup : ∀ b xs, H b = some (.tup xs) → H' b = some (.tup xs)
  frz : ∀ b o u, H b = some (.frz o u) → H' b = some (.frz o u)
theorem TK.refl (H : Hp) : TK H H := ⟨fun _ _ h => h, fun _ _ _ h => h⟩
theorem TK.sqt {K : PySem.W.Frag} {H H' : Hp} (k : TK H H') {a : Addr} {xs : List V} (h : SqT K H a xs) : SqT K H' a xs := by
  rcases h with (h | ⟨o, h⟩) | h
  · exact .inl (.inl (k.tup _ _ h))
  · exact .inl (.inr ⟨o, k.frz _ _ _ h⟩)
  · exact .inr h
theorem TK.fz {K : PySem.W.Frag} {H H' : Hp} (k : TK H H') {a : Addr} {xs : List V} (h : FzAt K H a xs) : FzAt K H' a xs := by
  rcases h with ⟨o, h⟩ | h
  · exact .inl ⟨o, k.frz _ _ _ h⟩
  · exact .inr h

section
variable {K : PySem.W.Frag} {G G' : Addr → Prop} {H H' : Hp}
mutual
theorem KeyV.tk (k : TK H H') : ∀ {n v}, KeyV K H n v → KeyV K H' n v
  | _, _, .none => .none
  | _, _, .num i => .num i
  | _, _, .text x => .text x
  | _, _, .tup h r => .tup (k.sqt h) (KeysV.tk k r)
theorem KeysV.tk (k : TK H H') : ∀ {n v}, KeysV K H n v → KeysV K H' n v
  | _, _, .nil => .nil
  | _, _, .cons r rs => .cons (KeyV.tk k r) (KeysV.tk k rs)
end
theorem KeyN.tk (k : TK H H') {kvs : Kn} (h : KeyN K H kvs) : KeyN K H' kvs := fun x hx => ⟨(h x hx).1.tk k, (h x hx).2⟩
mutual
theorem Rep.mono (k : TK H H') (g : ∀ a xs, G a → H a = some (.lst xs) → G' a ∧ H' a = some (.lst xs)) : ∀ {v d}, Rep K G H v d → Rep K G' H' v d
  | _, _, .non => .non
  | _, _, .bl b => .bl b
  | _, _, .int i => .int i
  | _, _, .str x => .str x
  | _, _, .tup h r => .tup (k.sqt h) (Reps.mono k g r)
  | _, _, .lst ga h r => .lst (g _ _ ga h).1 (g _ _ ga h).2 (Reps.mono k g r)
  | _, _, .fz h r => .fz (k.fz h) (Reps.mono k g r)
  | _, _, .dct h ho hq hk r => .dct (k.frz _ _ _ h) ho (fun x hx => k.sqt (hq x hx)) hk (Reps.mono k g r)
  | _, _, .kd h ho hq hk r => .kd (k.frz _ _ _ h) ho (KeyN.tk k hq) hk (Reps.mono k g r)
theorem Reps.mono (k : TK H H') (g : ∀ a xs, G a → H a = some (.lst xs) → G' a ∧ H' a = some (.lst xs)) : ∀ {vs ds}, Reps K G H vs ds → Reps K G' H' vs ds
  | _, _, .nil => .nil
  | _, _, .cons r rs => .cons (Rep.mono k g r) (Reps.mono k g rs)
end
theorem Reps.length {vs : List V} {ds : List D} : Reps K G H vs ds → vs.length = ds.length
  | .nil => rfl
  | .cons _ rs => congrArg (· + 1) (Reps.length rs)
theorem Reps.get {vs : List V} {ds : List D} {i : Nat} {d : D} : Reps K G H vs ds → ds[i]? = some d → ∃ v, vs[i]? = some v ∧ Rep K G H v d
  | .nil, h => by simp at h
  | .cons r rs, h => by
    cases i with
    | zero => simp at h; subst h; exact ⟨_, rfl, r⟩
    | succ i => simpa using Reps.get rs (by simpa using h)
theorem Reps.append {vs ws : List V} {ds es : List D} : Reps K G H vs ds → Reps K G H ws es → Reps K G H (vs ++ ws) (ds ++ es)
  | .nil, s => s
  | .cons r rs, s => .cons r (Reps.append rs s)
theorem Reps.take {vs : List V} {ds : List D} : ∀ (n : Nat), Reps K G H vs ds → Reps K G H (vs.take n) (ds.take n)
  | 0, _ => by simpa using Reps.nil
  | n + 1, .nil => .nil
  | n + 1, .cons r rs => .cons r (Reps.take n rs)
theorem Reps.drop {vs : List V} {ds : List D} : ∀ (n : Nat), Reps K G H vs ds → Reps K G H (vs.drop n) (ds.drop n)
  | 0, r => r
  | n + 1, .nil => .nil
  | n + 1, .cons r rs => Reps.drop n rs
theorem Reps.set {vs : List V} {ds : List D} {v : V} {d : D} (r : Rep K G H v d) : ∀ (i : Nat), Reps K G H vs ds → Reps K G H (vs.set i v) (ds.set i d)
  | _, .nil => .nil
  | 0, .cons _ rs => .cons r rs
  | i + 1, .cons r' rs => .cons r' (Reps.set r i rs)
theorem Reps.reverse {vs : List V} {ds : List D} : Reps K G H vs ds → Reps K G H vs.reverse ds.reverse
  | .nil => .nil
  | .cons r rs => by
    rw [List.reverse_cons, List.reverse_cons]
    exact Reps.append (Reps.reverse rs) (.cons r .nil)
theorem Reps.rep {vs : List V} {ds : List D} (h : Reps K G H vs ds) : ∀ k : Nat, Reps K G H (List.replicate k vs).flatten (List.replicate k ds).flatten
  | 0 => .nil
  | k + 1 => by
    rw [List.replicate_succ, List.replicate_succ, List.flatten_cons, List.flatten_cons]
    exact Reps.append h (Reps.rep h k)
theorem Reps.ints {vs : List V} : ∀ {ns : List Int}, Reps K G H vs (ns.map .int) → vs = ns.map .int
  | [], h => by cases h; rfl
  | n :: ns, h => by
    cases h with
    | cons r rs => cases r; rw [Reps.ints rs]; rfl
theorem Reps.bls {vs : List V} : ∀ {ns : List Bool}, Reps K G H vs (ns.map .bl) → vs = ns.map .bl
  | [], h => by cases h; rfl
  | n :: ns, h => by
    cases h with
    | cons r rs => cases r; rw [Reps.bls rs]; rfl
theorem Reps.of_ints : ∀ (ns : List Int), Reps K G H (ns.map V.int) (ns.map D.int)
  | [] => .nil
  | n :: ns => .cons (.int n) (Reps.of_ints ns)
end
mutual
/-- no list within -/
def D.flat : D → Bool
  | .lst _ => false
  | .tup xs => D.flats xs
  | .fz xs => D.flats xs
  | .dct _ xs => D.flats xs
  | .kd _ xs => D.flats xs
  | _ => true
def D.flats : List D → Bool
  | [] => true
  | x :: xs => D.flat x && D.flats xs
end
section
variable {K : PySem.W.Frag} {G G' : Addr → Prop} {H H' : Hp}
mutual
theorem Rep.flat : ∀ {v d}, Rep K G H v d → D.flat d = true → Rep K G' H v d
  | _, _, .non, _ => .non
  | _, _, .bl b, _ => .bl b
  | _, _, .int i, _ => .int i
  | _, _, .str x, _ => .str x
  | _, _, .tup h r, f => .tup h (Reps.flats r (by simpa [D.flat] using f))
  | _, _, .lst _ _ _, f => by simp [D.flat] at f
  | _, _, .fz h r, f => .fz h (Reps.flats r (by simpa [D.flat] using f))
  | _, _, .dct h ho hq hk r, f => .dct h ho hq hk (Reps.flats r (by simpa [D.flat] using f))
  | _, _, .kd h ho hq hk r, f => .kd h ho hq hk (Reps.flats r (by simpa [D.flat] using f))
theorem Reps.flats : ∀ {vs ds}, Reps K G H vs ds → D.flats ds = true → Reps K G' H vs ds
  | _, _, .nil, _ => .nil
  | _, _, .cons r rs, f => by
    simp [D.flats] at f
    exact .cons (Rep.flat r f.1) (Reps.flats rs f.2)
end
end
structure Cc where
  K : PySem.W.Frag
  mg : Str → Option Value
  H0 : Hp
  Io : Addr → Prop
  vs : List V
def ownM (σ : St) (env : En) (a : Addr) : Prop := ∃ (i : Nat) (io : Bool) (ds : List D), env[i]? = some (Sl.own io ds) ∧ σ[i]? = some (some (V.ref a))
def Nn (σ : St) (env : En) (H : Hp) (a : Addr) : Prop := ownM σ env a ∨ H a = none
abbrev Av (L : Addr → Prop) (σ : St) (env : En) : Addr → Prop := fun a => ¬ L a ∧ ¬ ownM σ env a
structure RE (c : Cc) (L : Addr → Prop) (σ : St) (H : Hp) (env : En) : Prop where
  len : env.length = σ.length
  im : ∀ (i : Nat) (d : D), env[i]? = some (Sl.im d) → ∃ v, σ[i]? = some (some v) ∧ Rep c.K (Av L σ env) H v d
  own : ∀ (i : Nat) (io : Bool) (ds : List D), env[i]? = some (Sl.own io ds) → ∃ a xs, σ[i]? = some (some (V.ref a)) ∧ H a = some (.lst xs) ∧ Reps c.K (Av L σ env) H xs ds ∧ (io = false → c.H0 a = none) ∧ (io = true → c.Io a ∧ c.vs[i]? = some (.ref a))
  inj : ∀ (i j : Nat) (io jo : Bool) (ds es : List D) (a : Addr), env[i]? = some (Sl.own io ds) → env[j]? = some (Sl.own jo es) → σ[i]? = some (some (V.ref a)) → σ[j]? = some (some (V.ref a)) → i = j
  ext : ∀ a, L a → ¬ ownM σ env a ∧ ∃ xs, H a = some (.lst xs)
  fr : ∀ b o, ¬ c.Io b → c.H0 b = some o → H b = some o
  io : ∀ a, c.Io a → ∃ xs, H a = some (.lst xs)
  hd : ∀ (i : Nat) (a : Addr), env[i]? = some (Sl.hd a) → σ[i]? = some (some (V.ref a))
theorem hd_set {σ : St} {env : En} {i : Nat} {s : Sl} (h : ∀ (i : Nat) (a : Addr), env[i]? = some (Sl.hd a) → σ[i]? = some (some (V.ref a))) (n : ∀ a, s ≠ .hd a) : ∀ (j : Nat) (a : Addr), (env.set i s)[j]? = some (Sl.hd a) → σ[j]? = some (some (V.ref a)) := fun j a q => by
  by_cases z : i = j
  · subst z
    rw [List.getElem?_set] at q
    simp only [if_true] at q
    split at q
    · exact (n a (Option.some.inj q)).elim
    · cases q
  · rw [List.getElem?_set_ne z] at q
    exact h j a q
theorem hd_set2 {σ : St} {env : En} {i : Nat} {s : Sl} {v : V} (h : ∀ (i : Nat) (a : Addr), env[i]? = some (Sl.hd a) → σ[i]? = some (some (V.ref a))) (n : ∀ a, s ≠ .hd a) : ∀ (j : Nat) (a : Addr), (env.set i s)[j]? = some (Sl.hd a) → (σ.set i (some v))[j]? = some (some (V.ref a)) := fun j a q => by
  by_cases z : i = j
  · subst z
    rw [List.getElem?_set] at q
    simp only [if_true] at q
    split at q
    · exact (n a (Option.some.inj q)).elim
    · cases q
  · rw [List.getElem?_set_ne z] at q ⊢
    exact h j a q
def Stp (σ : St) (env : En) (H : Hp) (σ' : St) (env' : En) (H' : Hp) : Prop := ∀ b, ¬ Nn σ env H b → H' b = H b ∧ ¬ Nn σ' env' H' b
theorem Stp.refl {σ : St} {env : En} {H : Hp} : Stp σ env H σ env H := fun _ h => ⟨rfl, h⟩
theorem Stp.trans {σ σ1 σ2 : St} {env env1 env2 : En} {H H1 H2 : Hp} (a : Stp σ env H σ1 env1 H1) (b : Stp σ1 env1 H1 σ2 env2 H2) : Stp σ env H σ2 env2 H2 := fun x h => by
  obtain ⟨e1, n1⟩ := a x h
  obtain ⟨e2, n2⟩ := b x n1
  exact ⟨e2.trans e1, n2⟩
theorem Stp.back {σ σ' : St} {env env' : En} {H H' : Hp} (s : Stp σ env H σ' env' H') {a : Addr} (h : Nn σ' env' H' a) : Nn σ env H a := Classical.byContradiction fun n => (s a n).2 h
theorem Nn.not {σ : St} {env : En} {H : Hp} {a : Addr} {o : HO} (h : H a = some o) (n : ¬ ownM σ env a) : ¬ Nn σ env H a := fun z => z.elim n fun z => by rw [z] at h; cases h
theorem RE.tk {c : Cc} {L : Addr → Prop} {σ σ' : St} {env env' : En} {H H' : Hp} (h : RE c L σ H env) (s : Stp σ env H σ' env' H') : TK H H' := by
  have key : ∀ b o, H b = some o → (∀ xs, o ≠ .lst xs) → H' b = some o := fun b o e n => by
    have : ¬ ownM σ env b := fun ⟨i, io, ds, e1, e2⟩ => by
      obtain ⟨a, xs, e3, e4, _⟩ := h.own i io ds e1
      rw [e2] at e3
      cases e3
      rw [e] at e4
      cases e4
      exact n _ rfl
    rw [(s b (Nn.not e this)).1, e]
  exact ⟨fun b xs e => key b _ e (fun _ z => nomatch z), fun b o u e => key b _ e (fun _ z => nomatch z)⟩
theorem RE.rep {c : Cc} {L L' : Addr → Prop} {σ σ' : St} {env env' : En} {H H' : Hp} (h : RE c L σ H env) (s : Stp σ env H σ' env' H') {v : V} {d : D} (r : Rep c.K (Av L' σ env) H v d) : Rep c.K (Av L' σ' env') H' v d :=
  r.mono (h.tk s) fun a xs g e => by
    obtain ⟨e1, n1⟩ := s a (Nn.not e g.2)
    exact ⟨⟨g.1, fun z => n1 (.inl z)⟩, e1.trans e⟩
theorem RE.reps {c : Cc} {L L' : Addr → Prop} {σ σ' : St} {env env' : En} {H H' : Hp} (h : RE c L σ H env) (s : Stp σ env H σ' env' H') {v : List V} {d : List D} (r : Reps c.K (Av L' σ env) H v d) : Reps c.K (Av L' σ' env') H' v d :=
  r.mono (h.tk s) fun a xs g e => by
    obtain ⟨e1, n1⟩ := s a (Nn.not e g.2)
    exact ⟨⟨g.1, fun z => n1 (.inl z)⟩, e1.trans e⟩
theorem Stp.grow {σ : St} {env : En} {H H' : Hp} (k : ∀ b o, H b = some o → H' b = some o) : Stp σ env H σ env H' := fun b n => by
  cases e : H b with
  | none => exact (n (.inr e)).elim
  | some o => exact ⟨k b o e, fun z => z.elim (fun z => n (.inl z)) fun z => by rw [k b o e] at z; cases z⟩
theorem RE.grow {c : Cc} {L : Addr → Prop} {σ : St} {env : En} {H H' : Hp} (h : RE c L σ H env) (k : ∀ b o, H b = some o → H' b = some o) : RE c L σ H' env where
  len := h.len
  im := fun i d e => by
    obtain ⟨v, e1, r⟩ := h.im i d e
    exact ⟨v, e1, h.rep (Stp.grow k) r⟩
  own := fun i io ds e => by
    obtain ⟨a, xs, e1, e2, r, z⟩ := h.own i io ds e
    exact ⟨a, xs, e1, k _ _ e2, h.reps (Stp.grow k) r, z⟩
  inj := h.inj
  ext := fun a la => ⟨(h.ext a la).1, (h.ext a la).2.imp fun xs e => k _ _ e⟩
  fr := fun b o n e => k _ _ (h.fr b o n e)
  io := fun a i => (h.io a i).imp fun xs e => k _ _ e
  hd := h.hd
theorem RE.less {c : Cc} {L L' : Addr → Prop} {σ : St} {env : En} {H : Hp} (h : RE c L σ H env) (l : ∀ a, L' a → L a) : RE c L' σ H env where
  len := h.len
  im := fun i d e => by
    obtain ⟨v, e1, r⟩ := h.im i d e
    exact ⟨v, e1, r.mono (.refl H) fun a xs g e => ⟨⟨fun z => g.1 (l a z), g.2⟩, e⟩⟩
  own := fun i io ds e => by
    obtain ⟨a, xs, e1, e2, r, z⟩ := h.own i io ds e
    exact ⟨a, xs, e1, e2, r.mono (.refl H) fun a xs g e => ⟨⟨fun z => g.1 (l a z), g.2⟩, e⟩, z⟩
  inj := h.inj
  ext := fun a la => h.ext a (l a la)
  fr := h.fr
  io := h.io
  hd := h.hd
theorem RE.more {c : Cc} {L : Addr → Prop} {σ : St} {env : En} {H H' : Hp} (h : RE c L σ H env) (k : ∀ b o, H b = some o → H' b = some o) {a : Addr} {xs : List V} (n : H a = none) (e : H' a = some (.lst xs)) : RE c (fun b => L b ∨ b = a) σ H' env := by
  have no : ∀ b, (∃ o, H b = some o) → b ≠ a := fun b ⟨o, q⟩ z => by rw [z, n] at q; cases q
  have kk : ∀ {v d}, Rep c.K (Av L σ env) H v d → Rep c.K (Av (fun b => L b ∨ b = a) σ env) H' v d := fun r =>
    r.mono (h.tk (Stp.grow k)) fun b ys g q => ⟨⟨fun z => z.elim g.1 fun z => no b ⟨_, q⟩ z, g.2⟩, k _ _ q⟩
  have ks : ∀ {v d}, Reps c.K (Av L σ env) H v d → Reps c.K (Av (fun b => L b ∨ b = a) σ env) H' v d := fun r =>
    r.mono (h.tk (Stp.grow k)) fun b ys g q => ⟨⟨fun z => z.elim g.1 fun z => no b ⟨_, q⟩ z, g.2⟩, k _ _ q⟩
  refine ⟨h.len, fun i d e => ?_, fun i io ds e => ?_, h.inj, fun b lb => ?_, fun b o n e => k _ _ (h.fr b o n e), fun a i => (h.io a i).imp fun xs e => k _ _ e, h.hd⟩
  · obtain ⟨v, e1, r⟩ := h.im i d e
    exact ⟨v, e1, kk r⟩
  · obtain ⟨a, xs, e1, e2, r, z⟩ := h.own i io ds e
    exact ⟨a, xs, e1, k _ _ e2, ks r, z⟩
  · rcases lb with lb | rfl
    · exact ⟨(h.ext b lb).1, (h.ext b lb).2.imp fun xs e => k _ _ e⟩
    · refine ⟨fun ⟨i, io, ds, e1, e2⟩ => ?_, _, e⟩
      obtain ⟨a', ys, e3, e4, _⟩ := h.own i io ds e1
      rw [e2] at e3
      cases e3
      rw [n] at e4
      cases e4

inductive RepC (K : PySem.W.Frag) (G : Addr → Prop) (H : Hp) : List Addr → List V → List Cp → Prop
  | nil : RepC K G H [] [] []
  | im {As v d vs cs} (r : Rep K G H v d) (rs : RepC K G H As vs cs) : RepC K G H As (v :: vs) (⟨false, d⟩ :: cs)
  | fr {As a xs ds vs cs} (n : a ∉ As) (e : H a = some (.lst xs)) (r : Reps K G H xs ds) (rs : RepC K G H As vs cs) : RepC K G H (a :: As) (.ref a :: vs) (⟨true, .lst ds⟩ :: cs)
def RepT (c : Cc) (L : Addr → Prop) (N : Addr → Prop) (σ : St) (H : Hp) (env : En) (v : V) : T → Prop
  | .im d => Rep c.K (Av L σ env) H v d
  | .al i => (∃ (io : Bool) (ds : List D), env[i]? = some (Sl.own io ds)) ∧ σ[i]? = some (some v)
  | .fr ds => ∃ a xs, v = .ref a ∧ H a = some (.lst xs) ∧ Reps c.K (Av (fun b => L b ∨ b = a) σ env) H xs ds ∧ ¬ L a ∧ c.H0 a = none ∧ N a ∧ RE c (fun b => L b ∨ b = a) σ H env
  | .ft cs => ∃ t vs As, v = .ref t ∧ SqT c.K H t vs ∧ RepC c.K (Av (fun b => L b ∨ b ∈ As) σ env) H As vs cs ∧ (∀ a ∈ As, ¬ L a ∧ c.H0 a = none ∧ N a) ∧ RE c (fun b => L b ∨ b ∈ As) σ H env

def Wx (mg : Str → Option Value) (W : WX) (x : Str) (σ : St) (H : Hp) : Prop := ∀ C, mg x = some (.ref C) → W (.ref C) none σ H
abbrev FE := En → R T
abbrev FT := En → R Bool
abbrev FA := En → R (List T)
end DL
namespace DL
open PySem PySem.Spec L2
variable [Wd]
def R.bind {α β : Type} (r : R α) (g : α → En → R β) : R β := match r with
  | .er => .er
  | .ex x e => .ex x e
  | .ok a e => g a e
@[simp] theorem bind_ok {α β : Type} (a : α) (e : En) (g : α → En → R β) : R.bind (.ok a e) g = g a e := rfl
@[simp] theorem bind_er {α β : Type} (g : α → En → R β) : R.bind .er g = .er := rfl
@[simp] theorem bind_ex {α β : Type} (x : Str) (e : En) (g : α → En → R β) : R.bind (.ex x e) g = .ex x e := rfl

def dK {α : Type} (c : Cc) (W : WX) (L : Addr → Prop) (σ : St) (H : Hp) (env : En) (r : R α) (P : α → En → Hp → Prop) : Prop := match r with
  | .er => False
  | .ex x env' => ∀ H', RE c L σ H' env' → Stp σ env H σ env' H' → Wx c.mg W x σ H'
  | .ok a env' => ∀ H', RE c L σ H' env' → Stp σ env H σ env' H' → P a env' H'
def dE (c : Cc) (W : WX) (f : FE) : TE := fun σ H Q => ∃ env L, RE c L σ H env ∧ dK c W L σ H env (f env) fun t env' H' => ∀ v, RepT c L (Nn σ env H) σ H' env' v t → Q v H'
def dT (c : Cc) (W : WX) (f : FT) : TT := fun σ H Q => ∃ env L, RE c L σ H env ∧ dK c W L σ H env (f env) fun b _ H' => Q b H'
section
variable {α β : Type} {c : Cc} {W : WX} {L L' : Addr → Prop} {σ : St} {H : Hp} {env : En}
theorem dE_iff {f : FE} {Q : VK} : dE c W f σ H Q ↔ ∃ env L, RE c L σ H env ∧ dK c W L σ H env (f env) fun t env' H' => ∀ v, RepT c L (Nn σ env H) σ H' env' v t → Q v H' := Iff.rfl
theorem dT_iff {f : FT} {Q : Bool → Hp → Prop} : dT c W f σ H Q ↔ ∃ env L, RE c L σ H env ∧ dK c W L σ H env (f env) fun b _ H' => Q b H' := Iff.rfl
theorem dK.bind {r : R α} {g : α → En → R β} {P : β → En → Hp → Prop} (h : dK c W L σ H env (r.bind g) P) : dK c W L σ H env r fun a env1 H1 => dK c W L σ H1 env1 (g a env1) P := by
  cases r with
  | er => exact h
  | ex x e => exact h
  | ok a e =>
    intro H1 r1 s1
    have h : dK c W L σ H env (g a e) P := h
    show dK c W L σ H1 e (g a e) P
    cases q : g a e with
    | er => rw [q] at h; exact h
    | ex x e2 => rw [q] at h; exact fun H2 r2 s2 => h H2 r2 (s1.trans s2)
    | ok b e2 => rw [q] at h; exact fun H2 r2 s2 => h H2 r2 (s1.trans s2)
theorem dK.mono {r : R α} {P P' : α → En → Hp → Prop} (h : dK c W L σ H env r P) (k : ∀ a env' H', RE c L σ H' env' → Stp σ env H σ env' H' → P a env' H' → P' a env' H') : dK c W L σ H env r P' := by
  cases r with
  | er => exact h
  | ex x e => exact h
  | ok a e => exact fun H' r s => k a e H' r s (h H' r s)
theorem dK.less {r : R α} {P : α → En → Hp → Prop} (h : dK c W L σ H env r P) (l : ∀ a, L a → L' a) : dK c W L' σ H env r P := by
  cases r with
  | er => exact h
  | ex x e => exact fun H' r s => h H' (r.less l) s
  | ok a e => exact fun H' r s => h H' (r.less l) s
theorem dE.of {f : FE} {Q : VK} (r : RE c L σ H env) (h : dK c W L σ H env (f env) fun t env' H' => ∀ v, RepT c L (Nn σ env H) σ H' env' v t → Q v H') : dE c W f σ H Q := dE_iff.mpr ⟨env, L, r, h⟩
theorem dT.of {f : FT} {Q : Bool → Hp → Prop} (r : RE c L σ H env) (h : dK c W L σ H env (f env) fun b _ H' => Q b H') : dT c W f σ H Q := dT_iff.mpr ⟨env, L, r, h⟩
end
theorem PEw {X : Cx} {e : Expr} {t t' : TE} (h : PE X e t) (k : ∀ σ H Q, t' σ H Q → t σ H Q) : PE X e t' := ⟨fun pins s σ H Q I q => h.run pins s σ H Q I (k σ H Q q)⟩
theorem PTw {X : Cx} {e : Expr} {t t' : TT} (h : PT X e t) (k : ∀ σ H Q, t' σ H Q → t σ H Q) : PT X e t' := ⟨fun pins s σ H Q I q => h.run pins s σ H Q I (k σ H Q q)⟩
theorem PWw {X : Cx} {e : Expr} {t t' : TT} (h : PW X e t) (k : ∀ σ H Q, t' σ H Q → t σ H Q) : PW X e t' := ⟨fun wh pins s σ H Q I q => h.run wh pins s σ H Q I (k σ H Q q)⟩
theorem PAw {X : Cx} {e : List Expr} {t t' : TA} (h : PA X e t) (k : ∀ σ H Q, t' σ H Q → t σ H Q) : PA X e t' := ⟨fun pos pins s σ H Q I q => h.run pos pins s σ H Q I (k σ H Q q)⟩
theorem PSw {X : Cx} {e : Stmt} {t t' : TS} (h : PS X e t) (k : ∀ D σ H, t' D σ H → t D σ H) : PS X e t' := ⟨fun pins s σ H D I q => h.run pins s σ H D I (k D σ H q)⟩
theorem PSsw {X : Cx} {e : List Stmt} {t t' : TS} (h : PSs X e t) (k : ∀ D σ H, t' D σ H → t D σ H) : PSs X e t' := ⟨fun pins s σ H D I q => h.run pins s σ H D I (k D σ H q)⟩

section
variable {c : Cc} {L L' N N' : Addr → Prop} {σ : St} {H : Hp} {env : En} {v : V} {t : T}
theorem RepC.in {K : PySem.W.Frag} {G : Addr → Prop} {H : Hp} : ∀ {As vs cs}, RepC K G H As vs cs → ∀ a ∈ As, ∃ xs, H a = some (.lst xs)
  | _, _, _, .nil, a, h => by cases h
  | _, _, _, .im _ rs, a, h => RepC.in rs a h
  | _, _, _, .fr n e r rs, a, h => by
    rcases List.mem_cons.mp h with rfl | h
    · exact ⟨_, e⟩
    · exact RepC.in rs a h
theorem RepC.mono {K : PySem.W.Frag} {G G' : Addr → Prop} {H H' : Hp} (k : TK H H') (g : ∀ a xs, G a → H a = some (.lst xs) → G' a ∧ H' a = some (.lst xs)) : ∀ {As vs cs}, RepC K G H As vs cs → (∀ a ∈ As, ∀ xs, H a = some (.lst xs) → H' a = some (.lst xs)) → RepC K G' H' As vs cs
  | _, _, _, .nil, _ => .nil
  | _, _, _, .im r rs, q => .im (r.mono k g) (RepC.mono k g rs q)
  | _, _, _, .fr n e r rs, q => .fr n (q _ List.mem_cons_self _ e) (r.mono k g) (RepC.mono k g rs fun a h => q a (List.mem_cons_of_mem _ h))
theorem RepC.reps {K : PySem.W.Frag} {G G' : Addr → Prop} {H : Hp} (g : ∀ a, G a → G' a) : ∀ {As vs cs}, RepC K G H As vs cs → (∀ a ∈ As, G' a) → Reps K G' H vs (cs.map Cp.d)
  | _, _, _, .nil, _ => .nil
  | _, _, _, .im r rs, q => .cons (r.mono (.refl H) fun a xs h e => ⟨g a h, e⟩) (RepC.reps g rs q)
  | _, _, _, .fr n e r rs, q => .cons (.lst (q _ List.mem_cons_self) e (r.mono (.refl H) fun a xs h e => ⟨g a h, e⟩)) (RepC.reps g rs fun a h => q a (List.mem_cons_of_mem _ h))
theorem RepT.less (l : ∀ a, L' a → L a) (n : ∀ a, N a → N' a) (h : RepT c L N σ H env v t) : RepT c L' N' σ H env v t := by
  cases t with
  | im d => exact Rep.mono (.refl H) (fun a xs g e => ⟨⟨fun z => g.1 (l a z), g.2⟩, e⟩) h
  | al i => exact h
  | fr ds =>
    obtain ⟨a, xs, e, e1, r, n1, n2, n3, q⟩ := h
    exact ⟨a, xs, e, e1, r.mono (.refl H) (fun b ys g e => ⟨⟨fun z => g.1 (z.imp (l b) id), g.2⟩, e⟩), fun z => n1 (l a z), n2, n a n3, q.less fun b z => z.imp (l b) id⟩
  | ft cs =>
    obtain ⟨t, vs, As, e, e1, r, n1, q⟩ := h
    exact ⟨t, vs, As, e, e1, r.mono (.refl H) (fun b ys g e => ⟨⟨fun z => g.1 (z.imp (l b) id), g.2⟩, e⟩) (fun _ _ _ e => e), fun a ha => ⟨fun z => (n1 a ha).1 (l a z), (n1 a ha).2.1, n a (n1 a ha).2.2⟩, q.less fun b z => z.imp (l b) id⟩
def T.weak : T → T
  | .fr ds => .im (.lst ds)
  | .ft cs => .im (.tup (cs.map Cp.d))
  | t => t
theorem RepT.wk (h : RepT c L N σ H env v t) : RepT c L N σ H env v t.weak := by
  cases t with
  | im d => exact h
  | al i => exact h
  | fr ds =>
    obtain ⟨a, xs, rfl, e1, r, n1, n2, n3, q⟩ := h
    exact .lst ⟨n1, (q.ext a (.inr rfl)).1⟩ e1 (r.mono (.refl H) fun b ys g e => ⟨⟨fun z => g.1 (.inl z), g.2⟩, e⟩)
  | ft cs =>
    obtain ⟨t, vs, As, rfl, e1, r, n1, q⟩ := h
    exact .tup e1 (r.reps (fun b g => ⟨fun z => g.1 (.inl z), g.2⟩) fun a ha => ⟨(n1 a ha).1, (q.ext a (.inr ha)).1⟩)
end
def T.val (t : T) (env : En) : Option D := match t with
  | .im d => some d
  | .al i => match env[i]? with
    | some (.own _ ds) => some (.lst ds)
    | _ => none
  | .fr ds => some (.lst ds)
  | .ft cs => some (.tup (cs.map Cp.d))
@[simp] theorem val_im (d : D) (env : En) : (T.im d).val env = some d := rfl
@[simp] theorem val_fr (ds : List D) (env : En) : (T.fr ds).val env = some (.lst ds) := rfl
@[simp] theorem val_ft (cs : List Cp) (env : En) : (T.ft cs).val env = some (.tup (cs.map Cp.d)) := rfl
def RepO (K : PySem.W.Frag) (G : Addr → Prop) (H : Hp) (v : V) : D → Prop
  | .lst ds => ∃ a xs, v = .ref a ∧ H a = some (.lst xs) ∧ Reps K G H xs ds
  | d => Rep K G H v d
theorem Rep.o {K : PySem.W.Frag} {G : Addr → Prop} {H : Hp} {v : V} {d : D} (h : Rep K G H v d) : RepO K G H v d := by
  cases d with
  | lst ds => cases h with | lst g e r => exact ⟨_, _, rfl, e, r⟩
  | non => exact h
  | bl b => exact h
  | int i => exact h
  | str x => exact h
  | tup xs => exact h
  | fz xs => exact h
  | dct ks xs => exact h
  | kd ks xs => exact h
theorem RepO.any {K : PySem.W.Frag} {G : Addr → Prop} {H : Hp} {v : V} {d : D} (h : RepO K G H v d) : Rep K (fun _ => True) H v d := by
  have w : ∀ {v d}, Rep K G H v d → Rep K (fun _ => True) H v d := fun r => r.mono (.refl H) fun a xs _ e => ⟨trivial, e⟩
  have ws : ∀ {v d}, Reps K G H v d → Reps K (fun _ => True) H v d := fun r => r.mono (.refl H) fun a xs _ e => ⟨trivial, e⟩
  cases d with
  | lst ds => obtain ⟨a, xs, rfl, e, r⟩ := h; exact .lst trivial e (ws r)
  | non => exact w h
  | bl b => exact w h
  | int i => exact w h
  | str x => exact w h
  | tup xs => exact w h
  | fz xs => exact w h
  | dct ks xs => exact w h
  | kd ks xs => exact w h
section
variable {c : Cc} {L N : Addr → Prop} {σ : St} {H H1 : Hp} {env env1 : En} {v : V} {t : T} {d : D}
theorem RepT.opr (r : RE c L σ H env) (h : RepT c L N σ H env v t) (s : Stp σ env H σ env1 H1) (r1 : RE c L σ H1 env1) (e : t.val env1 = some d) : RepO c.K (Av L σ env1) H1 v d := by
  have h := h.wk
  cases t with
  | im d' => cases e; exact Rep.o (r.rep s h)
  | al i =>
    obtain ⟨⟨io, ds, e1⟩, e2⟩ := h
    cases q : env1[i]? with
    | none => simp [T.val, q] at e
    | some sl =>
      cases sl with
      | no => simp [T.val, q] at e
      | hd _ => simp [T.val, q] at e
      | im d => simp [T.val, q] at e
      | own io' ds' =>
        simp [T.val, q] at e
        subst e
        obtain ⟨a, xs, e3, e4, r5, _⟩ := r1.own i io' ds' q
        rw [e2] at e3
        cases e3
        exact ⟨a, xs, rfl, e4, r5⟩
  | fr ds => cases e; exact Rep.o (r.rep s h)
  | ft cs => cases e; exact Rep.o (r.rep s h)
theorem RepT.opr0 (r : RE c L σ H env) (h : RepT c L N σ H env v t) (e : t.val env = some d) : RepO c.K (Av L σ env) H v d := h.opr r .refl r e
end
section
variable {X : Cx} {c : Cc} {W : WX} {pos : Pos}
def eVar (i : Nat) : FE := fun env => match env[i]? with
  | some (.im d) => .ok (.im d) env
  | some (.own _ _) => .ok (.al i) env
  | _ => .er
theorem de_var (i : Nat) {x : Str} (h : PE X (.Name x pos) (tVar i)) : PE X (.Name x pos) (dE c W (eVar i)) := by
  refine PEw h fun σ H Q h => ?_
  obtain ⟨env, L, r, h⟩ := dE_iff.mp h
  unfold eVar at h
  cases e : env[i]? with
  | none => rw [e] at h; exact h.elim
  | some s =>
    rw [e] at h
    cases s with
    | no => exact h.elim
    | hd _ => exact h.elim
    | im d =>
      obtain ⟨v, e1, q⟩ := r.im i d e
      exact ⟨v, e1, h H r .refl v q⟩
    | own io ds =>
      obtain ⟨a, xs, e1, q⟩ := r.own i io ds e
      exact ⟨_, e1, h H r .refl _ ⟨⟨io, ds, e⟩, e1⟩⟩
def eC (d : D) : FE := fun env => .ok (.im d) env
theorem de_c {e : Expr} {v : V} {d : D} (h : PE X e (tC v)) (k : ∀ G H, Rep c.K G H v d) : PE X e (dE c W (eC d)) := by
  refine PEw h fun σ H Q h => ?_
  obtain ⟨env, L, r, h⟩ := dE_iff.mp h
  exact h H r .refl v (k _ H)
theorem de_int {i : Int} {j} : PE X (.Constant (.int i) j pos) (dE c W (eC (.int i))) := de_c pe_int fun _ _ => .int i
theorem de_bl {b : Bool} {j} : PE X (.Constant (.bool b) j pos) (dE c W (eC (.bl b))) := de_c pe_bl fun _ _ => .bl b
theorem de_non {j} : PE X (.Constant .none j pos) (dE c W (eC .non)) := de_c pe_non fun _ _ => .non
theorem de_str {x : Str} {j} : PE X (.Constant (.str x) j pos) (dE c W (eC (.str x))) := de_c pe_str fun _ _ => .str x
end
def OpD (c : Cc) (r : R2) (g : D → D → Option T) : Prop := ∀ (L : Addr → Prop) (σ : St) (H : Hp) (env : En) (x y : V) (dx dy : D) (t : T) (Q : VK), RE c L σ H env → RepO c.K (Av L σ env) H x dx → RepO c.K (Av L σ env) H y dy → g dx dy = some t →
  (∀ v H', RE c L σ H' env → Stp σ env H σ env H' → RepT c L (Nn σ env H) σ H' env v t → Q v H') → r x y H Q
def UnD (c : Cc) (r : V → Hp → VK → Prop) (g : D → Option T) : Prop := ∀ (L : Addr → Prop) (σ : St) (H : Hp) (env : En) (x : V) (dx : D) (t : T) (Q : VK), RE c L σ H env → RepO c.K (Av L σ env) H x dx → g dx = some t →
  (∀ v H', RE c L σ H' env → Stp σ env H σ env H' → RepT c L (Nn σ env H) σ H' env v t → Q v H') → r x H Q
def R.opt {α : Type} (o : Option α) (env : En) : R α := match o with
  | some a => .ok a env
  | none => .er
@[simp] theorem opt_some {α : Type} (a : α) (env : En) : R.opt (some a) env = .ok a env := rfl
@[simp] theorem opt_none {α : Type} (env : En) : R.opt (none : Option α) env = .er := rfl
def op2 (g : D → D → Option T) (ta tb : T) (env : En) : R T := match ta.val env, tb.val env with
  | some x, some y => R.opt (g x y) env
  | _, _ => .er
def op1 (g : D → Option T) (ta : T) (env : En) : R T := match ta.val env with
  | some x => R.opt (g x) env
  | _ => .er
def eOp (g : D → D → Option T) (fa fb : FE) : FE := fun env => (fa env).bind fun ta e1 => (fb e1).bind fun tb e2 => op2 g ta tb e2
def eUn (g : D → Option T) (fa : FE) : FE := fun env => (fa env).bind fun ta e1 => op1 g ta e1
section
variable {X : Cx} {c : Cc} {W : WX} {pos : Pos} {a b : Expr} {fa fb : FE} {r : R2} {g : D → D → Option T}
theorem dK_op2 {L : Addr → Prop} {σ : St} {H : Hp} {env : En} {x y : V} {ta tb : T} {N1 N2 N : Addr → Prop} {Q : VK} (ho : OpD c r g) (re : RE c L σ H env) (hx : ∀ d, ta.val env = some d → RepO c.K (Av L σ env) H x d) (hy : ∀ d, tb.val env = some d → RepO c.K (Av L σ env) H y d)
    (n : ∀ a, Nn σ env H a → N a) (h : dK c W L σ H env (op2 g ta tb env) fun t env' H' => ∀ v, RepT c L N σ H' env' v t → Q v H') : r x y H Q := by
  unfold op2 at h
  cases ea : ta.val env with
  | none => rw [ea] at h; exact h.elim
  | some dx =>
    cases eb : tb.val env with
    | none => rw [ea, eb] at h; exact h.elim
    | some dy =>
      rw [ea, eb] at h
      cases eg : g dx dy with
      | none => simp only [eg] at h; exact h.elim
      | some t =>
        simp only [eg] at h
        exact ho L σ H env x y dx dy t Q re (hx _ ea) (hy _ eb) eg fun v H' re' s q => h H' re' s v (q.less (fun _ z => z) n)
theorem d_tOp (ho : OpD c r g) : ∀ σ H Q, dE c W (eOp g fa fb) σ H Q → tOp r (dE c W fa) (dE c W fb) σ H Q := fun σ H Q h => by
  obtain ⟨env, L, re, h⟩ := dE_iff.mp h
  refine dE.of re (h.bind.mono fun ta e1 H1 r1 s1 h1 x q1 => ?_)
  refine dE.of r1 (h1.bind.mono fun tb e2 H2 r2 s2 h2 y q2 => ?_)
  exact dK_op2 (W := W) (N1 := fun _ => True) (N2 := fun _ => True) ho r2 (fun d e => q1.opr r1 s2 r2 e) (fun d e => q2.opr0 r2 e) (fun a n => s1.back (s2.back n)) h2
theorem de_op {op : Operator} (hr : OpR X (binaryOp op) r) (ho : OpD c r g) (ha : PE X a (dE c W fa)) (hb : PE X b (dE c W fb)) : PE X (.BinOp a op b pos) (dE c W (eOp g fa fb)) :=
  PEw (pe_op hr ha hb) (d_tOp ho)
theorem de_cmp {op : CmpOp} (hr : OpR X (compareOp op) r) (ho : OpD c r g) (ha : PE X a (dE c W fa)) (hb : PE X b (dE c W fb)) (hm : behindInMarks op b = false) : PE X (.Compare a [op] [b] pos) (dE c W (eOp g fa fb)) :=
  PEw (pe_cmpR hr ha hb hm) (d_tOp ho)
theorem d_tUn {r : V → Hp → VK → Prop} {g : D → Option T} (ho : UnD c r g) : ∀ σ H Q, dE c W (eUn g fa) σ H Q → tUn r (dE c W fa) σ H Q := fun σ H Q h => by
  obtain ⟨env, L, re, h⟩ := dE_iff.mp h
  refine dE.of re (h.bind.mono fun ta e1 H1 r1 s1 h1 x q1 => ?_)
  unfold op1 at h1
  cases ea : ta.val e1 with
  | none => rw [ea] at h1; exact h1.elim
  | some dx =>
    rw [ea] at h1
    cases eg : g dx with
    | none => simp only [eg] at h1; exact h1.elim
    | some t =>
      simp only [eg] at h1
      exact ho L σ H1 e1 x dx t Q r1 (q1.opr0 r1 ea) eg fun v H' re' s q => h1 H' re' s v (q.less (fun _ z => z) fun a n => s1.back n)
theorem de_un {op : UnaryOp} {r : V → Hp → VK → Prop} {g : D → Option T} (hr : UnR X (unaryOp op) r) (ho : UnD c r g) (ha : PE X a (dE c W fa)) : PE X (.UnaryOp op a pos) (dE c W (eUn g fa)) := PEw (pe_un hr ha) (d_tUn ho)
end
end DL
namespace DL
open PySem PySem.Spec L2
variable [Wd]
section
variable {K : PySem.W.Frag} {G : Addr → Prop} {H : Hp} {v : V}
theorem RepO.int {i : Int} (h : RepO K G H v (.int i)) : v = .int i := by cases (show Rep K G H v (.int i) from h); rfl
theorem RepO.bl {i : Bool} (h : RepO K G H v (.bl i)) : v = .bl i := by cases (show Rep K G H v (.bl i) from h); rfl
theorem RepO.str {i : Str} (h : RepO K G H v (.str i)) : v = .str i := by cases (show Rep K G H v (.str i) from h); rfl
theorem RepO.non (h : RepO K G H v .non) : v = .non := by cases (show Rep K G H v .non from h); rfl
theorem RepO.tup {ds : List D} (h : RepO K G H v (.tup ds)) : ∃ a xs, v = .ref a ∧ SqT K H a xs ∧ Reps K G H xs ds := by
  cases (show Rep K G H v (.tup ds) from h) with
  | tup h1 r => exact ⟨_, _, rfl, h1, r⟩
theorem RepO.fz {ds : List D} (h : RepO K G H v (.fz ds)) : ∃ a xs, v = .ref a ∧ FzAt K H a xs ∧ Reps K G H xs ds := by
  cases (show Rep K G H v (.fz ds) from h) with
  | fz h1 r => exact ⟨_, _, rfl, h1, r⟩
theorem RepO.lst {ds : List D} (h : RepO K G H v (.lst ds)) : ∃ a xs, v = .ref a ∧ H a = some (.lst xs) ∧ Reps K G H xs ds := h
theorem not_non {d : D} (h : RepO K G H v d) (n : d ≠ .non) : v ≠ .non := by
  intro e
  subst e
  cases d with
  | non => exact n rfl
  | lst ds => obtain ⟨a, xs, e, _⟩ := h; cases e
  | bl b => cases h
  | int i => cases h
  | str x => cases h
  | tup xs => cases h
  | fz xs => cases h
  | dct _ _ => cases h
  | kd _ _ => cases h
end
theorem OpD.or {c : Cc} {r r' : R2} {g g' : D → D → Option T} (h : OpD c r g) (h' : OpD c r' g') : OpD c (fun x y H Q => r x y H Q ∨ r' x y H Q) (fun x y => match g x y with
  | some t => some t
  | none => g' x y) := fun L σ H env x y dx dy t Q re hx hy e k => by
  cases q : g dx dy with
  | some t' =>
    simp only [q] at e
    cases e
    exact .inl (h L σ H env x y dx dy _ Q re hx hy q k)
  | none =>
    simp only [q] at e
    exact .inr (h' L σ H env x y dx dy _ Q re hx hy e k)
theorem new_tup {c : Cc} {L : Addr → Prop} {σ : St} {H : Hp} {env : En} {Q : VK} {xs : List V} {ds : List D} (re : RE c L σ H env) (r : Reps c.K (Av L σ env) H xs ds) (k : ∀ v H', RE c L σ H' env → Stp σ env H σ env H' → RepT c L (Nn σ env H) σ H' env v (.im (.tup ds)) → Q v H') :
    ∀ p, H p = none → Q (.ref p) (upd H p (.tup xs)) := fun p n => by
  have kp : ∀ b o, H b = some o → upd H p (.tup xs) b = some o := fun b o e => by rw [upd_ne (ne_of_none e n)]; exact e
  exact k _ _ (re.grow kp) (.grow kp) (.tup (.inl (.inl upd_same)) (re.reps (.grow kp) r))
theorem RE.newL {c : Cc} {L : Addr → Prop} {σ : St} {H : Hp} {env : En} {xs : List V} {ds : List D} (re : RE c L σ H env) (r : Reps c.K (Av L σ env) H xs ds) {p : Addr} (n : H p = none) :
    RE c L σ (upd H p (.lst xs)) env ∧ Stp σ env H σ env (upd H p (.lst xs)) ∧ RepT c L (Nn σ env H) σ (upd H p (.lst xs)) env (.ref p) (.fr ds) := by
  have kp : ∀ b o, H b = some o → upd H p (.lst xs) b = some o := fun b o e => by rw [upd_ne (ne_of_none e n)]; exact e
  have r2 : RE c (fun b => L b ∨ b = p) σ (upd H p (.lst xs)) env := re.more kp n upd_same
  refine ⟨re.grow kp, .grow kp, p, xs, rfl, upd_same, ?_, fun l => ?_, ?_, .inr n, r2⟩
  · exact r.mono (re.tk (.grow kp)) fun b ys g e => ⟨⟨fun z => z.elim g.1 (fun z => by rw [z, n] at e; cases e), g.2⟩, kp _ _ e⟩
  · obtain ⟨_, ys, e⟩ := re.ext p l
    rw [n] at e
    cases e
  · cases e : c.H0 p with
    | none => rfl
    | some o =>
      by_cases i : c.Io p
      · obtain ⟨ys, q⟩ := re.io p i
        rw [n] at q
        cases q
      · have q := re.fr p o i e
        rw [n] at q
        cases q
@[simp] def dAdd : D → D → Option T
  | .int i, .int j => some (.im (.int (i + j)))
  | .str x, .str y => if x.length + y.length ≤ sizeLine then some (.im (.str (x ++ y))) else none
  | .tup xs, .tup ys => if xs.length + ys.length ≤ 1000000 then some (.im (.tup (xs ++ ys))) else none
  | .lst xs, .lst ys => if xs.length + ys.length ≤ 1000000 then some (.fr (xs ++ ys)) else none
  | _, _ => none
@[simp] def dSub : D → D → Option T
  | .int i, .int j => some (.im (.int (i - j)))
  | _, _ => none
@[simp] def dMul : D → D → Option T
  | .int i, .int j => if (-(2 ^ 64) < i ∧ i < 2 ^ 64) ∨ (-(2 ^ 64) < j ∧ j < 2 ^ 64) then some (.im (.int (i * j))) else none
  | _, _ => none
@[simp] def dFdiv : D → D → Option T
  | .int i, .int j => if 0 < j ∧ j < 1073741824 then some (.im (.int (i / j))) else none
  | _, _ => none
@[simp] def dMod : D → D → Option T
  | .int i, .int j => if 0 < j then some (.im (.int (i % j))) else none
  | _, _ => none
@[simp] def dPow : D → D → Option T
  | .int i, .int j => if 0 ≤ j ∧ j ≤ 1000000 ∧ i.natAbs < 2 ^ 64 then some (.im (.int (i ^ j.toNat))) else none
  | _, _ => none
@[simp] def dNeg : D → Option T
  | .int i => some (.im (.int (-i)))
  | _ => none
@[simp] def dLt : D → D → Option T
  | .int i, .int j => some (.im (.bl (decide (i < j))))
  | _, _ => none
@[simp] def dLe : D → D → Option T
  | .int i, .int j => some (.im (.bl (decide (i ≤ j))))
  | _, _ => none
@[simp] def dGt : D → D → Option T
  | .int i, .int j => some (.im (.bl (decide (j < i))))
  | _, _ => none
@[simp] def dGe : D → D → Option T
  | .int i, .int j => some (.im (.bl (decide (j ≤ i))))
  | _, _ => none
theorem line6 {n : Nat} (h : n ≤ 1000000) : n ≤ sizeLine := Nat.le_trans h (by rw [sizeLine_eq]; decide)
section
variable {X : Cx} {c : Cc}
theorem opd_I {C : Int → Int → Prop} {gv : Int → Int → V} {g : D → D → Option T} (h : ∀ x y t, g x y = some t → ∃ i j d, x = .int i ∧ y = .int j ∧ C i j ∧ t = .im d ∧ ∀ G H, Rep c.K G H (gv i j) d) : OpD c (rI C gv) g := by
  intro L σ H env x y dx dy t Q re hx hy e k
  obtain ⟨i, j, d, rfl, rfl, hc, rfl, r⟩ := h dx dy t e
  exact ⟨i, j, hx.int, hy.int, hc, k _ H re .refl (r _ _)⟩
theorem opd_I0 {gv : Int → Int → V} {g : D → D → Option T} (h : ∀ x y t, g x y = some t → ∃ i j d, x = .int i ∧ y = .int j ∧ t = .im d ∧ ∀ G H, Rep c.K G H (gv i j) d) : OpD c (rI0 gv) g := by
  intro L σ H env x y dx dy t Q re hx hy e k
  obtain ⟨i, j, d, rfl, rfl, rfl, r⟩ := h dx dy t e
  exact ⟨i, j, hx.int, hy.int, k _ H re .refl (r _ _)⟩
theorem d_sub : OpD c (rI0 fun i j => .int (i - j)) dSub := opd_I0 fun x y t h => by
  cases x <;> cases y <;> simp at h
  exact ⟨_, _, _, rfl, rfl, h.symm, fun _ _ => .int _⟩
theorem d_lt : OpD c (rI0 fun i j => .bl (decide (i < j))) dLt := opd_I0 fun x y t h => by
  cases x <;> cases y <;> simp at h
  exact ⟨_, _, _, rfl, rfl, h.symm, fun _ _ => .bl _⟩
theorem d_le : OpD c (rI0 fun i j => .bl (decide (i ≤ j))) dLe := opd_I0 fun x y t h => by
  cases x <;> cases y <;> simp at h
  exact ⟨_, _, _, rfl, rfl, h.symm, fun _ _ => .bl _⟩
theorem d_gt : OpD c (rI0 fun i j => .bl (decide (j < i))) dGt := opd_I0 fun x y t h => by
  cases x <;> cases y <;> simp at h
  exact ⟨_, _, _, rfl, rfl, h.symm, fun _ _ => .bl _⟩
theorem d_ge : OpD c (rI0 fun i j => .bl (decide (j ≤ i))) dGe := opd_I0 fun x y t h => by
  cases x <;> cases y <;> simp at h
  exact ⟨_, _, _, rfl, rfl, h.symm, fun _ _ => .bl _⟩
theorem d_mul : OpD c (rI CMul fun i j => .int (i * j)) dMul := opd_I fun x y t h => by
  cases x <;> cases y <;> simp only [dMul] at h <;> try (cases h; done)
  split at h
  · rename_i q
    exact ⟨_, _, _, rfl, rfl, q, (Option.some.inj h).symm, fun _ _ => .int _⟩
  · cases h
theorem d_fdiv : OpD c (rI CDiv fun i j => .int (i / j)) dFdiv := opd_I fun x y t h => by
  cases x <;> cases y <;> simp only [dFdiv] at h <;> try (cases h; done)
  split at h
  · rename_i q
    exact ⟨_, _, _, rfl, rfl, q, (Option.some.inj h).symm, fun _ _ => .int _⟩
  · cases h
theorem d_mod : OpD c (rI (fun _ j => 0 < j) fun i j => .int (i % j)) dMod := opd_I fun x y t h => by
  cases x <;> cases y <;> simp only [dMod] at h <;> try (cases h; done)
  split at h
  · rename_i q
    exact ⟨_, _, _, rfl, rfl, q, (Option.some.inj h).symm, fun _ _ => .int _⟩
  · cases h
theorem d_pow : OpD c (rI CPow fun i j => .int (i ^ j.toNat)) dPow := opd_I fun x y t h => by
  cases x <;> cases y <;> simp only [dPow] at h <;> try (cases h; done)
  split at h
  · rename_i q
    exact ⟨_, _, _, rfl, rfl, q, (Option.some.inj h).symm, fun _ _ => .int _⟩
  · cases h
theorem d_neg : UnD c (rU fun i => .int (-i)) dNeg := by
  intro L σ H env x dx t Q re hx e k
  cases dx <;> simp at e
  subst e
  exact ⟨_, hx.int, k _ H re .refl (.int _)⟩
abbrev rAddA (K : PySem.W.Frag) : R2 := fun x y H Q => rI0 (fun i j => .int (i + j)) x y H Q ∨ ((∃ i j, x = .str i ∧ y = .str j ∧ i.length + j.length ≤ sizeLine ∧ Q (.str (i ++ j)) H) ∨ (rCatA K x y H Q ∨ rCat x y H Q))
theorem op_addA : OpR X (binaryOp .Add) (rAddA X.K) := op_add.or (op_add_str.or (op_catA.or op_cat))
theorem d_add : OpD c (rAddA c.K) dAdd := by
  intro L σ H env x y dx dy t Q re hx hy e k
  cases dx <;> cases dy <;> simp only [dAdd] at e <;> try (cases e; done)
  · cases e
    exact .inl ⟨_, _, hx.int, hy.int, k _ H re .refl (.int _)⟩
  · split at e
    · rename_i q
      cases e
      exact .inr (.inl ⟨_, _, hx.str, hy.str, q, k _ H re .refl (.str _)⟩)
    · cases e
  · split at e
    · rename_i q
      cases e
      obtain ⟨a, xs, rfl, h1, r1⟩ := hx.tup
      obtain ⟨b, ys, rfl, h2, r2⟩ := hy.tup
      refine .inr (.inr (.inl ⟨a, b, xs, ys, rfl, rfl, h1, h2, ?_, fun z => ?_, fun _ z => ?_, fun _ _ => new_tup re (r1.append r2) k⟩))
      · rw [r1.length, r2.length]
        exact line6 q
      · subst z
        cases r1
        exact k _ H re .refl (.tup h2 r2)
      · subst z
        cases r2
        rw [List.append_nil] at k
        exact k _ H re .refl (.tup h1 r1)
    · cases e
  · split at e
    · rename_i q
      cases e
      obtain ⟨a, xs, rfl, h1, r1⟩ := hx.lst
      obtain ⟨b, ys, rfl, h2, r2⟩ := hy.lst
      refine .inr (.inr (.inr ⟨a, b, xs, ys, rfl, rfl, h1, h2, ?_, fun p n => ?_⟩))
      · rw [r1.length, r2.length]
        exact line6 q
      · obtain ⟨q1, q2, q3⟩ := re.newL (r1.append r2) n
        exact k _ _ q1 q2 q3
    · cases e
end
def dIx : D → D → Option T
  | .tup xs, .int i => (atI xs i).map .im
  | .lst xs, .int i => (atI xs i).map .im
  | .fz xs, .int i => (atI xs i).map .im
  | .str z, .int i => if z.length ≤ 1000000 then (atI z.cps.toList i).map fun c => .im (.str ⟨#[c]⟩) else none
  | _, _ => none
theorem atI_reps {K : PySem.W.Frag} {G : Addr → Prop} {H : Hp} {xs : List V} {ds : List D} {i : Int} {d : D} (r : Reps K G H xs ds) (h : atI ds i = some d) : ∃ v, atI xs i = some v ∧ Rep K G H v d := by
  unfold atI at h ⊢
  rw [r.length]
  cases e : ixN ds.length i with
  | none => rw [e] at h; cases h
  | some j =>
    rw [e] at h
    exact r.get h
section
variable {X : Cx} {c : Cc} {W : WX} {pos : Pos} {a b : Expr} {fa fb : FE}
theorem d_ix : OpD c (rIx c.K) dIx := by
  intro L σ H env x y dx dy t Q re hx hy e k
  cases dx <;> cases dy <;> simp only [dIx] at e <;> try (cases e; done)
  · split at e
    · rename_i hz
      obtain ⟨cc, e1, rfl⟩ := Option.map_eq_some_iff.mp e
      exact .inr (.inr ⟨_, _, cc, hx.str, hy.int, line6 hz, e1, k _ H re .refl (.str _)⟩)
    · cases e
  · obtain ⟨a, xs, rfl, h1, r1⟩ := hx.tup
    obtain ⟨d, e1, rfl⟩ := Option.map_eq_some_iff.mp e
    obtain ⟨v, e2, r⟩ := atI_reps r1 e1
    exact .inr (.inl ⟨a, xs, _, v, rfl, hy.int, h1, e2, k _ H re .refl r⟩)
  · obtain ⟨a, xs, rfl, h1, r1⟩ := hx.lst
    obtain ⟨d, e1, rfl⟩ := Option.map_eq_some_iff.mp e
    obtain ⟨v, e2, r⟩ := atI_reps r1 e1
    exact .inl ⟨a, xs, _, v, rfl, hy.int, .of h1, e2, k _ H re .refl r⟩
  · obtain ⟨a, xs, rfl, h1, r1⟩ := hx.fz
    obtain ⟨d, e1, rfl⟩ := Option.map_eq_some_iff.mp e
    obtain ⟨v, e2, r⟩ := atI_reps r1 e1
    exact .inl ⟨a, xs, _, v, rfl, hy.int, h1.sql, e2, k _ H re .refl r⟩
theorem de_ix (ha : PE X a (dE c W fa)) (hb : PE X b (dE c W fb)) (hs : PlainIx b) (hK : c.K = X.K := by rfl) : PE X (.Subscript a b pos) (dE c W (eOp dIx fa fb)) :=
  PEw (pe_ix ix_seq ha hb hs) (by have q := d_tOp (W := W) (fa := fa) (fb := fb) (d_ix (c := c)); rw [hK] at q; exact q)
end
end DL
namespace DL
open PySem PySem.Spec L2
variable [Wd]
abbrev Lu (L : Addr → Prop) (As : List Addr) : Addr → Prop := fun b => L b ∨ b ∈ As
inductive RepAs (K : PySem.W.Frag) (G : Addr → Prop) (σ : St) (H : Hp) (env : En) : List Addr → List V → List T → Prop
  | nil : RepAs K G σ H env [] [] []
  | im {As v d vs ts} (r : Rep K G H v d) (rs : RepAs K G σ H env As vs ts) : RepAs K G σ H env As (v :: vs) (.im d :: ts)
  | al {As v i vs ts} (o : ∃ (io : Bool) (ds : List D), env[i]? = some (Sl.own io ds)) (e : σ[i]? = some (some v)) (rs : RepAs K G σ H env As vs ts) : RepAs K G σ H env As (v :: vs) (.al i :: ts)
  | fr {As a xs ds vs ts} (n : a ∉ As) (e : H a = some (.lst xs)) (r : Reps K G H xs ds) (rs : RepAs K G σ H env As vs ts) : RepAs K G σ H env (a :: As) (.ref a :: vs) (.fr ds :: ts)
def dA (c : Cc) (W : WX) (f : FA) : TA := fun σ H Q => ∃ env L, RE c L σ H env ∧ dK c W L σ H env (f env) fun ts env' H' => ∀ vs As, RepAs c.K (Av (Lu L As) σ env') σ H' env' As vs ts → (∀ a ∈ As, ¬ L a ∧ c.H0 a = none ∧ Nn σ env H a) → RE c (Lu L As) σ H' env' → Q vs H'
theorem dA.of {c : Cc} {W : WX} {L : Addr → Prop} {σ : St} {H : Hp} {env : En} {f : FA} {Q : List V → Hp → Prop} (r : RE c L σ H env) (h : dK c W L σ H env (f env) fun ts env' H' => ∀ vs As, RepAs c.K (Av (Lu L As) σ env') σ H' env' As vs ts → (∀ a ∈ As, ¬ L a ∧ c.H0 a = none ∧ Nn σ env H a) → RE c (Lu L As) σ H' env' → Q vs H') : dA c W f σ H Q := ⟨env, L, r, h⟩
def aNil : FA := fun env => .ok [] env
def consT (t : T) (ts : List T) (e2 : En) : R (List T) := match t with
  | .al i => match e2[i]? with
    | some (.own _ _) => .ok (.al i :: ts) e2
    | _ => .er
  | .ft cs => .ok (.im (.tup (cs.map Cp.d)) :: ts) e2
  | .im d => .ok (.im d :: ts) e2
  | .fr ds => .ok (.fr ds :: ts) e2
def aCons (fa : FE) (fr : FA) : FA := fun env => (fa env).bind fun t e1 => (fr e1).bind fun ts e2 => consT t ts e2
section
variable {X : Cx} {c : Cc} {W : WX} {e : Expr} {es : List Expr} {fa : FE} {fr : FA}
theorem da_nil : PA X [] (dA c W aNil) := PAw pa_nil fun σ H Q h => by
  obtain ⟨env, L, r, h⟩ := h
  exact h H r .refl [] [] .nil (fun a z => by cases z) (r.less fun a z => z.elim id fun z => by cases z)
theorem Rep.past {L : Addr → Prop} {As : List Addr} {σ : St} {H H1 : Hp} {env env1 : En} {v : V} {d : D} (r : RE c L σ H env) (s : Stp σ env H σ env1 H1) (h : Rep c.K (Av L σ env) H v d) (n : ∀ a ∈ As, Nn σ env H a) : Rep c.K (Av (Lu L As) σ env1) H1 v d :=
  h.mono (r.tk s) fun a xs g e => by
    obtain ⟨e1, n1⟩ := s a (Nn.not e g.2)
    exact ⟨⟨fun z => z.elim g.1 (fun z => (n a z).elim g.2 (fun q => by rw [q] at e; cases e)), fun z => n1 (.inl z)⟩, e1.trans e⟩
theorem Reps.past {L : Addr → Prop} {As : List Addr} {σ : St} {H H1 : Hp} {env env1 : En} {v : List V} {d : List D} (r : RE c L σ H env) (s : Stp σ env H σ env1 H1) (h : Reps c.K (Av L σ env) H v d) (n : ∀ a ∈ As, Nn σ env H a) : Reps c.K (Av (Lu L As) σ env1) H1 v d :=
  h.mono (r.tk s) fun a xs g e => by
    obtain ⟨e1, n1⟩ := s a (Nn.not e g.2)
    exact ⟨⟨fun z => z.elim g.1 (fun z => (n a z).elim g.2 (fun q => by rw [q] at e; cases e)), fun z => n1 (.inl z)⟩, e1.trans e⟩
theorem d_aCons : ∀ σ H Q, dA c W (aCons fa fr) σ H Q → tCons (dE c W fa) (dA c W fr) σ H Q := fun σ H Q h => by
  obtain ⟨env, L, r, h⟩ := h
  refine dE.of r (h.bind.mono fun t e1 H1 r1 s1 h1 x q1 => ?_)
  -- the first is data
  have asIm : ∀ d, (∀ ts e2, consT t ts e2 = R.ok (T.im d :: ts) e2) → Rep c.K (Av L σ e1) H1 x d → dA c W fr σ H1 fun xs H2 => Q (x :: xs) H2 := fun d hm q => by
    refine dA.of r1 (h1.bind.mono fun ts e2 H2 r2 s2 h2 vs As q2 n2 r3 => ?_)
    rw [hm ts e2] at h2
    exact h2 H2 r2 .refl (x :: vs) As (.im (q.past r1 s2 fun a z => (n2 a z).2.2) q2) (fun a z => ⟨(n2 a z).1, (n2 a z).2.1, s1.back (n2 a z).2.2⟩) r3
  cases t with
  | im d => exact asIm d (fun _ _ => rfl) q1
  | ft cs => exact asIm _ (fun _ _ => rfl) q1.wk
  | al i =>
    refine dA.of r1 (h1.bind.mono fun ts e2 H2 r2 s2 h2 vs As q2 n2 r3 => ?_)
    cases q : e2[i]? with
    | none => simp only [consT, q] at h2; exact h2.elim
    | some s =>
      cases s with
      | no => simp only [consT, q] at h2; exact h2.elim
      | hd _ => simp only [consT, q] at h2; exact h2.elim
      | im d => simp only [consT, q] at h2; exact h2.elim
      | own io ds =>
        simp only [consT, q] at h2
        exact h2 H2 r2 .refl (x :: vs) As (.al ⟨io, ds, q⟩ q1.2 q2) (fun a z => ⟨(n2 a z).1, (n2 a z).2.1, s1.back (n2 a z).2.2⟩) r3
  | fr ds =>
    obtain ⟨a, xs, rfl, ea, ra, na, h0, nn, rL⟩ := q1
    refine dA.of rL ((h1.less (L' := fun b => L b ∨ b = a) fun b z => .inl z).bind.mono fun ts e2 H2 r2 s2 h2 vs As q2 n2 r3 => ?_)
    have e2a : H2 a = some (.lst xs) := (s2 a (Nn.not ea (rL.ext a (.inr rfl)).1)).1.trans ea
    have na2 : a ∉ As := fun z => (n2 a z).1 (.inr rfl)
    have key : ∀ b, Lu (fun b => L b ∨ b = a) As b ↔ Lu L (a :: As) b := fun b => by simp [Lu, or_assoc]
    have q2' : RepAs c.K (Av (Lu L (a :: As)) σ e2) σ H2 e2 As vs ts := by
      have : Av (Lu (fun b => L b ∨ b = a) As) σ e2 = Av (Lu L (a :: As)) σ e2 := by funext b; simp [Av, key b]
      rw [← this]; exact q2
    have ra' : Reps c.K (Av (Lu L (a :: As)) σ e2) H2 xs ds := by
      have : Av (Lu (fun b => L b ∨ b = a) As) σ e2 = Av (Lu L (a :: As)) σ e2 := by funext b; simp [Av, key b]
      rw [← this]; exact ra.past rL s2 fun b z => (n2 b z).2.2
    have r3' : RE c (Lu L (a :: As)) σ H2 e2 := r3.less fun b z => (key b).mpr z
    refine h2 H2 r2 .refl (.ref a :: vs) (a :: As) (.fr na2 e2a ra' q2') (fun b z => ?_) r3'
    rcases List.mem_cons.mp z with rfl | z
    · exact ⟨na, h0, nn⟩
    · exact ⟨fun l => (n2 b z).1 (.inl l), (n2 b z).2.1, s1.back (n2 b z).2.2⟩
theorem da_cons (ha : PE X e (dE c W fa)) (hr : PA X es (dA c W fr)) (hs : starEach (e :: es) X.env = (false, eval e X.env) :: starEach es X.env := by rfl) : PA X (e :: es) (dA c W (aCons fa fr)) := PAw (pa_cons ha hr hs) d_aCons
end
def vals (env : En) : List T → Option (List D)
  | [] => some []
  | t :: ts => match t.val env, vals env ts with
    | some d, some ds => some (d :: ds)
    | _, _ => none
inductive RepOs (K : PySem.W.Frag) (G : Addr → Prop) (H : Hp) : List V → List D → Prop
  | nil : RepOs K G H [] []
  | cons {v d vs ds} (r : RepO K G H v d) (rs : RepOs K G H vs ds) : RepOs K G H (v :: vs) (d :: ds)
section
variable {c : Cc} {L : Addr → Prop} {σ : St} {H : Hp} {env : En}
theorem RepAs.oprs {As0 : List Addr} : ∀ {As vs ts ds}, RepAs c.K (Av (Lu L As0) σ env) σ H env As vs ts → RE c L σ H env → RE c (Lu L As0) σ H env → (∀ a ∈ As, a ∈ As0 ∧ ¬ L a) → vals env ts = some ds → RepOs c.K (Av L σ env) H vs ds
  | _, _, _, ds, .nil, _, _, _, e => by cases e; exact .nil
  | _, _, _, ds, .im (d := d) (ts := ts) r rs, h, h2, n, e => by
    simp only [vals, val_im] at e
    cases q : vals env ts with
    | none => rw [q] at e; cases e
    | some es =>
      rw [q] at e
      cases e
      exact .cons (Rep.o (r.mono (.refl H) fun a xs g e => ⟨⟨fun z => g.1 (.inl z), g.2⟩, e⟩)) (RepAs.oprs rs h h2 n q)
  | _, _, _, ds, .al (i := i) (ts := ts) o es rs, h, h2, n, e => by
    simp only [vals] at e
    cases q : vals env ts with
    | none => rw [q] at e; split at e <;> cases e <;> simp_all
    | some es' =>
      cases qv : (T.al i).val env with
      | none => rw [qv] at e; cases e
      | some dv =>
        rw [q, qv] at e
        cases e
        exact .cons (RepT.opr0 (N := fun _ => True) h (t := .al i) ⟨o, es⟩ qv) (RepAs.oprs rs h h2 n q)
  | _, _, _, ds, .fr (a := a) (ts := ts) na ea r rs, h, h2, n, e => by
    simp only [vals, val_fr] at e
    cases q : vals env ts with
    | none => rw [q] at e; cases e
    | some es =>
      rw [q] at e
      cases e
      exact .cons ⟨a, _, rfl, ea, r.mono (.refl H) fun b xs g e => ⟨⟨fun z => g.1 (.inl z), g.2⟩, e⟩⟩ (RepAs.oprs rs h h2 (fun b z => n b (List.mem_cons_of_mem _ z)) q)
end
def CallD (c : Cc) (r : List V → Hp → VK → Prop) (g : List D → Option T) : Prop := ∀ (L : Addr → Prop) (σ : St) (H : Hp) (env : En) (xs : List V) (ds : List D) (t : T) (Q : VK), RE c L σ H env → RepOs c.K (Av L σ env) H xs ds → g ds = some t →
  (∀ v H', RE c L σ H' env → Stp σ env H σ env H' → RepT c L (Nn σ env H) σ H' env v t → Q v H') → r xs H Q
def opL (g : List D → Option T) (ts : List T) (env : En) : R T := match vals env ts with
  | some ds => R.opt (g ds) env
  | none => .er
def eB (g : List D → Option T) (fa : FA) : FE := fun env => (fa env).bind fun ts e1 => opL g ts e1
section
variable {X : Cx} {c : Cc} {W : WX} {pos p : Pos} {x : Str} {e : Expr} {es : List Expr} {fa : FA} {r : List V → Hp → VK → Prop} {g : List D → Option T} {id Ty : String}
theorem d_tCB (ho : CallD c r g) : ∀ σ H Q, dE c W (eB g fa) σ H Q → tCB r (dA c W fa) σ H Q := fun σ H Q h => by
  obtain ⟨env, L, re, h⟩ := dE_iff.mp h
  refine dA.of re (h.bind.mono fun ts e1 H1 r1 s1 h1 vs As q n r2 => ?_)
  unfold opL at h1
  cases ev : vals e1 ts with
  | none => rw [ev] at h1; exact h1.elim
  | some ds =>
    rw [ev] at h1
    cases eg : g ds with
    | none => simp only [eg] at h1; exact h1.elim
    | some t =>
      simp only [eg] at h1
      exact ho L σ H1 e1 vs ds t Q r1 (q.oprs r1 r2 (fun a z => ⟨z, (n a z).1⟩) ev) eg fun v H' re' s q => h1 H' re' s v (q.less (fun _ z => z) fun a n => s1.back n)
theorem de_b (ho : CallD c r g) (hc : CallR X (.builtin id) r) (hg : Gl X x) (hm : X.mg x = none) (hv : bootBuiltins x = some (.builtin id)) (ha : PA X (e :: es) (dA c W fa)) (hn : x ≠ "__name__" := by decide) (hdb : (x == ("__debug__" : Str)) = false := by decide)
    (he : starEach (e :: es) X.env = (false, eval e X.env) :: starEach es X.env := by rfl) (hpl : (backTo pos (starEach es X.env)).any (·.1) = false := by rfl) : PE X (.Call (.Name x p) (e :: es) [] pos) (dE c W (eB g fa)) :=
  PEw (pe_callB hc hg hm hv ha hn hdb he hpl) (d_tCB ho)
theorem de_ty (ho : CallD c r g) (hc : CallR X (.type Ty) r) (hg : Gl X x) (hm : X.mg x = none) (hv : bootBuiltins x = some (.type Ty)) (ha : PA X (e :: es) (dA c W fa)) (hn : x ≠ "__name__" := by decide) (hdb : (x == ("__debug__" : Str)) = false := by decide)
    (he : starEach (e :: es) X.env = (false, eval e X.env) :: starEach es X.env := by rfl) (hpl : (backTo pos (starEach es X.env)).any (·.1) = false := by rfl) : PE X (.Call (.Name x p) (e :: es) [] pos) (dE c W (eB g fa)) :=
  PEw (pe_callTy hc hg hm hv ha hn hdb he hpl) (d_tCB ho)
end
end DL
namespace DL
open PySem PySem.Spec L2
variable [Wd]
def mvs : List T → En → Option (List Cp × En)
  | [], env => some ([], env)
  | .im d :: ts, env => match mvs ts env with
    | some (cs, e) => some (⟨false, d⟩ :: cs, e)
    | none => none
  | .fr ds :: ts, env => match mvs ts env with
    | some (cs, e) => some (⟨true, .lst ds⟩ :: cs, e)
    | none => none
  | .al i :: ts, env => match env[i]? with
    | some (.own false ds) => match mvs ts (env.set i .no) with
      | some (cs, e) => some (⟨true, .lst ds⟩ :: cs, e)
      | none => none
    | _ => none
  | .ft _ :: _, _ => none
@[simp] theorem mvs_nil (env : En) : mvs [] env = some ([], env) := rfl
@[simp] theorem mvs_im (d : D) (ts : List T) (env : En) : mvs (.im d :: ts) env = (match mvs ts env with | some (cs, e) => some (⟨false, d⟩ :: cs, e) | none => none) := rfl
@[simp] theorem mvs_fr (d : List D) (ts : List T) (env : En) : mvs (.fr d :: ts) env = (match mvs ts env with | some (cs, e) => some (⟨true, .lst d⟩ :: cs, e) | none => none) := rfl
theorem own_set_no {σ : St} {env : En} {i : Nat} {b : Addr} (h : ownM σ (env.set i .no) b) : ownM σ env b ∧ ∃ (j : Nat) (io : Bool) (ds : List D), j ≠ i ∧ env[j]? = some (Sl.own io ds) ∧ σ[j]? = some (some (V.ref b)) := by
  obtain ⟨j, io, ds, e1, e2⟩ := h
  by_cases q : i = j
  · subst q
    rw [List.getElem?_set] at e1
    simp at e1
  · rw [List.getElem?_set_ne q] at e1
    exact ⟨⟨j, io, ds, e1, e2⟩, j, io, ds, fun z => q z.symm, e1, e2⟩
theorem own_keep {σ : St} {env : En} {i : Nat} {a b : Addr} (h : ownM σ env b) (n : b ≠ a) (s : σ[i]? = some (some (V.ref a))) : ownM σ (env.set i .no) b := by
  obtain ⟨j, io, ds, e1, e2⟩ := h
  have q : i ≠ j := fun q => by
    subst q
    rw [s] at e2
    cases e2
    exact n rfl
  exact ⟨j, io, ds, by rw [List.getElem?_set_ne q]; exact e1, e2⟩
theorem get_set_no {env : En} {i j : Nat} {s : Sl} (h : (env.set i .no)[j]? = some s) (n : s ≠ .no) : j ≠ i ∧ env[j]? = some s := by
  by_cases q : i = j
  · subst q
    rw [List.getElem?_set] at h
    simp at h
    exact absurd h.2.symm n
  · rw [List.getElem?_set_ne q] at h
    exact ⟨fun z => q z.symm, h⟩
theorem RE.drop {c : Cc} {L : Addr → Prop} {σ : St} {H : Hp} {env : En} {i : Nat} {ds : List D} {a : Addr} {io : Bool} (h : RE c L σ H env) (e : env[i]? = some (Sl.own io ds)) (s : σ[i]? = some (some (V.ref a))) : RE c (fun b => L b ∨ b = a) σ H (env.set i .no) ∧ Stp σ env H σ (env.set i .no) H := by
  have na : ¬ ownM σ (env.set i .no) a := fun z => by
    obtain ⟨_, j, jo, es, n, e1, e2⟩ := own_set_no z
    exact n (h.inj j i jo io es ds a e1 e e2 s)
  have oa : ownM σ env a := ⟨i, io, ds, e, s⟩
  have av : ∀ b, Av L σ env b → Av (fun b => L b ∨ b = a) σ (env.set i .no) b := fun b g => ⟨fun z => z.elim g.1 fun z => g.2 (by rw [z]; exact oa), fun z => g.2 (own_set_no z).1⟩
  refine ⟨⟨by rw [List.length_set]; exact h.len, fun j d q => ?_, fun j jo es q => ?_, fun j k jo ko ds es a q1 q2 q3 q4 => ?_, fun b lb => ?_, h.fr, h.io, hd_set h.hd (fun _ z => nomatch z)⟩, fun b n => ⟨rfl, fun z => n (z.imp (fun z => (own_set_no z).1) id)⟩⟩
  · obtain ⟨v, e1, r⟩ := h.im j d (get_set_no q (fun z => nomatch z)).2
    exact ⟨v, e1, r.mono (.refl H) fun b xs g q => ⟨av b g, q⟩⟩
  · obtain ⟨b, xs, e1, e2, r, z⟩ := h.own j jo es (get_set_no q (fun z => nomatch z)).2
    exact ⟨b, xs, e1, e2, r.mono (.refl H) fun b xs g q => ⟨av b g, q⟩, z⟩
  · exact h.inj j k jo ko ds es a (get_set_no q1 (fun z => nomatch z)).2 (get_set_no q2 (fun z => nomatch z)).2 q3 q4
  · rcases lb with lb | rfl
    · exact ⟨fun z => (h.ext b lb).1 (own_set_no z).1, (h.ext b lb).2⟩
    · obtain ⟨b', xs, e1, e2, _⟩ := h.own i io ds e
      rw [s] at e1
      cases e1
      exact ⟨na, xs, e2⟩
section
variable {c : Cc} {L G0 : Addr → Prop} {σ : St} {H : Hp} {env0 : En}
theorem RepAs.mv : ∀ {As vs ts}, RepAs c.K G0 σ H env0 As vs ts → ∀ (S : List Addr) (env : En), RE c (Lu L S) σ H env → (∀ b, G0 b ↔ Av (Lu L S) σ env b) → (∀ a ∈ As, a ∈ S) → ∀ {cs env'}, mvs ts env = some (cs, env') →
    ∃ S' Bs, RE c (Lu L S') σ H env' ∧ Stp σ env H σ env' H ∧ (∀ b, G0 b ↔ Av (Lu L S') σ env' b) ∧ (∀ b ∈ S, b ∈ S') ∧ RepC c.K G0 H Bs vs cs ∧ (∀ b ∈ Bs, b ∈ S' ∧ (b ∈ As ∨ (b ∉ S ∧ c.H0 b = none ∧ ownM σ env b ∧ ¬ L b))) ∧ (∀ b ∈ As, b ∈ Bs)
  | _, _, _, .nil, S, env, h, g, n, cs, env', e => by
    cases e
    exact ⟨S, [], h, .refl, g, fun _ z => z, .nil, (fun _ z => nomatch z), fun _ z => nomatch z⟩
  | _, _, _, .im (ts := ts) r rs, S, env, h, g, n, cs, env', e => by
    rw [mvs_im] at e
    cases q : mvs ts env with
    | none => rw [q] at e; cases e
    | some p =>
      obtain ⟨cs1, e1⟩ := p
      rw [q] at e
      cases e
      obtain ⟨S', Bs, h1, h2, h3, h4, h5, h6, h7⟩ := RepAs.mv rs S env h g n q
      exact ⟨S', Bs, h1, h2, h3, h4, .im r h5, h6, h7⟩
  | _, _, _, .fr (As := As) (a := a) (ts := ts) na ea r rs, S, env, h, g, n, cs, env', e => by
    rw [mvs_fr] at e
    cases q : mvs ts env with
    | none => rw [q] at e; cases e
    | some p =>
      obtain ⟨cs1, e1⟩ := p
      rw [q] at e
      cases e
      obtain ⟨S', Bs, h1, h2, h3, h4, h5, h6, h7⟩ := RepAs.mv rs S env h g (fun b z => n b (List.mem_cons_of_mem _ z)) q
      have aS : a ∈ S := n a List.mem_cons_self
      refine ⟨S', a :: Bs, h1, h2, h3, h4, .fr (fun z => ?_) ea r h5, fun b z => ?_, fun b z => ?_⟩
      · rcases (h6 a z).2 with z | z
        · exact na z
        · exact z.1 aS
      · rcases List.mem_cons.mp z with rfl | z
        · exact ⟨h4 b aS, .inl List.mem_cons_self⟩
        · exact ⟨(h6 b z).1, (h6 b z).2.imp (fun z => List.mem_cons_of_mem _ z) id⟩
      · rcases List.mem_cons.mp z with rfl | z
        · exact List.mem_cons_self
        · exact List.mem_cons_of_mem _ (h7 b z)
  | As, _, _, .al (i := i) (ts := ts) o es rs, S, env, h, g, n, cs, env', e => by
    unfold mvs at e
    cases q0 : env[i]? with
    | none => rw [q0] at e; cases e
    | some s =>
      cases s with
      | no => rw [q0] at e; cases e
      | hd _ => rw [q0] at e; cases e
      | im d => rw [q0] at e; cases e
      | own io ds =>
        cases io with
        | true => rw [q0] at e; cases e
        | false =>
          rw [q0] at e
          dsimp only at e
          cases q : mvs ts (env.set i .no) with
          | none => rw [q] at e; cases e
          | some p =>
            obtain ⟨cs1, e1⟩ := p
            rw [q] at e
            cases e
            obtain ⟨a, xs, ea, eb, r, f0, _⟩ := h.own i false ds q0
            rw [es] at ea
            cases ea
            obtain ⟨hd, sd⟩ := h.drop q0 es
            have oa : ownM σ env a := ⟨i, false, ds, q0, es⟩
            have naS : a ∉ S := fun z => (h.ext a (.inr z)).1 oa
            have naL : ¬ L a := fun z => (h.ext a (.inl z)).1 oa
            have key : ∀ b, Lu L (a :: S) b ↔ (Lu L S b ∨ b = a) := fun b => by simp [Lu, or_assoc, or_comm, or_left_comm]
            obtain ⟨S', Bs, h1, h2, h3, h4, h5, h6, h7⟩ := RepAs.mv rs (a :: S) (env.set i .no) (hd.less fun b z => (key b).mp z) (fun b => ⟨fun z => ⟨fun y => ((key b).mp y).elim ((g b).mp z).1 fun y => ((g b).mp z).2 (by rw [y]; exact oa), fun y => ((g b).mp z).2 (own_set_no y).1⟩, fun z => (g b).mpr ⟨fun y => z.1 ((key b).mpr (.inl y)), fun y => z.2 (own_keep y (fun q => z.1 ((key b).mpr (.inr q))) es)⟩⟩) (fun b z => List.mem_cons_of_mem _ (n b z)) q
            refine ⟨S', a :: Bs, h1, sd.trans h2, h3, fun b z => h4 b (List.mem_cons_of_mem _ z), .fr (fun z => ?_) eb (r.mono (.refl H) fun b ys gb eq => ⟨?_, eq⟩) h5, fun b z => ?_, fun b z => List.mem_cons_of_mem _ (h7 b z)⟩
            · rcases (h6 a z).2 with z | z
              · exact naS (n a z)
              · exact z.1 List.mem_cons_self
            · exact (g b).mpr gb
            · rcases List.mem_cons.mp z with rfl | z
              · exact ⟨h4 b List.mem_cons_self, .inr ⟨naS, f0 rfl, oa, naL⟩⟩
              · refine ⟨(h6 b z).1, (h6 b z).2.imp id fun ⟨z1, z2, z3, z4⟩ => ⟨fun y => z1 (List.mem_cons_of_mem _ y), z2, (own_set_no z3).1, z4⟩⟩
end
def mkTup (cs : List Cp) : T := if cs.all (fun c => !c.fr) = true then .im (.tup (cs.map Cp.d)) else .ft cs
@[simp] theorem mkTup_nil : mkTup [] = .im (.tup []) := rfl
def disp (k : List Cp → T) (ts : List T) (env : En) : R T := if ts.length ≤ 1000000 then (match mvs ts env with
  | some (cs, e) => .ok (k cs) e
  | none => .er) else .er
def eTup (fa : FA) : FE := fun env => (fa env).bind fun ts e1 => disp mkTup ts e1
def eLst (fa : FA) : FE := fun env => (fa env).bind fun ts e1 => disp (fun cs => .fr (cs.map Cp.d)) ts e1
theorem RepAs.length {K : PySem.W.Frag} {G : Addr → Prop} {σ : St} {H : Hp} {env : En} : ∀ {As vs ts}, RepAs K G σ H env As vs ts → vs.length = ts.length
  | _, _, _, .nil => rfl
  | _, _, _, .im _ rs => congrArg (· + 1) (RepAs.length rs)
  | _, _, _, .al _ _ rs => congrArg (· + 1) (RepAs.length rs)
  | _, _, _, .fr _ _ _ rs => congrArg (· + 1) (RepAs.length rs)
theorem RE.bare {c : Cc} {L : Addr → Prop} {σ : St} {H : Hp} {env : En} {As : List Addr} (h : RE c (Lu L As) σ H env) : RE c L σ H env := h.less fun _ z => .inl z
section
variable {X : Cx} {c : Cc} {W : WX} {pos : Pos} {es : List Expr} {fa : FA}
theorem disp_ok {k : List Cp → T} {L N : Addr → Prop} {σ : St} {H : Hp} {env : En} {vs : List V} {As : List Addr} {ts : List T} {P : T → En → Hp → Prop} {Q : Prop} (r : RE c (Lu L As) σ H env) (q : RepAs c.K (Av (Lu L As) σ env) σ H env As vs ts) (n : ∀ a ∈ As, ¬ L a ∧ c.H0 a = none ∧ N a)
    (nn : ∀ a, ownM σ env a → N a) (h : dK c W L σ H env (disp k ts env) P)
    (kk : vs.length ≤ sizeLine → ∀ cs env' Bs, RE c (Lu L Bs) σ H env' → Stp σ env H σ env' H → RepC c.K (Av (Lu L Bs) σ env') H Bs vs cs → (∀ a ∈ Bs, ¬ L a ∧ c.H0 a = none ∧ N a) → dK c W L σ H env (.ok (k cs) env') P → Q) : Q := by
  unfold disp at h
  split at h
  · rename_i len
    cases e : mvs ts env with
    | none => rw [e] at h; exact h.elim
    | some p =>
      obtain ⟨cs, env'⟩ := p
      rw [e] at h
      obtain ⟨S', Bs, h1, h2, h3, h4, h5, h6, h7⟩ := q.mv As env r (fun b => Iff.rfl) (fun _ z => z) e
      refine kk (by rw [q.length]; exact line6 len) cs env' Bs (h1.less fun b z => z.imp id fun z => (h6 b z).1) h2 (h5.mono (.refl H) (fun b xs g e => ⟨⟨fun z => ((h3 b).mp g).1 (z.imp id fun z => (h6 b z).1), ((h3 b).mp g).2⟩, e⟩) (fun _ _ _ e => e)) (fun b z => ?_) h
      rcases (h6 b z).2 with y | ⟨_, y2, y3, y4⟩
      · exact n b y
      · exact ⟨y4, y2, nn b y3⟩
  · exact h.elim
theorem RepC.none {K : PySem.W.Frag} {G : Addr → Prop} {H : Hp} : ∀ {As vs cs}, RepC K G H As vs cs → cs.all (fun c => !c.fr) = true → Reps K G H vs (cs.map Cp.d)
  | _, _, _, .nil, _ => .nil
  | _, _, _, .im r rs, h => .cons r (RepC.none rs (by simpa using h))
  | _, _, _, .fr .., h => by simp at h
theorem de_tup {x1} (ha : PA X es (dA c W fa)) : PE X (.Tuple es x1 pos) (dE c W (eTup fa)) := PEw (pe_tup ha) fun σ H Q h => by
  obtain ⟨env, L, re, h⟩ := dE_iff.mp h
  refine dA.of re (h.bind.mono fun ts e1 H1 r1 s1 h1 vs As q n r2 => ?_)
  refine disp_ok (N := Nn σ env H) r2 q (fun a z => n a z) (fun a z => s1.back (.inl z)) h1 fun len cs env' Bs r3 s3 q3 n3 h3 => ⟨len, fun p np => ?_⟩
  have kp : ∀ b o, H1 b = some o → upd H1 p (.tup vs) b = some o := fun b o e => by rw [upd_ne (ne_of_none e np)]; exact e
  have q4 : RepC c.K (Av (Lu L Bs) σ env') (upd H1 p (.tup vs)) Bs vs cs := q3.mono (r3.tk (.grow kp)) (fun b xs g e => ⟨g, kp _ _ e⟩) fun b z xs e => kp _ _ e
  have r4 : RE c (Lu L Bs) σ (upd H1 p (.tup vs)) env' := r3.grow kp
  have key : RepT c L (Nn σ env H) σ (upd H1 p (.tup vs)) env' (.ref p) (.ft cs) := ⟨p, vs, Bs, rfl, .inl (.inl upd_same), q4, n3, r4⟩
  refine h3 _ r4.bare (s3.trans (.grow kp)) _ ?_
  unfold mkTup
  split
  · exact key.wk
  · exact key
theorem de_lst (ha : PA X es (dA c W fa)) : PE X (.List es pos) (dE c W (eLst fa)) := PEw (pe_lst ha) fun σ H Q h => by
  obtain ⟨env, L, re, h⟩ := dE_iff.mp h
  refine dA.of re (h.bind.mono fun ts e1 H1 r1 s1 h1 vs As q n r2 => ?_)
  refine disp_ok (N := Nn σ env H) r2 q (fun a z => n a z) (fun a z => s1.back (.inl z)) h1 fun len cs env' Bs r3 s3 q3 n3 h3 => ⟨len, fun p np => ?_⟩
  have rp : Reps c.K (Av L σ env') H1 vs (cs.map Cp.d) := q3.reps (fun b g => ⟨fun z => g.1 (.inl z), g.2⟩) fun a z => ⟨(n3 a z).1, (r3.ext a (.inr z)).1⟩
  obtain ⟨y1, y2, y3⟩ := r3.bare.newL rp np
  exact h3 _ y1 (s3.trans y2) _ (y3.less (fun _ z => z) fun a z => s1.back (s3.back z))
end
end DL
namespace DL
open PySem PySem.Spec L2
variable [Wd]
mutual
def toP : D → PyData
  | .non => .none
  | .bl b => .bool b
  | .int i => .int i
  | .str x => .str x
  | .tup xs => .tuple (toPs xs)
  | .lst xs => .list (toPs xs)
  | .fz xs => .list (toPs xs)
  | .dct _ _ => .dict []
  | .kd _ _ => .dict []
def toPs : List D → List PyData
  | [] => []
  | x :: xs => toP x :: toPs xs
end
theorem toPs_map : ∀ ds, toPs ds = ds.map toP
  | [] => rfl
  | d :: ds => by rw [toPs, toPs_map ds]; rfl
section
variable {K : PySem.W.Frag} {G : Addr → Prop} {H : Hp}
mutual
theorem Rep.dp : ∀ {v d}, Rep K G H v d → (toP d).plain = true → Dp K H v (toP d)
  | _, _, .non, _ => .non
  | _, _, .bl b, _ => .bl b
  | _, _, .int i, _ => .int i
  | _, _, .str x, _ => .str x
  | _, _, .tup h r, p => .tup h (Reps.dp r p)
  | _, _, .lst g h r, p => .lst (.of h) (Reps.dp r p)
  | _, _, .fz h r, p => .lst h.sql (Reps.dp r p)
  | _, _, .dct _ _ _ _ _, p => nomatch p
  | _, _, .kd _ _ _ _ _, p => nomatch p
theorem Reps.dp : ∀ {v d}, Reps K G H v d → PyData.plainAll (toPs d) = true → DpAll K H v (toPs d)
  | _, _, .nil, _ => .nil
  | _, _, .cons (d := d) (ds := ds) r rs, p => by
    have p : ((toP d).plain && PyData.plainAll (toPs ds)) = true := p
    rw [Bool.and_eq_true] at p
    exact .cons (Rep.dp r p.1) (Reps.dp rs p.2)
end
end
def eqv (x y : D) : Bool := PyData.eqv (toP x) (toP y)
def eqvs (xs ys : List D) : Bool := PyData.eqvAll (toPs xs) (toPs ys)
def shp (x : D) : Bool := SeqAt.shaped (toP x)
@[simp] theorem eqv_ii (i j : Int) : eqv (.int i) (.int j) = (i == j) := rfl
@[simp] theorem eqv_bb (i j : Bool) : eqv (.bl i) (.bl j) = (i == j) := rfl
@[simp] theorem eqv_ss (i j : Str) : eqv (.str i) (.str j) = (i == j) := rfl
@[simp] theorem eqv_nn : eqv .non .non = true := rfl
@[simp] theorem eqv_tt (i j : List D) : eqv (.tup i) (.tup j) = eqvs i j := rfl
@[simp] theorem eqv_ll (i j : List D) : eqv (.lst i) (.lst j) = eqvs i j := rfl
@[simp] theorem eqv_fl (i j : List D) : eqv (.fz i) (.lst j) = eqvs i j := rfl
@[simp] theorem eqv_is (i : Int) (x : Str) : eqv (.int i) (.str x) = false := rfl
@[simp] theorem eqv_si (i : Int) (x : Str) : eqv (.str x) (.int i) = false := rfl
@[simp] theorem eqv_ns (x : Str) : eqv .non (.str x) = false := rfl
@[simp] theorem eqv_ni (x : Int) : eqv .non (.int x) = false := rfl
@[simp] theorem eqv_in (x : Int) : eqv (.int x) .non = false := rfl
@[simp] theorem eqv_sn (x : Str) : eqv (.str x) .non = false := rfl
@[simp] theorem eqv_ts (i : List D) (x : Str) : eqv (.tup i) (.str x) = false := rfl
@[simp] theorem eqv_ti (i : List D) (x : Int) : eqv (.tup i) (.int x) = false := rfl
@[simp] theorem eqv_it (i : List D) (x : Int) : eqv (.int x) (.tup i) = false := rfl
@[simp] theorem eqv_ls (i : List D) (x : Str) : eqv (.lst i) (.str x) = false := rfl
@[simp] theorem eqv_tn (i : List D) : eqv (.tup i) .non = false := rfl
@[simp] theorem eqv_nt (i : List D) : eqv .non (.tup i) = false := rfl
@[simp] theorem eqv_tl (i j : List D) : eqv (.tup i) (.lst j) = false := rfl
@[simp] theorem eqv_lt (i j : List D) : eqv (.lst i) (.tup j) = false := rfl
@[simp] theorem eqvs_nn : eqvs [] [] = true := rfl
@[simp] theorem eqvs_cn (x : D) (xs : List D) : eqvs (x :: xs) [] = false := rfl
@[simp] theorem eqvs_nc (x : D) (xs : List D) : eqvs [] (x :: xs) = false := rfl
@[simp] theorem eqvs_cc (x y : D) (xs ys : List D) : eqvs (x :: xs) (y :: ys) = (eqv x y && eqvs xs ys) := rfl
mutual
def lay : D → Bool
  | .str x => PySem.PyData.strOk x
  | .tup xs => lays xs
  | .lst xs => lays xs
  | .fz xs => lays xs
  | .dct _ _ => false
  | .kd _ _ => false
  | _ => true
def lays : List D → Bool
  | [] => true
  | x :: xs => lay x && lays xs
end
mutual
def dep : D → Nat
  | .tup xs => deps xs + 1
  | .lst xs => deps xs + 1
  | .fz xs => deps xs + 1
  | .dct _ _ => 1
  | .kd _ _ => 1
  | _ => 0
def deps : List D → Nat
  | [] => 0
  | x :: xs => max (dep x) (deps xs)
end
mutual
theorem lay_toP : ∀ d, PyData.canLay0 (toP d) = lay d
  | .non => rfl
  | .bl _ => rfl
  | .int _ => rfl
  | .str _ => rfl
  | .tup xs => lays_toP xs
  | .lst xs => lays_toP xs
  | .fz xs => lays_toP xs
  | .dct _ _ => rfl
  | .kd _ _ => rfl
theorem lays_toP : ∀ d, PyData.canLayAll0 (toPs d) = lays d
  | [] => rfl
  | x :: xs => by
    show (PyData.canLay0 (toP x) && PyData.canLayAll0 (toPs xs)) = (lay x && lays xs)
    rw [lay_toP x, lays_toP xs]
end
mutual
theorem dep_toP : ∀ d, PyData.depth (toP d) = dep d
  | .non => rfl
  | .bl _ => rfl
  | .int _ => rfl
  | .str _ => rfl
  | .tup xs => congrArg (· + 1) (deps_toP xs)
  | .lst xs => congrArg (· + 1) (deps_toP xs)
  | .fz xs => congrArg (· + 1) (deps_toP xs)
  | .dct _ _ => rfl
  | .kd _ _ => rfl
theorem deps_toP : ∀ d, PyData.depthAll (toPs d) = deps d
  | [] => rfl
  | x :: xs => by
    show max (PyData.depth (toP x)) (PyData.depthAll (toPs xs)) = max (dep x) (deps xs)
    rw [dep_toP x, deps_toP xs]
end
theorem shp_eq (d : D) : shp d = (lay d && decide (dep d ≤ 64)) := by
  unfold shp SeqAt.shaped
  rw [lay_toP, dep_toP]
def dEq (x y : D) : Option T := if shp x = true ∧ shp y = true then some (.im (.bl (eqv x y))) else none
def dNe (x y : D) : Option T := if shp x = true ∧ shp y = true then some (.im (.bl (!eqv x y))) else none
section
variable {X : Cx} {c : Cc} {W : WX} {pos : Pos} {a b : Expr} {fa fb : FE}
theorem plain_of_shp {d : D} (h : shp d = true) : (toP d).plain = true := by
  unfold shp SeqAt.shaped at h
  rw [Bool.and_eq_true] at h
  exact PyData.plain_of_canLay0 _ h.1
theorem RepO.dp {K : PySem.W.Frag} {G : Addr → Prop} {H : Hp} {v : V} {d : D} (h : RepO K G H v d) (p : (toP d).plain = true) : Dp K H v (toP d) := h.any.dp p
theorem d_eq : OpD c (rEqD c.K) dEq := by
  intro L σ H env x y dx dy t Q re hx hy e k
  unfold dEq at e
  split at e
  · rename_i q
    cases e
    exact ⟨_, _, hx.dp (plain_of_shp q.1), hy.dp (plain_of_shp q.2), q.1, q.2, k _ H re .refl (.bl _)⟩
  · cases e
theorem d_ne : OpD c (rNeD c.K) dNe := by
  intro L σ H env x y dx dy t Q re hx hy e k
  unfold dNe at e
  split at e
  · rename_i q
    cases e
    exact ⟨_, _, hx.dp (plain_of_shp q.1), hy.dp (plain_of_shp q.2), q.1, q.2, k _ H re .refl (.bl _)⟩
  · cases e
@[simp] def dIs : D → D → Option T
  | .bl a, .bl b => some (.im (.bl (decide (a = b))))
  | .non, .non => some (.im (.bl true))
  | _, .non => some (.im (.bl false))
  | _, _ => none
@[simp] def dNis : D → D → Option T
  | .bl a, .bl b => some (.im (.bl (!decide (a = b))))
  | .non, .non => some (.im (.bl false))
  | _, .non => some (.im (.bl true))
  | _, _ => none
abbrev rIs : R2 := fun x y H Q => (y = .non ∧ Q (.bl (decide (x = .non))) H) ∨ rIsB x y H Q
abbrev rNis : R2 := fun x y H Q => (y = .non ∧ Q (.bl (!decide (x = .non))) H) ∨ rNotB x y H Q
theorem op_is : OpR X (compareOp .Is) rIs := op_isN.or op_isBl
theorem op_nis : OpR X (compareOp .IsNot) rNis := op_notN.or op_notBl
theorem d_is : OpD c rIs dIs := by
  intro L σ H env x y dx dy t Q re hx hy e k
  have key : ∀ d : D, RepO c.K (Av L σ env) H x d → d ≠ .non → Rep c.K (Av L σ env) H (.bl (decide (x = .non))) (.bl false) := fun d h n => by
    rw [decide_eq_false (not_non h n)]
    exact .bl _
  cases dy <;> cases dx <;> simp only [dIs] at e <;> (try (cases e; done)) <;> cases e
  · refine .inl ⟨hy.non, k _ H re .refl ?_⟩
    rw [hx.non]
    exact .bl _
  · exact .inl ⟨hy.non, k _ H re .refl (key _ hx (fun z => nomatch z))⟩
  · exact .inl ⟨hy.non, k _ H re .refl (key _ hx (fun z => nomatch z))⟩
  · exact .inl ⟨hy.non, k _ H re .refl (key _ hx (fun z => nomatch z))⟩
  · exact .inl ⟨hy.non, k _ H re .refl (key _ hx (fun z => nomatch z))⟩
  · exact .inl ⟨hy.non, k _ H re .refl (key _ hx (fun z => nomatch z))⟩
  · exact .inl ⟨hy.non, k _ H re .refl (key _ hx (fun z => nomatch z))⟩
  · exact .inl ⟨hy.non, k _ H re .refl (key _ hx (fun z => nomatch z))⟩
  · exact .inl ⟨hy.non, k _ H re .refl (key _ hx (fun z => nomatch z))⟩
  · exact .inr ⟨_, _, hx.bl, hy.bl, k _ H re .refl (.bl _)⟩
theorem d_nis : OpD c rNis dNis := by
  intro L σ H env x y dx dy t Q re hx hy e k
  have key : ∀ d : D, RepO c.K (Av L σ env) H x d → d ≠ .non → Rep c.K (Av L σ env) H (.bl (!decide (x = .non))) (.bl true) := fun d h n => by
    rw [decide_eq_false (not_non h n)]
    exact .bl _
  cases dy <;> cases dx <;> simp only [dNis] at e <;> (try (cases e; done)) <;> cases e
  · refine .inl ⟨hy.non, k _ H re .refl ?_⟩
    rw [hx.non]
    exact .bl _
  · exact .inl ⟨hy.non, k _ H re .refl (key _ hx (fun z => nomatch z))⟩
  · exact .inl ⟨hy.non, k _ H re .refl (key _ hx (fun z => nomatch z))⟩
  · exact .inl ⟨hy.non, k _ H re .refl (key _ hx (fun z => nomatch z))⟩
  · exact .inl ⟨hy.non, k _ H re .refl (key _ hx (fun z => nomatch z))⟩
  · exact .inl ⟨hy.non, k _ H re .refl (key _ hx (fun z => nomatch z))⟩
  · exact .inl ⟨hy.non, k _ H re .refl (key _ hx (fun z => nomatch z))⟩
  · exact .inl ⟨hy.non, k _ H re .refl (key _ hx (fun z => nomatch z))⟩
  · exact .inl ⟨hy.non, k _ H re .refl (key _ hx (fun z => nomatch z))⟩
  · exact .inr ⟨_, _, hx.bl, hy.bl, k _ H re .refl (.bl _)⟩
def sc : D → Bool
  | .non => true
  | .bl _ => true
  | .int _ => true
  | .str _ => true
  | _ => false
def items : D → Option (List D)
  | .tup ds => some ds
  | .lst ds => some ds
  | .fz ds => some ds
  | _ => none
@[simp] theorem items_tup (ds : List D) : items (.tup ds) = some ds := rfl
@[simp] theorem items_lst (ds : List D) : items (.lst ds) = some ds := rfl
@[simp] theorem items_fz (ds : List D) : items (.fz ds) = some ds := rfl
def hasD (x : D) (ds : List D) : Bool := ds.any fun y => eqv y x
@[simp] theorem hasD_nil (x : D) : hasD x [] = false := rfl
@[simp] theorem hasD_cons (x y : D) (ds : List D) : hasD x (y :: ds) = (eqv y x || hasD x ds) := rfl
def dIn (neg : Bool) (x y : D) : Option T := match items y with
  | some ds => if sc x = true ∧ ds.all sc = true then some (.im (.bl (if neg then !hasD x ds else hasD x ds))) else none
  | none => none
theorem sc_flat {K : PySem.W.Frag} {G : Addr → Prop} {H : Hp} {v : V} {d : D} (h : Rep K G H v d) (s : sc d = true) : flatV v = true := by
  cases h <;> simp_all [sc, flatV]
theorem sc_eqV {K : PySem.W.Frag} {G G' : Addr → Prop} {H : Hp} {v w : V} {d e : D} (h : Rep K G H v d) (s : sc d = true) (h' : Rep K G' H w e) (s' : sc e = true) : eqV v w = eqv d e := by
  cases h <;> first | (simp [sc] at s; done) | (cases h' <;> first | (simp [sc] at s'; done) | rfl)
theorem scs_flat {K : PySem.W.Frag} {G : Addr → Prop} {H : Hp} : ∀ {vs ds}, Reps K G H vs ds → ds.all sc = true → vs.all flatV = true
  | _, _, .nil, _ => rfl
  | _, _, .cons r rs, h => by
    simp only [List.all_cons, Bool.and_eq_true] at h ⊢
    exact ⟨sc_flat r h.1, scs_flat rs h.2⟩
theorem inV_has {K : PySem.W.Frag} {G G' : Addr → Prop} {H : Hp} {w : V} {e : D} (h' : Rep K G' H w e) (s' : sc e = true) : ∀ {vs ds}, Reps K G H vs ds → ds.all sc = true → inV w vs = hasD e ds
  | _, _, .nil, _ => rfl
  | _, _, .cons r rs, h => by
    simp only [List.all_cons, Bool.and_eq_true] at h
    have ih := inV_has h' s' rs h.2
    unfold inV at ih ⊢
    rw [List.any_cons, hasD_cons, ih, sc_eqV r h.1 h' s']
theorem RepO.seq {K : PySem.W.Frag} {G : Addr → Prop} {H : Hp} {v : V} {d : D} {ds : List D} (h : RepO K G H v d) (e : items d = some ds) : ∃ a xs, v = .ref a ∧ (SqL K H a xs ∨ SqT K H a xs) ∧ Reps K G H xs ds := by
  cases d <;> simp only [items] at e <;> (try (cases e; done)) <;> cases e
  · obtain ⟨a, xs, e1, e2, r⟩ := h.tup
    exact ⟨a, xs, e1, .inr e2, r⟩
  · obtain ⟨a, xs, e1, e2, r⟩ := h.lst
    exact ⟨a, xs, e1, .inl (.of e2), r⟩
  · obtain ⟨a, xs, e1, e2, r⟩ := h.fz
    exact ⟨a, xs, e1, .inl e2.sql, r⟩
theorem d_in (neg : Bool) : OpD c (rIn c.K neg) (dIn neg) := by
  intro L σ H env x y dx dy t Q re hx hy e k
  unfold dIn at e
  cases q : items dy with
  | none => rw [q] at e; cases e
  | some ds =>
    rw [q] at e
    dsimp only at e
    split at e
    · rename_i s
      cases e
      obtain ⟨a, xs, rfl, h, r⟩ := hy.seq q
      refine ⟨a, xs, rfl, h, sc_flat hx.any s.1, scs_flat r s.2, k _ H re .refl ?_⟩
      rw [inV_has hx.any s.1 r s.2]
      exact .bl _
    · cases e
def dLen : List D → Option T
  | [.str z] => if z.length ≤ sizeLine then some (.im (.int z.length)) else none
  | [d] => (items d).map fun ds => .im (.int ds.length)
  | _ => none
@[simp] theorem dLen_tup (ds : List D) : dLen [.tup ds] = some (.im (.int ds.length)) := rfl
@[simp] theorem dLen_lst (ds : List D) : dLen [.lst ds] = some (.im (.int ds.length)) := rfl
@[simp] theorem dLen_fz (ds : List D) : dLen [.fz ds] = some (.im (.int ds.length)) := rfl
abbrev rLenA (K : PySem.W.Frag) : List V → Hp → VK → Prop := fun xs H Q => (∃ z, xs = [.str z] ∧ z.length ≤ sizeLine ∧ Q (.int z.length) H) ∨ ∃ p ys, xs = [.ref p] ∧ (SqL K H p ys ∨ SqT K H p ys) ∧ Q (.int ys.length) H
theorem call_lenA : CallR X (.builtin "len") (rLenA X.K) := call_len_str.or call_len_seq
theorem RepOs.one {K : PySem.W.Frag} {G : Addr → Prop} {H : Hp} {vs : List V} {d : D} (h : RepOs K G H vs [d]) : ∃ v, vs = [v] ∧ RepO K G H v d := by
  cases h with
  | cons r rs => cases rs; exact ⟨_, rfl, r⟩
theorem RepOs.two {K : PySem.W.Frag} {G : Addr → Prop} {H : Hp} {vs : List V} {d e : D} (h : RepOs K G H vs [d, e]) : ∃ v w, vs = [v, w] ∧ RepO K G H v d ∧ RepO K G H w e := by
  cases h with
  | cons r rs =>
    obtain ⟨w, rfl, q⟩ := rs.one
    exact ⟨_, w, rfl, r, q⟩
theorem d_len : CallD c (rLenA c.K) dLen := by
  intro L σ H env xs ds t Q re hx e k
  have go : ∀ d es, ds = [d] → items d = some es → t = .im (.int es.length) → rLenA c.K xs H Q := fun d es e1 e2 e3 => by
    subst e1 e3
    obtain ⟨v, rfl, r⟩ := hx.one
    obtain ⟨a, ys, rfl, h, rs⟩ := r.seq e2
    refine .inr ⟨a, ys, rfl, h, k _ H re .refl ?_⟩
    rw [rs.length]
    exact .int _
  unfold dLen at e
  split at e
  · split at e
    · rename_i z q
      cases e
      obtain ⟨v, rfl, r⟩ := hx.one
      rw [r.str]
      exact .inl ⟨z, rfl, q, k _ H re .refl (.int _)⟩
    · cases e
  · rename_i d _
    cases q : items d with
    | none => rw [q] at e; cases e
    | some es =>
      rw [q] at e
      exact go d es rfl q (Option.some.inj e).symm
  · cases e
def dTuple : List D → Option T
  | [.lst ds] => some (.im (.tup ds))
  | [.tup ds] => some (.im (.tup ds))
  | [.fz ds] => some (.im (.tup ds))
  | _ => none
@[simp] theorem dTuple_lst (ds : List D) : dTuple [.lst ds] = some (.im (.tup ds)) := rfl
@[simp] theorem dTuple_tup (ds : List D) : dTuple [.tup ds] = some (.im (.tup ds)) := rfl
abbrev rTuple (K : PySem.W.Frag) : List V → Hp → VK → Prop := fun xs H Q => ∃ p ys, xs = [.ref p] ∧ ((SqL K H p ys ∧ ∀ l, H l = none → Q (.ref l) (upd H l (.tup ys))) ∨ (SqT K H p ys ∧ Q (.ref p) H))
theorem d_tuple : CallD c (rTuple c.K) dTuple := by
  intro L σ H env xs ds t Q re hx e k
  unfold dTuple at e
  split at e <;> (try (cases e; done)) <;> cases e
  · obtain ⟨v, rfl, r⟩ := hx.one
    obtain ⟨a, ys, rfl, h, rs⟩ := r.lst
    exact ⟨a, ys, rfl, .inl ⟨.of h, new_tup re rs k⟩⟩
  · obtain ⟨v, rfl, r⟩ := hx.one
    obtain ⟨a, ys, rfl, h, rs⟩ := r.tup
    exact ⟨a, ys, rfl, .inr ⟨h, k _ H re .refl (.tup h rs)⟩⟩
  · obtain ⟨v, rfl, r⟩ := hx.one
    obtain ⟨a, ys, rfl, h, rs⟩ := r.fz
    exact ⟨a, ys, rfl, .inl ⟨h.sql, new_tup re rs k⟩⟩
def dList : List D → Option T
  | [d] => (items d).map .fr
  | _ => none
@[simp] theorem dList_lst (ds : List D) : dList [.lst ds] = some (.fr ds) := rfl
@[simp] theorem dList_tup (ds : List D) : dList [.tup ds] = some (.fr ds) := rfl
@[simp] def dMax2 : List D → Option T
  | [.int i, .int j] => some (.im (.int (if j > i then j else i)))
  | _ => none
@[simp] def dMin2 : List D → Option T
  | [.int i, .int j] => some (.im (.int (if j < i then j else i)))
  | _ => none
theorem d_max2 : CallD c (fun xs H Q => ∃ i j, xs = [.int i, .int j] ∧ Q (.int (if j > i then j else i)) H) dMax2 := by
  intro L σ H env xs ds t Q re hx e k
  unfold dMax2 at e
  split at e <;> cases e
  obtain ⟨v, w, rfl, r, s⟩ := hx.two
  rw [r.int, s.int]
  exact ⟨_, _, rfl, k _ H re .refl (.int _)⟩
theorem d_min2 : CallD c (fun xs H Q => ∃ i j, xs = [.int i, .int j] ∧ Q (.int (if j < i then j else i)) H) dMin2 := by
  intro L σ H env xs ds t Q re hx e k
  unfold dMin2 at e
  split at e <;> cases e
  obtain ⟨v, w, rfl, r, s⟩ := hx.two
  rw [r.int, s.int]
  exact ⟨_, _, rfl, k _ H re .refl (.int _)⟩
@[simp] def dAbs : List D → Option T
  | [.int i] => some (.im (.int (if i < 0 then -i else i)))
  | _ => none
def intsOf : List D → Option (List Int)
  | [] => some []
  | .int i :: ds => (intsOf ds).map (i :: ·)
  | _ => none
def blsOf : List D → Option (List Bool)
  | [] => some []
  | .bl i :: ds => (blsOf ds).map (i :: ·)
  | _ => none
@[simp] theorem intsOf_nil : intsOf [] = some [] := rfl
@[simp] theorem intsOf_cons (i : Int) (ds : List D) : intsOf (.int i :: ds) = (intsOf ds).map (i :: ·) := rfl
@[simp] theorem blsOf_nil : blsOf [] = some [] := rfl
@[simp] theorem blsOf_cons (i : Bool) (ds : List D) : blsOf (.bl i :: ds) = (blsOf ds).map (i :: ·) := rfl
@[simp] theorem intsOf_map : ∀ ns : List Int, intsOf (ns.map D.int) = some ns
  | [] => rfl
  | n :: ns => by rw [List.map_cons, intsOf_cons, intsOf_map ns]; rfl
@[simp] theorem blsOf_map : ∀ ns : List Bool, blsOf (ns.map D.bl) = some ns
  | [] => rfl
  | n :: ns => by rw [List.map_cons, blsOf_cons, blsOf_map ns]; rfl
theorem intsOf_is : ∀ {ds ns}, intsOf ds = some ns → ds = ns.map D.int
  | [], ns, h => by cases h; rfl
  | d :: ds, ns, h => by
    cases d <;> simp only [intsOf] at h <;> (try (cases h; done))
    obtain ⟨ms, e, rfl⟩ := Option.map_eq_some_iff.mp h
    rw [intsOf_is e]
    rfl
theorem blsOf_is : ∀ {ds ns}, blsOf ds = some ns → ds = ns.map D.bl
  | [], ns, h => by cases h; rfl
  | d :: ds, ns, h => by
    cases d <;> simp only [blsOf] at h <;> (try (cases h; done))
    obtain ⟨ms, e, rfl⟩ := Option.map_eq_some_iff.mp h
    rw [blsOf_is e]
    rfl
def rSumT (K : PySem.W.Frag) : List V → Hp → VK → Prop := fun vs H Q => ∃ (a : Addr) (ns : List Int), vs = [V.ref a] ∧ SqT K H a (ns.map V.int) ∧ Q (.int ns.sum) H
theorem cr_sumT (hc : X.calm = true) : CallR X (.builtin "sum") (rSumT X.K) := by
  intro pins s σ H vs us Q I r h
  obtain ⟨a, ns, rfl, hs, q⟩ := h
  obtain ⟨its, rv, ht, _⟩ := I.tuple hs
  rw [Vals.ref1 r]
  have hi := rv.ints
  obtain ⟨xs, e⟩ := hi.allInts.items
  have hn : numsOf (intItems xs).toList = ns := by rw [← e]; exact hi.numsOf
  rw [nums_intItems] at hn
  rw [e] at ht
  have hlt : a < s.heap.objs.size := ht.lt
  refine call_sum_walkG (wpAny_pyIter_tuple (show s.heap.IsTuple a (intItems xs) from ht) ?_)
  refine ⟨_, _, _, _, _, _, numAt xs, rfl, Walks.tuple (A := X.A.in1) (I.ok.hd hc) s.heap.objs.size a (Nat.ne_of_lt hlt) (intItems xs), ⟨⟨_, Heap.get?_push_size _ rfl, rfl, rfl⟩, ?_⟩, fun b hb => ?_, fun _ _ => intItems_at, fun h' tk t' hk => ?_⟩
  · obtain ⟨o, e1, e2⟩ := ht
    exact ⟨o, Heap.get?_push_of_some _ e1, e2⟩
  · have q : b = s.heap.objs.size ∨ b = a := by simpa using hb
    show b < (s.heap.push _).objs.size
    rw [Heap.size_push]
    rcases q with rfl | rfl
    · exact Nat.lt_succ_self _
    · exact Nat.lt_succ_of_lt hlt
  · refine ⟨.int _, H, I.kept fun b o eo => hk b o (fun hmem => ?_) (Heap.get?_push_of_some _ eo), ⟨t', ?_⟩, q⟩
    · rcases List.mem_cons.mp hmem with e1 | hmem
      · exact absurd (e1 ▸ Heap.lt_size eo) (Nat.lt_irrefl _)
      · cases hmem
    · rw [preSum_eq, List.take_of_length_le (by simp [intItems]), hn]
abbrev rSumA (K : PySem.W.Frag) : List V → Hp → VK → Prop := fun xs H Q => rSum K xs H Q ∨ rSumT K xs H Q
theorem call_sumA (hc : X.calm = true) : CallR X (.builtin "sum") (rSumA X.K) := (cr_sum hc).or (cr_sumT hc)
def dSum : List D → Option T
  | [d] => match items d with
    | some ds => (intsOf ds).map fun ns => .im (.int ns.sum)
    | none => none
  | _ => none
@[simp] theorem dSum_lst (ds : List D) : dSum [.lst ds] = (intsOf ds).map fun ns => .im (.int ns.sum) := rfl
@[simp] theorem dSum_tup (ds : List D) : dSum [.tup ds] = (intsOf ds).map fun ns => .im (.int ns.sum) := rfl
theorem d_sum : CallD c (rSumA c.K) dSum := by
  intro L σ H env xs ds t Q re hx e k
  unfold dSum at e
  split at e
  · rename_i d
    obtain ⟨v, rfl, r⟩ := hx.one
    cases q : items d with
    | none => rw [q] at e; cases e
    | some es =>
      rw [q] at e
      obtain ⟨ns, e1, rfl⟩ := Option.map_eq_some_iff.mp e
      obtain ⟨a, ys, rfl, h, rs⟩ := r.seq q
      rw [intsOf_is e1] at rs
      rw [rs.ints] at h
      rcases h with h | h
      · exact .inl ⟨a, ns, rfl, h, k _ H re .refl (.int _)⟩
      · exact .inr ⟨a, ns, rfl, h, k _ H re .refl (.int _)⟩
  · cases e
def dAll : List D → Option T
  | [.lst ds] => (blsOf ds).map fun bs => .im (.bl (bs.all id))
  | _ => none
def dAny : List D → Option T
  | [.lst ds] => (blsOf ds).map fun bs => .im (.bl (bs.any id))
  | _ => none
@[simp] theorem dAll_lst (ds : List D) : dAll [.lst ds] = (blsOf ds).map fun bs => .im (.bl (bs.all id)) := rfl
@[simp] theorem dAny_lst (ds : List D) : dAny [.lst ds] = (blsOf ds).map fun bs => .im (.bl (bs.any id)) := rfl
theorem d_all : CallD c (rAll c.K) dAll := by
  intro L σ H env xs ds t Q re hx e k
  unfold dAll at e
  split at e
  · obtain ⟨v, rfl, r⟩ := hx.one
    obtain ⟨ns, e1, rfl⟩ := Option.map_eq_some_iff.mp e
    obtain ⟨a, ys, rfl, h, rs⟩ := r.lst
    rw [blsOf_is e1] at rs
    rw [rs.bls] at h
    exact ⟨a, ns, rfl, .of h, k _ H re .refl (.bl _)⟩
  · cases e
theorem d_any : CallD c (rAny c.K) dAny := by
  intro L σ H env xs ds t Q re hx e k
  unfold dAny at e
  split at e
  · obtain ⟨v, rfl, r⟩ := hx.one
    obtain ⟨ns, e1, rfl⟩ := Option.map_eq_some_iff.mp e
    obtain ⟨a, ys, rfl, h, rs⟩ := r.lst
    rw [blsOf_is e1] at rs
    rw [rs.bls] at h
    exact ⟨a, ns, rfl, .of h, k _ H re .refl (.bl _)⟩
  · cases e
def isTy (Ty : String) : D → Option Bool
  | .non => kitB "NoneType" Ty
  | .bl _ => kitB "bool" Ty
  | .int _ => kitB "int" Ty
  | .str _ => kitB "str" Ty
  | .tup _ => kitB "tuple" Ty
  | .lst _ => kitB "list" Ty
  | .fz _ => kitB "list" Ty
  | .dct _ _ => kitB "dict" Ty
  | .kd _ _ => kitB "dict" Ty
def eIsi (Ty : String) (fa : FE) : FE := fun env => (fa env).bind fun t e => op1 (fun d => (isTy Ty d).map fun b => .im (.bl b)) t e
inductive TyZ (K : PySem.W.Frag) (H : Hp) : V → Value → Prop where
  | x {v : V} {t : Value} (h : TyX K H v t) : TyZ K H v t
  | dct {a : Addr} {o : Obj} {u : HO} (e : H a = some (.frz o u)) (c : o.cls = .type "dict") : TyZ K H (.ref a) (.type "dict")
def rIsZ (K : PySem.W.Frag) : List V → Hp → VK → Prop := fun xs H Q => ∃ (x k : V) (t u : Value) (b : Bool), xs = [x, k] ∧ ClsV k u ∧ TyZ K H x t ∧ PySem.W.kitOne K t u = some b ∧ Q (.bl b) H
theorem call_isZ {X : Cx} : CallR X (.builtin "isinstance") (rIsZ X.K) := by
  intro pins s σ H xs us Q I r h
  obtain ⟨x, k, t, u, b, rfl, hk, ty, e, q⟩ := h
  cases ty with
  | x ty => exact call_isi pins s σ H _ us Q I r ⟨x, k, t, u, b, rfl, hk, ty, e, q⟩
  | dct ea c =>
    cases r with
    | cons r1 r =>
      cases r with
      | cons r2 r =>
        cases r
        cases r1
        rename_i a o _ _
        obtain rfl := hk.eq r2
        have z := (show ObjOk X.prog X.w H s.heap a _ from I.hok a _ ea).1
        exact PySem.W.kia_one PySem.W.kitx_dict I.kIn ⟨o, z, c⟩ e (fun z => nomatch z) fun tk => ⟨.bl b, H, I.tok tk, rfl, q⟩
theorem RepO.ty {K : PySem.W.Frag} {G : Addr → Prop} {H : Hp} {v : V} {d : D} (h : RepO K G H v d) : ∃ s : String, TyZ K H v (.type s) ∧ ∀ Ty, isTy Ty d = kitB s Ty := by
  cases d with
  | non => rw [h.non]; exact ⟨_, .x (.base .non), fun _ => rfl⟩
  | bl b => rw [h.bl]; exact ⟨_, .x (.base (.bl b)), fun _ => rfl⟩
  | int i => rw [h.int]; exact ⟨_, .x (.base (.int i)), fun _ => rfl⟩
  | str x => rw [h.str]; exact ⟨_, .x (.base (.str x)), fun _ => rfl⟩
  | tup xs =>
    obtain ⟨a, ys, rfl, h, rs⟩ := h.tup
    rcases h with (h | ⟨o, h⟩) | ⟨o, its, n, h, h2, _⟩
    · exact ⟨"tuple", .x (.base (.tup h)), fun _ => rfl⟩
    · exact ⟨"tuple", .x (.fTuple h), fun _ => rfl⟩
    · exact ⟨"tuple", .x (.kTuple h h2), fun _ => rfl⟩
  | lst xs =>
    obtain ⟨a, ys, rfl, h, rs⟩ := h.lst
    exact ⟨"list", .x (.base (.lst h)), fun _ => rfl⟩
  | fz xs =>
    obtain ⟨a, ys, rfl, h, rs⟩ := h.fz
    rcases h with ⟨o, h⟩ | ⟨o, its, n, h, h2, _⟩
    · exact ⟨"list", .x (.base (.frz h)), fun _ => rfl⟩
    · exact ⟨"list", .x (.kList h h2), fun _ => rfl⟩
  | dct ks vs =>
    cases (show Rep K G H v (.dct ks vs) from h) with
    | dct hh ho hq hk rs => exact ⟨"dict", .dct hh ho.ex.1, fun _ => rfl⟩
  | kd ks vs =>
    cases (show Rep K G H v (.kd ks vs) from h) with
    | kd hh ho hq hk rs => exact ⟨"dict", .dct hh ho.ex.1, fun _ => rfl⟩
theorem de_isi {p : Pos} {Tn : String} (hg : Gl X "isinstance") (hm : X.mg "isinstance" = none) (ha : PE X a (dE c W fa)) (hb : PE X b (tC (.ty Tn))) (ht : Tn ∈ ["int", "bool", "str", "tuple", "list", "dict"] := by decide) (hK : c.K = X.K := by rfl)
    (he : starEach [a, b] X.env = (false, eval a X.env) :: starEach [b] X.env := by rfl) (he2 : starEach [b] X.env = (false, eval b X.env) :: starEach [] X.env := by rfl) (hpl : (backTo pos (starEach [b] X.env)).any (·.1) = false := by rfl) :
    PE X (.Call (.Name "isinstance" p) [a, b] [] pos) (dE c W (eIsi Tn fa)) :=
  PEw (pe_callB call_isZ hg hm (by decide +kernel) (pa_cons ha (pa_cons hb pa_nil he2) he) (by decide) (by decide) he hpl) fun σ H Q h => by
    obtain ⟨env, L, re, h⟩ := dE_iff.mp h
    refine dE.of re (h.bind.mono fun ta e1 H1 r1 s1 h1 x q1 => ?_)
    unfold op1 at h1
    cases ea : ta.val e1 with
    | none => rw [ea] at h1; exact h1.elim
    | some dx =>
      rw [ea] at h1
      dsimp only at h1
      cases eb : isTy Tn dx with
      | none => rw [eb] at h1; exact h1.elim
      | some k =>
        rw [eb] at h1
        obtain ⟨s, tx, es⟩ := (q1.opr0 r1 ea).ty
        rw [hK] at tx
        exact ⟨x, .ty Tn, .type s, .type Tn, k, rfl, .ty Tn, tx, kit_ty ((es Tn).symm.trans eb), h1 H1 r1 .refl _ (.bl k)⟩
end
@[simp] theorem isTy_int_non : isTy "int" (.non) = some false := (by decide +kernel : kitB "NoneType" "int" = some false)
@[simp] theorem isTy_int_bl (b : Bool) : isTy "int" (.bl b) = some true := (by decide +kernel : kitB "bool" "int" = some true)
@[simp] theorem isTy_int_int (b : Int) : isTy "int" (.int b) = some true := (by decide +kernel : kitB "int" "int" = some true)
@[simp] theorem isTy_int_str (b : Str) : isTy "int" (.str b) = some false := (by decide +kernel : kitB "str" "int" = some false)
@[simp] theorem isTy_int_tup (b : List D) : isTy "int" (.tup b) = some false := (by decide +kernel : kitB "tuple" "int" = some false)
@[simp] theorem isTy_int_lst (b : List D) : isTy "int" (.lst b) = some false := (by decide +kernel : kitB "list" "int" = some false)
@[simp] theorem isTy_int_dct (a b : List D) : isTy "int" (.dct a b) = some false := (by decide +kernel : kitB "dict" "int" = some false)
@[simp] theorem isTy_int_kd (a b : List D) : isTy "int" (.kd a b) = some false := (by decide +kernel : kitB "dict" "int" = some false)
@[simp] theorem isTy_int_fz (b : List D) : isTy "int" (.fz b) = some false := (by decide +kernel : kitB "list" "int" = some false)
@[simp] theorem isTy_bool_non : isTy "bool" (.non) = some false := (by decide +kernel : kitB "NoneType" "bool" = some false)
@[simp] theorem isTy_bool_bl (b : Bool) : isTy "bool" (.bl b) = some true := (by decide +kernel : kitB "bool" "bool" = some true)
@[simp] theorem isTy_bool_int (b : Int) : isTy "bool" (.int b) = some false := (by decide +kernel : kitB "int" "bool" = some false)
@[simp] theorem isTy_bool_str (b : Str) : isTy "bool" (.str b) = some false := (by decide +kernel : kitB "str" "bool" = some false)
@[simp] theorem isTy_bool_tup (b : List D) : isTy "bool" (.tup b) = some false := (by decide +kernel : kitB "tuple" "bool" = some false)
@[simp] theorem isTy_bool_lst (b : List D) : isTy "bool" (.lst b) = some false := (by decide +kernel : kitB "list" "bool" = some false)
@[simp] theorem isTy_bool_dct (a b : List D) : isTy "bool" (.dct a b) = some false := (by decide +kernel : kitB "dict" "bool" = some false)
@[simp] theorem isTy_bool_kd (a b : List D) : isTy "bool" (.kd a b) = some false := (by decide +kernel : kitB "dict" "bool" = some false)
@[simp] theorem isTy_bool_fz (b : List D) : isTy "bool" (.fz b) = some false := (by decide +kernel : kitB "list" "bool" = some false)
@[simp] theorem isTy_str_non : isTy "str" (.non) = some false := (by decide +kernel : kitB "NoneType" "str" = some false)
@[simp] theorem isTy_str_bl (b : Bool) : isTy "str" (.bl b) = some false := (by decide +kernel : kitB "bool" "str" = some false)
@[simp] theorem isTy_str_int (b : Int) : isTy "str" (.int b) = some false := (by decide +kernel : kitB "int" "str" = some false)
@[simp] theorem isTy_str_str (b : Str) : isTy "str" (.str b) = some true := (by decide +kernel : kitB "str" "str" = some true)
@[simp] theorem isTy_str_tup (b : List D) : isTy "str" (.tup b) = some false := (by decide +kernel : kitB "tuple" "str" = some false)
@[simp] theorem isTy_str_lst (b : List D) : isTy "str" (.lst b) = some false := (by decide +kernel : kitB "list" "str" = some false)
@[simp] theorem isTy_str_dct (a b : List D) : isTy "str" (.dct a b) = some false := (by decide +kernel : kitB "dict" "str" = some false)
@[simp] theorem isTy_str_kd (a b : List D) : isTy "str" (.kd a b) = some false := (by decide +kernel : kitB "dict" "str" = some false)
@[simp] theorem isTy_str_fz (b : List D) : isTy "str" (.fz b) = some false := (by decide +kernel : kitB "list" "str" = some false)
@[simp] theorem isTy_tuple_non : isTy "tuple" (.non) = some false := (by decide +kernel : kitB "NoneType" "tuple" = some false)
@[simp] theorem isTy_tuple_bl (b : Bool) : isTy "tuple" (.bl b) = some false := (by decide +kernel : kitB "bool" "tuple" = some false)
@[simp] theorem isTy_tuple_int (b : Int) : isTy "tuple" (.int b) = some false := (by decide +kernel : kitB "int" "tuple" = some false)
@[simp] theorem isTy_tuple_str (b : Str) : isTy "tuple" (.str b) = some false := (by decide +kernel : kitB "str" "tuple" = some false)
@[simp] theorem isTy_tuple_tup (b : List D) : isTy "tuple" (.tup b) = some true := (by decide +kernel : kitB "tuple" "tuple" = some true)
@[simp] theorem isTy_tuple_lst (b : List D) : isTy "tuple" (.lst b) = some false := (by decide +kernel : kitB "list" "tuple" = some false)
@[simp] theorem isTy_tuple_dct (a b : List D) : isTy "tuple" (.dct a b) = some false := (by decide +kernel : kitB "dict" "tuple" = some false)
@[simp] theorem isTy_tuple_kd (a b : List D) : isTy "tuple" (.kd a b) = some false := (by decide +kernel : kitB "dict" "tuple" = some false)
@[simp] theorem isTy_tuple_fz (b : List D) : isTy "tuple" (.fz b) = some false := (by decide +kernel : kitB "list" "tuple" = some false)
@[simp] theorem isTy_list_non : isTy "list" (.non) = some false := (by decide +kernel : kitB "NoneType" "list" = some false)
@[simp] theorem isTy_list_bl (b : Bool) : isTy "list" (.bl b) = some false := (by decide +kernel : kitB "bool" "list" = some false)
@[simp] theorem isTy_list_int (b : Int) : isTy "list" (.int b) = some false := (by decide +kernel : kitB "int" "list" = some false)
@[simp] theorem isTy_list_str (b : Str) : isTy "list" (.str b) = some false := (by decide +kernel : kitB "str" "list" = some false)
@[simp] theorem isTy_list_tup (b : List D) : isTy "list" (.tup b) = some false := (by decide +kernel : kitB "tuple" "list" = some false)
@[simp] theorem isTy_list_lst (b : List D) : isTy "list" (.lst b) = some true := (by decide +kernel : kitB "list" "list" = some true)
@[simp] theorem isTy_list_dct (a b : List D) : isTy "list" (.dct a b) = some false := (by decide +kernel : kitB "dict" "list" = some false)
@[simp] theorem isTy_list_kd (a b : List D) : isTy "list" (.kd a b) = some false := (by decide +kernel : kitB "dict" "list" = some false)
@[simp] theorem isTy_list_fz (b : List D) : isTy "list" (.fz b) = some true := (by decide +kernel : kitB "list" "list" = some true)
end DL
namespace DL
open PySem PySem.Spec L2
variable [Wd]
def toB (t : T) (env : En) : R Bool := match t.val env with
  | some (.bl b) => .ok b env
  | _ => .er
@[simp] theorem toB_bl (b : Bool) (env : En) : toB (.im (.bl b)) env = .ok b env := rfl
def tV (fa : FE) : FT := fun env => (fa env).bind fun t e => toB t e
def tAn (fa fb : FT) : FT := fun env => (fa env).bind fun b e => bif b then fb e else .ok false e
def tOr' (fa fb : FT) : FT := fun env => (fa env).bind fun b e => bif b then .ok true e else fb e
def tNo (fa : FT) : FT := fun env => (fa env).bind fun b e => .ok (!b) e
def eAn (fa fb : FE) : FE := fun env => (fa env).bind fun t e => (toB t e).bind fun b e => bif b then fb e else .ok (.im (.bl false)) e
def eOr (fa fb : FE) : FE := fun env => (fa env).bind fun t e => (toB t e).bind fun b e => bif b then .ok (.im (.bl true)) e else fb e
def eNo (fa : FE) : FE := fun env => (fa env).bind fun t e => (toB t e).bind fun b e => .ok (.im (.bl (!b))) e
def eIf (fc : FT) (fa fb : FE) : FE := fun env => (fc env).bind fun b e => bif b then fa e else fb e
def eCh (g g' : D → D → Option T) (fa fb fc : FE) : FE := fun env => (fa env).bind fun ta e1 => (fb e1).bind fun tb e2 => (op2 g ta tb e2).bind fun t e2 => (toB t e2).bind fun b e2 => bif b then (fc e2).bind fun tc e3 => op2 g' tb tc e3 else .ok (.im (.bl false)) e2
section
variable {X : Cx} {c : Cc} {W : WX} {pos : Pos} {a b e3 : Expr} {fa fb fc : FE} {ft fu : FT} {rest : List Expr}
theorem toB_K {L N : Addr → Prop} {σ : St} {H : Hp} {env : En} {t : T} {v : V} {P : Bool → En → Hp → Prop} (r : RE c L σ H env) (q : RepT c L N σ H env v t) (h : dK c W L σ H env (toB t env) P) : ∃ b, v = .bl b ∧ dK c W L σ H env (.ok b env) P := by
  unfold toB at h
  cases e : t.val env with
  | none => rw [e] at h; exact h.elim
  | some d =>
    rw [e] at h
    cases d with
    | bl b => exact ⟨b, (q.opr0 r e).bl, h⟩
    | non => exact h.elim
    | int i => exact h.elim
    | str x => exact h.elim
    | tup xs => exact h.elim
    | lst xs => exact h.elim
    | fz xs => exact h.elim
    | dct _ _ => exact h.elim
    | kd _ _ => exact h.elim
theorem d_tB : ∀ σ H Q, dT c W (tV fa) σ H Q → tB (dE c W fa) σ H Q := fun σ H Q h => by
  obtain ⟨env, L, r, h⟩ := dT_iff.mp h
  refine dE.of r (h.bind.mono fun t e1 H1 r1 s1 h1 v q => ?_)
  obtain ⟨b, rfl, h2⟩ := toB_K r1 q h1
  exact ⟨b, rfl, h2 H1 r1 .refl⟩
theorem dt_val (h : PE X a (dE c W fa)) (he : ∀ whole, isTrue a X.env whole = (do let v ← whole; standAt a.pos; holding [v] (truthy v)) := by intro _; rfl) : PT X a (dT c W (tV fa)) := PTw (pt_val h he) d_tB
theorem dt_cmp {op : CmpOp} {r : R2} {g : D → D → Option T} (hr : OpR X (compareOp op) r) (ho : OpD c r g) (ha : PE X a (dE c W fa)) (hb : PE X b (dE c W fb)) (hm : behindInMarks op b = false) : PT X (.Compare a [op] [b] pos) (dT c W (tV (eOp g fa fb))) :=
  PTw (pt_cmpR hr ha hb hm) fun σ H Q h => by
    obtain ⟨env, L, r, h⟩ := dT_iff.mp h
    have key := d_tB (fa := eOp g fa fb) σ H Q ⟨env, L, r, h⟩
    exact d_tOp ho σ H _ key
theorem dt_and1 (ha : PT X a (dT c W ft)) : PW X (.BoolOp .And [a] pos) (dT c W ft) := pw_and1 ha
theorem dt_or1 (ha : PT X a (dT c W ft)) : PW X (.BoolOp .Or [a] pos) (dT c W ft) := pw_or1 ha
theorem dt_and (ha : PT X a (dT c W ft)) (hb : PW X (.BoolOp .And (b :: rest) pos) (dT c W fu)) : PW X (.BoolOp .And (a :: b :: rest) pos) (dT c W (tAn ft fu)) := PWw (pw_and ha hb) fun σ H Q h => by
  obtain ⟨env, L, r, h⟩ := dT_iff.mp h
  refine dT.of r (h.bind.mono fun b e1 H1 r1 s1 h1 => ?_)
  cases b with
  | true => rw [if_pos rfl]; exact dT.of r1 h1
  | false => rw [if_neg Bool.false_ne_true]; exact h1 H1 r1 .refl
theorem dt_or (ha : PT X a (dT c W ft)) (hb : PW X (.BoolOp .Or (b :: rest) pos) (dT c W fu)) : PW X (.BoolOp .Or (a :: b :: rest) pos) (dT c W (tOr' ft fu)) := PWw (pw_or ha hb) fun σ H Q h => by
  obtain ⟨env, L, r, h⟩ := dT_iff.mp h
  refine dT.of r (h.bind.mono fun b e1 H1 r1 s1 h1 => ?_)
  cases b with
  | true => rw [if_pos rfl]; exact h1 H1 r1 .refl
  | false => rw [if_neg Bool.false_ne_true]; exact dT.of r1 h1
theorem dt_not (ha : PT X a (dT c W ft)) : PT X (.UnaryOp .Not a pos) (dT c W (tNo ft)) := PTw (pt_not ha) fun σ H Q h => by
  obtain ⟨env, L, r, h⟩ := dT_iff.mp h
  exact dT.of r (h.bind.mono fun b e1 H1 r1 s1 h1 => h1 H1 r1 .refl)
theorem de_one {op} (h : PE X a (dE c W fa)) : PE X (.BoolOp op [a] pos) (dE c W fa) := pe_one h
theorem de_and (ha : PE X a (dE c W fa)) (hb : PE X (.BoolOp .And (b :: rest) pos) (dE c W fb)) : PE X (.BoolOp .And (a :: b :: rest) pos) (dE c W (eAn fa fb)) := PEw (pe_and ha hb) fun σ H Q h => by
  obtain ⟨env, L, r, h⟩ := dE_iff.mp h
  refine dE.of r (h.bind.mono fun t e1 H1 r1 s1 h1 v q => ?_)
  obtain ⟨b, rfl, h2⟩ := toB_K r1 q h1.bind
  refine ⟨b, rfl, ?_⟩
  have h3 := h2 H1 r1 .refl
  cases b with
  | true => rw [if_pos rfl]; exact dE.of r1 (h3.mono fun t e2 H2 r2 s2 h4 v q => h4 v (q.less (fun _ z => z) fun a n => s1.back n))
  | false => rw [if_neg Bool.false_ne_true]; exact h3 H1 r1 .refl _ (.bl false)
theorem de_or (ha : PE X a (dE c W fa)) (hb : PE X (.BoolOp .Or (b :: rest) pos) (dE c W fb)) : PE X (.BoolOp .Or (a :: b :: rest) pos) (dE c W (eOr fa fb)) := PEw (pe_or ha hb) fun σ H Q h => by
  obtain ⟨env, L, r, h⟩ := dE_iff.mp h
  refine dE.of r (h.bind.mono fun t e1 H1 r1 s1 h1 v q => ?_)
  obtain ⟨b, rfl, h2⟩ := toB_K r1 q h1.bind
  refine ⟨b, rfl, ?_⟩
  have h3 := h2 H1 r1 .refl
  cases b with
  | true => rw [if_pos rfl]; exact h3 H1 r1 .refl _ (.bl true)
  | false => rw [if_neg Bool.false_ne_true]; exact dE.of r1 (h3.mono fun t e2 H2 r2 s2 h4 v q => h4 v (q.less (fun _ z => z) fun a n => s1.back n))
theorem de_not (ha : PE X a (dE c W fa)) : PE X (.UnaryOp .Not a pos) (dE c W (eNo fa)) := PEw (pe_not ha) fun σ H Q h => by
  obtain ⟨env, L, r, h⟩ := dE_iff.mp h
  refine dE.of r (h.bind.mono fun t e1 H1 r1 s1 h1 v q => ?_)
  obtain ⟨b, rfl, h2⟩ := toB_K r1 q h1.bind
  exact ⟨b, rfl, (h2 H1 r1 .refl) H1 r1 .refl _ (.bl _)⟩
theorem de_if {tc : Expr} (hc : PT X tc (dT c W ft)) (ha : PE X a (dE c W fa)) (hb : PE X b (dE c W fb)) : PE X (.IfExp tc a b pos) (dE c W (eIf ft fa fb)) := PEw (pe_ifExp hc ha hb) fun σ H Q h => by
  obtain ⟨env, L, r, h⟩ := dE_iff.mp h
  refine dT.of r (h.bind.mono fun b e1 H1 r1 s1 h1 => ?_)
  cases b with
  | true => rw [if_pos rfl]; exact dE.of r1 (h1.mono fun t e2 H2 r2 s2 h4 v q => h4 v (q.less (fun _ z => z) fun a n => s1.back n))
  | false => rw [if_neg Bool.false_ne_true]; exact dE.of r1 (h1.mono fun t e2 H2 r2 s2 h4 v q => h4 v (q.less (fun _ z => z) fun a n => s1.back n))
theorem d_chain {r r' : R2} {g g' : D → D → Option T} (ho : OpD c r g) (ho' : OpD c r' g') : ∀ σ H Q, dE c W (eCh g g' fa fb fc) σ H Q → tChain r r' (dE c W fa) (dE c W fb) (dE c W fc) σ H Q := fun σ H Q h => by
  obtain ⟨env, L, re, h⟩ := dE_iff.mp h
  refine dE.of re (h.bind.mono fun ta e1 H1 r1 s1 h1 x q1 => ?_)
  refine dE.of r1 (h1.bind.mono fun tb e2 H2 r2 s2 h2 y q2 => ?_)
  have h2 := h2.bind
  refine dK_op2 (W := W) (N1 := fun _ => True) (N2 := fun _ => True) (N := Nn σ env H) ho r2 (fun d e => q1.opr r1 s2 r2 e) (fun d e => q2.opr0 r2 e) (fun a n => s1.back (s2.back n)) (h2.mono fun t e3 H3 r3 s3 h3 z q3 => ?_)
  obtain ⟨b, rfl, h4⟩ := toB_K r3 q3 h3.bind
  refine ⟨b, rfl, ?_⟩
  have h5 := h4 H3 r3 .refl
  cases b with
  | true =>
    rw [if_pos rfl]
    refine dE.of r3 (h5.bind.mono fun tc e4 H4 r4 s4 h6 w q4 => ?_)
    exact dK_op2 (W := W) (N1 := fun _ => True) (N2 := fun _ => True) (N := Nn σ env H) ho' r4 (fun d e => q2.opr r2 (s3.trans s4) r4 e) (fun d e => q4.opr0 r4 e) (fun a n => s1.back (s2.back (s3.back (s4.back n)))) h6
  | false =>
    rw [if_neg Bool.false_ne_true]
    exact h5 H3 r3 .refl _ (.bl false)
theorem de_chain {op op' : CmpOp} {r r' : R2} {g g' : D → D → Option T} (hr : OpR X (compareOp op) r) (ho : OpD c r g) (hr' : OpR X (compareOp op') r') (ho' : OpD c r' g') (ha : PE X a (dE c W fa)) (hb : PE X b (dE c W fb)) (hc : PE X e3 (dE c W fc))
    (hm : lastMarks [op, op'] [b, e3] = false := by with_unfolding_all rfl) : PE X (.Compare a [op, op'] [b, e3] pos) (dE c W (eCh g g' fa fb fc)) := PEw (pe_chain hr hr' ha hb hc hm) (d_chain ho ho')
theorem dt_chain {op op' : CmpOp} {r r' : R2} {g g' : D → D → Option T} (hr : OpR X (compareOp op) r) (ho : OpD c r g) (hr' : OpR X (compareOp op') r') (ho' : OpD c r' g') (ha : PE X a (dE c W fa)) (hb : PE X b (dE c W fb)) (hc : PE X e3 (dE c W fc))
    (hm : lastMarks [op, op'] [b, e3] = false := by with_unfolding_all rfl) : PT X (.Compare a [op, op'] [b, e3] pos) (dT c W (tV (eCh g g' fa fb fc))) := PTw (pt_chain hr hr' ha hb hc hm) fun σ H Q h => d_chain ho ho' σ H _ (d_tB (fa := eCh g g' fa fb fc) σ H Q h)
end
def tNp : En → R (Option Int) := fun env => .ok none env
def toI (t : T) (env : En) : R (Option Int) := match t.val env with
  | some (.int i) => .ok (some i) env
  | _ => .er
@[simp] theorem toI_int (i : Int) (env : En) : toI (.im (.int i)) env = .ok (some i) env := rfl
def tPa (fa : FE) : En → R (Option Int) := fun env => (fa env).bind toI
def dO (c : Cc) (W : WX) (f : En → R (Option Int)) : TO := fun σ H Q => ∃ env L, RE c L σ H env ∧ dK c W L σ H env (f env) fun o _ H' => Q o H'
def cutD (xs : List D) (lo hi : Option Int) : List D := (xs.drop (HT.sIx xs.length 0 lo)).take (HT.sIx xs.length xs.length hi - HT.sIx xs.length 0 lo)
def dSl (d : D) (lo hi : Option Int) : Option T := match d with
  | .tup ds => some (.im (.tup (cutD ds lo hi)))
  | .lst ds => some (.fr (cutD ds lo hi))
  | .str z => if z.length ≤ 1000000 then some (.im (.str (cutS z lo hi))) else none
  | _ => none
def slT (t : T) (lo hi : Option Int) (env : En) : R T := match t.val env with
  | some d => R.opt (dSl d lo hi) env
  | none => .er
@[simp] theorem dSl_tup (ds : List D) (lo hi : Option Int) : dSl (.tup ds) lo hi = some (.im (.tup (cutD ds lo hi))) := rfl
@[simp] theorem dSl_lst (ds : List D) (lo hi : Option Int) : dSl (.lst ds) lo hi = some (.fr (cutD ds lo hi)) := rfl
def eSl (fa : FE) (fl fh : En → R (Option Int)) : FE := fun env => (fa env).bind fun t e1 => (fl e1).bind fun lo e2 => (fh e2).bind fun hi e3 => slT t lo hi e3
section
variable {X : Cx} {c : Cc} {W : WX} {pos p2 : Pos} {a : Expr} {fa : FE} {fl fh : En → R (Option Int)} {lo hi : Option Expr}
theorem do_none : PO X none (dO c W tNp) := ⟨fun pins s σ H Q I h => po_none.run pins s σ H Q I (by obtain ⟨env, L, r, h⟩ := h; exact h H r .refl)⟩
theorem do_some (h : PE X a (dE c W fa)) : PO X (some a) (dO c W (tPa fa)) := ⟨fun pins s σ H Q I q => (po_some h).run pins s σ H Q I (by
  obtain ⟨env, L, r, q⟩ := q
  refine dE.of r (q.bind.mono fun t e1 H1 r1 s1 h1 v q1 => ?_)
  unfold toI at h1
  cases e : t.val e1 with
  | none => rw [e] at h1; exact h1.elim
  | some d =>
    rw [e] at h1
    cases d with
    | int i => exact ⟨i, (q1.opr0 r1 e).int, h1 H1 r1 .refl⟩
    | non => exact h1.elim
    | bl i => exact h1.elim
    | str x => exact h1.elim
    | tup xs => exact h1.elim
    | lst xs => exact h1.elim
    | fz xs => exact h1.elim
    | dct _ _ => exact h1.elim
    | kd _ _ => exact h1.elim)⟩
theorem Reps.cut {K : PySem.W.Frag} {G : Addr → Prop} {H : Hp} {xs : List V} {ds : List D} (r : Reps K G H xs ds) (lo hi : Option Int) : Reps K G H (cutV xs lo hi) (cutD ds lo hi) := by
  unfold cutV cutD
  rw [r.length]
  exact (r.drop _).take _
abbrev rSl (K : PySem.W.Frag) : V → Option Int → Option Int → Hp → VK → Prop := fun x lo hi H Q => rSlA K x lo hi H Q ∨ (rSlL K x lo hi H Q ∨ rSlS x lo hi H Q)
theorem cut_whole {α : Type} (xs : List α) (l h : Nat) (e : l = 0 ∧ h = xs.length) : (xs.drop l).take (h - l) = xs := by
  obtain ⟨rfl, rfl⟩ := e
  simp
theorem de_slice (ha : PE X a (dE c W fa)) (hl : PO X lo (dO c W fl)) (hh : PO X hi (dO c W fh)) (hK : c.K = X.K := by rfl) : PE X (.Subscript a (.Slice lo hi none p2) pos) (dE c W (eSl fa fl fh)) :=
  PEw (pe_slice (r := rSl X.K) (sl_tupA.or (sl_list.or sl_str)) ha hl hh) fun σ H Q h => by
    obtain ⟨env, L, re, h⟩ := dE_iff.mp h
    refine dE.of re (h.bind.mono fun t e1 H1 r1 s1 h1 x q1 => ?_)
    refine ⟨e1, L, r1, h1.bind.mono fun lo e2 H2 r2 s2 h2 => ?_⟩
    refine ⟨e2, L, r2, h2.bind.mono fun hi e3 H3 r3 s3 h3 => ?_⟩
    unfold slT at h3
    cases e : t.val e3 with
    | none => rw [e] at h3; exact h3.elim
    | some d =>
      rw [e] at h3
      have q := q1.opr r1 (s2.trans s3) r3 e
      have kk : ∀ {t'}, R.opt (dSl d lo hi) e3 = .ok t' e3 → ∀ v H', RE c L σ H' e3 → Stp σ e3 H3 σ e3 H' → RepT c L (Nn σ e3 H3) σ H' e3 v t' → Q v H' := fun {t'} eq v H' a b q => by
        dsimp only at h3
        rw [eq] at h3
        exact h3 H' a b v (q.less (fun _ z => z) fun a n => s1.back (s2.back (s3.back n)))
      cases d with
      | tup ds =>
        obtain ⟨a, xs, rfl, h, r⟩ := q.tup
        rw [hK] at h
        refine .inl ⟨a, xs, rfl, h, fun w => ?_, fun w => new_tup r3 (r.cut lo hi) (kk rfl)⟩
        refine kk rfl _ H3 r3 .refl ?_
        have ew : cutD ds lo hi = ds := by
          unfold cutD
          rw [← r.length]
          exact cut_whole ds _ _ (by rw [← r.length]; exact w)
        rw [ew, ← hK] at *
        exact .tup h r
      | lst ds =>
        obtain ⟨a, xs, rfl, h, r⟩ := q.lst
        refine .inr (.inl ⟨a, xs, rfl, .of h, fun p n => ?_⟩)
        obtain ⟨y1, y2, y3⟩ := r3.newL (r.cut lo hi) n
        exact kk rfl _ _ y1 y2 y3
      | non => exact h3.elim
      | bl i => exact h3.elim
      | int i => exact h3.elim
      | str x =>
        dsimp only [dSl] at h3 kk
        by_cases hz : x.length ≤ 1000000
        · rw [if_pos hz] at kk
          exact .inr (.inr ⟨x, q.str, line6 hz, kk rfl _ H3 r3 .refl (.str _)⟩)
        · rw [if_neg hz] at h3
          exact h3.elim
      | fz xs => exact h3.elim
      | dct _ _ => exact h3.elim
      | kd _ _ => exact h3.elim
end
end DL
namespace DL
open PySem PySem.Spec L2
variable [Wd]
theorem own_put {σ : St} {env : En} {i : Nat} {io : Bool} {ds ds' : List D} (e : env[i]? = some (Sl.own io ds)) (b : Addr) : ownM σ (env.set i (.own io ds')) b ↔ ownM σ env b := by
  have hi : i < env.length := (List.getElem?_eq_some_iff.mp e).1
  constructor
  · rintro ⟨j, jo, es, e1, e2⟩
    by_cases q : i = j
    · subst q
      exact ⟨i, io, ds, e, e2⟩
    · rw [List.getElem?_set_ne q] at e1
      exact ⟨j, jo, es, e1, e2⟩
  · rintro ⟨j, jo, es, e1, e2⟩
    by_cases q : i = j
    · subst q
      exact ⟨i, io, ds', by rw [List.getElem?_set_self hi], e2⟩
    · exact ⟨j, jo, es, by rw [List.getElem?_set_ne q]; exact e1, e2⟩
theorem RE.put {c : Cc} {L : Addr → Prop} {σ : St} {H H' : Hp} {env : En} {i : Nat} {io : Bool} {ds ds' : List D} {a : Addr} {xs' : List V} (h : RE c L σ H env) (e : env[i]? = some (Sl.own io ds)) (s : σ[i]? = some (some (V.ref a)))
    (kp : ∀ b o, b ≠ a → H b = some o → H' b = some o) (ea : H' a = some (.lst xs')) (r' : Reps c.K (Av L σ env) H' xs' ds') : RE c L σ H' (env.set i (.own io ds')) ∧ Stp σ env H σ (env.set i (.own io ds')) H' := by
  have hi : i < env.length := (List.getElem?_eq_some_iff.mp e).1
  have ow := own_put (σ := σ) (ds' := ds') e
  have oa : ownM σ env a := ⟨i, io, ds, e, s⟩
  have st : Stp σ env H σ (env.set i (.own io ds')) H' := fun b n => by
    have na : b ≠ a := fun z => n (.inl (by rw [z]; exact oa))
    cases q : H b with
    | none => exact (n (.inr q)).elim
    | some o => exact ⟨kp b o na q, fun z => z.elim (fun z => n (.inl ((ow b).mp z))) fun z => by rw [kp b o na q] at z; cases z⟩
  have av : Av L σ (env.set i (.own io ds')) = Av L σ env := by funext b; simp [Av, ow b]
  obtain ⟨a0, xs0, ea0, _, _, f0, f1⟩ := h.own i io ds e
  rw [s] at ea0
  cases ea0
  refine ⟨⟨by rw [List.length_set]; exact h.len, fun j d q => ?_, fun j jo es q => ?_, fun j k jo ko ds1 es b q1 q2 q3 q4 => ?_, fun b lb => ?_, fun b o n q => ?_, fun b ib => ?_, hd_set h.hd (fun _ z => nomatch z)⟩, st⟩
  · have ne : i ≠ j := fun z => by
      subst z
      rw [List.getElem?_set_self hi] at q
      cases q
    rw [List.getElem?_set_ne ne] at q
    obtain ⟨v, e1, r⟩ := h.im j d q
    exact ⟨v, e1, h.rep st r⟩
  · by_cases ne : i = j
    · subst ne
      rw [List.getElem?_set_self hi] at q
      cases q
      rw [av]
      exact ⟨a, xs', s, ea, r', f0, f1⟩
    · rw [List.getElem?_set_ne ne] at q
      obtain ⟨b, ys, e1, e2, r, z⟩ := h.own j jo es q
      have nb : b ≠ a := fun z => ne (h.inj i j io jo ds es a e q s (by rw [← z]; exact e1))
      exact ⟨b, ys, e1, kp _ _ nb e2, h.reps st r, z⟩
  · have get : ∀ (j : Nat) (jo : Bool) (es : List D), (env.set i (.own io ds'))[j]? = some (Sl.own jo es) → ∃ (jo' : Bool) (es' : List D), env[j]? = some (Sl.own jo' es') := fun j jo es q => by
      by_cases ne : i = j
      · subst ne
        exact ⟨io, ds, e⟩
      · rw [List.getElem?_set_ne ne] at q
        exact ⟨jo, es, q⟩
    obtain ⟨x1, x2, x3⟩ := get j jo ds1 q1
    obtain ⟨y1, y2, y3⟩ := get k ko es q2
    exact h.inj j k x1 y1 x2 y2 b x3 y3 q3 q4
  · obtain ⟨n, ys, q⟩ := h.ext b lb
    exact ⟨fun z => n ((ow b).mp z), ys, kp _ _ (fun z => n (by rw [z]; exact oa)) q⟩
  · refine kp b o (fun z => ?_) (h.fr b o n q)
    subst z
    cases io with
    | true => exact n (f1 rfl).1
    | false => rw [f0 rfl] at q; cases q
  · by_cases z : b = a
    · subst z
      exact ⟨xs', ea⟩
    · exact (h.io b ib).imp fun xs q => kp _ _ z q
theorem RE.mores {c : Cc} {L S : Addr → Prop} {σ : St} {env : En} {H H' : Hp} (h : RE c L σ H env) (k : ∀ b o, H b = some o → H' b = some o) (n : ∀ a, S a → H a = none ∧ ∃ xs, H' a = some (.lst xs)) : RE c (fun b => L b ∨ S b) σ H' env := by
  have no : ∀ b, (∃ o, H b = some o) → ¬ S b := fun b ⟨o, q⟩ z => by rw [(n b z).1] at q; cases q
  have kk : ∀ {v d}, Rep c.K (Av L σ env) H v d → Rep c.K (Av (fun b => L b ∨ S b) σ env) H' v d := fun r =>
    r.mono (h.tk (Stp.grow k)) fun b ys g q => ⟨⟨fun z => z.elim g.1 fun z => no b ⟨_, q⟩ z, g.2⟩, k _ _ q⟩
  have ks : ∀ {v d}, Reps c.K (Av L σ env) H v d → Reps c.K (Av (fun b => L b ∨ S b) σ env) H' v d := fun r =>
    r.mono (h.tk (Stp.grow k)) fun b ys g q => ⟨⟨fun z => z.elim g.1 fun z => no b ⟨_, q⟩ z, g.2⟩, k _ _ q⟩
  refine ⟨h.len, fun i d e => ?_, fun i io ds e => ?_, h.inj, fun b lb => ?_, fun b o n e => k _ _ (h.fr b o n e), fun a i => (h.io a i).imp fun xs e => k _ _ e, h.hd⟩
  · obtain ⟨v, e1, r⟩ := h.im i d e
    exact ⟨v, e1, kk r⟩
  · obtain ⟨a, xs, e1, e2, r, z⟩ := h.own i io ds e
    exact ⟨a, xs, e1, k _ _ e2, ks r, z⟩
  · rcases lb with lb | lb
    · exact ⟨(h.ext b lb).1, (h.ext b lb).2.imp fun xs e => k _ _ e⟩
    · refine ⟨fun ⟨i, io, ds, e1, e2⟩ => ?_, (n b lb).2⟩
      obtain ⟨a', ys, e3, e4, _⟩ := h.own i io ds e1
      rw [e2] at e3
      cases e3
      rw [(n b lb).1] at e4
      cases e4
theorem RE.h0 {c : Cc} {L : Addr → Prop} {σ : St} {H : Hp} {env : En} (re : RE c L σ H env) {p : Addr} (n : H p = none) : c.H0 p = none := by
  cases e : c.H0 p with
  | none => rfl
  | some o =>
    by_cases i : c.Io p
    · obtain ⟨ys, q⟩ := re.io p i
      rw [n] at q
      cases q
    · have q := re.fr p o i e
      rw [n] at q
      cases q

abbrev FD := En → R T
abbrev cc0 (K : PySem.W.Frag) (mg : Str → Option Value) (H : Hp) (vs : List V) (env : En) : Cc := ⟨K, mg, H, ownM (vs.map some) env, vs⟩
def spD (K : PySem.W.Frag) (mg : Str → Option Value) (g : FD) : Sp := fun vs H Q E => ∃ env L, RE (cc0 K mg H vs env) L (vs.map some) H env ∧ match g env with
  | .er => False
  | .ex x out => ∀ H', RE (cc0 K mg H vs env) L (vs.map some) H' out → ∀ C, mg x = some (.ref C) → E (.ref C) none H'
  | .ok t out => ∀ v H', RE (cc0 K mg H vs env) L (vs.map some) H' out → RepT (cc0 K mg H vs env) L (fun a => H a = none) (vs.map some) H' out v t → Q v H'

def isAl : T → Bool
  | .al _ => true
  | _ => false
def flatC (c : Cp) : Bool := match c.fr, c.d with
  | true, .lst ds => D.flats ds
  | _, d => D.flat d
def flatT : T → Bool
  | .im d => D.flat d
  | .fr ds => D.flats ds
  | .ft cs => cs.all flatC
  | .al _ => false
def callT (g : FD) (ts : List T) (e : En) : R T := match vals e ts with
  | none => .er
  | some ds => match g (ds.map .im) with
    | .er => .er
    | .ex x _ => .ex x e
    | .ok t _ => if isAl t = false ∧ (ts.any isAl = false ∨ flatT t = true) then .ok t e else .er
def eCall (g : FD) (fa : FA) : FE := fun env => (fa env).bind fun ts e1 => callT g ts e1
section
variable {c : Cc} {L : Addr → Prop} {σ : St} {H : Hp} {env : En}
theorem RepAs.args {G G' : Addr → Prop} (g : ∀ b, G b → G' b) (ra : RE c L σ H env) (gl : ∀ b, Av L σ env b → G' b) : ∀ {As vs ts ds}, RepAs c.K G σ H env As vs ts → (∀ a ∈ As, G' a) → (ts.any isAl = false ∨ ∀ b, ownM σ env b → G' b) → vals env ts = some ds → Reps c.K G' H vs ds
  | _, _, _, ds, .nil, _, _, e => by cases e; exact .nil
  | _, _, _, ds, .im (ts := ts) r rs, n, hal, e => by
    simp only [vals, val_im] at e
    cases q : vals env ts with
    | none => rw [q] at e; cases e
    | some es =>
      rw [q] at e
      cases e
      exact .cons (r.mono (.refl H) fun b xs gb e => ⟨g b gb, e⟩) (RepAs.args g ra gl rs n (hal.imp (fun z => by simpa [isAl] using z) id) q)
  | _, _, _, ds, .fr (ts := ts) na ea r rs, n, hal, e => by
    simp only [vals, val_fr] at e
    cases q : vals env ts with
    | none => rw [q] at e; cases e
    | some es =>
      rw [q] at e
      cases e
      exact .cons (.lst (n _ List.mem_cons_self) ea (r.mono (.refl H) fun b xs gb e => ⟨g b gb, e⟩)) (RepAs.args g ra gl rs (fun b z => n b (List.mem_cons_of_mem _ z)) (hal.imp (fun z => by simpa [isAl] using z) id) q)
  | _, _, _, ds, .al (i := i) (ts := ts) o es rs, n, hal, e => by
    have hal : ∀ b, ownM σ env b → G' b := hal.elim (fun z => by simp [isAl] at z) id
    obtain ⟨io, es', eo⟩ := o
    have ev : (T.al i).val env = some (.lst es') := by simp [T.val, eo]
    simp only [vals, ev] at e
    cases q : vals env ts with
    | none => rw [q] at e; cases e
    | some fs =>
      rw [q] at e
      cases e
      obtain ⟨a, xs, e3, e4, r5, _⟩ := ra.own i io es' eo
      rw [es] at e3
      cases e3
      exact .cons (.lst (hal _ ⟨i, io, es', eo, es⟩) e4 (r5.mono (.refl H) fun b xs gb e => ⟨gl b gb, e⟩)) (RepAs.args g ra gl rs n (.inr hal) q)
theorem get_im {ds : List D} {i : Nat} {s : Sl} (h : (ds.map Sl.im)[i]? = some s) : ∃ d, ds[i]? = some d ∧ s = .im d := by
  rw [List.getElem?_map] at h
  cases q : ds[i]? with
  | none => rw [q] at h; cases h
  | some d => rw [q] at h; cases h; exact ⟨d, rfl, rfl⟩
theorem no_own_im {σ : St} {ds : List D} (b : Addr) : ¬ ownM σ (ds.map Sl.im) b := fun ⟨i, io, es, e1, _⟩ => by
  obtain ⟨d, _, e⟩ := get_im e1
  cases e
theorem RE.enter {K : PySem.W.Frag} {mg : Str → Option Value} {vs : List V} {ds : List D} {L' : Addr → Prop} (r : Reps K (fun b => ¬ L' b) H vs ds) (ext : ∀ a, L' a → ∃ xs, H a = some (.lst xs)) : RE (cc0 K mg H vs (ds.map .im)) L' (vs.map some) H (ds.map .im) where
  len := by rw [List.length_map, List.length_map, r.length]
  im := fun i d e => by
    obtain ⟨d', e1, e2⟩ := get_im e
    cases e2
    obtain ⟨v, e3, q⟩ := r.get e1
    exact ⟨v, by rw [List.getElem?_map, e3]; rfl, q.mono (.refl H) fun a xs g e => ⟨⟨g, no_own_im a⟩, e⟩⟩
  own := fun i io es e => by
    obtain ⟨d', _, e2⟩ := get_im e
    cases e2
  inj := fun i j io jo es fs a e => by
    obtain ⟨d', _, e2⟩ := get_im e
    cases e2
  ext := fun a la => ⟨no_own_im a, ext a la⟩
  fr := fun b o _ e => e
  io := fun a z => (no_own_im a z).elim
  hd := fun i a e => by
    obtain ⟨d', _, e2⟩ := get_im e
    cases e2
theorem RepC.flat {K : PySem.W.Frag} {G G' : Addr → Prop} {H : Hp} : ∀ {As vs cs}, RepC K G H As vs cs → flatT (.ft cs) = true → RepC K G' H As vs cs
  | _, _, _, .nil, _ => .nil
  | _, _, _, .im (d := d) r rs, f => by
    simp only [flatT, List.all_cons, Bool.and_eq_true] at f
    exact .im (r.flat f.1) (RepC.flat rs f.2)
  | _, _, _, .fr n e r rs, f => by
    simp only [flatT, List.all_cons, Bool.and_eq_true] at f
    exact .fr n e (r.flats f.1) (RepC.flat rs f.2)
theorem RepT.home {c0 : Cc} {L' : Addr → Prop} {σ0 : St} {H1 H' : Hp} {out env' : En} {v : V} {t : T} (h : RepT c0 L' (fun a => H1 a = none) σ0 H' out v t) (hc : c0.K = c.K) (na : ∀ i, t ≠ .al i) (hL : ∀ a, L a → L' a)
    (fl : flatT t = true ∨ ∀ a, ownM σ env' a → L' a ∨ ownM σ0 out a) (re : ∀ S : Addr → Prop, RE c0 (fun b => L' b ∨ S b) σ0 H' out → (∀ a, S a → H1 a = none ∧ ∃ xs, H' a = some (.lst xs)) → RE c (fun b => L b ∨ S b) σ H' env') (h0 : ∀ a, H1 a = none → c.H0 a = none) :
    RepT c L (fun a => H1 a = none) σ H' env' v t := by
  cases t with
  | al i => exact (na i rfl).elim
  | im d =>
    have h : Rep c0.K (Av L' σ0 out) H' v d := h
    rw [hc] at h
    rcases fl with f | f
    · exact h.flat f
    · exact h.mono (.refl H') fun a xs g e => ⟨⟨fun z => g.1 (hL a z), fun z => (f a z).elim g.1 g.2⟩, e⟩
  | fr ds =>
    obtain ⟨a, xs, e, e1, r, n1, n2, n3, q⟩ := h
    rw [hc] at r
    have rr := re (fun b => b = a) q fun b z => by subst z; exact ⟨n3, _, e1⟩
    refine ⟨a, xs, e, e1, ?_, fun z => n1 (hL a z), h0 a n3, n3, rr⟩
    rcases fl with f | f
    · exact r.flats f
    · exact r.mono (.refl H') fun b ys g e => ⟨⟨fun z => g.1 (z.imp (hL b) id), fun z => (f b z).elim (fun y => g.1 (.inl y)) g.2⟩, e⟩
  | ft cs =>
    obtain ⟨tt, vs, As, e, e1, r, n1, q⟩ := h
    rw [hc] at r e1
    have rr := re (fun b => b ∈ As) q fun b z => ⟨(n1 b z).2.2, r.in b z⟩
    refine ⟨tt, vs, As, e, e1, ?_, fun a z => ⟨fun y => (n1 a z).1 (hL a y), h0 a (n1 a z).2.2, (n1 a z).2.2⟩, rr⟩
    rcases fl with f | f
    · exact r.flat f
    · exact r.mono (.refl H') (fun b ys g e => ⟨⟨fun z => g.1 (z.imp (hL b) id), fun z => (f b z).elim (fun y => g.1 (.inl y)) g.2⟩, e⟩) fun _ _ _ e => e
end
section
variable {X : Cx} {c : Cc} {W : WX} {pos p : Pos} {x : Str} {e : Expr} {es : List Expr} {fa : FA} {g : FD} {k : Nat} {f : Addr} {fd : FuncData} {ps : List Str}
theorem d_call : ∀ σ H Q, dE c W (eCall g fa) σ H Q → tCallS (spD c.K c.mg g) (WE W) (dA c W fa) σ H Q := fun σ H Q h => by
  obtain ⟨env, L, re, h⟩ := dE_iff.mp h
  refine dA.of re (h.bind.mono fun ts e1 H1 r1 s1 h1 vs As q n r2 => ?_)
  unfold callT at h1
  cases ev : vals e1 ts with
  | none => rw [ev] at h1; exact h1.elim
  | some ds =>
    rw [ev] at h1
    dsimp only at h1
    -- what the callee must keep off
    obtain ⟨L', hL, hown, hrep, hext⟩ : ∃ L' : Addr → Prop, (∀ a, L a → L' a) ∧ (ts.any isAl = false → ∀ a, ownM σ e1 a → L' a) ∧ Reps c.K (fun b => ¬ L' b) H1 vs ds ∧ (∀ a, L' a → ∃ xs, H1 a = some (.lst xs)) := by
      by_cases na : ts.any isAl = false
      · refine ⟨fun a => L a ∨ ownM σ e1 a, fun a z => .inl z, fun _ a z => .inr z, q.args (G' := fun b => ¬ (L b ∨ ownM σ e1 b)) (fun b gb z => z.elim (fun z => gb.1 (.inl z)) gb.2) r1 (fun b gb z => z.elim gb.1 gb.2) (fun a z y => y.elim (n a z).1 (r2.ext a (.inr z)).1) (.inl na) ev, fun a z => ?_⟩
        rcases z with z | ⟨i, io, es, e1', e2'⟩
        · exact (r1.ext a z).2
        · obtain ⟨b, xs, e3, e4, _⟩ := r1.own i io es e1'
          rw [e2'] at e3
          cases e3
          exact ⟨xs, e4⟩
      · exact ⟨L, fun a z => z, fun z => (na z).elim, q.args (G' := fun b => ¬ L b) (fun b gb z => gb.1 (.inl z)) r1 (fun b gb => gb.1) (fun a z => (n a z).1) (.inr fun b ob z => (r1.ext b z).1 ob) ev, fun a z => (r1.ext a z).2⟩
    refine ⟨ds.map .im, L', RE.enter hrep hext, ?_⟩
    have grow : ∀ {H' : Hp} {out : En}, RE (cc0 c.K c.mg H1 vs (ds.map .im)) L' (vs.map some) H' out → ∀ b o, H1 b = some o → H' b = some o := fun {H' out} r b o e => r.fr b o (no_own_im b) e
    cases eg : g (ds.map .im) with
    | er => rw [eg] at h1; exact h1.elim
    | ex y out =>
      rw [eg] at h1
      exact fun H' rr C hC => h1 H' (r1.grow (grow rr)) (.grow (grow rr)) C hC
    | ok t out =>
      rw [eg] at h1
      dsimp only at h1
      split at h1
      · rename_i fl
        intro v H' rr qt
        have kp := grow rr
        have na : ∀ i, t ≠ .al i := fun i z => by
          subst z
          cases fl.1
        refine h1 H' (r1.grow kp) (.grow kp) v ?_
        have fl' : flatT t = true ∨ ∀ a, ownM σ e1 a → L' a ∨ ownM (vs.map some) out a := fl.2.elim (fun z => .inr fun a oa => .inl (hown z a oa)) .inl
        exact (qt.home (c := c) rfl na hL fl' (fun S _ hS => r1.mores kp hS) (fun a z => r1.h0 z)).less (fun _ z => z) fun a z => s1.back (.inr z)
      · exact h1.elim
theorem de_call (F : FnOk X.prog X.w X.K X.mg X.base (L2.CX X.prog X.w) k f fd ps (spD X.K X.mg g)) (hr : Room k X.A) (hg : Gl X x) (hm : X.mg x = some (.ref f)) (hk : PySem.W.keepIn X.K (.ref f) = true) (hb : Binds X.K fd ps []) (tk : Takes X W)
    (ha : PA X (e :: es) (dA c W fa)) (hK : c.K = X.K := by rfl) (hM : c.mg = X.mg := by rfl) (hdb : (x == ("__debug__" : Str)) = false := by decide) (he : starEach (e :: es) X.env = (false, eval e X.env) :: starEach es X.env := by rfl) (hpl : (backTo pos (starEach es X.env)).any (·.1) = false := by rfl) :
    PE X (.Call (.Name x p) (e :: es) [] pos) (dE c W (eCall g fa)) :=
  PEw (pe_callS F hr hg hm hk hb (fun σ => passAt tk σ) ha hdb he hpl) (by rw [← hK, ← hM]; exact d_call)
end
def argE : Option Nat → List T → En → Option En
  | _, [], _ => some []
  | some 0, t :: ts, e => match t with
    | .al i => match e[i]?, argE none ts e with
      | some (.own _ ds), some r => some (.own true ds :: r)
      | _, _ => none
    | _ => none
  | some (k + 1), t :: ts, e => match t.val e, argE (some k) ts e with
    | some d, some r => some (.im d :: r)
    | _, _ => none
  | none, t :: ts, e => match t.val e, argE none ts e with
    | some d, some r => some (.im d :: r)
    | _, _ => none
theorem argE_hd : ∀ {k : Option Nat} {ts : List T} {e r : En}, argE k ts e = some r → ∀ (j : Nat) (a : Addr), r[j]? ≠ some (.hd a)
  | k, [], e, r, h, j, a => by
    have h : some ([] : En) = some r := by cases k with
      | none => exact h
      | some k => cases k <;> exact h
    cases h
    intro z
    simp at z
  | some 0, t :: ts, e, r, h, j, a => by
    unfold argE at h
    cases t with
    | al i =>
      dsimp only at h
      split at h
      · rename_i ds r' e1 e2
        cases h
        cases j with
        | zero => exact fun z => by cases z
        | succ j => exact argE_hd e2 j a
      · cases h
    | im d => cases h
    | fr d => cases h
    | ft d => cases h
  | some (k + 1), t :: ts, e, r, h, j, a => by
    unfold argE at h
    split at h
    · rename_i d r' e1 e2
      cases h
      cases j with
      | zero => exact fun z => by cases z
      | succ j => exact argE_hd e2 j a
    · cases h
  | none, t :: ts, e, r, h, j, a => by
    unfold argE at h
    split at h
    · rename_i d r' e1 e2
      cases h
      cases j with
      | zero => exact fun z => by cases z
      | succ j => exact argE_hd e2 j a
    · cases h
def isAli (i : Nat) : T → Bool
  | .al j => i == j
  | _ => false
def others : Option Nat → List T → List T
  | _, [] => []
  | some 0, _ :: ts => ts
  | some (k + 1), t :: ts => t :: others (some k) ts
  | none, t :: ts => t :: ts
def callI (k : Nat) (g : FD) (ts : List T) (e : En) : R T := match ts[k]? with
  | some (.al i) => match e[i]?, argE (some k) ts e with
    | some (.own b ds), some env0 => match g env0 with
      | .er => .er
      | .ex x out => match out[k]? with
        | some (.own true ds') => if (others (some k) ts).any (isAli i) = false ∧ ((others (some k) ts).any isAl = false ∨ D.flats ds' = true) then .ex x (e.set i (.own b ds')) else .er
        | _ => .er
      | .ok t out => match out[k]? with
        | some (.own true ds') => if isAl t = false ∧ (others (some k) ts).any (isAli i) = false ∧ ((others (some k) ts).any isAl = false ∨ (flatT t = true ∧ D.flats ds' = true)) then .ok t (e.set i (.own b ds')) else .er
        | _ => .er
    | _, _ => .er
  | _ => .er
def eCallI (k : Nat) (g : FD) (fa : FA) : FE := fun env => (fa env).bind fun ts e1 => callI k g ts e1
section
variable {c : Cc} {L : Addr → Prop} {σ : St} {H : Hp} {env : En}
theorem RepAs.uncons {K : PySem.W.Frag} {G : Addr → Prop} {As : List Addr} {vs : List V} {t : T} {ts : List T} (h : RepAs K G σ H env As vs (t :: ts)) : ∃ v vs' As', vs = v :: vs' ∧ RepAs K G σ H env As' vs' ts ∧ (∀ b ∈ As', b ∈ As) ∧
    ((∃ d, t = .im d ∧ Rep K G H v d) ∨ (∃ i, t = .al i ∧ (∃ (io : Bool) (ds : List D), env[i]? = some (Sl.own io ds)) ∧ σ[i]? = some (some v)) ∨ (∃ a xs ds, t = .fr ds ∧ v = .ref a ∧ a ∈ As ∧ H a = some (.lst xs) ∧ Reps K G H xs ds)) := by
  cases h with
  | im r rs => exact ⟨_, _, _, rfl, rs, fun _ z => z, .inl ⟨_, rfl, r⟩⟩
  | al o e rs => exact ⟨_, _, _, rfl, rs, fun _ z => z, .inr (.inl ⟨_, rfl, o, e⟩)⟩
  | fr n e r rs => exact ⟨_, _, _, rfl, rs, fun _ z => List.mem_cons_of_mem _ z, .inr (.inr ⟨_, _, _, rfl, rfl, List.mem_cons_self, e, r⟩)⟩
theorem RepAs.argE {As0 : List Addr} {G' : Addr → Prop} {a : Addr} {i : Nat} {bi : Bool} {di : List D} (g : ∀ b, Av (Lu L As0) σ env b → G' b) (ra : RE c L σ H env) (gl : ∀ b, Av L σ env b → G' b) (si : σ[i]? = some (some (V.ref a))) (ei : env[i]? = some (Sl.own bi di)) :
    ∀ (ts : List T) (o : Option Nat) {As vs env0}, RepAs c.K (Av (Lu L As0) σ env) σ H env As vs ts → (∀ b ∈ As, G' b) →
    ((others o ts).any isAl = false ∨ ∀ b, ownM σ env b → b ≠ a → G' b) → (others o ts).any (isAli i) = false → (∀ k, o = some k → ts[k]? = some (T.al i)) → DL.argE o ts env = some env0 →
    env0.length = vs.length ∧ (∀ k, o = some k → vs[k]? = some (.ref a) ∧ env0[k]? = some (Sl.own true di)) ∧ (∀ (j : Nat) (d : D), env0[j]? = some (Sl.im d) → ∃ v, vs[j]? = some v ∧ Rep c.K G' H v d) ∧ (∀ (j : Nat) (io : Bool) (ds : List D), env0[j]? = some (Sl.own io ds) → o = some j ∧ io = true ∧ ds = di)
  | [], o, As, vs, env0, h, _, _, _, e, h2 => by
    cases h
    have : env0 = [] := by
      unfold DL.argE at h2
      exact (Option.some.inj h2).symm
    subst this
    exact ⟨rfl, fun k z => by simpa using e k z, fun j d z => by simp at z, fun j io ds z => by simp at z⟩
  | t :: ts, o, As, vs, env0, h, n, hal, hi, e, h2 => by
    obtain ⟨v, vs', As', rfl, rs, sub, hd⟩ := h.uncons
    -- a head that is not the list to be changed
    have reg : ∀ d, t.val env = some d → (isAl t = false ∨ ∀ b, ownM σ env b → b ≠ a → G' b) → isAli i t = false → Rep c.K G' H v d := fun d ev ha hb => by
      rcases hd with ⟨d', rfl, r⟩ | ⟨j, rfl, ⟨io, ds, eo⟩, es⟩ | ⟨b, xs, ds, rfl, rfl, hm, eb, r⟩
      · cases ev
        exact r.mono (.refl H) fun b xs gb e => ⟨g b gb, e⟩
      · have ev' : (T.al j).val env = some (.lst ds) := by simp [T.val, eo]
        rw [ev'] at ev
        cases ev
        obtain ⟨b, xs, e3, e4, r5, _⟩ := ra.own j io ds eo
        rw [es] at e3
        cases e3
        have ha := ha.elim (fun z => by cases z) id
        refine .lst (ha b ⟨j, io, ds, eo, es⟩ fun z => ?_) e4 (r5.mono (.refl H) fun b xs gb e => ⟨gl b gb, e⟩)
        subst z
        have : i = j := ra.inj i j bi io di ds b ei eo si es
        subst this
        simp [isAli] at hb
      · cases ev
        exact .lst (n b hm) eb (r.mono (.refl H) fun b xs gb e => ⟨g b gb, e⟩)
    have n' : ∀ b ∈ As', G' b := fun b z => n b (sub b z)
    cases o with
    | none =>
      unfold DL.argE at h2
      simp only [others] at hal hi
      have hal1 : isAl t = false ∨ ∀ b, ownM σ env b → b ≠ a → G' b := hal.imp (fun z => by simp at z; exact z.1) id
      have hal2 : (others none ts).any isAl = false ∨ ∀ b, ownM σ env b → b ≠ a → G' b := hal.imp (fun z => by cases ts <;> simp_all [others]) id
      have hi2 : (others none ts).any (isAli i) = false := by cases ts <;> simp_all [others]
      cases q1 : t.val env with
      | none => rw [q1] at h2; simp at h2
      | some d =>
        cases q2 : DL.argE none ts env with
        | none => rw [q1, q2] at h2; simp at h2
        | some r =>
          rw [q1, q2] at h2
          cases h2
          obtain ⟨y1, y2, y3, y4⟩ := RepAs.argE g ra gl si ei ts none rs n' hal2 hi2 (fun k z => nomatch z) q2
          refine ⟨by rw [List.length_cons, List.length_cons, y1], (fun k z => nomatch z), fun j d' z => ?_, fun j io ds z => ?_⟩
          · cases j with
            | zero => simp at z; subst z; exact ⟨v, rfl, reg d q1 hal1 (by simp at hi; exact hi.1)⟩
            | succ j => simpa using y3 j d' (by simpa using z)
          · cases j with
            | zero => simp at z
            | succ j => have q := y4 j io ds (by simpa using z); cases q.1
    | some k =>
      cases k with
      | zero =>
        have et : t = T.al i := by simpa using e 0 rfl
        subst et
        unfold DL.argE at h2
        simp only [others] at hal hi
        have hal2 : (others none ts).any isAl = false ∨ ∀ b, ownM σ env b → b ≠ a → G' b := hal.imp (fun z => by cases ts <;> simp_all [others]) id
        have hi2 : (others none ts).any (isAli i) = false := by cases ts <;> simp_all [others]
        cases q2 : DL.argE none ts env with
        | none => simp only [ei, q2] at h2; cases h2
        | some r =>
          simp only [ei, q2] at h2
          cases h2
          obtain ⟨y1, y2, y3, y4⟩ := RepAs.argE g ra gl si ei ts none rs n' hal2 hi2 (fun k z => nomatch z) q2
          have ev : v = .ref a := by
            rcases hd with ⟨d', z, r⟩ | ⟨j, z, _, es⟩ | ⟨b, xs, ds, z, _⟩
            · cases z
            · cases z
              rw [si] at es
              cases es
              rfl
            · cases z
          refine ⟨by rw [List.length_cons, List.length_cons, y1], (fun k z => by cases z; exact ⟨by rw [ev]; rfl, rfl⟩), fun j d' z => ?_, fun j io ds z => ?_⟩
          · cases j with
            | zero => simp at z
            | succ j => simpa using y3 j d' (by simpa using z)
          · cases j with
            | zero => simp at z; exact ⟨rfl, by simp_all, by simp_all⟩
            | succ j => have q := y4 j io ds (by simpa using z); cases q.1
      | succ k =>
        unfold DL.argE at h2
        simp only [others] at hal hi
        have hal1 : isAl t = false ∨ ∀ b, ownM σ env b → b ≠ a → G' b := hal.imp (fun z => by simp at z; exact z.1) id
        have hal2 : (others (some k) ts).any isAl = false ∨ ∀ b, ownM σ env b → b ≠ a → G' b := hal.imp (fun z => by simp at z; simpa using z.2) id
        have hi2 : (others (some k) ts).any (isAli i) = false := by simp at hi; simpa using hi.2
        cases q1 : t.val env with
        | none => rw [q1] at h2; simp at h2
        | some d =>
          cases q2 : DL.argE (some k) ts env with
          | none => rw [q1, q2] at h2; simp at h2
          | some r =>
            rw [q1, q2] at h2
            cases h2
            obtain ⟨y1, y2, y3, y4⟩ := RepAs.argE g ra gl si ei ts (some k) rs n' hal2 hi2 (fun k' z => by cases z; simpa using e _ rfl) q2
            refine ⟨by rw [List.length_cons, List.length_cons, y1], (fun k' z => by cases z; simpa using y2 k rfl), fun j d' z => ?_, fun j io ds z => ?_⟩
            · cases j with
              | zero => simp at z; subst z; exact ⟨v, rfl, reg d q1 hal1 (by simp at hi; exact hi.1)⟩
              | succ j => simpa using y3 j d' (by simpa using z)
            · cases j with
              | zero => simp at z
              | succ j =>
                have q := y4 j io ds (by simpa using z)
                exact ⟨by cases q.1; rfl, q.2⟩
end
section
variable {X : Cx} {c : Cc} {W : WX} {pos p : Pos} {x : Str} {e : Expr} {es : List Expr} {fa : FA} {g : FD} {k kk : Nat} {f : Addr} {fd : FuncData} {ps : List Str}
theorem d_callI : ∀ σ H Q, dE c W (eCallI kk g fa) σ H Q → tCallS (spD c.K c.mg g) (WE W) (dA c W fa) σ H Q := fun σ H Q h => by
  obtain ⟨env, L, re, h⟩ := dE_iff.mp h
  refine dA.of re (h.bind.mono fun ts e1 H1 r1 s1 h1 vs As q n r2 => ?_)
  unfold callI at h1
  cases et : ts[kk]? with
  | none => simp only [et] at h1; exact h1.elim
  | some tt =>
    cases tt with
    | im d => simp only [et] at h1; exact h1.elim
    | fr d => simp only [et] at h1; exact h1.elim
    | ft d => simp only [et] at h1; exact h1.elim
    | al i =>
      cases ei : e1[i]? with
      | none => simp only [et, ei] at h1; exact h1.elim
      | some s =>
        cases s with
        | no => simp only [et, ei] at h1; exact h1.elim
        | hd _ => simp only [et, ei] at h1; exact h1.elim
        | im d => simp only [et, ei] at h1; exact h1.elim
        | own bi di =>
          cases ev : argE (some kk) ts e1 with
          | none => simp only [et, ei, ev] at h1; exact h1.elim
          | some env0 =>
            simp only [et, ei, ev] at h1
            obtain ⟨a, xs, si, ea, ra, f0, f1⟩ := r1.own i bi di ei
            have oa : ownM σ e1 a := ⟨i, bi, di, ei, si⟩
            by_cases hi : (others (some kk) ts).any (isAli i) = false
            case neg =>
              exfalso
              cases eg : g env0 with
              | er => rw [eg] at h1; exact h1
              | ex y out =>
                rw [eg] at h1
                dsimp only at h1
                split at h1
                · rw [if_neg (fun z => hi z.1)] at h1
                  exact h1
                · exact h1
              | ok t out =>
                rw [eg] at h1
                dsimp only at h1
                split at h1
                · rw [if_neg (fun z => hi z.2.1)] at h1
                  exact h1
                · exact h1
            -- what the callee must keep off
            obtain ⟨L', hL, hown, hLo, harg⟩ : ∃ L' : Addr → Prop, (∀ a, L a → L' a) ∧ ((others (some kk) ts).any isAl = false → ∀ b, ownM σ e1 b → b ≠ a → L' b) ∧ (∀ b, L' b → L b ∨ (ownM σ e1 b ∧ b ≠ a)) ∧
                ((others (some kk) ts).any isAl = false ∨ ∀ b, ownM σ e1 b → b ≠ a → ¬ L' b ∧ b ≠ a) := by
              by_cases na : (others (some kk) ts).any isAl = false
              · exact ⟨fun b => L b ∨ (ownM σ e1 b ∧ b ≠ a), fun a z => .inl z, fun _ b o ne => .inr ⟨o, ne⟩, fun b z => z, .inl na⟩
              · exact ⟨L, fun a z => z, fun z => (na z).elim, fun b z => .inl z, .inr fun b o ne => ⟨fun z => (r1.ext b z).1 o, ne⟩⟩
            have nL : ∀ b, Av L σ e1 b → ¬ L' b ∧ b ≠ a := fun b g => ⟨fun z => (hLo b z).elim g.1 fun z => g.2 z.1, fun z => g.2 (by rw [z]; exact oa)⟩
            obtain ⟨y1, y2, y3, y4⟩ := RepAs.argE (G' := fun b => ¬ L' b ∧ b ≠ a) (fun b g => nL b ⟨fun z => g.1 (.inl z), g.2⟩) r1 nL si ei ts (some kk) q (fun b z => ⟨fun y => (hLo b y).elim (n b z).1 fun y => (r2.ext b (.inr z)).1 y.1, fun y => (r2.ext b (.inr z)).1 (by rw [y]; exact oa)⟩) harg hi
              (fun k' z => by cases z; exact et) ev
            obtain ⟨vk, ek⟩ := y2 kk rfl
            have ovs : ∀ b, ownM (vs.map some) env0 b ↔ b = a := fun b => by
              constructor
              · rintro ⟨j, io, ds, e1', e2'⟩
                obtain ⟨z1, _, _⟩ := y4 j io ds e1'
                cases z1
                rw [List.getElem?_map, vk] at e2'
                cases e2'
                rfl
              · rintro rfl
                exact ⟨kk, true, di, ek, by rw [List.getElem?_map, vk]; rfl⟩
            have enter : RE (cc0 c.K c.mg H1 vs env0) L' (vs.map some) H1 env0 := by
              refine ⟨by rw [y1, List.length_map], fun j d z => ?_, fun j io ds z => ?_, fun j j' io jo ds es b z1 z2 _ _ => ?_, fun b lb => ⟨fun z => ?_, ?_⟩, fun b o _ e => e, fun b ib => ?_, fun j b z => (argE_hd ev j b z).elim⟩
              · obtain ⟨v, ev', r⟩ := y3 j d z
                exact ⟨v, by rw [List.getElem?_map, ev']; rfl, r.mono (.refl H1) fun b ys g e => ⟨⟨g.1, fun z => g.2 ((ovs b).mp z)⟩, e⟩⟩
              · obtain ⟨z1, z2, z3⟩ := y4 j io ds z
                cases z1
                subst z2 z3
                exact ⟨a, xs, by rw [List.getElem?_map, vk]; rfl, ea, ra.mono (.refl H1) fun b ys g e => ⟨⟨(nL b g).1, fun z => (nL b g).2 ((ovs b).mp z)⟩, e⟩, (fun z => nomatch z), fun _ => ⟨(ovs a).mpr rfl, vk⟩⟩
              · have w1 := (y4 j io ds z1).1
                have w2 := (y4 j' jo es z2).1
                rw [w1] at w2
                exact Option.some.inj w2
              · have := (ovs b).mp z
                subst this
                exact (hLo b lb).elim (fun z => (r1.ext b z).1 oa) fun z => z.2 rfl
              · rcases hLo b lb with z | ⟨⟨j, io, ds, e1', e2'⟩, _⟩
                · exact (r1.ext b z).2
                · obtain ⟨b', ys, e3, e4, _⟩ := r1.own j io ds e1'
                  rw [e2'] at e3
                  cases e3
                  exact ⟨ys, e4⟩
              · have := (ovs b).mp ib
                subst this
                exact ⟨xs, ea⟩
            refine ⟨env0, L', enter, ?_⟩
            -- behind the call
            have back : ∀ {H' : Hp} {out : En} {ds' : List D} {S : Addr → Prop}, RE (cc0 c.K c.mg H1 vs env0) (fun b => L' b ∨ S b) (vs.map some) H' out → out[kk]? = some (Sl.own true ds') → ((others (some kk) ts).any isAl = false ∨ D.flats ds' = true) →
                (∀ b, S b → H1 b = none ∧ ∃ xs, H' b = some (.lst xs)) → RE c (fun b => L b ∨ S b) σ H' (e1.set i (.own bi ds')) ∧ Stp σ e1 H1 σ (e1.set i (.own bi ds')) H' := fun {H' out ds' S} rr eo fl hS => by
              obtain ⟨a', xs', e3, e4, r5, _⟩ := rr.own kk true ds' eo
              rw [List.getElem?_map, vk] at e3
              cases e3
              have kp : ∀ b o, b ≠ a → H1 b = some o → H' b = some o := fun b o ne e => rr.fr b o (fun z => ne ((ovs b).mp z)) e
              have Sa : ¬ S a := fun z => by rw [(hS a z).1] at ea; cases ea
              have ox : ownM (vs.map some) out a := ⟨kk, true, ds', eo, by rw [List.getElem?_map, vk]; rfl⟩
              have r6 : Reps c.K (Av (fun b => L b ∨ S b) σ e1) H' xs' ds' := by
                rcases fl with fl | fl
                · refine r5.mono (.refl H') fun b ys g e => ⟨⟨fun z => g.1 (z.imp (hL b) id), fun z => ?_⟩, e⟩
                  by_cases ne : b = a
                  · subst ne
                    exact g.2 ox
                  · exact g.1 (.inl (hown fl b z ne))
                · exact r5.flats fl
              -- by a heap between
              let Hx : Hp := fun b => if b = a then H1 a else H' b
              have hx : ∀ b, b ≠ a → Hx b = H' b := fun b ne => if_neg ne
              have hxa : Hx a = H1 a := if_pos rfl
              have rx : RE c (fun b => L b ∨ S b) σ Hx e1 := r1.mores (fun b o e => by
                by_cases ne : b = a
                · subst ne
                  exact hxa.trans e
                · exact (hx b ne).trans (kp b o ne e)) fun b sb => ⟨(hS b sb).1, by
                  rw [hx b fun z => Sa (by rw [← z]; exact sb)]
                  exact (hS b sb).2⟩
              obtain ⟨q1, q2⟩ := rx.put ei si (fun b o ne e => (hx b ne).symm.trans e) e4 r6
              refine ⟨q1, Stp.trans (fun b nb => ?_) q2⟩
              have ne : b ≠ a := fun z => nb (.inl (by rw [z]; exact oa))
              cases e : H1 b with
              | none => exact (nb (.inr e)).elim
              | some o => exact ⟨(hx b ne).trans (kp b o ne e), fun z => z.elim (fun z => nb (.inl z)) fun z => by rw [hx b ne, kp b o ne e] at z; cases z⟩
            have noS : ∀ {H' : Hp} {out : En}, RE (cc0 c.K c.mg H1 vs env0) L' (vs.map some) H' out → RE (cc0 c.K c.mg H1 vs env0) (fun b => L' b ∨ False) (vs.map some) H' out := fun r => r.less fun b z => z.elim id False.elim
            cases eg : g env0 with
            | er => rw [eg] at h1; exact h1.elim
            | ex y out =>
              rw [eg] at h1
              dsimp only at h1
              split at h1
              · rename_i ds' eo
                split at h1
                · rename_i fl
                  intro H' rr C hC
                  obtain ⟨q1, q2⟩ := back (noS rr) eo fl.2 fun b z => z.elim
                  exact h1 H' (q1.less fun b z => .inl z) q2 C hC
                · exact h1.elim
              · exact h1.elim
            | ok t out =>
              rw [eg] at h1
              dsimp only at h1
              split at h1
              · rename_i ds' eo
                split at h1
                · rename_i fl
                  intro v H' rr qt
                  have fl' : (others (some kk) ts).any isAl = false ∨ D.flats ds' = true := fl.2.2.imp id And.right
                  obtain ⟨q1, q2⟩ := back (noS rr) eo fl' fun b z => z.elim
                  have ox : ownM (vs.map some) out a := ⟨kk, true, ds', eo, by rw [List.getElem?_map, vk]; rfl⟩
                  refine h1 H' (q1.less fun b z => .inl z) q2 v ?_
                  refine (qt.home (c := c) rfl (fun j z => by subst z; cases fl.1) hL (fl.2.2.elim (fun z => .inr fun b ob => ?_) fun z => .inl z.1) (fun S rS hS => (back rS eo fl' hS).1) (fun a z => r1.h0 z)).less (fun _ z => z) fun a z => s1.back (.inr z)
                  by_cases ne : b = a
                  · subst ne
                    exact .inr ox
                  · exact .inl (hown z b ((own_put ei b).mp ob) ne)
                · exact h1.elim
              · exact h1.elim
theorem de_callI (kk : Nat) (F : FnOk X.prog X.w X.K X.mg X.base (L2.CX X.prog X.w) k f fd ps (spD X.K X.mg g)) (hr : Room k X.A) (hg : Gl X x) (hm : X.mg x = some (.ref f)) (hk : PySem.W.keepIn X.K (.ref f) = true) (hb : Binds X.K fd ps []) (tk : Takes X W)
    (ha : PA X (e :: es) (dA c W fa)) (hK : c.K = X.K := by rfl) (hM : c.mg = X.mg := by rfl) (hdb : (x == ("__debug__" : Str)) = false := by decide) (he : starEach (e :: es) X.env = (false, eval e X.env) :: starEach es X.env := by rfl) (hpl : (backTo pos (starEach es X.env)).any (·.1) = false := by rfl) :
    PE X (.Call (.Name x p) (e :: es) [] pos) (dE c W (eCallI kk g fa)) :=
  PEw (pe_callS F hr hg hm hk hb (fun σ => passAt tk σ) ha hdb he hpl) (by rw [← hK, ← hM]; exact d_callI)
end
end DL
namespace PySem
open AutoSeq1 (wpAny_loadPart')
theorem enum1_begins {v : Value} {o : Obj} {H : Heap → Prop} (B : Begins v o H) :
    Meets (Builtin.«enumerate.__new__» ⟨[.type "enumerate", v], []⟩) (fun _ R s => H s.heap ∧
      R (.ok (.ret (.ref (s.heap.push o).objs.size))) { s with heap := (s.heap.push o).push { cls := .type "enumerate", data := .fields #[.none, .bool false, .ref s.heap.objs.size, rawInt 0, .none, .none] } }) :=
  .of_wp fun prog w A R s h => by
    obtain ⟨hp, g, d, tk, os⟩ := s; obtain ⟨h1, h⟩ := h
    have hsub := sub_enumerate
    have q1 : ∀ {A' : Around} {E : Value → Shared → Prop} {Q : Value → Shared → Prop}, Q (.ref hp.objs.size) ⟨hp.push o, g, d, tk, os⟩ → wpAny (model prog w) A' (pyIter v) Q E ⟨hp, g, d, tk, os⟩ :=
      fun q => B.iter prog w _ _ ⟨hp, g, d, tk, os⟩ _ h1 q
    wp_walk using q1
    refine wpAny_stack_any fun st => wpAny_pure ?_
    split
    · rename_i c _ _ _ _ _
      cases (c == Value.type "enumerate")
      · wp_walk using q1
        exact ⟨_, rfl, h⟩
      · wp_walk using q1
        exact ⟨_, rfl, h⟩
    · wp_walk using q1
      exact ⟨_, rfl, h⟩
theorem call_enum1_tuple {prog : Program} {w : World} {A : Around} {E : Value → Shared → Prop} {s : Shared} {t : Addr} {items : Array Value} {Q : Value → Shared → Prop} (hL : s.heap.IsTuple t items)
    (h : ∀ h', IsEnum h' (s.heap.objs.size + 1) s.heap.objs.size 0 .none → h'.IsTupleIter s.heap.objs.size t 0 → h'.objs.size = s.heap.objs.size + 2 →
      (∀ b o, s.heap.get? b = some o → h'.get? b = some o) → Q (.ref (s.heap.objs.size + 1)) { s with heap := h' }) :
    wpAny (model prog w) A (call (.type "enumerate") [.ref t]) Q E s := by
  refine callType_new F.called_enumerate (by decide) (F.typeCall_enumerate_1 _) (F.newCall_enumerate_1 _) (fun obj => F.args_object_init_2 obj _) F.entry_enumerate_new
    (enum1_begins (begins_tuple t items)) ⟨hL, ?_⟩
  have hz : (s.heap.push { cls := .type "tuple_iterator", data := .fields #[.ref t, .int 0 0] }).objs.size = s.heap.objs.size + 1 := Heap.size_push ..
  show _ ∧ _
  rw [hz]
  have he : IsEnum ((s.heap.push { cls := .type "tuple_iterator", data := .fields #[.ref t, .int 0 0] }).push
      { cls := .type "enumerate", data := .fields #[.none, .bool false, .ref s.heap.objs.size, rawInt 0, .none, .none] }) (s.heap.objs.size + 1) s.heap.objs.size 0 .none := by
    have := Heap.get?_push_size (s.heap.push { cls := .type "tuple_iterator", data := .fields #[.ref t, .int 0 0] })
      (o := { cls := .type "enumerate", data := .fields #[.none, .bool false, .ref s.heap.objs.size, rawInt 0, .none, .none] }) rfl
    rw [hz] at this; exact this
  refine ⟨⟨_, he, rfl⟩, h _ he ⟨_, Heap.get?_push_of_some _ (Heap.get?_push_size _ rfl), rfl, rfl⟩ (by rw [Heap.size_push, hz]) fun b o x => Heap.get?_push_of_some _ (Heap.get?_push_of_some _ x)⟩
end PySem
namespace L2
open PySem PySem.Spec PyProof.Rows
def IteT (K : PySem.W.Frag) (a : Addr) : It :=
  ⟨fun i H => ∃ (xs : List V) (x : V), SqT K H a xs ∧ xs[i]? = some x, fun i H v H' => ∃ T x, v = .ref T ∧ H T = none ∧ H' = upd H T (.tup [.int (i : Nat), x]) ∧ ∀ xs, SqT K H a xs → xs[i]? = some x, fun i H => ∃ xs : List V, SqT K H a xs ∧ xs.length ≤ i⟩
theorem turn_enumT {P : Program} {w : World} {K : PySem.W.Frag} {elts : List Expr} {kk : Nat} {tpos : Pos} (a e it : Addr) :
    Turn P w K (.Tuple elts kk tpos) (IteT K a) [e, it] e (fun i h => (∃ old, IsEnum h e it ((i : Nat) : Int) old) ∧ h.IsTupleIter it a i ∧ e ≠ it) where
  mem := by simp
  obj := fun i h st b hb => by
    obtain ⟨⟨old, he⟩, ⟨o, ho, hc, hd⟩, _⟩ := st
    have e' : b = e ∨ b = it := by simpa using hb
    rcases e' with z | z
    · rw [z]; exact ⟨_, he, fun v q => nomatch q⟩
    · rw [z]; exact ⟨o, ho, fun v q => by rw [hd] at q; cases q⟩
  keep := fun i h h' st k => let ⟨⟨old, he⟩, hi, hne⟩ := st; ⟨⟨old, k e (by simp) _ he⟩, hi.at fun o q => k it (by simp) o q, hne⟩
  item := by
    intro X hP hw hK hc i pins s σ H E I hf st hg
    subst hP hw hK
    obtain ⟨⟨old, he⟩, hit, hne⟩ := st
    obtain ⟨xs, x, hq, hx⟩ := hg
    obtain ⟨its, rv, p, hz⟩ := I.tuple hq
    obtain ⟨u, hu, ru⟩ := rv.get hx
    have hel : e < s.heap.objs.size := Heap.lt_size he
    have hil : it < s.heap.objs.size := by obtain ⟨_, q, _⟩ := hit; exact Heap.lt_size q
    have hea : e ≠ a := fun z => by
      obtain ⟨o, ho, hc', _⟩ := p
      rw [← z, he] at ho
      cases ho
      exact absurd hc' (by simp)
    have hia : a ≠ it := fun z => by
      obtain ⟨o, ho, hc', _⟩ := p
      obtain ⟨o', ho', hc'', _⟩ := hit
      rw [z, ho'] at ho
      cases ho
      rw [hc''] at hc'
      exact absurd hc' (by simp)
    have p' : s.heap.IsTuple a its.toArray := p
    have hlt : i < its.toArray.size := by
      have := (List.getElem?_eq_some_iff.mp hu).1
      simpa using this
    refine wpAny_pyNext_enum_itemD (Draws.tuple (A := X.A.in1) (I.ok.hd hc) it a hia its.toArray) he ⟨hit, p'⟩ hlt hne (by simp; exact ⟨hne, hea⟩) fun x' h' tk hx' ho st' hT hsz hk => ?_
    have ex : x' = u := by
      have h1 : its[i]? = some x' := by simpa using hx'
      rw [hu] at h1
      exact (Option.some.inj h1).symm
    subst ex
    refine ⟨_, rfl, wpAny_letOwnedTupleGo_enum (s := { s with heap := h', toks := tk + 1 }) ho fun h'' he' sb => ?_⟩
    have hT2 : h''.get? s.heap.objs.size = some { cls := .type "tuple", data := .seq #[.int i tk, x'] } := (sb.2 _ (Nat.ne_of_gt hel)).trans hT
    have new : ObjOk X.prog X.w (upd H s.heap.objs.size (.tup [.int (i : Nat), x])) h'' s.heap.objs.size (.tup [.int (i : Nat), x]) :=
      ⟨by show 2 ≤ sizeLine; decide, [.int i tk, x'], .cons ⟨_, rfl⟩ (.cons ru .nil), ⟨_, hT2, rfl, _, rfl⟩⟩
    have I1 : Inv X pins σ (upd H s.heap.objs.size (.tup [.int (i : Nat), x])) { s with heap := h'', toks := tk + 1 } :=
      I.turnedNew (ch := [e, it]) (fun b ob hb q => (sb.2 b (fun z => hb (by simp [z]))).trans (hk b ob (fun z => hb (by simp [z])) (fun z => hb (by simp [z])) q)) hf (Nat.le_refl _) new
    refine ⟨.ref s.heap.objs.size, _, I1, rfl, ⟨_, x, rfl, I.hok.fresh (Nat.le_refl _), rfl, fun ys hy => by rw [I.tuple_inj hy hq]; exact hx⟩, ⟨⟨x', ?_⟩, st'.1.at fun o q => (sb.2 it (Ne.symm hne)).trans q, hne⟩, fun b hb => ?_⟩
    · have e1 : ((i + 1 : Nat) : Int) = (i : Int) + 1 := by omega
      rw [e1]; exact he'
    · have hb' : b < s.heap.objs.size := by
        have e' : b = e ∨ b = it := by simpa using hb
        rcases e' with z | z
        · rw [z]; exact hel
        · rw [z]; exact hil
      rw [upd_ne (Nat.ne_of_lt hb')]
      exact (hf b hb).1
  done := by
    intro X hP hw hK hc i pins s σ H E I hf st hg
    subst hP hw hK
    obtain ⟨⟨old, he⟩, hit, hne⟩ := st
    obtain ⟨xs, hq, hx⟩ := hg
    obtain ⟨its, rv, p, hz⟩ := I.tuple hq
    obtain ⟨f0, f1, f2, f3, f4, f5⟩ := hf it (by simp)
    have hl := rv.length
    have p' : s.heap.IsTuple a its.toArray := p
    have hT : s.TypeIs (.ref e) "enumerate" := ⟨_, he, rfl⟩
    unfold pyNext
    refine wpAny_bind (wpAny_attempt (wpAny_callSpecial?_slot (name := Str.ofString "__next__") hT F.slot_enumerate_next
      (wpAny_call_entry F.slot_enumerate_next hT F.entry_enumerate_next ?_ (F.args_enumerate_next_1 _))))
    show wpAny _ _ (field (.ref e) 2 >>= _) _ _ _
    refine wpAny_bind (wpAny_field he rfl (x := .ref it) rfl ?_)
    refine wpAny_bind (wpAny_nextOf_tuple_end (I.ok.hd hc) hit p' (by simp; omega) fun h' x eb hx' => ?_)
    obtain ⟨o, ho, hcc⟩ := hx'
    refine wpAny_bind (wpAny_isInstance (T := "StopIteration") (b := true) ⟨o, ho, hcc⟩ isSubtype_stop ?_)
    exact wpAny_pure ⟨rfl, I.turned (t' := s.toks) (fun b o hb q => eb b o hb q) f0 f1 f3 f4 f5⟩
  self := fun A i s Q E st h => let ⟨⟨_, he⟩, _⟩ := st; wpAny_pyIter_enum he h
def iEnumA (K : PySem.W.Frag) (ta : TA) : TI := fun σ H R => ta σ H fun vs H1 => ∃ a xs, vs = [.ref a] ∧ ((SqL K H1 a xs ∧ R (Ite K a) H1) ∨ (SqT K H1 a xs ∧ R (IteT K a) H1))
theorem pi_enumA {X : Cx} {e : Expr} {ta : TA} {p pos tpos : Pos} {elts : List Expr} {kk : Nat} (hg : Gl X "enumerate") (hm : X.mg "enumerate" = none) (ha : PA X [e] ta) (hs : starEach [e] X.env = [(false, eval e X.env)] := by rfl) :
    PI X (.Tuple elts kk tpos) (.Call (.Name "enumerate" p) [e] [] pos) (iEnumA X.K ta) := by
  refine ⟨fun pins s σ H R I h => ?_⟩
  refine Call_ (ld_blt I hg hm boot_enumerate (PyProof.Rows.callWith_type1 (thn (ha.run pos pins s σ H _ I h) fun us s1 ⟨vs, H1, I1, r1, q1⟩ => ?_) hs rfl))
  obtain ⟨a, xs, ex, hq⟩ := q1
  subst ex
  cases r1 with
  | cons r rr =>
    cases rr
    cases r
    have fin : ∀ (b : Addr), (b = s1.heap.objs.size + 1 ∨ b = s1.heap.objs.size) → s1.heap.objs.size ≤ b := fun b e' => by
      rcases e' with z | z
      · rw [z]; exact Nat.le_add_right _ _
      · rw [z]; exact Nat.le_refl _
    rcases hq with ⟨hq, q⟩ | ⟨hq, q⟩
    · obtain ⟨its, rv, p', hz⟩ := I1.list hq
      refine call_enumerate_list p'.isList fun h' he hit hsz hk => wpAny_pyIter_enum he ?_
      have I2 : Inv X pins σ H1 { s1 with heap := h' } := I1.kept (t' := s1.toks) hk
      refine ⟨s1.heap.objs.size + 1, [s1.heap.objs.size + 1, s1.heap.objs.size], _, _, H1, rfl, I2, turn_enum a (s1.heap.objs.size + 1) s1.heap.objs.size, ⟨⟨.none, he⟩, hit, Nat.succ_ne_self _⟩, fun b hb => ?_, q⟩
      have hle := fin b (by simpa using hb)
      exact I1.fpOk hle (I1.hok.fresh hle)
    · obtain ⟨its, rv, p', hz⟩ := I1.tuple hq
      refine call_enum1_tuple (show s1.heap.IsTuple a its.toArray from p') fun h' he hit hsz hk => wpAny_pyIter_enum he ?_
      have I2 : Inv X pins σ H1 { s1 with heap := h' } := I1.kept (t' := s1.toks) hk
      refine ⟨s1.heap.objs.size + 1, [s1.heap.objs.size + 1, s1.heap.objs.size], _, _, H1, rfl, I2, turn_enumT a (s1.heap.objs.size + 1) s1.heap.objs.size, ⟨⟨.none, he⟩, hit, Nat.succ_ne_self _⟩, fun b hb => ?_, q⟩
      have hle := fin b (by simpa using hb)
      exact I1.fpOk hle (I1.hok.fresh hle)
end L2
namespace DL
open PySem PySem.Spec L2
variable [Wd]
inductive Fl where
  | er | nx (e : En) | rt (t : T) (e : En) | bk (e : En) | ct (e : En) | ex (x : Str) (e : En)
abbrev FS := En → Fl
abbrev FG := T → En → Fl
def R.bindF {α : Type} (r : R α) (g : α → En → Fl) : Fl := match r with
  | .er => .er
  | .ex x e => .ex x e
  | .ok a e => g a e
@[simp] theorem bindF_ok {α : Type} (a : α) (e : En) (g : α → En → Fl) : R.bindF (.ok a e) g = g a e := rfl
@[simp] theorem bindF_er {α : Type} (g : α → En → Fl) : R.bindF .er g = .er := rfl
@[simp] theorem bindF_ex {α : Type} (x : Str) (e : En) (g : α → En → Fl) : R.bindF (.ex x e) g = .ex x e := rfl
def Fl.seq (r : Fl) (g : FS) : Fl := match r with
  | .nx e => g e
  | r => r
@[simp] theorem seq_nx (e : En) (g : FS) : Fl.seq (.nx e) g = g e := rfl
@[simp] theorem seq_rt (t : T) (e : En) (g : FS) : Fl.seq (.rt t e) g = .rt t e := rfl
@[simp] theorem seq_er (g : FS) : Fl.seq .er g = .er := rfl
@[simp] theorem seq_bk (e : En) (g : FS) : Fl.seq (.bk e) g = .bk e := rfl
@[simp] theorem seq_ct (e : En) (g : FS) : Fl.seq (.ct e) g = .ct e := rfl
@[simp] theorem seq_ex (x : Str) (e : En) (g : FS) : Fl.seq (.ex x e) g = .ex x e := rfl
abbrev Sp0 := St → En → Hp → Prop
def sK (c : Cc) (W : WX) (L : Addr → Prop) (S : Sp0) (N : Addr → Prop) (r : Fl) (D : Ends) : Prop := match r with
  | .er => False
  | .nx e => ∀ σ' H', RE c L σ' H' e → S σ' e H' → D.nx σ' H'
  | .bk e => ∀ σ' H', RE c L σ' H' e → S σ' e H' → D.bk σ' H'
  | .ct e => ∀ σ' H', RE c L σ' H' e → S σ' e H' → D.ct σ' H'
  | .rt t e => ∀ v σ' H', RE c L σ' H' e → S σ' e H' → RepT c L N σ' H' e v t → D.rt v H'
  | .ex x e => ∀ σ' H', RE c L σ' H' e → S σ' e H' → Wx c.mg W x σ' H'
def dS (c : Cc) (W : WX) (f : FS) : TS := fun D σ H => ∃ env L, RE c L σ H env ∧ sK c W L (Stp σ env H) (Nn σ env H) (f env) D
section
variable {c : Cc} {W : WX} {L : Addr → Prop} {σ : St} {H : Hp} {env : En} {D : Ends}
theorem dS.of {f : FS} (r : RE c L σ H env) (h : sK c W L (Stp σ env H) (Nn σ env H) (f env) D) : dS c W f D σ H := ⟨env, L, r, h⟩
theorem sK.bind {α : Type} {r : R α} {g : α → En → Fl} (h : sK c W L (Stp σ env H) (Nn σ env H) (r.bindF g) D) : dK c W L σ H env r fun a e1 H1 => sK c W L (Stp σ env H) (Nn σ env H) (g a e1) D := by
  cases r with
  | er => exact h
  | ex x e => exact fun H' r s => h σ H' r s
  | ok a e => exact fun H' r s => h
theorem sK.imp {S S' : Sp0} {N N' : Addr → Prop} {r : Fl} (h : sK c W L S N r D) (hS : ∀ σ e H, S' σ e H → S σ e H) (hN : ∀ a, N' a → N a) : sK c W L S' N' r D := by
  cases r with
  | er => exact h
  | nx e => exact fun σ' H' r s => h σ' H' r (hS _ _ _ s)
  | bk e => exact fun σ' H' r s => h σ' H' r (hS _ _ _ s)
  | ct e => exact fun σ' H' r s => h σ' H' r (hS _ _ _ s)
  | rt t e => exact fun v σ' H' r s q => h v σ' H' r (hS _ _ _ s) (q.less (fun _ z => z) hN)
  | ex x e => exact fun σ' H' r s => h σ' H' r (hS _ _ _ s)
theorem sK.here {r : Fl} {σ1 : St} {e1 : En} {H1 : Hp} (h : sK c W L (Stp σ env H) (Nn σ env H) r D) (s1 : Stp σ env H σ1 e1 H1) : sK c W L (Stp σ1 e1 H1) (Nn σ1 e1 H1) r D :=
  h.imp (fun _ _ _ s => s1.trans s) fun _ n => s1.back n
end
def sNx : FS := fun env => .nx env
def sSeq (f g : FS) : FS := fun env => (f env).seq g
def sIf (ft : FT) (f g : FS) : FS := fun env => (ft env).bindF fun b e => bif b then f e else g e
def sRet (fa : FE) : FS := fun env => (fa env).bindF fun t e => .rt t e
def sRetN : FS := fun env => .rt (.im .non) env
def sDrop (fa : FE) : FS := fun env => (fa env).bindF fun _ e => .nx e
def sBk : FS := fun env => .bk env
def sCt : FS := fun env => .ct env
def sEr : FS := fun _ => .er
section
variable {X : Cx} {c : Cc} {W : WX} {st : Stmt} {rest a b : List Stmt} {f g : FS} {fa : FE} {ft : FT} {e : Expr} {pos : Pos}
theorem dss_nil : PSs X [] (dS c W sNx) := PSsw pss_nil fun D σ H h => by
  obtain ⟨env, L, r, h⟩ := h
  exact h σ H r .refl
theorem dss_cons (h1 : PS X st (dS c W f)) (h2 : PSs X rest (dS c W g)) : PSs X (st :: rest) (dS c W (sSeq f g)) := PSsw (pss_cons h1 h2) fun D σ H h => by
  obtain ⟨env, L, r, h⟩ := h
  refine dS.of r ?_
  unfold sSeq at h
  cases q : f env with
  | er => rw [q] at h; exact h
  | nx e =>
    rw [q] at h
    exact fun σ' H' r' s' => dS.of r' (h.here s')
  | rt t e => rw [q] at h; exact h
  | bk e => rw [q] at h; exact h
  | ct e => rw [q] at h; exact h
  | ex x e => rw [q] at h; exact h
theorem dss_one (h1 : PS X st (dS c W f)) : PSs X [st] (dS c W f) := pss_one h1
theorem ds_if {t : Expr} (hc : PT X t (dT c W ft)) (ha : PSs X a (dS c W f)) (hb : PSs X b (dS c W g)) : PS X (.If t a b pos) (dS c W (sIf ft f g)) := PSw (ps_if hc ha hb) fun D σ H h => by
  obtain ⟨env, L, r, h⟩ := h
  refine dT.of r (h.bind.mono fun b e1 H1 r1 s1 h1 => ?_)
  cases b with
  | true => rw [if_pos rfl]; exact dS.of r1 (h1.here s1)
  | false => rw [if_neg Bool.false_ne_true]; exact dS.of r1 (h1.here s1)
theorem ds_ret (he : PE X e (dE c W fa)) : PS X (.Return (some e) pos) (dS c W (sRet fa)) := PSw (ps_ret he) fun D σ H h => by
  obtain ⟨env, L, r, h⟩ := h
  exact dE.of r (h.bind.mono fun t e1 H1 r1 s1 h1 v q => h1 v σ H1 r1 s1 q)
theorem ds_expr (he : PE X e (dE c W fa)) (hs : swapsWith e none pos.line X.env = pure false := by rfl) : PS X (.Expr e pos) (dS c W (sDrop fa)) := PSw (ps_expr he hs) fun D σ H h => by
  obtain ⟨env, L, r, h⟩ := h
  exact dE.of r (h.bind.mono fun t e1 H1 r1 s1 h1 v q => h1 σ H1 r1 s1)
end
def StpN (N : Addr → Prop) (σ : St) (env : En) (H : Hp) (σ' : St) (env' : En) (H' : Hp) : Prop := ∀ b, ¬ Nn σ env H b → ¬ N b → H' b = H b ∧ ¬ Nn σ' env' H' b
theorem StpN.after {σ σ1 σ2 : St} {env e1 e2 : En} {H H1 H2 : Hp} (s : Stp σ env H σ1 e1 H1) (n : StpN (Nn σ env H) σ1 e1 H1 σ2 e2 H2) : Stp σ env H σ2 e2 H2 := fun b nb => by
  obtain ⟨q1, q2⟩ := s b nb
  obtain ⟨q3, q4⟩ := n b q2 nb
  exact ⟨q3.trans q1, q4⟩
theorem StpN.of {N : Addr → Prop} {σ σ' : St} {env env' : En} {H H' : Hp} (s : Stp σ env H σ' env' H') : StpN N σ env H σ' env' H' := fun b n _ => s b n
theorem StpN.trans {N : Addr → Prop} {σ σ1 σ2 : St} {env e1 e2 : En} {H H1 H2 : Hp} (a : StpN N σ env H σ1 e1 H1) (b : StpN N σ1 e1 H1 σ2 e2 H2) : StpN N σ env H σ2 e2 H2 := fun x n m => by
  obtain ⟨q1, q2⟩ := a x n m
  obtain ⟨q3, q4⟩ := b x q2 m
  exact ⟨q3.trans q1, q4⟩
def dG (c : Cc) (g : FG) : TG := fun v σ H Q => ∃ env L N t, RE c L σ H env ∧ RepT c L N σ H env v t ∧ match g t env with
  | .nx e => ∀ σ' H', RE c L σ' H' e → StpN N σ env H σ' e H' → Q σ' H'
  | _ => False
def sAsg (fa : FE) (g : FG) : FS := fun env => (fa env).bindF fun t e => match g t e with
  | .nx e => .nx e
  | _ => .er
section
variable {c : Cc} {L : Addr → Prop} {σ : St} {H : Hp} {env : En}
theorem own_set {i : Nat} {v : V} {s : Sl} {b : Addr} (h : ownM (σ.set i (some v)) (env.set i s) b) : (ownM σ env b ∧ ∀ (io : Bool) (ds : List D), True) ∨ (v = .ref b ∧ ∃ (io : Bool) (ds : List D), s = .own io ds) := by
  obtain ⟨j, io, ds, e1, e2⟩ := h
  by_cases q : i = j
  · subst q
    rw [List.getElem?_set] at e1 e2
    simp only [if_true] at e1 e2
    split at e1
    · split at e2
      · cases e1
        cases e2
        exact .inr ⟨rfl, io, ds, rfl⟩
      · cases e2
    · cases e1
  · rw [List.getElem?_set_ne q] at e1 e2
    exact .inl ⟨⟨j, io, ds, e1, e2⟩, fun _ _ => trivial⟩
theorem RE.setIm {i : Nat} {v : V} {d : D} (h : RE c L σ H env) (r : Rep c.K (Av L σ env) H v d) : RE c L (σ.set i (some v)) H (env.set i (.im d)) ∧ Stp σ env H (σ.set i (some v)) (env.set i (.im d)) H := by
  have sub : ∀ b, ownM (σ.set i (some v)) (env.set i (.im d)) b → ownM σ env b := fun b z => by
    rcases own_set z with z | ⟨_, io, ds, z⟩
    · exact z.1
    · cases z
  have av : ∀ b, Av L σ env b → Av L (σ.set i (some v)) (env.set i (.im d)) b := fun b g => ⟨g.1, fun z => g.2 (sub b z)⟩
  have st : Stp σ env H (σ.set i (some v)) (env.set i (.im d)) H := fun b n => ⟨rfl, fun z => n (z.imp (sub b) id)⟩
  have get : ∀ {j : Nat} {s : Sl}, (env.set i (.im d))[j]? = some s → (j = i ∧ s = .im d ∧ i < env.length) ∨ (j ≠ i ∧ env[j]? = some s) := fun {j s} q => by
    by_cases z : i = j
    · subst z
      rw [List.getElem?_set] at q
      simp only [if_true] at q
      split at q
      · rename_i hi
        cases q
        exact .inl ⟨rfl, rfl, hi⟩
      · cases q
    · rw [List.getElem?_set_ne z] at q
      exact .inr ⟨fun y => z y.symm, q⟩
  refine ⟨⟨by rw [List.length_set, List.length_set]; exact h.len, fun j d' q => ?_, fun j io ds q => ?_, fun j k io jo ds es a q1 q2 q3 q4 => ?_, fun b lb => ⟨fun z => (h.ext b lb).1 (sub b z), (h.ext b lb).2⟩, h.fr, h.io, hd_set2 h.hd (fun _ z => nomatch z)⟩, st⟩
  · rcases get q with ⟨rfl, z, hi⟩ | ⟨ne, q⟩
    · cases z
      exact ⟨v, by rw [List.getElem?_set_self (by rw [← h.len]; exact hi)], r.mono (.refl H) fun b xs g e => ⟨av b g, e⟩⟩
    · obtain ⟨v', e1, r'⟩ := h.im j d' q
      exact ⟨v', by rw [List.getElem?_set_ne (Ne.symm ne)]; exact e1, r'.mono (.refl H) fun b xs g e => ⟨av b g, e⟩⟩
  · rcases get q with ⟨rfl, z, hi⟩ | ⟨ne, q⟩
    · cases z
    · obtain ⟨a, xs, e1, e2, r', z⟩ := h.own j io ds q
      exact ⟨a, xs, by rw [List.getElem?_set_ne (Ne.symm ne)]; exact e1, e2, r'.mono (.refl H) fun b xs g e => ⟨av b g, e⟩, z⟩
  · rcases get q1 with ⟨rfl, z, hi⟩ | ⟨ne1, q1⟩
    · cases z
    · rcases get q2 with ⟨rfl, z, hi⟩ | ⟨ne2, q2⟩
      · cases z
      · rw [List.getElem?_set_ne (Ne.symm ne1)] at q3
        rw [List.getElem?_set_ne (Ne.symm ne2)] at q4
        exact h.inj j k io jo ds es a q1 q2 q3 q4
theorem RE.setFr {i : Nat} {a : Addr} {xs : List V} {ds : List D} {N : Addr → Prop} (h : RE c (fun b => L b ∨ b = a) σ H env) (ea : H a = some (.lst xs)) (r : Reps c.K (Av (fun b => L b ∨ b = a) σ env) H xs ds) (nl : ¬ L a) (h0 : c.H0 a = none) (n : N a) :
    RE c L (σ.set i (some (.ref a))) H (env.set i (.own false ds)) ∧ StpN N σ env H (σ.set i (some (.ref a))) (env.set i (.own false ds)) H := by
  have sub : ∀ b, ownM (σ.set i (some (.ref a))) (env.set i (.own false ds)) b → ownM σ env b ∨ b = a := fun b z => by
    rcases own_set z with z | ⟨z, _⟩
    · exact .inl z.1
    · cases z
      exact .inr rfl
  have av : ∀ b, Av (fun b => L b ∨ b = a) σ env b → Av L (σ.set i (some (.ref a))) (env.set i (.own false ds)) b := fun b g => ⟨fun z => g.1 (.inl z), fun z => (sub b z).elim g.2 fun z => g.1 (.inr z)⟩
  have get : ∀ {j : Nat} {s : Sl}, (env.set i (.own false ds))[j]? = some s → (j = i ∧ s = .own false ds ∧ i < env.length) ∨ (j ≠ i ∧ env[j]? = some s) := fun {j s} q => by
    by_cases z : i = j
    · subst z
      rw [List.getElem?_set] at q
      simp only [if_true] at q
      split at q
      · rename_i hi
        cases q
        exact .inl ⟨rfl, rfl, hi⟩
      · cases q
    · rw [List.getElem?_set_ne z] at q
      exact .inr ⟨fun y => z y.symm, q⟩
  have na : ¬ ownM σ env a := (h.ext a (.inr rfl)).1
  refine ⟨⟨by rw [List.length_set, List.length_set]; exact h.len, fun j d' q => ?_, fun j io es q => ?_, fun j k io jo es fs b q1 q2 q3 q4 => ?_, fun b lb => ⟨fun z => (sub b z).elim (h.ext b (.inl lb)).1 fun z => nl (by rw [← z]; exact lb), (h.ext b (.inl lb)).2⟩, h.fr, h.io, hd_set2 h.hd (fun _ z => nomatch z)⟩, fun b nb nN => ⟨rfl, fun z => z.elim (fun z => (sub b z).elim (fun z => nb (.inl z)) fun z => nN (by rw [z]; exact n)) fun z => nb (.inr z)⟩⟩
  · rcases get q with ⟨rfl, z, hi⟩ | ⟨ne, q⟩
    · cases z
    · obtain ⟨v', e1, r'⟩ := h.im j d' q
      exact ⟨v', by rw [List.getElem?_set_ne (Ne.symm ne)]; exact e1, r'.mono (.refl H) fun b xs g e => ⟨av b g, e⟩⟩
  · rcases get q with ⟨rfl, z, hi⟩ | ⟨ne, q⟩
    · cases z
      exact ⟨a, xs, by rw [List.getElem?_set_self (by rw [← h.len]; exact hi)], ea, r.mono (.refl H) (fun b xs g e => ⟨av b g, e⟩), fun _ => h0, fun z => nomatch z⟩
    · obtain ⟨b, ys, e1, e2, r', z⟩ := h.own j io es q
      exact ⟨b, ys, by rw [List.getElem?_set_ne (Ne.symm ne)]; exact e1, e2, r'.mono (.refl H) (fun b xs g e => ⟨av b g, e⟩), z⟩
  · have own : ∀ {j : Nat} {io : Bool} {es : List D}, j ≠ i → env[j]? = some (Sl.own io es) → (σ.set i (some (V.ref a)))[j]? = some (some (V.ref b)) → ownM σ env b ∧ σ[j]? = some (some (V.ref b)) := fun {j io es} ne q z => by
      rw [List.getElem?_set_ne (Ne.symm ne)] at z
      exact ⟨⟨j, io, es, q, z⟩, z⟩
    have at_ : ∀ {j : Nat}, j = i → i < env.length → (σ.set i (some (V.ref a)))[j]? = some (some (V.ref b)) → b = a := fun {j} e hi z => by
      subst e
      rw [List.getElem?_set_self (by rw [← h.len]; exact hi)] at z
      cases z
      rfl
    rcases get q1 with ⟨e1, z1, hi1⟩ | ⟨ne1, q1⟩
    · rcases get q2 with ⟨e2, z2, hi2⟩ | ⟨ne2, q2⟩
      · rw [e1, e2]
      · have := at_ e1 hi1 q3
        subst this
        exact (na (own ne2 q2 q4).1).elim
    · rcases get q2 with ⟨e2, z2, hi2⟩ | ⟨ne2, q2⟩
      · have := at_ e2 hi2 q4
        subst this
        exact (na (own ne1 q1 q3).1).elim
      · exact h.inj j k io jo es fs b q1 q2 (own ne1 q1 q3).2 (own ne2 q2 q4).2
end
def gN (i : Nat) : FG := fun t env => match t with
  | .im d => .nx (env.set i (.im d))
  | .fr ds => .nx (env.set i (.own false ds))
  | .ft cs => .nx (env.set i (.im (.tup (cs.map Cp.d))))
  | .al j => match env[j]? with
    | some (.own false ds) => .nx ((env.set j .no).set i (.own false ds))
    | _ => .er
@[simp] theorem gN_im (i : Nat) (d : D) (env : En) : gN i (.im d) env = .nx (env.set i (.im d)) := rfl
@[simp] theorem gN_fr (i : Nat) (ds : List D) (env : En) : gN i (.fr ds) env = .nx (env.set i (.own false ds)) := rfl
@[simp] theorem gN_ft (i : Nat) (cs : List Cp) (env : En) : gN i (.ft cs) env = .nx (env.set i (.im (.tup (cs.map Cp.d)))) := rfl
section
variable {X : Cx} {c : Cc} {W : WX} {pos p : Pos} {e tg : Expr} {fa : FE} {g : FG}
theorem d_gN {i : Nat} : ∀ v σ H Q, dG c (gN i) v σ H Q → gName i v σ H Q := fun v σ H Q h => by
  obtain ⟨env, L, N, t, r, q, h⟩ := h
  cases t with
  | im d =>
    obtain ⟨q1, q2⟩ := r.setIm (i := i) q
    exact h _ _ q1 (.of q2)
  | ft cs =>
    obtain ⟨q1, q2⟩ := r.setIm (i := i) q.wk
    exact h _ _ q1 (.of q2)
  | fr ds =>
    obtain ⟨a, xs, rfl, e1, rr, n1, n2, n3, re⟩ := q
    obtain ⟨q1, q2⟩ := re.setFr (i := i) (N := N) e1 rr n1 n2 n3
    exact h _ _ q1 q2
  | al j =>
    obtain ⟨⟨io, ds, e1⟩, e2⟩ := q
    simp only [gN, e1] at h
    cases io with
    | true => exact h.elim
    | false =>
      obtain ⟨a, xs, e3, e4, rr, f0, _⟩ := r.own j false ds e1
      rw [e2] at e3
      cases e3
      obtain ⟨hd, sd⟩ := r.drop e1 e2
      have oa : ownM σ env a := ⟨j, false, ds, e1, e2⟩
      have rr' : Reps c.K (Av (fun b => L b ∨ b = a) σ (env.set j .no)) H xs ds := rr.mono (.refl H) fun b ys g e => ⟨⟨fun z => z.elim g.1 fun z => g.2 (by rw [z]; exact oa), fun z => g.2 (own_set_no z).1⟩, e⟩
      obtain ⟨q1, q2⟩ := hd.setFr (i := i) (N := Nn σ env H) e4 rr' (fun z => (r.ext a z).1 oa) (f0 rfl) (.inl oa)
      refine h _ _ q1 (.of fun b nb => ?_)
      obtain ⟨y1, y2⟩ := sd b nb
      obtain ⟨y3, y4⟩ := q2 b y2 nb
      exact ⟨y3.trans y1, y4⟩
theorem PGw {t t' : TG} (h : PG X tg t) (k : ∀ v σ H Q, t' v σ H Q → t v σ H Q) : PG X tg t' := ⟨fun pins s σ H v u Q I r q => h.run pins s σ H v u Q I r (k v σ H Q q)⟩
theorem dg_name {i : Nat} (h : PG X tg (gName i)) : PG X tg (dG c (gN i)) := PGw h d_gN
theorem d_asg : ∀ D σ H, dS c W (sAsg fa g) D σ H → tAsg (dE c W fa) (dG c g) D σ H := fun D σ H h => by
  obtain ⟨env, L, r, h⟩ := h
  refine dE.of r (h.bind.mono fun t e1 H1 r1 s1 h1 v q => ⟨e1, L, Nn σ env H, t, r1, q, ?_⟩)
  cases eg : g t e1 with
  | nx e2 => rw [eg] at h1; exact fun σ' H' r' s' => h1 σ' H' r' (s'.after s1)
  | er => rw [eg] at h1; exact h1
  | rt t e => rw [eg] at h1; exact h1
  | bk e => rw [eg] at h1; exact h1
  | ct e => rw [eg] at h1; exact h1
  | ex x e => rw [eg] at h1; exact h1
theorem ds_asg (he : PE X e (dE c W fa)) (hg : PG X tg (dG c g)) (hs : swapsWithSole [tg] e pos.line X.env = pure false := by rfl) (hw : swappedStores [tg] e X.env = pure none := by rfl)
    (h1 : (assignEach [tg] X.env).map (·.2) = [assign tg X.env] := by rfl) : PS X (.Assign [tg] e pos) (dS c W (sAsg fa g)) := PSw (ps_asg he hg hs hw h1) d_asg
theorem ds_set {i : Nat} {x : Str} {pos' : Pos} (hN : X.N.Nodup) (hi : X.N[i]? = some x) (hx : Loc X.env.scope x) (he : PE X e (dE c W fa)) (hs : swapsWith e (some (.Name x pos')) pos.line X.env = pure false := by rfl) (hf : X.fn x = true ∨ X.env.scope.names.lookup x = some .local := by first | exact .inl rfl | exact .inr rfl | assumption) :
    PS X (.Assign [.Name x pos'] e pos) (dS c W (sAsg fa (gN i))) := PSw (ps_set hN hi hx he hs hf) fun D σ H h => by
  have := d_asg D σ H h
  obtain ⟨env, L, r, q⟩ := this
  exact ⟨env, L, r, q.mono fun t e1 H1 r1 s1 h1 v q => d_gN _ _ _ _ (h1 v q)⟩
end
end DL
namespace DL
open PySem PySem.Spec L2
variable [Wd]
def cpT (c : Cp) : T := match c.fr, c.d with
  | true, .lst ds => .fr ds
  | _, d => .im d
@[simp] theorem cpT_im (d : D) : cpT ⟨false, d⟩ = .im d := rfl
@[simp] theorem cpT_fr (ds : List D) : cpT ⟨true, .lst ds⟩ = .fr ds := rfl
abbrev FGs := List Cp → En → Fl
def dGs (c : Cc) (g : FGs) : TGs := fun vs σ H Q => ∃ env L N As cs, RE c (Lu L As) σ H env ∧ RepC c.K (Av (Lu L As) σ env) H As vs cs ∧ (∀ a ∈ As, ¬ L a ∧ c.H0 a = none ∧ N a) ∧ match g cs env with
  | .nx e => ∀ σ' H', RE c L σ' H' e → StpN N σ env H σ' e H' → Q σ' H'
  | _ => False
def gsNil : FGs := fun cs env => match cs with
  | [] => .nx env
  | _ => .er
def gsCons (g : FG) (gs : FGs) : FGs := fun cs env => match cs with
  | c :: cs => (g (cpT c) env).seq (gs cs)
  | [] => .er
def cpsOf (t : T) (env : En) : Option (List Cp) := match t with
  | .im (.tup ds) => some (ds.map fun d => ⟨false, d⟩)
  | .ft cs => some cs
  | _ => none
@[simp] theorem cpsOf_tup (ds : List D) (env : En) : cpsOf (.im (.tup ds)) env = some (ds.map fun d => ⟨false, d⟩) := rfl
@[simp] theorem cpsOf_ft (cs : List Cp) (env : En) : cpsOf (.ft cs) env = some cs := rfl
def gT (n : Nat) (gs : FGs) : FG := fun t env => match cpsOf t env with
  | some cs => if cs.length = n then gs cs env else .er
  | none => .er
section
variable {X : Cx} {c : Cc} {W : WX} {pos : Pos} {e : Expr} {es : List Expr} {g : FG} {gs : FGs}
theorem PGsw {t t' : TGs} (h : PGs X es t) (k : ∀ v σ H Q, t' v σ H Q → t v σ H Q) : PGs X es t' := ⟨fun pins s σ H v u Q I r q => h.run pins s σ H v u Q I r (k v σ H Q q)⟩
theorem dgs_nil : PGs X [] (dGs c gsNil) := PGsw pgs_nil fun vs σ H Q h => by
  obtain ⟨env, L, N, As, cs, r, q, n, h⟩ := h
  cases q with
  | nil => exact ⟨rfl, h σ H (r.less fun b z => .inl z) (.of .refl)⟩
  | im r rs => exact h.elim
  | fr a b r rs => exact h.elim
theorem dgs_step {L N Nh : Addr → Prop} {σ : St} {H : Hp} {env : En} {Q : St → Hp → Prop} {As Br : List Addr} {v : V} {vr : List V} {cp : Cp} {cr : List Cp} (r : RE c (Lu L As) σ H env) (qt : RepT c (Lu L Br) Nh σ H env v (cpT cp)) (re : RE c (Lu L Br) σ H env) (rc : RepC c.K (Av (Lu L As) σ env) H Br vr cr)
    (sub : ∀ b ∈ Br, b ∈ As ∧ ¬ Nh b) (hN : ∀ b, Nh b → b ∈ As ∧ N b) (n : ∀ a ∈ As, ¬ L a ∧ c.H0 a = none ∧ N a) (h : match ((g (cpT cp) env).seq (gs cr)) with
      | .nx e => ∀ σ' H', RE c L σ' H' e → StpN N σ env H σ' e H' → Q σ' H'
      | _ => False) : dG c g v σ H fun σ' H' => dGs c gs vr σ' H' Q := by
  refine ⟨env, Lu L Br, Nh, cpT cp, re, qt, ?_⟩
  cases eg : g (cpT cp) env with
  | er => rw [eg] at h; exact h
  | rt t e => rw [eg] at h; exact h
  | bk e => rw [eg] at h; exact h
  | ct e => rw [eg] at h; exact h
  | ex x e => rw [eg] at h; exact h
  | nx e1 =>
    rw [eg] at h
    dsimp only [Fl.seq] at h
    intro σ1 H1 r1 s1
    have key : ∀ b o, H b = some o → ¬ ownM σ env b → ¬ Nh b → H1 b = some o ∧ ¬ ownM σ1 e1 b := fun b o e nb nh => by
      obtain ⟨q1, q2⟩ := s1 b (Nn.not e nb) nh
      exact ⟨q1.trans e, fun z => q2 (.inl z)⟩
    have isL : ∀ b, ownM σ env b ∨ Nh b → ∃ xs, H b = some (.lst xs) := fun b z => by
      rcases z with ⟨i, io, ds, e1, e2⟩ | z
      · obtain ⟨a, xs, e3, e4, _⟩ := r.own i io ds e1
        rw [e2] at e3
        cases e3
        exact ⟨xs, e4⟩
      · exact (r.ext b (.inr (hN b z).1)).2
    have tk : TK H H1 := by
      have nl : ∀ b o, H b = some o → (∀ xs, o ≠ .lst xs) → H1 b = some o := fun b o e nn => by
        refine (key b o e (fun z => ?_) fun z => ?_).1
        · obtain ⟨xs, q⟩ := isL b (.inl z)
          rw [e] at q
          cases q
          exact nn xs rfl
        · obtain ⟨xs, q⟩ := isL b (.inr z)
          rw [e] at q
          cases q
          exact nn xs rfl
      exact ⟨fun b xs e => nl b _ e (fun _ z => nomatch z), fun b o u e => nl b _ e (fun _ z => nomatch z)⟩
    have rc1 : RepC c.K (Av (Lu L Br) σ1 e1) H1 Br vr cr := rc.mono tk (fun b xs gb e => by
      obtain ⟨q1, q2⟩ := key b _ e gb.2 fun z => gb.1 (.inr (hN b z).1)
      exact ⟨⟨fun z => gb.1 (z.imp id fun z => (sub b z).1), q2⟩, q1⟩) fun b hb xs e => (key b _ e (r.ext b (.inr (sub b hb).1)).1 (sub b hb).2).1
    refine ⟨e1, L, N, Br, cr, r1, rc1, fun b hb => n b (sub b hb).1, ?_⟩
    cases eg2 : gs cr e1 with
    | er => rw [eg2] at h; exact h
    | rt t e => rw [eg2] at h; exact h
    | bk e => rw [eg2] at h; exact h
    | ct e => rw [eg2] at h; exact h
    | ex x e => rw [eg2] at h; exact h
    | nx e2 =>
      rw [eg2] at h
      exact fun σ2 H2 r2 s2 => h σ2 H2 r2 (StpN.trans (fun b nb nN => s1 b nb fun z => nN (hN b z).2) s2)
theorem d_gsCons : ∀ vs σ H Q, dGs c (gsCons g gs) vs σ H Q → gCons (dG c g) (dGs c gs) vs σ H Q := fun vs σ H Q h => by
  obtain ⟨env, L, N, As, cs, r, q, n, h⟩ := h
  cases q with
  | nil => exact h.elim
  | im rr rs => exact ⟨_, _, rfl, dgs_step (cp := ⟨false, _⟩) (Br := As) (Nh := fun _ => False) r rr r rs (fun b hb => ⟨hb, id⟩) (fun b z => z.elim) n h⟩
  | fr na ea rr rs =>
    rename_i As a xs ds vs cs
    have key : ∀ b, Lu L (a :: As) b ↔ (Lu L As b ∨ b = a) := fun b => by simp [Lu, or_assoc, or_comm, or_left_comm]
    have r' : RE c (fun b => Lu L As b ∨ b = a) σ H env := r.less fun b z => (key b).mpr z
    have rr' : Reps c.K (Av (fun b => Lu L As b ∨ b = a) σ env) H xs ds := rr.mono (.refl H) fun b ys gb e => ⟨⟨fun z => gb.1 ((key b).mpr z), gb.2⟩, e⟩
    have na' := n a List.mem_cons_self
    exact ⟨_, _, rfl, dgs_step (cp := ⟨true, .lst ds⟩) (Br := As) (Nh := fun b => b = a) r ⟨a, xs, rfl, ea, rr', fun z => z.elim na'.1 na, na'.2.1, rfl, r'⟩ (r.less fun b z => (key b).mpr (.inl z)) rs (fun b hb => ⟨List.mem_cons_of_mem _ hb, fun z => na (by rw [← z]; exact hb)⟩) (fun b z => by rw [z]; exact ⟨List.mem_cons_self, na'.2.2⟩) n h⟩
theorem d_gsNil : ∀ vs σ H Q, dGs c gsNil vs σ H Q → gNil vs σ H Q := fun vs σ H Q h => by
  obtain ⟨env, L, N, As, cs, r, q, n, h⟩ := h
  cases q with
  | nil => exact ⟨rfl, h σ H (r.less fun b z => .inl z) (.of .refl)⟩
  | im r rs => exact h.elim
  | fr a b r rs => exact h.elim
theorem dgs_cons (h1 : PG X e (dG c g)) (h2 : PGs X es (dGs c gs)) (hs : (assignEach (e :: es) X.env).map (·.2) = assign e X.env :: (assignEach es X.env).map (·.2) := by rfl) : PGs X (e :: es) (dGs c (gsCons g gs)) := PGsw (pgs_cons h1 h2 hs) d_gsCons
theorem dg_tup {k : Nat} {n : Nat} (hc : X.calm = true) (h : PGs X es (dGs c gs)) (hn : (assignEach es X.env).length = n := by rfl) (hst : (assignEach es X.env).findIdx? (·.1) = none := by rfl) (hK : c.K = X.K := by rfl) : PG X (.Tuple es k pos) (dG c (gT n gs)) :=
  PGw (pg_tup hc h hn hst) fun v σ H Q h => by
    obtain ⟨env, L, N, t, r, q, h⟩ := h
    unfold gT at h
    cases ec : cpsOf t env with
    | none => rw [ec] at h; exact h.elim
    | some cs =>
      rw [ec] at h
      dsimp only at h
      by_cases hl : cs.length = n
      · rw [if_pos hl] at h
        cases t with
        | al i => cases ec
        | fr ds => cases ec
        | im d =>
          cases d with
          | tup ds =>
            cases ec
            cases (show Rep c.K (Av L σ env) H v (.tup ds) from q) with
            | tup hs rs =>
              rename_i a xs
              rw [hK] at hs
              have conv : ∀ {xs : List V} {ds : List D}, Reps c.K (Av L σ env) H xs ds → RepC c.K (Av (Lu L []) σ env) H [] xs (ds.map fun d => ⟨false, d⟩) := fun {xs ds} r => by
                induction ds generalizing xs with
                | nil => cases r; exact .nil
                | cons d ds ih =>
                  cases r with
                  | cons r rs => exact .im (r.mono (.refl H) fun b ys g e => ⟨⟨fun z => z.elim g.1 (fun z => nomatch z), g.2⟩, e⟩) (ih rs)
              refine ⟨a, xs, rfl, hs, by rw [rs.length, ← hl, List.length_map], env, L, N, [], _, r.less (fun b z => z.elim id (fun z => nomatch z)), conv rs, (fun a z => nomatch z), h⟩
          | non => cases ec
          | bl b => cases ec
          | int b => cases ec
          | str b => cases ec
          | lst b => cases ec
          | fz b => cases ec
          | dct _ _ => cases ec
          | kd _ _ => cases ec
        | ft cs' =>
          cases ec
          obtain ⟨a, xs, As, rfl, hs, rc, n1, re⟩ := q
          rw [hK] at hs
          have len : ∀ {G : Addr → Prop} {As vs cs}, RepC c.K G H As vs cs → vs.length = cs.length := fun {G As vs cs} r => by
            induction r with
            | nil => rfl
            | im _ _ ih => simp [ih]
            | fr _ _ _ _ ih => simp [ih]
          exact ⟨a, xs, rfl, hs, by rw [len rc, hl], env, L, N, As, _, re, rc, n1, h⟩
      · rw [if_neg hl] at h
        exact h.elim
theorem sK.bind2 {α : Type} {S : Sp0} {N L : Addr → Prop} {σ : St} {H : Hp} {env : En} {D : Ends} {r : R α} {g : α → En → Fl} (h : sK c W L S N (r.bindF g) D) (hS : ∀ σ' e' H', Stp σ env H σ' e' H' → S σ' e' H') : dK c W L σ H env r fun a e1 H1 => sK c W L S N (g a e1) D := by
  cases r with
  | er => exact h
  | ex x e => exact fun H' r s => h σ H' r (hS _ _ _ s)
  | ok a e => exact fun H' r s => h
def sPar (i j : Nat) (fa : FA) : FS := fun env => (fa env).bindF fun ts e => (disp T.ft ts e).bindF fun t e => match t with
  | .ft [c1, c2] => match gsCons (gN i) (gsCons (gN j) gsNil) [c1, c2] e with
    | .nx e => .nx e
    | _ => .er
  | _ => .er
theorem ds_par {i j : Nat} {x y : Str} {a b : Expr} {fa : FA} {px py pt : Pos} {kt k2 pt2} (hc : X.calm = true) (hN : X.N.Nodup) (hi : X.N[i]? = some x) (hj : X.N[j]? = some y) (hij : i ≠ j)
    (hx : X.env.scope.names.lookup x = some .local) (hy : X.env.scope.names.lookup y = some .local) (ha : PA X [a, b] (dA c W fa))
    (hw : swappedStores [.Tuple [.Name x px, .Name y py] kt pt] (.Tuple [a, b] k2 pt2) X.env = pure (some [x, y]) := by rfl)
    (hs : swapsWithSole [.Tuple [.Name x px, .Name y py] kt pt] (.Tuple [a, b] k2 pt2) pos.line X.env = pure false := by rfl) :
    PS X (.Assign [.Tuple [.Name x px, .Name y py] kt pt] (.Tuple [a, b] k2 pt2) pos) (dS c W (sPar i j fa)) := PSw (ps_par hc hN hi hj hij hx hy ha hw hs) fun D σ H h => by
  obtain ⟨env, L, r, h⟩ := h
  refine dA.of r (h.bind.mono fun ts e1 H1 r1 s1 h1 vs As q n r2 => ?_)
  have h2 := h1.bind2 (σ := σ) (H := H1) (env := e1) fun _ _ _ s => s1.trans s
  refine disp_ok (N := Nn σ env H) r2 q (fun a z => n a z) (fun a z => s1.back (.inl z)) h2 fun len cs env' Bs r3 s3 q3 n3 h3 => ?_
  have h4 := h3 H1 r3.bare s3
  -- two components
  have two : ∃ c1 c2 v1 v2, cs = [c1, c2] ∧ vs = [v1, v2] := by
    have len : ∀ {G : Addr → Prop} {As vs cs}, RepC c.K G H1 As vs cs → vs.length = cs.length := fun {G As vs cs} r => by
      induction r with
      | nil => rfl
      | im _ _ ih => simp [ih]
      | fr _ _ _ _ ih => simp [ih]
    have l := len q3
    cases cs with
    | nil => exact h4.elim
    | cons c1 cs =>
      cases cs with
      | nil => exact h4.elim
      | cons c2 cs =>
        cases cs with
        | cons _ _ => exact h4.elim
        | nil =>
          cases vs with
          | nil => simp at l
          | cons v1 vs =>
            cases vs with
            | nil => simp at l
            | cons v2 vs =>
              cases vs with
              | nil => exact ⟨c1, c2, v1, v2, rfl, rfl⟩
              | cons _ _ => simp at l
  obtain ⟨c1, c2, v1, v2, rfl, rfl⟩ := two
  refine ⟨v1, v2, rfl, ?_⟩
  dsimp only at h4
  have final : dGs c (gsCons (gN i) (gsCons (gN j) gsNil)) [v1, v2] σ H1 fun σ' H' => D.nx σ' H' := by
    refine ⟨env', L, Nn σ env H, Bs, [c1, c2], r3, q3, n3, ?_⟩
    cases eg : gsCons (gN i) (gsCons (gN j) gsNil) [c1, c2] env' with
    | nx e2 =>
      rw [eg] at h4
      exact fun σ' H' r' s' => h4 σ' H' r' (s'.after (s1.trans s3))
    | er => rw [eg] at h4; exact h4
    | rt t e => rw [eg] at h4; exact h4
    | bk e => rw [eg] at h4; exact h4
    | ct e => rw [eg] at h4; exact h4
    | ex x e => rw [eg] at h4; exact h4
  -- the two names, one after the other, are the two slots
  obtain ⟨w1, wr, ew, f1⟩ := d_gsCons _ _ _ _ final
  cases ew
  obtain ⟨w2, wr2, ew, f2⟩ := d_gsCons _ _ _ _ (d_gN _ _ _ _ f1)
  cases ew
  exact (d_gsNil _ _ _ _ (d_gN _ _ _ _ f2)).2
end
end DL
namespace DL
open PySem PySem.Spec L2
variable [Wd]
def sAug (i : Nat) (g : D → D → Option T) (fa : FE) : FS := fun env => match env[i]? with
  | some (.im d) => (fa env).bindF fun t e => (op2 g (.im d) t e).bindF fun t' e2 => match gN i t' e2 with
    | .nx e3 => .nx e3
    | _ => .er
  | _ => .er
def elemD : T → Option D
  | .im d => some d
  | .fr ds => some (.lst ds)
  | .ft cs => some (.tup (cs.map Cp.d))
  | .al _ => none
@[simp] theorem elemD_im (d : D) : elemD (.im d) = some d := rfl
@[simp] theorem elemD_fr (d : List D) : elemD (.fr d) = some (.lst d) := rfl
def gSb (fo fi : FE) : FG := fun t env => match fo env with
  | .ok to e1 => match fi e1 with
    | .ok ti e2 => match to with
      | .al j => match e2[j]?, ti.val e2, elemD t with
        | some (.own b ds), some (.int k), some d => match ixN ds.length k with
          | some m => .nx (e2.set j (.own b (ds.set m d)))
          | none => .er
        | _, _, _ => .er
      | _ => .er
    | _ => .er
  | _ => .er
section
variable {X : Cx} {c : Cc} {W : WX} {pos p : Pos} {e o i : Expr} {es : List Expr} {fa fo fi : FE} {fas : FA}
theorem ds_aug {i : Nat} {x : Str} {op : Operator} {r : R2} {g : D → D → Option T} {pos' : Pos} (hN : X.N.Nodup) (hi : X.N[i]? = some x) (hx : Loc X.env.scope x) (hr : OpR X (inplaceOp op) r) (ho : OpD c r g) (he : PE X e (dE c W fa)) (hf : X.fn x = true ∨ X.env.scope.names.lookup x = some .local := by first | exact .inl rfl | exact .inr rfl | assumption) :
    PS X (.AugAssign (.Name x pos') op e pos) (dS c W (sAug i g fa)) := PSw (ps_aug (ti := r) hN hi hx he hr hf) fun D σ H h => by
  obtain ⟨env, L, re, h⟩ := h
  unfold sAug at h
  cases ei : env[i]? with
  | none => rw [ei] at h; exact h.elim
  | some s =>
    rw [ei] at h
    cases s with
    | no => exact h.elim
    | hd _ => exact h.elim
    | own b ds => exact h.elim
    | im d =>
      obtain ⟨v, ev, rv⟩ := re.im i d ei
      refine ⟨v, ev, dE.of re (h.bind.mono fun t e1 H1 r1 s1 h1 y q1 => ?_)⟩
      have h2 := h1.bind2 (σ := σ) (H := H1) (env := e1) fun _ _ _ s => s1.trans s
      refine dK_op2 (W := W) (N1 := fun _ => True) (N2 := fun _ => True) (N := Nn σ env H) ho r1 (fun d' e => by cases e; exact Rep.o (re.rep s1 rv)) (fun d e => q1.opr0 r1 e) (fun a n => s1.back n) (h2.mono fun t' e2 H2 r2 s2 h3 z q2 => ?_)
      refine d_gN _ _ _ _ ⟨e2, L, Nn σ env H, t', r2, q2, ?_⟩
      cases eg : gN i t' e2 with
      | nx e3 => rw [eg] at h3; exact fun σ' H' r' s' => h3 σ' H' r' (s'.after (s1.trans s2))
      | er => rw [eg] at h3; exact h3
      | rt t e => rw [eg] at h3; exact h3
      | bk e => rw [eg] at h3; exact h3
      | ct e => rw [eg] at h3; exact h3
      | ex x e => rw [eg] at h3; exact h3
def metT (k : List D → List T → En → Option (D × List D × En)) (to : T) (ts : List T) (e : En) : R T := match to with
  | .al j => match e[j]? with
    | some (.own _ ds) => match k ds ts e with
      | some (d, ds', e') => match e'[j]? with
        | some (.own b _) => .ok (.im d) (e'.set j (.own b ds'))
        | _ => .er
      | none => .er
    | _ => .er
  | _ => .er
def eMet (k : List D → List T → En → Option (D × List D × En)) (fo : FE) (fa : FA) : FE := fun env => (fo env).bind fun to e1 => match to with
  | .al j => (fa e1).bind fun ts e2 => metT k (.al j) ts e2
  | _ => .er
def eMet0 (k : List D → List T → En → Option (D × List D × En)) (fo : FE) : FE := fun env => (fo env).bind fun to e1 => match to with
  | .al j => metT k (.al j) [] e1
  | _ => .er
def MetD (c : Cc) (r : V → List V → Hp → VK → Prop) (k : List D → List T → En → Option (D × List D × En)) : Prop := ∀ (L : Addr → Prop) (σ : St) (H : Hp) (env : En) (a : Addr) (xs : List V) (ds : List D) (vs : List V) (As : List Addr) (ts : List T) (d : D) (ds' : List D) (env' : En) (Q : VK) (j : Nat) (b : Bool),
  RE c (Lu L As) σ H env → (∀ b ∈ As, ¬ L b ∧ c.H0 b = none) → RepAs c.K (Av (Lu L As) σ env) σ H env As vs ts → env[j]? = some (.own b ds) → σ[j]? = some (some (.ref a)) → H a = some (.lst xs) → Reps c.K (Av L σ env) H xs ds → k ds ts env = some (d, ds', env') → (∃ b' ds2, env'[j]? = some (Sl.own b' ds2)) →
  (∀ v xs', RE c L σ H env' → Stp σ env H σ env' H → Rep c.K (Av L σ env') H v d → Reps c.K (Av L σ env') H xs' ds' → Q v (upd H a (.lst xs'))) → r (.ref a) vs H Q

theorem met_ok {r : V → List V → Hp → VK → Prop} {k : List D → List T → En → Option (D × List D × En)} (hm : MetD c r k) {L : Addr → Prop} {σ : St} {H H0 H1 H2 : Hp} {env e1 e2 : En} {x : V} {to : T} {vs : List V} {As : List Addr} {ts : List T} {N : Addr → Prop} {Q : VK}
    (s02 : Stp σ env H σ e2 H2) (q1 : RepT c L N σ H1 e1 x to) (r2 : RE c L σ H2 e2) (q : RepAs c.K (Av (Lu L As) σ e2) σ H2 e2 As vs ts) (n : ∀ a ∈ As, ¬ L a ∧ c.H0 a = none ∧ Nn σ e1 H1 a) (r3 : RE c (Lu L As) σ H2 e2)
    (h : dK c W L σ H2 e2 (metT k to ts e2) fun t env' H' => ∀ v, RepT c L (Nn σ env H) σ H' env' v t → Q v H') : r x vs H2 Q := by
  unfold metT at h
  cases to with
  | im d => exact h.elim
  | fr d => exact h.elim
  | ft d => exact h.elim
  | al j =>
    dsimp only at h
    cases ej : e2[j]? with
    | none => rw [ej] at h; exact h.elim
    | some s =>
      cases s with
      | no => rw [ej] at h; exact h.elim
      | hd _ => rw [ej] at h; exact h.elim
      | im d => rw [ej] at h; exact h.elim
      | own b ds =>
        rw [ej] at h
        dsimp only at h
        cases ek : k ds ts e2 with
        | none => rw [ek] at h; exact h.elim
        | some w =>
          obtain ⟨d, ds', e'⟩ := w
          rw [ek] at h
          dsimp only at h
          cases ej' : e'[j]? with
          | none => rw [ej'] at h; exact h.elim
          | some s' =>
            cases s' with
            | no => rw [ej'] at h; exact h.elim
            | hd _ => rw [ej'] at h; exact h.elim
            | im d => rw [ej'] at h; exact h.elim
            | own b' ds2 =>
              rw [ej'] at h
              obtain ⟨a, xs, sj, ea, ra, _⟩ := r2.own j b ds ej
              obtain ⟨_, sj'⟩ := q1
              rw [sj] at sj'
              cases sj'
              refine hm L σ H2 e2 a xs ds vs As ts d ds' e' Q j b r3 (fun b hb => ⟨(n b hb).1, (n b hb).2.1⟩) q ej sj ea ra ek ⟨b', ds2, ej'⟩ fun v xs' r4 s4 qv qs => ?_
              have kp : ∀ b o, b ≠ a → H2 b = some o → upd H2 a (.lst xs') b = some o := fun b o ne e => by rw [upd_ne ne]; exact e
              have oa : ownM σ e' a := ⟨j, b', ds2, ej', sj⟩
              have tk : TK H2 (upd H2 a (.lst xs')) := ⟨fun b xs e => kp b _ (fun z => by rw [z, ea] at e; cases e) e, fun b o u e => kp b _ (fun z => by rw [z, ea] at e; cases e) e⟩
              obtain ⟨y1, y2⟩ := r4.put ej' sj kp upd_same (qs.mono tk fun b ys g e => ⟨g, kp b _ (fun z => g.2 (by rw [z]; exact oa)) e⟩)
              exact h _ y1 (s4.trans y2) v (r4.rep y2 qv)
theorem RepT.tyL {L N : Addr → Prop} {σ : St} {H : Hp} {env : En} {v : V} {j : Nat} (r : RE c L σ H env) (q : RepT c L N σ H env v (.al j)) : tyV c.K "list" v H := by
  obtain ⟨⟨io, ds, e1⟩, e2⟩ := q
  obtain ⟨a, xs, e3, e4, _⟩ := r.own j io ds e1
  rw [e2] at e3
  cases e3
  exact .inl ⟨rfl, _, .of e4⟩
theorem de_met {r : V → List V → Hp → VK → Prop} {k : List D → List T → En → Option (D × List D × En)} {name : Str} {apos cpos : Pos} {id : String} (hm : MetD c r k) (slot : Slot "list" name id) (hty : typeOf (.builtin id) = pure (.type "method_descriptor")) (hr : MtR X id r) (ho : PE X o (dE c W fo)) (ha : PA X (e :: es) (dA c W fas)) (hK : c.K = X.K := by rfl)
    (hbase : attributeBase o name X.env (eval o X.env) = eval o X.env := by rfl)
    (hfew : ((backTo cpos (starEach (e :: es) X.env)).all (fun x => !x.1) && (backToKw cpos (keywordEach [] X.env)).all (fun x => x.1.isSome)
      && decide ((e :: es).length + ([] : List Keyword).length + (if ([] : List Keyword).isEmpty then 0 else 1) < 30)) = true := by rfl)
    (hline : (apos.endLine == cpos.line) = true := by rfl) (hs : starEach (e :: es) X.env = (false, eval e X.env) :: starEach es X.env := by rfl) (hplain : (backTo cpos (starEach es X.env)).any (·.1) = false := by rfl) :
    PE X (.Call (.Attribute o name apos) (e :: es) [] cpos) (dE c W (eMet k fo fas)) :=
  PEw (pe_bm PySem.F.plainAttrs_list slot hty hr ho ha hbase hfew hline hs hplain) fun σ H Q h => by
    obtain ⟨env, L, re, h⟩ := dE_iff.mp h
    refine dE.of re (h.bind.mono fun to e1 H1 r1 s1 h1 x q1 => ?_)
    cases to with
    | im d => exact h1.elim
    | fr d => exact h1.elim
    | ft d => exact h1.elim
    | al j =>
      refine ⟨by rw [← hK]; exact q1.tyL r1, dA.of r1 (h1.bind.mono fun ts e2 H2 r2 s2 h2 vs As q n r3 => ?_)⟩
      exact met_ok (H0 := H) hm (s1.trans s2) q1 r2 q n r3 h2
def kApp (ds : List D) (ts : List T) (env : En) : Option (D × List D × En) := if ds.length < 1000000 then match mvs ts env with
  | some ([c], e) => some (.non, ds ++ [c.d], e)
  | _ => none else none
def kExt (ds : List D) (ts : List T) (env : En) : Option (D × List D × En) := match vals env ts with
  | some [.lst es] => if ds.length + es.length ≤ 1000000 then some (.non, ds ++ es, env) else none
  | _ => none
theorem m_app : MetD c rAppend kApp := by
  intro L σ H env a xs ds vs As ts d ds' env' Q j b r n q ej sj ea ra ek ow kk
  unfold kApp at ek
  split at ek
  · rename_i hl
    cases em : mvs ts env with
    | none => rw [em] at ek; cases ek
    | some w =>
      obtain ⟨cs, e'⟩ := w
      rw [em] at ek
      obtain ⟨S', Bs, h1, h2, h3, h4, h5, h6, h7⟩ := q.mv As env r (fun b => Iff.rfl) (fun _ z => z) em
      cases cs with
      | nil => cases ek
      | cons cp cs =>
        cases cs with
        | cons _ _ => cases ek
        | nil =>
          cases ek
          have rB : Reps c.K (Av L σ env') H vs [cp.d] := h5.reps (G' := Av L σ env') (fun b g => ⟨fun z => ((h3 b).mp g).1 (.inl z), ((h3 b).mp g).2⟩) fun b hb => ⟨fun z => by
            rcases (h6 b hb).2 with y | y
            · exact (n b y).1 z
            · exact y.2.2.2 z, (h1.ext b (.inr (h6 b hb).1)).1⟩
          cases rB with
          | cons r1 rs =>
            cases rs
            refine ⟨a, xs, _, rfl, rfl, ea, by rw [ra.length]; exact Nat.lt_of_lt_of_le hl (line6 (Nat.le_refl _)), ?_⟩
            exact kk .non _ h1.bare h2 .non ((r.bare.reps h2 ra).append (.cons r1 .nil))
  · cases ek
theorem Reps.dropLast {K : PySem.W.Frag} {G : Addr → Prop} {H : Hp} {vs : List V} {ds : List D} (h : Reps K G H vs ds) : Reps K G H vs.dropLast ds.dropLast := by
  rw [List.dropLast_eq_take, List.dropLast_eq_take, h.length]
  exact h.take _
end
end DL
namespace DL
open PySem PySem.Spec L2
variable [Wd]
structure Wk where
  its : List D
  chk : Option (Nat × List D)
def Wk.ok (k : Wk) (env : En) : Prop := match k.chk with
  | none => True
  | some (j, ds) => ∃ b, env[j]? = some (Sl.own b ds)
@[simp] theorem wk_ok_none (its : List D) (env : En) : Wk.ok ⟨its, none⟩ env = True := rfl
abbrev FI := En → R Wk
structure Src (c : Cc) (A : (Addr → Prop) → Prop) (S : Sp0) (J : It) (k : Wk) : Prop where
  stop : ∀ L i σ H env, A L → RE c L σ H env → S σ env H → k.ok env → k.its.length ≤ i → J.stop i H
  go : ∀ L i σ H env, A L → RE c L σ H env → S σ env H → k.ok env → i < k.its.length → J.go i H
  yld : ∀ L i σ H env x H' d, A L → RE c L σ H env → S σ env H → k.ok env → k.its[i]? = some d → J.yld i H x H' → (∀ b o, H b = some o → H' b = some o) ∧ Rep c.K (Av L σ env) H' x d
def SubS (σ σ' : St) : Prop := ∀ (j : Nat) (v : V), σ'[j]? = some (some v) → σ[j]? = some (some v)
abbrev Lx (L : Addr → Prop) (H : Hp) (L2 : Addr → Prop) : Prop := ∀ a, L2 a → L a ∨ H a = none
abbrev Sw (k : Wk) (σ : St) (env : En) (H : Hp) : Sp0 := fun σ' e' H' => Stp σ env H σ' e' H' ∧ (k.chk = none ∨ ∀ (j : Nat) (ds : List D), k.chk = some (j, ds) → ∀ v : V, σ'[j]? = some (some v) → σ[j]? = some (some v))
def dI (c : Cc) (W : WX) (f : FI) : TI := fun σ H R => ∃ env L, RE c L σ H env ∧ dK c W L σ H env (f env) fun k e1 H1 => ∀ J, (k.ok e1 ∧ Src c (Lx L H1) (Sw k σ e1 H1) J k) → R J H1
def iT (t : T) (env : En) : R Wk := match t with
  | .im (.tup ds) => .ok ⟨ds, none⟩ env
  | .ft cs => .ok ⟨cs.map Cp.d, none⟩ env
  | _ => .er
def iL (fz : Bool) (t : T) (env : En) : R Wk := match t with
  | .im (.lst ds) => .ok ⟨ds, none⟩ env
  | .im (.fz ds) => .ok ⟨ds, none⟩ env
  | .al j => match env[j]? with
    | some (.own _ ds) => if fz then .ok ⟨ds, none⟩ (env.set j (.im (.lst ds))) else .ok ⟨ds, some (j, ds)⟩ env
    | _ => .er
  | _ => .er
def fiT (fa : FE) : FI := fun env => (fa env).bind iT
def fiL (fz : Bool) (fa : FE) : FI := fun env => (fa env).bind fun t => iL fz t.weak
def rngD (m n : Int) : List D := (List.range (n - m).toNat).map fun (i : Nat) => D.int (m + (i : Int))
def iR1 (ts : List T) (env : En) : R Wk := match vals env ts with
  | some [.int n] => if -(2 ^ 62) ≤ n ∧ n < 2 ^ 62 then .ok ⟨rngD 0 n, none⟩ env else .er
  | _ => .er
def fiR1 (fa : FA) : FI := fun env => (fa env).bind iR1
def iR2 (ts : List T) (env : En) : R Wk := match vals env ts with
  | some [.int m, .int n] => if -(2 ^ 62) ≤ m ∧ m < 2 ^ 62 ∧ -(2 ^ 62) ≤ n ∧ n < 2 ^ 62 then .ok ⟨rngD m n, none⟩ env else .er
  | _ => .er
def fiR2 (fa : FA) : FI := fun env => (fa env).bind iR2
def enumD (ds : List D) : List D := ds.mapIdx fun (i : Nat) d => .tup [.int (i : Int), d]
def onI (f : List D → List D) (r : R Wk) : R Wk := r.bind fun k e => .ok ⟨f k.its, k.chk⟩ e
def iE (fz : Bool) (ts : List T) (env : En) : R Wk := match ts with
  | [.im (.tup ds)] => .ok ⟨enumD ds, none⟩ env
  | [t] => onI enumD (iL fz t.weak env)
  | _ => .er
def fiE (fz : Bool) (fa : FA) : FI := fun env => (fa env).bind (iE fz)
def zipD (xs ys : List D) : List D := xs.zipWith (fun x y => .tup [x, y]) ys
def iZ (fz : Bool) (ts : List T) (env : En) : R Wk := match ts with
  | [.im (.tup xs), .im (.tup ys)] => .ok ⟨zipD xs ys, none⟩ env
  | [t, u] => (iL true u.weak env).bind fun k2 e2 => onI (fun xs => zipD xs k2.its) (iL fz t.weak e2)
  | _ => .er
def fiZ (fz : Bool) (fa : FA) : FI := fun env => (fa env).bind (iZ fz)
theorem Rep.lx {K : PySem.W.Frag} {L L2 : Addr → Prop} {σ : St} {env : En} {H : Hp} {v : V} {d : D} (lx : Lx L H L2) (r : Rep K (Av L σ env) H v d) : Rep K (Av L2 σ env) H v d :=
  r.mono (.refl H) fun a xs g e => ⟨⟨fun z => (lx a z).elim g.1 fun z => (by rw [z] at e; cases e), g.2⟩, e⟩
theorem Reps.lx {K : PySem.W.Frag} {L L2 : Addr → Prop} {σ : St} {env : En} {H : Hp} {v : List V} {d : List D} (lx : Lx L H L2) (r : Reps K (Av L σ env) H v d) : Reps K (Av L2 σ env) H v d :=
  r.mono (.refl H) fun a xs g e => ⟨⟨fun z => (lx a z).elim g.1 fun z => (by rw [z] at e; cases e), g.2⟩, e⟩
theorem RE.freeze {c : Cc} {L : Addr → Prop} {σ : St} {H : Hp} {env : En} {i : Nat} {ds : List D} {io : Bool} (h : RE c L σ H env) (e : env[i]? = some (Sl.own io ds)) : RE c L σ H (env.set i (.im (.lst ds))) ∧ Stp σ env H σ (env.set i (.im (.lst ds))) H := by
  obtain ⟨a, xs, es, ea, ra, _⟩ := h.own i io ds e
  obtain ⟨q1, q2⟩ := h.drop e es
  have hi : i < env.length := (List.getElem?_eq_some_iff.mp e).1
  have oa : ownM σ env a := ⟨i, io, ds, e, es⟩
  have same : σ.set i (some (V.ref a)) = σ := by
    apply List.ext_getElem?
    intro j
    by_cases z : i = j
    · subst z
      rw [List.getElem?_set_self (by rw [← h.len]; exact hi), es]
    · rw [List.getElem?_set_ne z]
  have r1 : Rep c.K (Av L σ (env.set i .no)) H (.ref a) (.lst ds) := .lst ⟨fun z => (h.ext a z).1 oa, (q1.ext a (.inr rfl)).1⟩ ea (ra.mono (.refl H) fun b ys g e => ⟨⟨g.1, fun z => g.2 (own_set_no z).1⟩, e⟩)
  obtain ⟨q3, q4⟩ := (q1.less fun b z => .inl z).setIm (i := i) r1
  rw [same, List.set_set] at q3 q4
  exact ⟨q3, q2.trans q4⟩
section
variable {X : Cx} {c : Cc} {W : WX} {pos p : Pos} {e tg a b : Expr} {fa : FE} {fas : FA}
theorem PIw {t t' : TI} (h : PI X tg e t) (k : ∀ σ H R, t' σ H R → t σ H R) : PI X tg e t' := ⟨fun pins s σ H R I q => h.run pins s σ H R I (k σ H R q)⟩
def RepV (c : Cc) (L : Addr → Prop) (σ : St) (H : Hp) (env : En) (v : V) : T → Prop
  | .im d => Rep c.K (Av L σ env) H v d
  | .al i => σ[i]? = some (some v)
  | _ => False
theorem RepT.v {L N : Addr → Prop} {σ : St} {H : Hp} {env : En} {v : V} {t : T} (h : RepT c L N σ H env v t) : RepV c L σ H env v t.weak := by
  have h := h.wk
  cases t with
  | im d => exact h
  | al i => exact h.2
  | fr ds => exact h
  | ft cs => exact h
theorem RepV.step {L : Addr → Prop} {σ : St} {H H' : Hp} {env env' : En} {v : V} {t : T} (r : RE c L σ H env) (h : RepV c L σ H env v t) (s : Stp σ env H σ env' H') : RepV c L σ H' env' v t := by
  cases t with
  | im d => exact r.rep s h
  | al i => exact h
  | fr ds => exact h
  | ft cs => exact h
theorem RepAs.vs {L : Addr → Prop} {As0 : List Addr} {σ : St} {H : Hp} {env : En} : ∀ {As : List Addr} {vs : List V} {ts : List T}, RepAs c.K (Av (Lu L As0) σ env) σ H env As vs ts → RE c (Lu L As0) σ H env → (∀ a ∈ As, a ∈ As0 ∧ ¬ L a) → vs.length = ts.length ∧ ∀ (i : Nat) (v : V) (t : T), vs[i]? = some v → ts[i]? = some t → RepV c L σ H env v t.weak
  | _, _, _, .nil, _, _ => ⟨rfl, fun i v t (e : ([] : List V)[i]? = some v) => by simp at e⟩
  | _, _, _, .im r rs, h2, n => by
    obtain ⟨q1, q2⟩ := RepAs.vs rs h2 n
    refine ⟨by rw [List.length_cons, List.length_cons, q1], fun i v t e1 e2 => ?_⟩
    cases i with
    | zero =>
      cases e1
      cases e2
      exact r.mono (.refl H) fun a xs g e => ⟨⟨fun z => g.1 (.inl z), g.2⟩, e⟩
    | succ i => exact q2 i v t e1 e2
  | _, _, _, .al o es rs, h2, n => by
    obtain ⟨q1, q2⟩ := RepAs.vs rs h2 n
    refine ⟨by rw [List.length_cons, List.length_cons, q1], fun i v t e1 e2 => ?_⟩
    cases i with
    | zero =>
      cases e1
      cases e2
      exact es
    | succ i => exact q2 i v t e1 e2
  | _, _, _, .fr (a := a) na ea r rs, h2, n => by
    obtain ⟨q1, q2⟩ := RepAs.vs rs h2 fun b z => n b (List.mem_cons_of_mem _ z)
    refine ⟨by rw [List.length_cons, List.length_cons, q1], fun i v t e1 e2 => ?_⟩
    cases i with
    | zero =>
      cases e1
      cases e2
      obtain ⟨m1, m2⟩ := n a List.mem_cons_self
      exact .lst ⟨m2, (h2.ext a (.inr m1)).1⟩ ea (r.mono (.refl H) fun b ys g e => ⟨⟨fun z => g.1 (.inl z), g.2⟩, e⟩)
    | succ i => exact q2 i v t e1 e2
theorem lst_of {fz : Bool} {L : Addr → Prop} {σ1 : St} {H1 : Hp} {env1 env2 : En} {v : V} {t : T} {k : Wk} (r : RE c L σ1 H1 env1) (q : RepV c L σ1 H1 env1 v t) (e : iL fz t env1 = .ok k env2) :
    ∃ a, v = .ref a ∧ RE c L σ1 H1 env2 ∧ Stp σ1 env1 H1 σ1 env2 H1 ∧ k.ok env2 ∧ ∀ L2 σ H env, Lx L H1 L2 → RE c L2 σ H env → Sw k σ1 env2 H1 σ env H → k.ok env → ∃ xs, SqL c.K H a xs ∧ Reps c.K (Av L2 σ env) H xs k.its := by
  have im : ∀ ds, Rep c.K (Av L σ1 env1) H1 v (.lst ds) → ∃ a, v = .ref a ∧ RE c L σ1 H1 env1 ∧ Stp σ1 env1 H1 σ1 env1 H1 ∧ Wk.ok ⟨ds, none⟩ env1 ∧ ∀ L2 σ H env, Lx L H1 L2 → RE c L2 σ H env → Sw ⟨ds, none⟩ σ1 env1 H1 σ env H → Wk.ok ⟨ds, none⟩ env → ∃ xs, SqL c.K H a xs ∧ Reps c.K (Av L2 σ env) H xs ds := fun ds q => by
    have q0 := q
    cases q with
    | lst g ea rs =>
      rename_i a xs
      refine ⟨a, rfl, r, .refl, trivial, fun L2 σ H env lx re s _ => ?_⟩
      cases r.rep s.1 (Rep.lx lx q0) with
      | lst g e2 rs2 => exact ⟨_, .of e2, rs2⟩
  unfold iL at e
  cases t with
  | ft cs => cases e
  | fr ds => cases e
  | im d =>
    cases d with
    | lst ds => cases e; exact im ds q
    | fz ds =>
      cases e
      cases (show Rep c.K (Av L σ1 env1) H1 v (.fz ds) from q) with
      | fz h rs =>
        rename_i a xs
        exact ⟨a, rfl, r, .refl, trivial, fun L2 σ H env lx re s _ => ⟨xs, ((r.tk s.1).fz h).sql, r.reps s.1 (Reps.lx lx rs)⟩⟩
    | non => cases e
    | dct _ _ => cases e
    | kd _ _ => cases e
    | bl b => cases e
    | int b => cases e
    | str b => cases e
    | tup b => cases e
  | al j =>
    dsimp only at e
    cases ej : env1[j]? with
    | none => rw [ej] at e; cases e
    | some s =>
      cases s with
      | no => rw [ej] at e; cases e
      | hd _ => rw [ej] at e; cases e
      | im d => rw [ej] at e; cases e
      | own b ds =>
        rw [ej] at e
        dsimp only at e
        obtain ⟨a, xs, sj, ea, ra, _⟩ := r.own j b ds ej
        have sj' : σ1[j]? = some (some v) := q
        rw [sj] at sj'
        cases sj'
        cases fz with
        | true =>
          cases e
          obtain ⟨f1, f2⟩ := r.freeze ej
          have hj : j < env1.length := (List.getElem?_eq_some_iff.mp ej).1
          refine ⟨a, rfl, f1, f2, trivial, fun L2 σ H env lx re s _ => ?_⟩
          obtain ⟨v', e3, r4⟩ := f1.im j (.lst ds) (List.getElem?_set_self hj)
          rw [sj] at e3
          cases e3
          cases f1.rep s.1 (Rep.lx lx r4) with
          | lst g e2 rs2 => exact ⟨_, .of e2, rs2⟩
        | false =>
          cases e
          refine ⟨a, rfl, r, .refl, ⟨b, ej⟩, fun L2 σ H env lx re s ⟨b', ok⟩ => ?_⟩
          obtain ⟨a2, ys, sj2, ea2, ra2, _⟩ := re.own j b' ds ok
          have sub := s.2.elim (fun z => nomatch z) fun z => z j _ rfl
          have := sub _ sj2
          rw [sj] at this
          cases this
          exact ⟨ys, .of ea2, ra2⟩
theorem src_list {A : (Addr → Prop) → Prop} {S : Sp0} {a : Addr} {k : Wk} (hl : ∀ L σ H env, A L → RE c L σ H env → S σ env H → k.ok env → ∃ xs, SqL c.K H a xs ∧ Reps c.K (Av L σ env) H xs k.its) : Src c A S (Itl c.K a) k := by
  refine ⟨fun L i σ H env al re s k hi => ?_, fun L i σ H env al re s k hi => ?_, fun L i σ H env x H' d al re s k hd hy => ?_⟩
  · obtain ⟨xs, h, rs⟩ := hl L σ H env al re s k
    exact ⟨xs, h, by rw [rs.length]; exact hi⟩
  · obtain ⟨xs, h, rs⟩ := hl L σ H env al re s k
    have hi' : i < xs.length := by rw [rs.length]; exact hi
    exact ⟨xs, xs[i], h, List.getElem?_eq_getElem hi'⟩
  · obtain ⟨rfl, hy⟩ := hy
    obtain ⟨xs, h, rs⟩ := hl L σ H' env al re s k
    obtain ⟨v, ev, rv⟩ := rs.get hd
    have := hy xs h
    rw [ev] at this
    cases this
    exact ⟨fun _ _ e => e, rv⟩
theorem src_tup {A : (Addr → Prop) → Prop} {S : Sp0} {a : Addr} {k : Wk} (hl : ∀ L σ H env, A L → RE c L σ H env → S σ env H → k.ok env → ∃ xs, SqT c.K H a xs ∧ Reps c.K (Av L σ env) H xs k.its) : Src c A S (Itt c.K a) k := by
  refine ⟨fun L i σ H env al re s k hi => ?_, fun L i σ H env al re s k hi => ?_, fun L i σ H env x H' d al re s k hd hy => ?_⟩
  · obtain ⟨xs, h, rs⟩ := hl L σ H env al re s k
    exact ⟨xs, h, by rw [rs.length]; exact hi⟩
  · obtain ⟨xs, h, rs⟩ := hl L σ H env al re s k
    have hi' : i < xs.length := by rw [rs.length]; exact hi
    exact ⟨xs, xs[i], h, List.getElem?_eq_getElem hi'⟩
  · obtain ⟨rfl, hy⟩ := hy
    obtain ⟨xs, h, rs⟩ := hl L σ H' env al re s k
    obtain ⟨v, ev, rv⟩ := rs.get hd
    have := hy xs h
    rw [ev] at this
    cases this
    exact ⟨fun _ _ e => e, rv⟩
theorem pair_new {L : Addr → Prop} {σ : St} {H : Hp} {env : En} {Tt : Addr} {x y : V} {dx dy : D} (re : RE c L σ H env) (n : H Tt = none) (rx : Rep c.K (Av L σ env) H x dx) (ry : Rep c.K (Av L σ env) H y dy) :
    (∀ b o, H b = some o → upd H Tt (.tup [x, y]) b = some o) ∧ Rep c.K (Av L σ env) (upd H Tt (.tup [x, y])) (.ref Tt) (.tup [dx, dy]) := by
  have kp : ∀ b o, H b = some o → upd H Tt (.tup [x, y]) b = some o := fun b o e => by rw [upd_ne (ne_of_none e n)]; exact e
  exact ⟨kp, .tup (.inl (.inl upd_same)) (.cons (re.rep (.grow kp) rx) (.cons (re.rep (.grow kp) ry) .nil))⟩
theorem enumD_get {ds : List D} {i : Nat} {d : D} (h : (enumD ds)[i]? = some d) : ∃ d', ds[i]? = some d' ∧ d = .tup [.int (i : Int), d'] := by
  unfold enumD at h
  rw [List.getElem?_mapIdx] at h
  cases q : ds[i]? with
  | none => rw [q] at h; cases h
  | some d' => rw [q] at h; cases h; exact ⟨d', rfl, rfl⟩
theorem enumD_len (ds : List D) : (enumD ds).length = ds.length := by simp [enumD]
theorem src_enumL {A : (Addr → Prop) → Prop} {S : Sp0} {a : Addr} {k : Wk} (hl : ∀ L σ H env, A L → RE c L σ H env → S σ env H → k.ok env → ∃ xs, SqL c.K H a xs ∧ Reps c.K (Av L σ env) H xs k.its) : Src c A S (Ite c.K a) ⟨enumD k.its, k.chk⟩ := by
  refine ⟨fun L i σ H env al re s k hi => ?_, fun L i σ H env al re s k hi => ?_, fun L i σ H env x H' d al re s k hd hy => ?_⟩
  · obtain ⟨xs, h, rs⟩ := hl L σ H env al re s k
    exact ⟨xs, h, by rw [rs.length, ← enumD_len]; exact hi⟩
  · obtain ⟨xs, h, rs⟩ := hl L σ H env al re s k
    have hi' : i < xs.length := by rw [rs.length, ← enumD_len]; exact hi
    exact ⟨xs, xs[i], h, List.getElem?_eq_getElem hi'⟩
  · obtain ⟨Tt, y, rfl, n, rfl, hy⟩ := hy
    obtain ⟨xs, h, rs⟩ := hl L σ H env al re s k
    obtain ⟨d', e1, rfl⟩ := enumD_get hd
    obtain ⟨v, ev, rv⟩ := rs.get e1
    have := hy xs h
    rw [ev] at this
    cases this
    exact pair_new re n (.int _) rv
theorem src_enumT {A : (Addr → Prop) → Prop} {S : Sp0} {a : Addr} {k : Wk} (hl : ∀ L σ H env, A L → RE c L σ H env → S σ env H → k.ok env → ∃ xs, SqT c.K H a xs ∧ Reps c.K (Av L σ env) H xs k.its) : Src c A S (IteT c.K a) ⟨enumD k.its, k.chk⟩ := by
  refine ⟨fun L i σ H env al re s k hi => ?_, fun L i σ H env al re s k hi => ?_, fun L i σ H env x H' d al re s k hd hy => ?_⟩
  · obtain ⟨xs, h, rs⟩ := hl L σ H env al re s k
    exact ⟨xs, h, by rw [rs.length, ← enumD_len]; exact hi⟩
  · obtain ⟨xs, h, rs⟩ := hl L σ H env al re s k
    have hi' : i < xs.length := by rw [rs.length, ← enumD_len]; exact hi
    exact ⟨xs, xs[i], h, List.getElem?_eq_getElem hi'⟩
  · obtain ⟨Tt, y, rfl, n, rfl, hy⟩ := hy
    obtain ⟨xs, h, rs⟩ := hl L σ H env al re s k
    obtain ⟨d', e1, rfl⟩ := enumD_get hd
    obtain ⟨v, ev, rv⟩ := rs.get e1
    have := hy xs h
    rw [ev] at this
    cases this
    exact pair_new re n (.int _) rv
theorem src_rng {A : (Addr → Prop) → Prop} {S : Sp0} (m n : Int) : Src c A S (Itr m (n - m).toNat) ⟨rngD m n, none⟩ := by
  have len : (rngD m n).length = (n - m).toNat := by simp [rngD]
  refine ⟨fun L i σ H env al re s k hi => ?_, fun L i σ H env al re s k hi => ?_, fun L i σ H env x H' d al re s k hd hy => ?_⟩
  · show (n - m).toNat ≤ i
    rw [← len]; exact hi
  · show i < (n - m).toNat
    rw [← len]; exact hi
  · obtain ⟨rfl, rfl⟩ := hy
    dsimp only [rngD] at hd
    rw [List.getElem?_map] at hd
    cases q : (List.range (n - m).toNat)[i]? with
    | none => rw [q] at hd; cases hd
    | some j =>
      rw [q] at hd
      cases hd
      have : j = i := by
        have q2 := List.getElem?_eq_some_iff.mp q
        obtain ⟨h1, h2⟩ := q2
        simpa using h2.symm
      subst this
      exact ⟨fun _ _ e => e, .int _⟩
theorem di_tup (he : PE X e (dE c W fa)) (hK : c.K = X.K := by rfl) : PI X tg e (dI c W (fiT fa)) := PIw (pi_tup he) fun σ H R h => by
  obtain ⟨env, L, r, h⟩ := h
  refine dE.of r (h.bind.mono fun t e1 H1 r1 s1 h1 v q => ?_)
  rw [← hK]
  cases t with
  | al i => exact h1.elim
  | fr ds => exact h1.elim
  | im d =>
    cases d with
    | tup ds =>
      have q0 : Rep c.K (Av L σ e1) H1 v (.tup ds) := q
      cases (show Rep c.K (Av L σ e1) H1 v (.tup ds) from q) with
      | tup ht rs =>
        rename_i a xs
        exact ⟨a, rfl, ⟨xs, ht⟩, h1 H1 r1 .refl (Itt c.K a) ⟨trivial, src_tup fun L2 σ' H' env' lx re s _ => ⟨xs, (r1.tk s.1).sqt ht, r1.reps s.1 (Reps.lx lx rs)⟩⟩⟩
    | non => exact h1.elim
    | bl b => exact h1.elim
    | int b => exact h1.elim
    | str b => exact h1.elim
    | lst b => exact h1.elim
    | fz b => exact h1.elim
    | dct _ _ => exact h1.elim
    | kd _ _ => exact h1.elim
  | ft cs =>
    have q : Rep c.K (Av L σ e1) H1 v (.tup (cs.map Cp.d)) := q.wk
    cases q with
    | tup ht rs =>
      rename_i a xs
      exact ⟨a, rfl, ⟨xs, ht⟩, h1 H1 r1 .refl (Itt c.K a) ⟨trivial, src_tup fun L2 σ' H' env' lx re s _ => ⟨xs, (r1.tk s.1).sqt ht, r1.reps s.1 (Reps.lx lx rs)⟩⟩⟩
theorem dI_ok {σ : St} {H : Hp} {L : Addr → Prop} {env : En} {r : R Wk} {P : Wk → En → Hp → Prop} (h : dK c W L σ H env r P) (re : RE c L σ H env) (ok : ∀ cls e, r ≠ .ex cls e) (st : ∀ k e2, r = .ok k e2 → RE c L σ H e2 ∧ Stp σ env H σ e2 H) : ∃ k e2, r = .ok k e2 ∧ P k e2 H := by
  cases r with
  | er => exact h.elim
  | ex cls e => exact (ok cls e rfl).elim
  | ok k e2 => exact ⟨k, e2, rfl, h H (st k e2 rfl).1 (st k e2 rfl).2⟩
theorem iL_ex {fz : Bool} {t : T} {env : En} : ∀ cls e, iL fz t env ≠ .ex cls e := fun cls e z => by
  unfold iL at z
  split at z
  · cases z
  · cases z
  · split at z
    · split at z <;> cases z
    · cases z
  · cases z
theorem di_list (fz : Bool) (he : PE X e (dE c W fa)) (hK : c.K = X.K := by rfl) : PI X tg e (dI c W (fiL fz fa)) := PIw (pi_list he) fun σ H R h => by
  obtain ⟨env, L, r, h⟩ := h
  refine dE.of r (h.bind.mono fun t e1 H1 r1 s1 h1 v q => ?_)
  rw [← hK]
  obtain ⟨k, e2, ek, h1⟩ := dI_ok h1 r1 iL_ex fun k e2 e => by
    obtain ⟨a, _, re, st, _⟩ := lst_of r1 q.v e
    exact ⟨re, st⟩
  obtain ⟨a, rfl, re, st, ok, hl⟩ := lst_of r1 q.v ek
  obtain ⟨xs, hx, _⟩ := hl L σ H1 e2 (fun _ z => .inl z) re ⟨.refl, .inr fun _ _ _ _ e => e⟩ ok
  exact ⟨a, rfl, ⟨xs, hx⟩, h1 (Itl c.K a) ⟨ok, src_list hl⟩⟩
theorem RepO_int {K : PySem.W.Frag} {G : Addr → Prop} {H : Hp} {v : V} {n : Int} (h : RepO K G H v (.int n)) : v = .int n := by
  cases (show Rep K G H v (.int n) from h)
  rfl
theorem di_range1 {fas : FA} (hg : Gl X "range") (hm : X.mg "range" = none) (ha : PA X [a] (dA c W fas)) (hs : starEach [a] X.env = [(false, eval a X.env)] := by rfl) : PI X tg (.Call (.Name "range" p) [a] [] pos) (dI c W (fiR1 fas)) :=
  PIw (pi_range1 hg hm ha hs) fun σ H R h => by
  obtain ⟨env, L, r, h⟩ := h
  refine dA.of r (h.bind.mono fun ts e1 H1 r1 s1 h1 vs As q n r2 => ?_)
  unfold iR1 at h1
  split at h1
  · rename_i m ev
    have qq := q.oprs r1 r2 (fun a z => ⟨z, (n a z).1⟩) ev
    cases qq with
    | cons qa qs =>
      cases qs
      cases RepO_int qa
      by_cases z : -(2 ^ 62) ≤ m ∧ m < 2 ^ 62
      · rw [if_pos z] at h1
        refine ⟨m, rfl, z.1, z.2, ?_⟩
        have := h1 H1 r1 .refl (Itr 0 (m - 0).toNat) ⟨trivial, src_rng 0 m⟩
        rwa [Int.sub_zero] at this
      · rw [if_neg z] at h1
        exact h1.elim
  · exact h1.elim
theorem onI_ok {f : List D → List D} {r : R Wk} {k : Wk} {e : En} (h : onI f r = .ok k e) : ∃ k0, r = .ok k0 e ∧ k = ⟨f k0.its, k0.chk⟩ := by
  cases r with
  | er => cases h
  | ex x e => cases h
  | ok k0 e0 => cases h; exact ⟨k0, rfl, rfl⟩
theorem onI_ex {f : List D → List D} {r : R Wk} (h : ∀ cls e, r ≠ .ex cls e) : ∀ cls e, onI f r ≠ .ex cls e := fun cls e z => by
  cases r with
  | er => cases z
  | ex x e => exact h _ _ rfl
  | ok k0 e0 => cases z
theorem di_enum {fas : FA} {elts : List Expr} {kk : Nat} {tpos : Pos} (fz : Bool) (hg : Gl X "enumerate") (hm : X.mg "enumerate" = none) (ha : PA X [e] (dA c W fas)) (hK : c.K = X.K := by rfl) (hs : starEach [e] X.env = [(false, eval e X.env)] := by rfl) :
    PI X (.Tuple elts kk tpos) (.Call (.Name "enumerate" p) [e] [] pos) (dI c W (fiE fz fas)) :=
  PIw (pi_enumA hg hm ha hs) fun σ H R h => by
  obtain ⟨env, L, r, h⟩ := h
  refine dA.of r (h.bind.mono fun ts e1 H1 r1 s1 h1 vs As q n r2 => ?_)
  rw [← hK]
  obtain ⟨ql, qv⟩ := q.vs r2 fun a z => ⟨z, (n a z).1⟩
  unfold iE at h1
  split at h1
  · rename_i ds
    obtain ⟨v, rfl⟩ : ∃ v, vs = [v] := by
      cases vs with
      | nil => cases ql
      | cons v vs =>
        cases vs with
        | nil => exact ⟨v, rfl⟩
        | cons _ _ => cases ql
    have q : Rep c.K (Av L σ e1) H1 v (.tup ds) := qv 0 v _ rfl rfl
    cases q with
    | tup ht rs =>
      rename_i a xs
      exact ⟨a, xs, rfl, .inr ⟨ht, h1 H1 r1 .refl (IteT c.K a) ⟨trivial, src_enumT (k := ⟨ds, none⟩) fun L2 σ' H' env' lx re s _ => ⟨xs, (r1.tk s.1).sqt ht, r1.reps s.1 (Reps.lx lx rs)⟩⟩⟩⟩
  · rename_i t _
    obtain ⟨v, rfl⟩ : ∃ v, vs = [v] := by
      cases vs with
      | nil => cases ql
      | cons v vs =>
        cases vs with
        | nil => exact ⟨v, rfl⟩
        | cons _ _ => cases ql
    have qw := qv 0 v _ rfl rfl
    obtain ⟨k, e2, ek, h1⟩ := dI_ok h1 r1 (onI_ex iL_ex) fun k e2 e => by
      obtain ⟨k0, e, _⟩ := onI_ok e
      obtain ⟨a, _, re, st, _⟩ := lst_of r1 qw e
      exact ⟨re, st⟩
    obtain ⟨k0, ek0, rfl⟩ := onI_ok ek
    obtain ⟨a, rfl, re, st, ok, hl⟩ := lst_of r1 qw ek0
    have hl : ∀ L2 σ' H' env', Lx L H1 L2 → RE c L2 σ' H' env' → Sw ⟨enumD k0.its, k0.chk⟩ σ e2 H1 σ' env' H' → k0.ok env' → ∃ xs, SqL c.K H' a xs ∧ Reps c.K (Av L2 σ' env') H' xs k0.its := hl
    obtain ⟨xs, hx, _⟩ := hl L σ H1 e2 (fun _ z => .inl z) re ⟨.refl, .inr fun _ _ _ _ e => e⟩ ok
    exact ⟨a, xs, rfl, .inl ⟨hx, h1 (Ite c.K a) ⟨ok, src_enumL hl⟩⟩⟩
  · exact h1.elim
end
end DL
namespace DL
open PySem PySem.Spec L2
variable [Wd]
def loopF (g : FG) (f : FS) : List D → En → Fl
  | [], env => .nx env
  | d :: ds, env => match g (.im d) env with
    | .nx e => match f e with
      | .nx e1 => loopF g f ds e1
      | .ct e1 => loopF g f ds e1
      | .bk e1 => .nx e1
      | .rt t e1 => .rt t e1
      | .ex x e1 => .ex x e1
      | .er => .er
    | _ => .er
def sFor (fi : FI) (g : FG) (f : FS) : FS := fun env => (fi env).bindF fun k e => match k.chk with
  | none => loopF g f k.its e
  | some _ => .er
section
variable {X : Cx} {c : Cc} {W : WX} {pos p : Pos} {iter tg : Expr} {body : List Stmt} {fi : FI} {g : FG} {f : FS}
theorem d_for : ∀ D σ H, dS c W (sFor fi g f) D σ H → tFor (dI c W fi) (dG c g) (dS c W f) D σ H := fun D σ H h => by
  obtain ⟨env, L, re, h⟩ := h
  refine ⟨env, L, re, (sK.bind h).mono fun k e1 H1 r1 s1 h1 J ⟨ok, src⟩ => ?_⟩
  obtain ⟨its, chk⟩ := k
  cases chk with
  | some z => exact h1.elim
  | none =>
    have h1 : sK c W L (Stp σ env H) (Nn σ env H) (loopF g f its e1) D := h1
    have sw : ∀ {σ' env' H'}, Stp σ e1 H1 σ' env' H' → Sw ⟨its, none⟩ σ e1 H1 σ' env' H' := fun s => ⟨s, .inl rfl⟩
    refine ⟨fun i m σ' H' => m = its.length - i ∧ ∃ env', RE c L σ' H' env' ∧ Stp σ e1 H1 σ' env' H' ∧ sK c W L (Stp σ' env' H') (Nn σ' env' H') (loopF g f (its.drop i) env') D, ⟨_, rfl, e1, r1, .refl, h1.here s1⟩, fun i m σ' H' ⟨em, env', r, s, q⟩ => ?_⟩
    by_cases hi : its.length ≤ i
    · refine .inl ⟨src.stop L i σ' H' env' (fun _ z => .inl z) r (sw s) trivial hi, ?_⟩
      rw [List.drop_eq_nil_of_le hi] at q
      exact q σ' H' r .refl
    · have hi : i < its.length := Nat.lt_of_not_le hi
      refine .inr ⟨src.go L i σ' H' env' (fun _ z => .inl z) r (sw s) trivial hi, fun σ2 H2 => ∃ env2, RE c L σ2 H2 env2 ∧ Stp σ e1 H1 σ2 env2 H2 ∧ sK c W L (Stp σ2 env2 H2) (Nn σ2 env2 H2) (loopF g f (its.drop (i + 1)) env2) D, fun σ2 H2 n => ⟨its.length - (i + 1), by omega, rfl, n⟩, fun x H'' y => ?_⟩
      rw [List.drop_eq_getElem_cons hi] at q
      obtain ⟨kp, rx⟩ := src.yld L i σ' H' env' x H'' its[i] (fun _ z => .inl z) r (sw s) trivial (List.getElem?_eq_getElem hi) y
      have r' := r.grow kp
      have s' : Stp σ' env' H' σ' env' H'' := .grow kp
      refine ⟨env', L, Nn σ' env' H'', .im its[i], r', rx, ?_⟩
      have q : sK c W L (Stp σ' env' H'') (Nn σ' env' H'') (loopF g f (its[i] :: its.drop (i + 1)) env') D := q.here s'
      unfold loopF at q
      cases eg : g (.im its[i]) env' with
      | er => rw [eg] at q; exact q.elim
      | rt t e => rw [eg] at q; exact q.elim
      | bk e => rw [eg] at q; exact q.elim
      | ct e => rw [eg] at q; exact q.elim
      | ex x e => rw [eg] at q; exact q.elim
      | nx e2 =>
        rw [eg] at q
        intro σ2 H2 r2 n2
        have s2 : Stp σ' env' H'' σ2 e2 H2 := StpN.after .refl n2
        refine ⟨e2, L, r2, ?_⟩
        dsimp only at q
        have q := q.here s2
        cases ef : f e2 with
        | er => rw [ef] at q; exact q.elim
        | nx e3 => rw [ef] at q; exact fun σ3 H3 r3 s3 => ⟨e3, r3, ((s.trans s').trans s2).trans s3, q.here s3⟩
        | ct e3 => rw [ef] at q; exact fun σ3 H3 r3 s3 => ⟨e3, r3, ((s.trans s').trans s2).trans s3, q.here s3⟩
        | bk e3 => rw [ef] at q; exact q
        | rt t e3 => rw [ef] at q; exact q
        | ex x e3 => rw [ef] at q; exact q
theorem ds_for (hp : PassesOwn (model X.prog X.w) X.A X.env X.xe) (hc : X.calm = true) (hi : PI X tg iter (dI c W fi)) (hg : PG X tg (dG c g)) (hb : PSs X body (dS c W f))
    (hs : ∀ x, foldedSetIterable iter X.env x = pure x := by intro _; rfl) : PS X (.For tg iter body [] pos) (dS c W (sFor fi g f)) := PSw (ps_for hp hc hi hg hb hs) d_for
end
inductive CT where
  | one (i : Nat) | tup (is : List Nat) | nest (is : List Nat) (j : Nat)
def setEach : List Nat → List D → En → En
  | i :: is, d :: ds, env => setEach is ds (env.set i (.im d))
  | _, _, env => env
def envT (t : CT) (d : D) (env : En) : Option En := match t with
  | .one i => some (env.set i (.im d))
  | .tup is => match d with
    | .tup ds => if is.length = ds.length then some (setEach is ds env) else none
    | _ => none
  | .nest is j => match d with
    | .tup [.tup ds, d2] => if is.length = ds.length then some ((setEach is ds env).set j (.im d2)) else none
    | _ => none
def gEach : List Nat → TGs
  | [] => gNil
  | i :: is => gCons (gName i) (gEach is)
def gCT (K : PySem.W.Frag) (t : CT) : TG := match t with
  | .one i => gName i
  | .tup is => gTup K is.length (gEach is)
  | .nest is j => gTup K 2 (gCons (gTup K is.length (gEach is)) (gCons (gName j) gNil))
def CT.ins (t : CT) (vs : List Nat) : Prop := match t with
  | .one i => i ∈ vs
  | .tup is => ∀ i ∈ is, i ∈ vs
  | .nest is j => (∀ i ∈ is, i ∈ vs) ∧ j ∈ vs
def wipeE (env : En) : List Nat → En
  | [] => env
  | v :: vs => (wipeE env vs).set v .no
theorem wipeE_length (env : En) : ∀ vs : List Nat, (wipeE env vs).length = env.length
  | [] => rfl
  | v :: vs => by unfold wipeE; rw [List.length_set, wipeE_length env vs]
theorem wipeE_out {env : En} {i : Nat} : ∀ {vs : List Nat}, i ∉ vs → (wipeE env vs)[i]? = env[i]?
  | [], _ => rfl
  | v :: vs, h => by
    unfold wipeE
    rw [List.getElem?_set_ne (fun z => h (by rw [z]; exact List.mem_cons_self))]
    exact wipeE_out fun z => h (List.mem_cons_of_mem _ z)
theorem wipeE_in {env : En} {i : Nat} {s : Sl} : ∀ {vs : List Nat}, i ∈ vs → (wipeE env vs)[i]? = some s → s = .no
  | v :: vs, h, e => by
    unfold wipeE at e
    by_cases z : v = i
    · subst z
      rw [List.getElem?_set] at e
      simp only [if_true] at e
      split at e
      · cases e; rfl
      · cases e
    · rw [List.getElem?_set_ne z] at e
      exact wipeE_in ((List.mem_cons.mp h).resolve_left fun y => z y.symm) e
theorem wipe_in {σ : St} {i : Nat} : ∀ {vs : List Nat}, i ∈ vs → (wipe σ vs)[i]? = if i < σ.length then some none else none
  | v :: vs, h => by
    unfold wipe
    by_cases z : v = i
    · subst z
      rw [List.getElem?_set, wipe_length]
      simp
    · rw [List.getElem?_set_ne z]
      exact wipe_in ((List.mem_cons.mp h).resolve_left fun y => z y.symm)
theorem wipe_eq {σ σ' : St} {vs : List Nat} (l : σ'.length = σ.length) (o : ∀ j, j ∉ vs → σ'[j]? = σ[j]?) : wipe σ' vs = wipe σ vs := by
  apply List.ext_getElem?
  intro j
  by_cases z : j ∈ vs
  · rw [wipe_in z, wipe_in z, l]
  · rw [RZ_wipe_out z, RZ_wipe_out z, o j z]
where RZ_wipe_out {σ : St} {i : Nat} : ∀ {vs : List Nat}, i ∉ vs → (wipe σ vs)[i]? = σ[i]?
  | [], _ => rfl
  | v :: vs, h => by
    unfold wipe
    rw [List.getElem?_set_ne (fun z => h (by rw [z]; exact List.mem_cons_self))]
    exact RZ_wipe_out fun z => h (List.mem_cons_of_mem _ z)
theorem wipe_out' {σ : St} {i : Nat} {vs : List Nat} (h : i ∉ vs) : (wipe σ vs)[i]? = σ[i]? := wipe_eq.RZ_wipe_out h
theorem RE.sub {c : Cc} {L : Addr → Prop} {σ σ' : St} {H : Hp} {env env' : En} (h : RE c L σ H env) (l : env'.length = σ'.length) (k : ∀ (j : Nat) (s : Sl), env'[j]? = some s → s = .no ∨ (env[j]? = some s ∧ σ'[j]? = σ[j]?)) : RE c L σ' H env' ∧ (∀ a, ownM σ' env' a → ownM σ env a) ∧ Stp σ env H σ' env' H := by
  have ow : ∀ a, ownM σ' env' a → ownM σ env a := fun a ⟨i, io, ds, e1, e2⟩ => by
    rcases k i _ e1 with z | ⟨q1, q2⟩
    · cases z
    · exact ⟨i, io, ds, q1, q2 ▸ e2⟩
  have av : ∀ b, Av L σ env b → Av L σ' env' b := fun b g => ⟨g.1, fun z => g.2 (ow b z)⟩
  refine ⟨⟨l, fun i d e => ?_, fun i io ds e => ?_, fun i j io jo ds es a e1 e2 e3 e4 => ?_, fun a la => ⟨fun z => (h.ext a la).1 (ow a z), (h.ext a la).2⟩, h.fr, h.io, fun j a e => (k j _ e).elim (fun z => nomatch z) fun q => q.2.trans (h.hd j a q.1)⟩, ow, fun b n => ⟨rfl, fun z => n (z.imp (ow b) id)⟩⟩
  · rcases k i _ e with z | ⟨q1, q2⟩
    · cases z
    · obtain ⟨v, e1, r⟩ := h.im i d q1
      exact ⟨v, q2.trans e1, r.mono (.refl H) fun b xs g e => ⟨av b g, e⟩⟩
  · rcases k i _ e with z | ⟨q1, q2⟩
    · cases z
    · obtain ⟨a, xs, e1, e2, r, z⟩ := h.own i io ds q1
      exact ⟨a, xs, q2.trans e1, e2, r.mono (.refl H) (fun b xs g e => ⟨av b g, e⟩), z⟩
  · rcases k i _ e1 with z | ⟨q1, q2⟩
    · cases z
    · rcases k j _ e2 with z | ⟨q3, q4⟩
      · cases z
      · exact h.inj i j io jo ds es a q1 q3 (q2 ▸ e3) (q4 ▸ e4)
theorem RE.wipe {c : Cc} {L : Addr → Prop} {σ : St} {H : Hp} {env : En} (vs : List Nat) (h : RE c L σ H env) : RE c L (wipe σ vs) H (wipeE env vs) ∧ (∀ a, ownM (L2.wipe σ vs) (wipeE env vs) a → ownM σ env a) ∧ Stp σ env H (L2.wipe σ vs) (wipeE env vs) H :=
  h.sub (by rw [wipeE_length, wipe_length, h.len]) fun j s e => by
    by_cases z : j ∈ vs
    · exact .inl (wipeE_in z e)
    · rw [wipeE_out z] at e
      exact .inr ⟨e, wipe_out' z⟩
theorem RE.ext_put {c : Cc} {L : Addr → Prop} {σ : St} {H H' : Hp} {env : En} {a : Addr} {xs' : List V} (h : RE c L σ H env) (la : L a) (kp : ∀ b, b ≠ a → H' b = H b) (ea : H' a = some (.lst xs')) (h0 : c.H0 a = none) : RE c L σ H' env := by
  have tk : TK H H' := by
    obtain ⟨_, ys, e⟩ := h.ext a la
    have ne : ∀ b o, H b = some o → (∀ xs, o ≠ .lst xs) → H' b = some o := fun b o e2 n => by
      rw [kp b fun z => ?_]
      · exact e2
      · rw [z, e] at e2
        cases e2
        exact n _ rfl
    exact ⟨fun b xs e => ne b _ e (fun _ z => nomatch z), fun b o u e => ne b _ e (fun _ z => nomatch z)⟩
  have go : ∀ b xs, Av L σ env b → H b = some (HO.lst xs) → Av L σ env b ∧ H' b = some (HO.lst xs) := fun b xs g e => ⟨g, by rw [kp b fun z => g.1 (by rw [z]; exact la)]; exact e⟩
  refine ⟨h.len, fun i d e => ?_, fun i io ds e => ?_, h.inj, fun b lb => ⟨(h.ext b lb).1, ?_⟩, fun b o n e => ?_, fun b ib => ?_, h.hd⟩
  · obtain ⟨v, e1, r⟩ := h.im i d e
    exact ⟨v, e1, r.mono tk go⟩
  · obtain ⟨b, xs, e1, e2, r, z⟩ := h.own i io ds e
    refine ⟨b, xs, e1, ?_, r.mono tk go, z⟩
    rw [kp b fun z => (h.ext a la).1 ⟨i, io, ds, e, by rw [← z]; exact e1⟩]
    exact e2
  · by_cases z : b = a
    · exact ⟨_, by rw [z]; exact ea⟩
    · rw [kp b z]
      exact (h.ext b lb).2
  · rw [kp b fun z => by rw [z, h0] at e; cases e]
    exact h.fr b o n e
  · by_cases z : b = a
    · exact ⟨_, by rw [z]; exact ea⟩
    · rw [kp b z]
      exact h.io b ib
theorem RE.setEach {c : Cc} {L : Addr → Prop} {H : Hp} {vs : List Nat} {Q : St → Hp → Prop} : ∀ (is : List Nat) (ds : List D) {σ : St} {env : En} {xs : List V}, RE c L σ H env → Reps c.K (Av L σ env) H xs ds → is.length = ds.length → (∀ i ∈ is, i ∈ vs) →
    (∀ σ2, RE c L σ2 H (setEach is ds env) → Stp σ env H σ2 (DL.setEach is ds env) H → L2.wipe σ2 vs = L2.wipe σ vs → Q σ2 H) → gEach is xs σ H Q
  | [], [], σ, env, xs, r, q, _, _, k => by
    cases q
    exact ⟨rfl, k σ r .refl rfl⟩
  | [], d :: ds, _, _, _, _, _, e, _, _ => by cases e
  | i :: is, [], _, _, _, _, _, e, _, _ => by cases e
  | i :: is, d :: ds, σ, env, xs, r, q, e, n, k => by
    cases q with
    | cons q qs =>
      obtain ⟨q1, q2⟩ := r.setIm (i := i) q
      refine ⟨_, _, rfl, RE.setEach is ds q1 (r.reps q2 qs) (by simpa using e) (fun j z => n j (List.mem_cons_of_mem _ z)) fun σ2 r2 s2 w2 => k σ2 r2 (q2.trans s2) (w2.trans ?_)⟩
      refine wipe_eq (by rw [List.length_set]) fun j z => ?_
      rw [List.getElem?_set_ne]
      intro y
      exact z (y ▸ n i List.mem_cons_self)
theorem gCT_of {c : Cc} {L : Addr → Prop} {H : Hp} {vs : List Nat} {Q : St → Hp → Prop} {σ : St} {env env2 : En} {v : V} {d : D} {t : CT} (r : RE c L σ H env) (q : Rep c.K (Av L σ env) H v d) (e : envT t d env = some env2) (n : t.ins vs)
    (k : ∀ σ2, RE c L σ2 H env2 → Stp σ env H σ2 env2 H → L2.wipe σ2 vs = L2.wipe σ vs → Q σ2 H) : gCT c.K t v σ H Q := by
  cases t with
  | one i =>
    cases e
    obtain ⟨q1, q2⟩ := r.setIm (i := i) q
    refine k _ q1 q2 (wipe_eq (by rw [List.length_set]) fun j z => ?_)
    rw [List.getElem?_set_ne]
    intro y
    exact z (y ▸ n)
  | tup is =>
    cases q with
    | tup ht rs =>
      rename_i a xs ds
      dsimp only [envT] at e
      split at e
      · rename_i hl
        cases e
        exact ⟨a, xs, rfl, ht, by rw [rs.length, hl], RE.setEach is ds r rs hl n k⟩
      · cases e
    | _ => cases e
  | nest is j =>
    dsimp only [envT] at e
    split at e
    · rename_i ds d2
      split at e
      · rename_i hl
        cases e
        cases q with
        | tup ht rs =>
          rename_i a xs
          cases rs with
          | cons q1 rs =>
            cases rs with
            | cons q2 rs =>
              cases rs
              rename_i v1 v2
              obtain ⟨a1, xs1, e1, h1, rs1⟩ : ∃ a1 xs1, v1 = .ref a1 ∧ SqT c.K H a1 xs1 ∧ Reps c.K (Av L σ env) H xs1 ds := by
                cases q1 with
                | tup h1 rs1 => exact ⟨_, _, rfl, h1, rs1⟩
              refine ⟨a, [v1, v2], rfl, ht, rfl, v1, [v2], rfl, a1, xs1, e1, h1, by rw [rs1.length, hl], RE.setEach is ds r rs1 hl n.1 fun σ2 r2 s2 w2 => ⟨v2, [], rfl, rfl, ?_⟩⟩
              obtain ⟨y1, y2⟩ := r2.setIm (i := j) (r.rep s2 q2)
              refine k _ y1 (s2.trans y2) ((wipe_eq (by rw [List.length_set]) fun i z => ?_).trans w2)
              rw [List.getElem?_set_ne]
              intro y
              exact z (y ▸ n.2)
      · cases e
    · cases e
open Classical in
noncomputable def lcL (k : Wk) (vs : List Nat) (t : CT) (ft : FT) (fe : FE) : List D → List D → En → R (List D)
  | [], acc, env => if k.ok env then .ok acc env else .er
  | d :: ds, acc, env => if k.ok env ∧ acc.length < sizeLine then
      match envT t d env with
      | some e1 => match ft e1 with
        | .ok true e2 => match fe e2 with
          | .ok u e3 => match u.weak with
            | .im y => lcL k vs t ft fe ds (acc ++ [y]) (wipeE e3 vs)
            | _ => .er
          | _ => .er
        | .ok false e2 => lcL k vs t ft fe ds acc (wipeE e2 vs)
        | _ => .er
      | none => .er
    else .er
noncomputable def eLc (fi : FI) (vs : List Nat) (t : CT) (ft : FT) (fe : FE) : FE := fun env => (fi env).bind fun k e => (lcL k vs t ft fe k.its [] (wipeE e vs)).bind fun ys e2 => .ok (.fr ys) e2
theorem lcL_ex {k : Wk} {vs : List Nat} {t : CT} {ft : FT} {fe : FE} : ∀ ds acc env x e, lcL k vs t ft fe ds acc env ≠ .ex x e
  | [], acc, env, x, e, z => by
    unfold lcL at z
    split at z <;> cases z
  | d :: ds, acc, env, x, e, z => by
    unfold lcL at z
    split at z
    · split at z
      · split at z
        · split at z
          · split at z
            · exact lcL_ex _ _ _ _ _ z
            · cases z
          · cases z
        · exact lcL_ex _ _ _ _ _ z
        · cases z
      · cases z
    · cases z
abbrev WF : WX := fun _ _ _ _ => False
def tT : FT := fun env => .ok true env
section
variable {X : Cx} {c : Cc} {W : WX} {pos p : Pos} {elt iter tg cnd : Expr} {ifs : List Expr} {fi : FI} {ft : FT} {fe : FE} {t : CT} {vs : List Nat}
theorem PTsw {t t' : TT} (h : PTs X ifs t) (k : ∀ σ H Q, t' σ H Q → t σ H Q) : PTs X ifs t' := ⟨fun pins s σ H Q I q => h.run pins s σ H Q I (k σ H Q q)⟩
theorem dts_nil : PTs X [] (dT c W tT) := PTsw pts_nil fun σ H Q h => by
  obtain ⟨env, L, r, h⟩ := h
  exact h H r .refl
theorem dts_one (h : PT X cnd (dT c W ft)) : PTs X [cnd] (dT c W ft) := pts_one h
theorem d_lc (hv : t.ins vs) : ∀ σ H Q, dE c W (eLc fi vs t ft fe) σ H Q → tLc (dI c W fi) (gCT c.K t) (dT c WF ft) (dE c WF fe) vs σ H Q := fun σ H Q h => by
  obtain ⟨env, L, re, h⟩ := h
  refine ⟨env, L, re, h.bind.mono fun k e1 H1 r1 s1 h1 J ⟨ok, src⟩ => ?_⟩
  intro Dd nD
  cases el : lcL k vs t ft fe k.its [] (wipeE e1 vs) with
  | er => rw [el] at h1; exact h1.elim
  | ex x e => exact (lcL_ex _ _ _ _ _ el).elim
  | ok ys e2 =>
    rw [el] at h1
    have h1 : ∀ H', RE c L σ H' e2 → Stp σ e1 H1 σ e2 H' → ∀ v, RepT c L (Nn σ env H) σ H' e2 v (.fr ys) → Q v H' := h1
    have h0 : c.H0 Dd = none := r1.h0 nD
    have nL : ¬ L Dd := fun z => by
      obtain ⟨_, xs, e⟩ := r1.ext Dd z
      rw [nD] at e
      cases e
    have lx : Lx L H1 (fun b => L b ∨ b = Dd) := fun a z => z.imp id fun z => by rw [z]; exact nD
    have kp0 : ∀ b o, H1 b = some o → upd H1 Dd (.lst []) b = some o := fun b o e => by rw [upd_ne (ne_of_none e nD)]; exact e
    have rm : RE c (fun b => L b ∨ b = Dd) σ (upd H1 Dd (.lst [])) e1 := r1.more kp0 nD upd_same
    obtain ⟨rw0, _, sw0⟩ := rm.wipe vs
    -- the step from the walk's begin
    have sub : SubS σ (wipe σ vs) := fun j v e => (wipe_some e).1
    let Wv : Nat → Hp → Prop := fun i H' => ∃ env' xs acc, RE c (fun b => L b ∨ b = Dd) (wipe σ vs) H' env' ∧ (∀ (j : Nat) (s : Sl), env'[j]? = some s → j ∈ vs → s = .no) ∧ Stp σ e1 H1 (wipe σ vs) env' H' ∧ H' Dd = some (.lst xs) ∧ Reps c.K (Av (fun b => L b ∨ b = Dd) (wipe σ vs) env') H' xs acc ∧ lcL k vs t ft fe (k.its.drop i) acc env' = .ok ys e2
    refine ⟨fun i m H' => m = k.its.length - i ∧ Wv i H', ⟨_, rfl, wipeE e1 vs, [], [], rw0, fun j s e z => wipeE_in z e, (Stp.grow kp0).trans sw0, upd_same, .nil, el⟩, fun i m H' ⟨em, env', xs, acc, r, no, s, ed, rs, q⟩ => ?_⟩
    have sw : Sw k σ e1 H1 (wipe σ vs) env' H' := ⟨s, .inr fun j _ _ v e => sub j v e⟩
    by_cases hi : k.its.length ≤ i
    · rw [List.drop_eq_nil_of_le hi] at q
      unfold lcL at q
      split at q
      · rename_i kok
        obtain ⟨rfl, rfl⟩ : acc = ys ∧ env' = e2 := by
          cases q
          exact ⟨rfl, rfl⟩
        refine .inl ⟨src.stop _ i (wipe σ vs) H' env' lx r sw kok hi, ?_⟩
        obtain ⟨rb, _, sb⟩ := r.sub (σ' := σ) (env' := env') (by rw [r.len, wipe_length]) fun j sl e => by
          by_cases z : j ∈ vs
          · exact .inl (no j sl e z)
          · exact .inr ⟨e, (wipe_out' z).symm⟩
        exact h1 H' (rb.less fun b z => .inl z) (s.trans sb) _ ⟨Dd, xs, rfl, ed, rb.reps .refl (r.reps sb rs), nL, h0, s1.back (.inr nD), rb⟩
      · cases q
    · have hi : i < k.its.length := Nat.lt_of_not_le hi
      rw [List.drop_eq_getElem_cons hi] at q
      unfold lcL at q
      split at q
      · rename_i kok
        obtain ⟨kok, la⟩ := kok
        refine .inr ⟨src.go _ i (wipe σ vs) H' env' lx r sw kok hi, Wv (i + 1), fun H2 n => ⟨k.its.length - (i + 1), by omega, rfl, n⟩, fun x H'' y => ?_⟩
        obtain ⟨kp, rx⟩ := src.yld _ i (wipe σ vs) H' env' x H'' k.its[i] lx r sw kok (List.getElem?_eq_getElem hi) y
        have r' := r.grow kp
        have s' : Stp (wipe σ vs) env' H' (wipe σ vs) env' H'' := .grow kp
        have ed' := kp _ _ ed
        have rs' := r.reps s' rs
        cases ea : envT t k.its[i] env' with
        | none => rw [ea] at q; cases q
        | some e3 =>
          rw [ea] at q
          dsimp only at q
          refine gCT_of r' rx ea hv fun σ2 r2 s2 w2 => ⟨w2.trans (wipe_eq (wipe_length σ vs) fun j z => wipe_out' z), ?_⟩
          have w3 : wipe σ2 vs = wipe σ vs := w2.trans (wipe_eq (wipe_length σ vs) fun j z => wipe_out' z)
          -- the list made is kept through a step
          have keepD : ∀ {σa ea Ha σb eb Hb}, RE c (fun b => L b ∨ b = Dd) σa Ha ea → Stp σa ea Ha σb eb Hb → Ha Dd = some (.lst xs) → Hb Dd = some (.lst xs) := fun ra sa e => by
            rw [(sa Dd (Nn.not e (ra.ext Dd (.inr rfl)).1)).1, e]
          have ed2 := keepD r' s2 ed'
          have rs2 := r'.reps s2 rs'
          refine ⟨e3, _, r2, ?_⟩
          cases et : ft e3 with
          | er => rw [et] at q; cases q
          | ex x e => rw [et] at q; cases q
          | ok b e4 =>
            rw [et] at q
            intro H3 r3 s3
            have ed3 := keepD r2 s3 ed2
            have rs3 := r2.reps s3 rs2
            cases b with
            | false =>
              dsimp only at q
              show Wv (i + 1) H3
              obtain ⟨r4, _, s4⟩ := r3.wipe vs
              rw [w3] at r4 s4
              exact ⟨_, xs, acc, r4, fun j sl e z => wipeE_in z e, (((s.trans s').trans s2).trans s3).trans s4, keepD r3 s4 ed3, r3.reps s4 rs3, q⟩
            | true =>
              dsimp only at q
              show dE c WF fe σ2 H3 fun y H4 => ∃ acc, H4 Dd = some (HO.lst acc) ∧ acc.length < sizeLine ∧ Wv (i + 1) (upd H4 Dd (HO.lst (acc ++ [y])))
              refine ⟨e4, _, r3, ?_⟩
              cases ee : fe e4 with
              | er => rw [ee] at q; cases q
              | ex x e => rw [ee] at q; cases q
              | ok u e5 =>
                rw [ee] at q
                dsimp only at q
                intro H4 r4 s4 v qv
                have qv := qv.wk
                have ed4 := keepD r3 s4 ed3
                have rs4 := r3.reps s4 rs3
                refine ⟨xs, ed4, by rw [rs.length]; exact la, ?_⟩
                cases eu : u.weak with
                | al j => rw [eu] at q; cases q
                | fr ds => rw [eu] at q; cases q
                | ft ds => rw [eu] at q; cases q
                | im dy =>
                  rw [eu] at q qv
                  dsimp only at q
                  have rv : Rep c.K (Av (fun b => L b ∨ b = Dd) σ2 e5) H4 v dy := qv
                  obtain ⟨r5, _, s5⟩ := r4.wipe vs
                  rw [w3] at r5 s5
                  have rv5 := r4.rep s5 rv
                  have rs5 := r4.reps s5 rs4
                  have r6 := r5.ext_put (H' := upd H4 Dd (.lst (xs ++ [v]))) (.inr rfl) (fun b z => upd_ne z) upd_same h0
                  have tk : TK H4 (upd H4 Dd (.lst (xs ++ [v]))) := ⟨fun b zs e => by rw [upd_ne fun z => by rw [z, ed4] at e; cases e]; exact e, fun b o w e => by rw [upd_ne fun z => by rw [z, ed4] at e; cases e]; exact e⟩
                  have go : ∀ b zs, Av (fun b => L b ∨ b = Dd) (wipe σ vs) (wipeE e5 vs) b → H4 b = some (HO.lst zs) → Av (fun b => L b ∨ b = Dd) (wipe σ vs) (wipeE e5 vs) b ∧ upd H4 Dd (.lst (xs ++ [v])) b = some (HO.lst zs) := fun b zs g e => ⟨g, by rw [upd_ne fun z => g.1 (.inr z)]; exact e⟩
                  refine ⟨_, xs ++ [v], acc ++ [dy], r6, fun j sl e z => wipeE_in z e, fun b nb => ?_, upd_same, Reps.append (rs5.mono tk go) (.cons (rv5.mono tk go) .nil), q⟩
                  obtain ⟨z1, z2⟩ := (((((s.trans s').trans s2).trans s3).trans s4).trans s5) b nb
                  have nbD : b ≠ Dd := fun z => nb (.inr (by rw [z]; exact nD))
                  rw [upd_ne nbD]
                  exact ⟨z1, fun z => z2 (z.imp id fun z => by rw [upd_ne nbD] at z; exact z)⟩
      · cases q
theorem de_lc {scope : Scope} {own : List (Str × Nat)} (hc : X.calm = true) (hN : X.N.Nodup) (hi : PI X tg iter (dI c W fi)) (ok : BlkOk X.N X.env.scope scope own)
    (hg : ∀ (s : Shared) (H : Hp) (C : Addr) (cl : List (Str × Addr)) (fp : List Addr), PG (X.blk s H scope (compEnvC scope cl C X.env) fp) tg (gCT X.K t))
    (ht : ∀ (s : Shared) (H : Hp) (C : Addr) (cl : List (Str × Addr)) (fp : List Addr), PTs (X.blk s H scope (compEnvC scope cl C X.env) fp) ifs (dT c WF ft))
    (he : ∀ (s : Shared) (H : Hp) (C : Addr) (cl : List (Str × Addr)) (fp : List Addr), PE (X.blk s H scope (compEnvC scope cl C X.env) fp) elt (dE c WF fe)) (hv : t.ins (own.map (·.2)) := by decide) (hK : c.K = X.K := by rfl)
    (hs : ∀ x, foldedSetIterable iter X.env x = pure x := by intro _; rfl) :
    PE X (.ListComp elt [⟨tg, iter, ifs, 0⟩] scope pos) (dE c W (eLc fi (own.map (·.2)) t ft fe)) :=
  PEw (pe_lc hc hN hi ok hg ht he hs) (by rw [← hK]; exact d_lc hv)
end
end DL
namespace DL
open PySem PySem.Spec L2
variable [Wd]
def padE (n : Nat) (env : En) : En := env ++ List.replicate (n - env.length) .no
def outE : En → En → Option En
  | [], _ => some []
  | .own true _ :: r, e :: es => match e, outE r es with
    | .own true ds, some o => some (.own true ds :: o)
    | _, _ => none
  | _ :: r, e :: es => (outE r es).map (.no :: ·)
  | _ :: _, [] => none
def finT (env0 : En) (t : T) (env : En) : R T := match t with
  | .al i => match env[i]? with
    | some (.own false ds) => match outE env0 (env.set i .no) with
      | some o => .ok (.fr ds) o
      | none => .er
    | _ => .er
  | t => match outE env0 env with
    | some o => .ok t o
    | none => .er
def finF (env : En) : Fl → R T
  | .nx e => finT env (.im .non) e
  | .rt t e => finT env t e
  | .ex x e => match outE env e with
    | some o => .ex x o
    | none => .er
  | _ => .er
def runD (n p : Nat) (f : FS) : FD := fun env => if env.length = p then finF env (f (padE n env)) else .er
theorem outE_get : ∀ {env0 env out : En}, outE env0 env = some out → out.length = env0.length ∧ ∀ (i : Nat) (s : Sl), out[i]? = some s → s = .no ∨ ∃ ds ds0, s = .own true ds ∧ env[i]? = some (.own true ds) ∧ env0[i]? = some (.own true ds0)
  | [], env, out, h => by
    cases h
    exact ⟨rfl, fun i s e => by simp at e⟩
  | a :: r, [], out, h => by cases a <;> try (rename_i b _; cases b) <;> cases h
                             all_goals cases h
  | a :: r, e :: es, out, h => by
    have no : (outE r es).map (Sl.no :: ·) = some out → out.length = (a :: r).length ∧ ∀ (i : Nat) (s : Sl), out[i]? = some s → s = .no ∨ ∃ ds ds0, s = .own true ds ∧ (e :: es)[i]? = some (.own true ds) ∧ (a :: r)[i]? = some (.own true ds0) := fun h => by
      cases q : outE r es with
      | none => rw [q] at h; cases h
      | some o =>
        rw [q] at h
        cases h
        obtain ⟨q1, q2⟩ := outE_get q
        refine ⟨by rw [List.length_cons, List.length_cons, q1], fun i s e => ?_⟩
        cases i with
        | zero => cases e; exact .inl rfl
        | succ i => exact q2 i s e
    cases a with
    | no => exact no h
    | hd _ => exact no h
    | im d => exact no h
    | own b ds0 =>
      cases b with
      | false => exact no h
      | true =>
        unfold outE at h
        split at h
        · rename_i ds o q
          cases h
          obtain ⟨q1, q2⟩ := outE_get q
          refine ⟨by rw [List.length_cons, List.length_cons, q1], fun i s e => ?_⟩
          cases i with
          | zero => cases e; exact .inr ⟨ds, ds0, rfl, rfl, rfl⟩
          | succ i => exact q2 i s e
        · cases h
section
variable {K : PySem.W.Frag} {mg : Str → Option Value} {H H' : Hp} {vs : List V} {env0 env out : En} {L : Addr → Prop} {σ : St}
theorem RE.pad {c : Cc} {n : Nat} {N : List Str} (h : RE c L (vs.map some) H env) (hn : N.length = n) (hl : env.length = vs.length) : RE c L (L2.start N vs) H (padE n env) := by
  refine (h.sub ?_ fun j s e => ?_).1
  · unfold padE L2.start
    simp [hn, hl]
  · unfold padE at e
    by_cases z : j < env.length
    · rw [List.getElem?_append_left z] at e
      refine .inr ⟨e, ?_⟩
      unfold L2.start
      rw [List.getElem?_append_left (by rw [List.length_map, ← hl]; exact z)]
    · rw [List.getElem?_append_right (Nat.le_of_not_lt z)] at e
      exact .inl (List.eq_of_mem_replicate (List.mem_of_getElem? e))
theorem out_own {c : Cc} (h : RE c L σ H' env) (eo : outE env0 env = some out) {a : Addr} (o : ownM (c.vs.map some) out a) : ownM σ env a := by
  obtain ⟨i, io, ds, e1, e2⟩ := o
  rcases (outE_get eo).2 i _ e1 with z | ⟨ds', ds0, z, e3, e4⟩
  · cases z
  · cases z
    obtain ⟨b, xs, f1, f2, f3, f4, f5⟩ := h.own i true ds e3
    obtain ⟨_, f6⟩ := f5 rfl
    rw [List.getElem?_map, f6] at e2
    cases e2
    exact ⟨i, true, ds, e3, f1⟩
theorem RE.outs {c : Cc} (h : RE c L σ H' env) (eo : outE env0 env = some out) (hl : env0.length = c.vs.length) : RE c L (c.vs.map some) H' out := by
  have av : ∀ b, Av L σ env b → Av L (c.vs.map some) out b := fun b g => ⟨g.1, fun z => g.2 (out_own h eo z)⟩
  refine ⟨by rw [List.length_map, (outE_get eo).1, hl], fun i d e => ?_, fun i io ds e => ?_, fun i j io jo ds es a e1 e2 e3 e4 => ?_, fun a la => ⟨fun z => (h.ext a la).1 (out_own h eo z), (h.ext a la).2⟩, h.fr, h.io, fun j a e => by rcases (outE_get eo).2 j _ e with z | ⟨ds', ds0, z, e3, e4⟩ <;> cases z⟩
  · rcases (outE_get eo).2 i _ e with z | ⟨ds', ds0, z, e3, e4⟩ <;> cases z
  · rcases (outE_get eo).2 i _ e with z | ⟨ds', ds0, z, e3, e4⟩
    · cases z
    · cases z
      obtain ⟨b, xs, f1, f2, f3, f4, f5⟩ := h.own i true ds e3
      refine ⟨b, xs, ?_, f2, f3.mono (.refl H') (fun b ys g e => ⟨av b g, e⟩), f4, f5⟩
      rw [List.getElem?_map, (f5 rfl).2]
      rfl
  · rcases (outE_get eo).2 i _ e1 with z | ⟨ds', ds0, z, f1, f2⟩
    · cases z
    · cases z
      rcases (outE_get eo).2 j _ e2 with z | ⟨ds'', ds1, z, g1, g2⟩
      · cases z
      · cases z
        obtain ⟨b, xs, p1, p2, p3, p4, p5⟩ := h.own i true ds f1
        obtain ⟨b', xs', q1, q2, q3, q4, q5⟩ := h.own j true es g1
        rw [List.getElem?_map, (p5 rfl).2] at e3
        rw [List.getElem?_map, (q5 rfl).2] at e4
        cases e3
        cases e4
        exact h.inj i j true true ds es a f1 g1 p1 q1
theorem fin_ok {N : Addr → Prop} {v : V} {t t' : T} (h : RE (cc0 K mg H vs env0) L σ H' env) (hl : env0.length = vs.length) (q : RepT (cc0 K mg H vs env0) L N σ H' env v t) (e : finT env0 t env = .ok t' out) :
    RE (cc0 K mg H vs env0) L (vs.map some) H' out ∧ RepT (cc0 K mg H vs env0) L (fun a => H a = none) (vs.map some) H' out v t' := by
  have pl : ∀ {t : T}, (∀ i, t ≠ .al i) → RepT (cc0 K mg H vs env0) L N σ H' env v t → outE env0 env = some out → RE (cc0 K mg H vs env0) L (vs.map some) H' out ∧ RepT (cc0 K mg H vs env0) L (fun a => H a = none) (vs.map some) H' out v t := fun {t} na q eo => by
    refine ⟨h.outs eo hl, ?_⟩
    have av : ∀ (L2 : Addr → Prop) b, Av L2 σ env b → Av L2 (vs.map some) out b := fun L2 b g => ⟨g.1, fun z => g.2 (out_own h eo z)⟩
    cases t with
    | al i => exact (na i rfl).elim
    | im d => exact Rep.mono (.refl H') (fun a xs g e => ⟨av _ a g, e⟩) q
    | fr ds =>
      obtain ⟨a, xs, e, e1, r, n1, n2, n3, re⟩ := q
      exact ⟨a, xs, e, e1, r.mono (.refl H') (fun b ys g e => ⟨av _ b g, e⟩), n1, n2, n2, re.outs eo hl⟩
    | ft cs =>
      obtain ⟨tt, ws, As, e, e1, r, n1, re⟩ := q
      exact ⟨tt, ws, As, e, e1, r.mono (.refl H') (fun b ys g e => ⟨av _ b g, e⟩) (fun _ _ _ e => e), fun a ha => ⟨(n1 a ha).1, (n1 a ha).2.1, (n1 a ha).2.1⟩, re.outs eo hl⟩
  unfold finT at e
  cases t with
  | im d =>
    dsimp only at e
    split at e
    · cases e; exact pl (fun i z => nomatch z) q (by assumption)
    · cases e
  | fr d =>
    dsimp only at e
    split at e
    · cases e; exact pl (fun i z => nomatch z) q (by assumption)
    · cases e
  | ft d =>
    dsimp only at e
    split at e
    · cases e; exact pl (fun i z => nomatch z) q (by assumption)
    · cases e
  | al i =>
    dsimp only at e
    split at e
    · rename_i ds ei
      split at e
      · rename_i o eo
        cases e
        obtain ⟨a, xs, s1, ea, r, f0, _⟩ := h.own i false ds ei
        have sv : σ[i]? = some (some v) := q.2
        rw [sv] at s1
        cases s1
        obtain ⟨q1, q2⟩ := h.drop ei sv
        have oa : ownM σ env a := ⟨i, false, ds, ei, sv⟩
        refine ⟨(q1.less fun b z => .inl z).outs eo hl, a, xs, rfl, ea, ?_, fun z => (h.ext a z).1 oa, f0 rfl, f0 rfl, q1.outs eo hl⟩
        refine r.mono (.refl H') fun b ys g e => ⟨⟨fun z => z.elim g.1 fun z => g.2 (by rw [z]; exact oa), fun z => g.2 (own_set_no (out_own q1 eo z)).1⟩, e⟩
      · cases e
    · cases e
end
theorem Room.le {j k : Nat} {A : Around} (h : Room k A) (hj : j ≤ k) : Room j A := h.mono hj
section
variable {P : Program} {w : World} {K : PySem.W.Frag} {mg : Str → Option Value} {base : Heap}
theorem fn_ok {x qual : Str} {st : Stmt} {f : Addr} {fd : FuncData} {N ps : List Str} {k n p : Nat} {g : FS} (F : Fun K x qual st f fd) (S : FnScope N ps (defScope st)) (hn : N.length = n) (hp : ps.length = p)
    (hb : ∀ (cdv : Value) (A : Around) (outer : List Env) (s : Shared) (H : Hp) (vs : List V) (E : XK) (env0 : En), Room k (A.deeper (PyProof.Rows.envOfC qual (defScope st) s.heap.objs.size f cdv)) →
      PSs (cxOf (L2.CX P w) P w K mg base N qual (defScope st) f cdv A outer s H E) (defBody st) (dS (cc0 K mg H vs env0) (fun cls d _ H => E cls d H) g)) :
    FnOk P w K mg base (L2.CX P w) (k + 1) f fd ps (spD K mg (runD n p g)) := by
  have len : ∀ (vs : List V) (H : Hp) (Q : VK) (E : XK), spD K mg (runD n p g) vs H Q E → vs.length = p := fun vs H Q E ⟨env, L, re, h⟩ => by
    have hl := re.len
    rw [List.length_map] at hl
    unfold runD at h
    by_cases z : env.length = p
    · rw [← hl, z]
    · rw [if_neg z] at h
      exact h.elim
  refine F.okX S (fun vs H Q E h => (len vs H Q E h).trans hp.symm) fun cdv A outer s H vs Q E hr h => ?_
  have hvl := len vs H Q E h
  obtain ⟨env, L, re, h⟩ := h
  have hl : env.length = vs.length := by
    have := re.len
    rwa [List.length_map] at this
  refine ⟨_, hb cdv A outer s H vs E env hr, padE n env, L, re.pad hn hl, ?_⟩
  unfold runD at h
  rw [if_pos (hl.trans hvl)] at h
  have fin : ∀ {t : T} {e : En} {σ' : St} {H' : Hp} {v : V} {N' : Addr → Prop}, (match finT env t e with
      | .er => False
      | .ex x out => ∀ H', RE (cc0 K mg H vs env) L (vs.map some) H' out → ∀ C, mg x = some (.ref C) → E (.ref C) none H'
      | .ok t out => ∀ v H', RE (cc0 K mg H vs env) L (vs.map some) H' out → RepT (cc0 K mg H vs env) L (fun a => H a = none) (vs.map some) H' out v t → Q v H') →
      RE (cc0 K mg H vs env) L σ' H' e → RepT (cc0 K mg H vs env) L N' σ' H' e v t → Q v H' := fun {t e σ' H' v N'} h r q => by
    cases ef : finT env t e with
    | er => rw [ef] at h; exact h.elim
    | ex x o =>
      unfold finT at ef
      split at ef
      · split at ef
        · split at ef <;> cases ef
        · cases ef
      · split at ef <;> cases ef
    | ok t' o =>
      rw [ef] at h
      obtain ⟨z1, z2⟩ := fin_ok r hl q ef
      exact h v H' z1 z2
  cases eg : g (padE n env) with
  | er => rw [eg] at h; exact h.elim
  | bk e => rw [eg] at h; exact h.elim
  | ct e => rw [eg] at h; exact h.elim
  | nx e =>
    rw [eg] at h
    exact fun σ' H' r s => fin (N' := fun _ => True) h r (show RepT _ _ _ _ _ _ _ (.im .non) from .non)
  | rt t e =>
    rw [eg] at h
    exact fun v σ' H' r s q => fin h r q
  | ex x e =>
    rw [eg] at h
    dsimp only [finF] at h
    cases eo : outE env e with
    | none => rw [eo] at h; exact h.elim
    | some o =>
      rw [eo] at h
      exact fun σ' H' r s C hC => h H' (r.outs eo hl) C hC
def spLaw (K : PySem.W.Frag) : Sp := fun vs H Q _ => ∃ (a : Addr) (ns : List Int), vs = [.ref a] ∧ ns.length ≤ 63 ∧ FzAt K H a (ns.map V.int) ∧ ∀ H', Q (.bl true) H'
theorem law_hsp {H : Hp} {a : Addr} {ns : List Int} (hl : ns.length ≤ 63) (hO : Only H) (hS : SqL K H a (ns.map V.int)) : spLaw K [.ref a] H (fun v _ => v = .bl true) fun _ _ _ => False := by
  refine ⟨a, ns, rfl, hl, ?_, fun _ => rfl⟩
  rcases hS with (h | ⟨o, h⟩) | h
  · rcases hO a with z | ⟨o, xs, z⟩
    · rw [h] at z; cases z
    · rw [h] at z; cases z
  · exact .inl ⟨o, h⟩
  · exact .inr h
theorem law_cx {H : Hp} {s : Shared} {e : Value} {s' : Shared} (h : L2.CX P w [] H s (fun _ _ _ => False) e s') : False := by
  obtain ⟨_, _, _, _, _, _, _, _, _, _, _, _, z⟩ := h
  exact z
end
end DL
namespace DL
open PySem PySem.Spec L2
variable [Wd]
def dRep : D → D → Option T
  | .lst xs, .int k => if -(2 ^ 63) ≤ k ∧ k < 2 ^ 63 ∧ xs.length * k.toNat ≤ 1000000 then some (.fr (List.replicate k.toNat xs).flatten) else none
  | _, _ => none
def dRepT : D → D → Option T
  | .tup xs, .int k => if xs ≠ [] ∧ 2 ≤ k ∧ k ≤ 1000 ∧ xs.length ≤ 1000 then some (.im (.tup (List.replicate k.toNat xs).flatten)) else none
  | _, _ => none
def repS (z : Str) (k : Int) : Str := ⟨(List.replicate k.toNat z.cps).foldl (· ++ ·) #[]⟩
theorem repS_len (z : Str) (k : Int) : (repS z k).length = k.toNat * z.length := by
  have key : ∀ (n : Nat) (acc : Array Nat), ((List.replicate n z.cps).foldl (· ++ ·) acc).size = acc.size + n * z.cps.size := fun n => by
    induction n with
    | zero => intro acc; simp
    | succ n ih =>
      intro acc
      rw [List.replicate_succ, List.foldl_cons, ih, Array.size_append, Nat.succ_mul]
      omega
  show ((List.replicate k.toNat z.cps).foldl (· ++ ·) #[]).size = _
  rw [key]
  simp [Str.length]
def dRepS : D → D → Option T
  | .str x, .int k => if 2 ≤ k ∧ k ≤ 1000000 ∧ x.length = 1 then some (.im (.str (repS x k))) else none
  | _, _ => none
def dMulA (x y : D) : Option T := match dMul x y with
  | some t => some t
  | none => match dRep x y with
    | some t => some t
    | none => match dRepT x y with
      | some t => some t
      | none => dRepS x y
section
variable {X : Cx} {c : Cc}
def rRepS : R2 := fun x y H Q => ∃ z k, x = .str z ∧ y = .int k ∧ 2 ≤ k ∧ k ≤ 1000000 ∧ z.length = 1 ∧ Q (.str (repS z k)) H
theorem op_repS : OpR X (binaryOp .Mult) rRepS := by
  intro pins s σ H x y v u Q I rx ry h
  obtain ⟨z, k, rfl, rfl, h1, h2, h3, q⟩ := h
  obtain ⟨t, rfl⟩ := rx
  obtain ⟨t', rfl⟩ := ry
  have c0 : ¬ k < 1 := by omega
  have c1 : (k == 1 || z.length == 0) = false := by
    have : ¬ k = 1 := by omega
    simp [h3, this]
  refine PySem.P.mul_str (by
    have a1 : ¬ k < -(2 ^ 63 : Int) := by omega
    have a2 : ¬ k ≥ 2 ^ 63 := by omega
    rw [decide_eq_false a1, decide_eq_false a2]
    rfl) (fun _ _ z9 => ?_) (fun _ _ => ?_) ?_
  · rw [h3] at z9
    have : (1 : Int) ≤ (2 ^ 63 - 1) / k := by
      refine (Int.le_ediv_iff_mul_le (by omega)).mpr ?_
      omega
    exact absurd z9 (by simpa using Int.not_lt.mpr this)
  · rw [h3, Nat.one_mul]
    exact decide_eq_false (by have := line6 (n := k.toNat) (by omega); omega)
  · rw [if_neg c0, if_neg (by rw [c1]; decide)]
    refine ⟨?_, .str _, H, I.tok _, ⟨_, rfl⟩, q⟩
    have e := repS_len z k
    rw [h3, Nat.mul_one] at e
    exact Nat.le_trans (Nat.le_of_eq e) (line6 (by omega))
theorem d_repS : OpD c rRepS dRepS := by
  intro L σ H env x y dx dy t Q re hx hy e k
  cases dx <;> cases dy <;> simp only [dRepS] at e <;> try (cases e; done)
  split at e
  · rename_i q
    cases e
    exact ⟨_, _, hx.str, hy.int, q.1, q.2.1, q.2.2, k _ H re .refl (.str _)⟩
  · cases e
abbrev rMulA (K : PySem.W.Frag) : R2 := fun x y H Q => rI CMul (fun i j => .int (i * j)) x y H Q ∨ (rRep x y H Q ∨ (rRepT K x y H Q ∨ rRepS x y H Q))
theorem op_mulA : OpR X (binaryOp .Mult) (rMulA X.K) := op_mul.or (op_rep.or (op_repT.or op_repS))
theorem d_rep : OpD c rRep dRep := by
  intro L σ H env x y dx dy t Q re hx hy e k
  cases dx <;> cases dy <;> simp only [dRep] at e <;> try (cases e; done)
  split at e
  · rename_i q
    cases e
    obtain ⟨a, xs, rfl, h1, r1⟩ := hx.lst
    cases hy.int
    refine ⟨a, _, xs, rfl, rfl, h1, q.1, q.2.1, by rw [r1.length]; exact Nat.le_trans q.2.2 (by decide), fun p n => ?_⟩
    obtain ⟨q1, q2, q3⟩ := re.newL (r1.rep _) n
    exact k _ _ q1 q2 q3
  · cases e
theorem d_repT : OpD c (rRepT c.K) dRepT := by
  intro L σ H env x y dx dy t Q re hx hy e k
  cases dx <;> cases dy <;> simp only [dRepT] at e <;> try (cases e; done)
  split at e
  · rename_i q
    cases e
    obtain ⟨a, xs, rfl, h1, r1⟩ := hx.tup
    cases hy.int
    refine ⟨a, _, xs, rfl, rfl, h1, fun z => q.1 ?_, q.2.1, q.2.2.1, by rw [r1.length]; exact q.2.2.2, fun p n => ?_⟩
    · subst z
      cases r1
      rfl
    · have kp : ∀ {zs : HO} b o, H b = some o → upd H p zs b = some o := fun b o e => by rw [upd_ne (ne_of_none e n)]; exact e
      exact k _ _ (re.grow kp) (.grow kp) (.tup (.inl (.inl upd_same)) (re.reps (.grow kp) (r1.rep _)))
  · cases e
theorem d_mulA : OpD c (rMulA c.K) dMulA := d_mul.or (d_rep.or (d_repT.or d_repS))
end
theorem de_gc {X : Cx} {c : Cc} {W : WX} {x : Str} {v : V} {d : D} {pos : Pos} (hg : Gl X x) (h : ∃ u, X.mg x = some u ∧ RelV v u) (k : ∀ G H, Rep c.K G H v d) (hd : (x == ("__debug__" : Str)) = false := by decide) : PE X (.Name x pos) (dE c W (eC d)) := by
  obtain ⟨u, h1, h2⟩ := h
  exact de_c (pe_glob hg h1 h2 (hd := hd)) k
def dEqS : D → D → Option T
  | .str a, .str b => some (.im (.bl (a == b)))
  | _, _ => none
def dNeS : D → D → Option T
  | .str a, .str b => some (.im (.bl (!(a == b))))
  | _, _ => none
def dEqA (x y : D) : Option T := match dEqS x y with
  | some t => some t
  | none => dEq x y
def dNeA (x y : D) : Option T := match dNeS x y with
  | some t => some t
  | none => dNe x y
@[simp] theorem dEqA_ss (a b : Str) : dEqA (.str a) (.str b) = some (.im (.bl (a == b))) := rfl
@[simp] theorem dEqA_ii (a b : Int) : dEqA (.int a) (.int b) = some (.im (.bl (a == b))) := rfl
@[simp] theorem dNeA_ss (a b : Str) : dNeA (.str a) (.str b) = some (.im (.bl (!(a == b)))) := rfl
@[simp] theorem dNeA_ii (a b : Int) : dNeA (.int a) (.int b) = some (.im (.bl (!(a == b)))) := rfl
section
variable {X : Cx} {c : Cc}
abbrev rEqA (K : PySem.W.Frag) : R2 := fun x y H Q => rEq x y H Q ∨ rEqD K x y H Q
abbrev rNeA (K : PySem.W.Frag) : R2 := fun x y H Q => rNe x y H Q ∨ rNeD K x y H Q
theorem op_eqA (hu : X.A.units + 64 < cLine) : OpR X (compareOp .Eq) (rEqA X.K) := op_eq.or (op_eqD hu)
theorem op_neA (hu : X.A.units + 64 < cLine) : OpR X (compareOp .NotEq) (rNeA X.K) := op_ne.or (op_neD hu)
theorem d_eqS : OpD c rEq dEqS := by
  intro L σ H env x y dx dy t Q re hx hy e k
  cases dx <;> cases dy <;> simp only [dEqS] at e <;> try (cases e; done)
  cases e
  cases (show Rep _ _ _ x (.str _) from hx)
  cases (show Rep _ _ _ y (.str _) from hy)
  refine ⟨rfl, ?_⟩
  rw [dec_str]
  exact k _ H re .refl (.bl _)
theorem d_neS : OpD c rNe dNeS := by
  intro L σ H env x y dx dy t Q re hx hy e k
  cases dx <;> cases dy <;> simp only [dNeS] at e <;> try (cases e; done)
  cases e
  cases (show Rep _ _ _ x (.str _) from hx)
  cases (show Rep _ _ _ y (.str _) from hy)
  refine ⟨rfl, ?_⟩
  rw [dec_str]
  exact k _ H re .refl (.bl _)
theorem d_eqA : OpD c (rEqA c.K) dEqA := d_eqS.or d_eq
theorem d_neA : OpD c (rNeA c.K) dNeA := d_neS.or d_ne
end
def dAddI : D → D → Option T
  | .int i, .int j => some (.im (.int (i + j)))
  | _, _ => none
@[simp] theorem dAddI_int (i j : Int) : dAddI (.int i) (.int j) = some (.im (.int (i + j))) := rfl
def GlT (K : PySem.W.Frag) (mg : Str → Option Value) (x : Str) (d : D) : Prop := ∃ u v, mg x = some u ∧ RelV v u ∧ ∀ G H, Rep K G H v d
theorem de_gt {X : Cx} {c : Cc} {W : WX} {x : Str} {d : D} {pos : Pos} (hg : Gl X x) (h : GlT X.K X.mg x d) (hK : c.K = X.K := by rfl) (hd : (x == ("__debug__" : Str)) = false := by decide) : PE X (.Name x pos) (dE c W (eC d)) := by
  obtain ⟨u, v, h1, h2, h3⟩ := h
  exact de_c (pe_glob hg h1 h2 (hd := hd)) fun G H => by rw [hK]; exact h3 G H
structure Cd (K : PySem.W.Frag) (mg : Str → Option Value) (x : Str) (st : Stmt) (ps : List Str) (f : Addr) (fd : FuncData) : Prop where
  F : Fun K x x st f fd
  g : mg x = some (.ref f)
  b : Binds K fd ps []
theorem bo_len : bootBuiltins "len" = some (.builtin "len") := by decide +kernel
theorem bo_sum : bootBuiltins "sum" = some (.builtin "sum") := by decide +kernel
theorem bo_max : bootBuiltins "max" = some (.builtin "max") := by decide +kernel
theorem bo_min : bootBuiltins "min" = some (.builtin "min") := by decide +kernel
theorem bo_all : bootBuiltins "all" = some (.builtin "all") := by decide +kernel
theorem bo_any : bootBuiltins "any" = some (.builtin "any") := by decide +kernel
theorem bo_tuple : bootBuiltins "tuple" = some (.type "tuple") := by decide +kernel
theorem bo_int : bootBuiltins "int" = some (.type "int") := by decide +kernel
theorem bo_bool : bootBuiltins "bool" = some (.type "bool") := by decide +kernel
theorem bo_str : bootBuiltins "str" = some (.type "str") := by decide +kernel
end DL
namespace DL
open PySem PySem.Spec L2
@[simp] theorem eVar_s (i : Nat) (env : En) : eVar i env = (match env[i]? with
  | some (.im d) => .ok (.im d) env
  | some (.own _ _) => .ok (.al i) env
  | _ => .er) := rfl
@[simp] theorem eC_s (d : D) (env : En) : eC d env = (.ok (.im d) env) := rfl
@[simp] theorem eOp_s (g : D → D → Option T) (fa fb : FE) (env : En) : eOp g fa fb env = ((fa env).bind fun ta e1 => (fb e1).bind fun tb e2 => op2 g ta tb e2) := rfl
@[simp] theorem eUn_s (g : D → Option T) (fa : FE) (env : En) : eUn g fa env = ((fa env).bind fun ta e1 => op1 g ta e1) := rfl
@[simp] theorem aNil_s  (env : En) : aNil  env = (.ok [] env) := rfl
@[simp] theorem aCons_s (fa : FE) (fr : FA) (env : En) : aCons fa fr env = ((fa env).bind fun t e1 => (fr e1).bind fun ts e2 => consT t ts e2) := rfl
@[simp] theorem eB_s (g : List D → Option T) (fa : FA) (env : En) : eB g fa env = ((fa env).bind fun ts e1 => opL g ts e1) := rfl
@[simp] theorem eTup_s (fa : FA) (env : En) : eTup fa env = ((fa env).bind fun ts e1 => disp mkTup ts e1) := rfl
@[simp] theorem eLst_s (fa : FA) (env : En) : eLst fa env = ((fa env).bind fun ts e1 => disp (fun cs => .fr (cs.map Cp.d)) ts e1) := rfl
@[simp] theorem eIsi_s (Ty : String) (fa : FE) (env : En) : eIsi Ty fa env = ((fa env).bind fun t e => op1 (fun d => (isTy Ty d).map fun b => .im (.bl b)) t e) := rfl
@[simp] theorem tV_s (fa : FE) (env : En) : tV fa env = ((fa env).bind fun t e => toB t e) := rfl
@[simp] theorem tAn_s (fa fb : FT) (env : En) : tAn fa fb env = ((fa env).bind fun b e => bif b then fb e else .ok false e) := rfl
@[simp] theorem tOr'_s (fa fb : FT) (env : En) : tOr' fa fb env = ((fa env).bind fun b e => bif b then .ok true e else fb e) := rfl
@[simp] theorem tNo_s (fa : FT) (env : En) : tNo fa env = ((fa env).bind fun b e => .ok (!b) e) := rfl
@[simp] theorem eAn_s (fa fb : FE) (env : En) : eAn fa fb env = ((fa env).bind fun t e => (toB t e).bind fun b e => bif b then fb e else .ok (.im (.bl false)) e) := rfl
@[simp] theorem eOr_s (fa fb : FE) (env : En) : eOr fa fb env = ((fa env).bind fun t e => (toB t e).bind fun b e => bif b then .ok (.im (.bl true)) e else fb e) := rfl
@[simp] theorem eNo_s (fa : FE) (env : En) : eNo fa env = ((fa env).bind fun t e => (toB t e).bind fun b e => .ok (.im (.bl (!b))) e) := rfl
@[simp] theorem eIf_s (fc : FT) (fa fb : FE) (env : En) : eIf fc fa fb env = ((fc env).bind fun b e => bif b then fa e else fb e) := rfl
@[simp] theorem eCh_s (g g' : D → D → Option T) (fa fb fc : FE) (env : En) : eCh g g' fa fb fc env = ((fa env).bind fun ta e1 => (fb e1).bind fun tb e2 => (op2 g ta tb e2).bind fun t e2 => (toB t e2).bind fun b e2 => bif b then (fc e2).bind fun tc e3 => op2 g' tb tc e3 else .ok (.im (.bl false)) e2) := rfl
@[simp] theorem tNp_s  (env : En) : tNp  env = (.ok none env) := rfl
@[simp] theorem tPa_s (fa : FE) (env : En) : tPa fa env = ((fa env).bind toI) := rfl
@[simp] theorem eSl_s (fa : FE) (fl fh : En → R (Option Int)) (env : En) : eSl fa fl fh env = ((fa env).bind fun t e1 => (fl e1).bind fun lo e2 => (fh e2).bind fun hi e3 => slT t lo hi e3) := rfl
@[simp] theorem eCall_s (g : FD) (fa : FA) (env : En) : eCall g fa env = ((fa env).bind fun ts e1 => callT g ts e1) := rfl
@[simp] theorem eCallI_s (k : Nat) (g : FD) (fa : FA) (env : En) : eCallI k g fa env = ((fa env).bind fun ts e1 => callI k g ts e1) := rfl
@[simp] theorem sNx_s  (env : En) : sNx  env = (.nx env) := rfl
@[simp] theorem sSeq_s (f g : FS) (env : En) : sSeq f g env = ((f env).seq g) := rfl
@[simp] theorem sIf_s (ft : FT) (f g : FS) (env : En) : sIf ft f g env = ((ft env).bindF fun b e => bif b then f e else g e) := rfl
@[simp] theorem sRet_s (fa : FE) (env : En) : sRet fa env = ((fa env).bindF fun t e => .rt t e) := rfl
@[simp] theorem sRetN_s  (env : En) : sRetN  env = (.rt (.im .non) env) := rfl
@[simp] theorem sDrop_s (fa : FE) (env : En) : sDrop fa env = ((fa env).bindF fun _ e => .nx e) := rfl
@[simp] theorem sBk_s  (env : En) : sBk  env = (.bk env) := rfl
@[simp] theorem sCt_s  (env : En) : sCt  env = (.ct env) := rfl
@[simp] theorem sAsg_s (fa : FE) (g : FG) (env : En) : sAsg fa g env = ((fa env).bindF fun t e => match g t e with
  | .nx e => .nx e
  | _ => .er) := rfl
@[simp] theorem gN_s (i : Nat) (t : T) (env : En) : gN i t env = (match t with
  | .im d => .nx (env.set i (.im d))
  | .fr ds => .nx (env.set i (.own false ds))
  | .ft cs => .nx (env.set i (.im (.tup (cs.map Cp.d))))
  | .al j => match env[j]? with
    | some (.own false ds) => .nx ((env.set j .no).set i (.own false ds))
    | _ => .er) := rfl
@[simp] theorem gsNil_s  (cs : List Cp) (env : En) : gsNil  cs env = (match cs with
  | [] => .nx env
  | _ => .er) := rfl
@[simp] theorem gsCons_s (g : FG) (gs : FGs) (cs : List Cp) (env : En) : gsCons g gs cs env = (match cs with
  | c :: cs => (g (cpT c) env).seq (gs cs)
  | [] => .er) := rfl
@[simp] theorem gT_s (n : Nat) (gs : FGs) (t : T) (env : En) : gT n gs t env = (match cpsOf t env with
  | some cs => if cs.length = n then gs cs env else .er
  | none => .er) := rfl
@[simp] theorem sPar_s (i j : Nat) (fa : FA) (env : En) : sPar i j fa env = ((fa env).bindF fun ts e => (disp T.ft ts e).bindF fun t e => match t with
  | .ft [c1, c2] => match gsCons (gN i) (gsCons (gN j) gsNil) [c1, c2] e with
    | .nx e => .nx e
    | _ => .er
  | _ => .er) := rfl
@[simp] theorem sAug_s (i : Nat) (g : D → D → Option T) (fa : FE) (env : En) : sAug i g fa env = (match env[i]? with
  | some (.im d) => (fa env).bindF fun t e => (op2 g (.im d) t e).bindF fun t' e2 => match gN i t' e2 with
    | .nx e3 => .nx e3
    | _ => .er
  | _ => .er) := rfl
@[simp] theorem gSb_s (fo fi : FE) (t : T) (env : En) : gSb fo fi t env = (match fo env with
  | .ok to e1 => match fi e1 with
    | .ok ti e2 => match to with
      | .al j => match e2[j]?, ti.val e2, elemD t with
        | some (.own b ds), some (.int k), some d => match ixN ds.length k with
          | some m => .nx (e2.set j (.own b (ds.set m d)))
          | none => .er
        | _, _, _ => .er
      | _ => .er
    | _ => .er
  | _ => .er) := rfl
@[simp] theorem eMet_s (k : List D → List T → En → Option (D × List D × En)) (fo : FE) (fa : FA) (env : En) : eMet k fo fa env = ((fo env).bind fun to e1 => match to with
  | .al j => (fa e1).bind fun ts e2 => metT k (.al j) ts e2
  | _ => .er) := rfl
@[simp] theorem eMet0_s (k : List D → List T → En → Option (D × List D × En)) (fo : FE) (env : En) : eMet0 k fo env = ((fo env).bind fun to e1 => match to with
  | .al j => metT k (.al j) [] e1
  | _ => .er) := rfl
@[simp] theorem fiT_s (fa : FE) (env : En) : fiT fa env = ((fa env).bind iT) := rfl
@[simp] theorem fiL_s (fz : Bool) (fa : FE) (env : En) : fiL fz fa env = ((fa env).bind fun t => iL fz t.weak) := rfl
@[simp] theorem fiR1_s (fa : FA) (env : En) : fiR1 fa env = ((fa env).bind iR1) := rfl
@[simp] theorem fiR2_s (fa : FA) (env : En) : fiR2 fa env = ((fa env).bind iR2) := rfl
@[simp] theorem fiE_s (fz : Bool) (fa : FA) (env : En) : fiE fz fa env = ((fa env).bind (iE fz)) := rfl
@[simp] theorem fiZ_s (fz : Bool) (fa : FA) (env : En) : fiZ fz fa env = ((fa env).bind (iZ fz)) := rfl
theorem sFor_s (fi : FI) (g : FG) (f : FS) (env : En) : sFor fi g f env = ((fi env).bindF fun k e => match k.chk with
  | none => loopF g f k.its e
  | some _ => .er) := rfl
theorem eLc_s (fi : FI) (vs : List Nat) (t : CT) (ft : FT) (fe : FE) (env : En) : eLc fi vs t ft fe env = ((fi env).bind fun k e => (lcL k vs t ft fe k.its [] (wipeE e vs)).bind fun ys e2 => .ok (.fr ys) e2) := rfl
@[simp] theorem tT_s  (env : En) : tT  env = (.ok true env) := rfl

section
variable {α β : Type}
@[simp] theorem c_ok (b : Bool) (x y : α) (e : En) : (bif b then R.ok x e else R.ok y e) = R.ok (bif b then x else y) e := by cases b <;> rfl
@[simp] theorem c_im (b : Bool) (x y : D) : (bif b then T.im x else T.im y) = T.im (bif b then x else y) := by cases b <;> rfl
@[simp] theorem c_bl (b x y : Bool) : (bif b then D.bl x else D.bl y) = D.bl (bif b then x else y) := by cases b <;> rfl
@[simp] theorem c_int (b : Bool) (x y : Int) : (bif b then D.int x else D.int y) = D.int (bif b then x else y) := by cases b <;> rfl
@[simp] theorem c_rt (b : Bool) (x y : T) (e : En) : (bif b then Fl.rt x e else Fl.rt y e) = Fl.rt (bif b then x else y) e := by cases b <;> rfl
@[simp] theorem c_nx (b : Bool) (e : En) : (bif b then Fl.nx e else Fl.nx e) = Fl.nx e := by cases b <;> rfl
@[simp] theorem c_bind (b : Bool) (x y : R α) (g : α → En → R β) : R.bind (bif b then x else y) g = bif b then R.bind x g else R.bind y g := by cases b <;> rfl
@[simp] theorem c_bindF (b : Bool) (x y : R α) (g : α → En → Fl) : R.bindF (bif b then x else y) g = bif b then R.bindF x g else R.bindF y g := by cases b <;> rfl
@[simp] theorem c_seq (b : Bool) (x y : Fl) (g : FS) : Fl.seq (bif b then x else y) g = bif b then Fl.seq x g else Fl.seq y g := by cases b <;> rfl
@[simp] theorem c_fin (b : Bool) (x y : Fl) (e : En) : finF e (bif b then x else y) = bif b then finF e x else finF e y := by cases b <;> rfl
end
@[simp] theorem finF_nx (env e : En) : finF env (.nx e) = finT env (.im .non) e := rfl
@[simp] theorem finF_rt (env e : En) (t : T) : finF env (.rt t e) = finT env t e := rfl
@[simp] theorem finF_ex (env e : En) (x : Str) : finF env (.ex x e) = match outE env e with
    | some o => .ex x o
    | none => .er := rfl
@[simp] theorem shp_int (i : Int) : shp (.int i) = true := rfl
@[simp] theorem shp_bl (i : Bool) : shp (.bl i) = true := rfl
@[simp] theorem shp_non : shp .non = true := rfl

theorem lc_map {k : Wk} {vs : List Nat} {t : CT} {fe : FE} {h : D → D} {env : En} (ok : k.ok env) : ∀ (ds acc : List D), acc.length + ds.length ≤ sizeLine →
    (∀ d ∈ ds, ∃ e1 u e3, envT t d env = some e1 ∧ fe e1 = .ok u e3 ∧ u.weak = .im (h d) ∧ wipeE e3 vs = env) → lcL k vs t tT fe ds acc env = .ok (acc ++ ds.map h) env
  | [], acc, _, _ => by
    unfold lcL
    rw [if_pos ok, List.map_nil, List.append_nil]
  | d :: ds, acc, hl, hd => by
    obtain ⟨e1, u, e3, q1, q2, q3, q4⟩ := hd d List.mem_cons_self
    unfold lcL
    rw [List.length_cons] at hl
    rw [if_pos ⟨ok, by omega⟩, q1]
    simp only [tT, q2, q3, q4]
    rw [lc_map ok ds (acc ++ [h d]) (by rw [List.length_append]; simp; omega) fun x z => hd x (List.mem_cons_of_mem _ z)]
    simp
theorem lc_filter {k : Wk} {vs : List Nat} {t : CT} {ft : FT} {fe : FE} {p : D → Bool} {h : D → D} {env : En} (ok : k.ok env) : ∀ (ds acc : List D), acc.length + ds.length ≤ sizeLine →
    (∀ d ∈ ds, ∃ e1 e2, envT t d env = some e1 ∧ ft e1 = .ok (p d) e2 ∧ wipeE e2 vs = env ∧ (p d = true → ∃ u e3, fe e2 = .ok u e3 ∧ u.weak = .im (h d) ∧ wipeE e3 vs = env)) → lcL k vs t ft fe ds acc env = .ok (acc ++ (ds.filter p).map h) env
  | [], acc, _, _ => by
    unfold lcL
    rw [if_pos ok, List.filter_nil, List.map_nil, List.append_nil]
  | d :: ds, acc, hl, hd => by
    obtain ⟨e1, e2, q1, q2, q3, q4⟩ := hd d List.mem_cons_self
    unfold lcL
    rw [List.length_cons] at hl
    rw [if_pos ⟨ok, by omega⟩, q1]
    have hd' := fun x (z : x ∈ ds) => hd x (List.mem_cons_of_mem _ z)
    cases hp : p d with
    | false =>
      rw [hp] at q2
      simp only [q2, q3]
      rw [lc_filter ok ds acc (by omega) hd', List.filter_cons_of_neg (by simp [hp])]
    | true =>
      rw [hp] at q2
      obtain ⟨u, e3, r1, r2, r3⟩ := q4 hp
      simp only [q2, r1, r2, r3]
      rw [lc_filter ok ds (acc ++ [h d]) (by rw [List.length_append]; simp; omega) hd', List.filter_cons_of_pos hp]
      simp
theorem lc_some {k : Wk} {vs : List Nat} {t : CT} {fe : FE} {Pd : D → D → Prop} {E : Nat → En} (ok : ∀ j, k.ok (E j)) : ∀ (ds acc : List D) (j : Nat), acc.length + ds.length ≤ sizeLine →
    (∀ d ∈ ds, ∀ i, i < j + ds.length → ∃ e1 u e3 y, envT t d (E i) = some e1 ∧ fe e1 = .ok u e3 ∧ u.weak = .im y ∧ Pd d y ∧ wipeE e3 vs = E (i + 1)) → ∃ ys, lcL k vs t tT fe ds acc (E j) = .ok (acc ++ ys) (E (j + ds.length)) ∧ ys.length = ds.length ∧ ∀ (i : Nat) (d : D), ds[i]? = some d → ∃ y, ys[i]? = some y ∧ Pd d y
  | [], acc, j, _, _ => by
    refine ⟨[], ?_, rfl, fun i d e => by simp at e⟩
    unfold lcL
    rw [if_pos (ok j), List.append_nil]
    rfl
  | d :: ds, acc, j, hl, hd => by
    rw [List.length_cons] at hl
    obtain ⟨e1, u, e3, y, q1, q2, q3, q4, q5⟩ := hd d List.mem_cons_self j (by rw [List.length_cons]; omega)
    obtain ⟨ys, r1, r2, r3⟩ := lc_some ok ds (acc ++ [y]) (j + 1) (by rw [List.length_append]; simp; omega) fun x z i hi => hd x (List.mem_cons_of_mem _ z) i (by rw [List.length_cons]; omega)
    refine ⟨y :: ys, ?_, by rw [List.length_cons, List.length_cons, r2], fun i x e => ?_⟩
    · unfold lcL
      rw [if_pos ⟨ok j, by omega⟩, q1]
      simp only [tT, q2, q3, q5]
      rw [r1, List.length_cons, List.append_assoc, show j + 1 + ds.length = j + (ds.length + 1) by omega]
      rfl
    · cases i with
      | zero => cases e; exact ⟨y, rfl, q4⟩
      | succ i => exact r3 i x e
theorem eLc_of {fi : FI} {vs : List Nat} {t : CT} {ft : FT} {fe : FE} {env e e2 : En} {k : Wk} {ys : List D} (h1 : fi env = .ok k e) (h2 : lcL k vs t ft fe k.its [] (wipeE e vs) = .ok ys e2) : eLc fi vs t ft fe env = .ok (.fr ys) e2 := by
  rw [eLc_s, h1, bind_ok, h2]
  rfl
theorem loop_all {g : FG} {f : FS} {I : Nat → En → Prop} {ds : List D} {env : En} (h0 : I 0 env) (step : ∀ (i : Nat) (d : D) e, ds[i]? = some d → I i e → ∃ e1 e2, g (.im d) e = .nx e1 ∧ (f e1 = .nx e2 ∨ f e1 = .ct e2) ∧ I (i + 1) e2) : ∃ e, loopF g f ds env = .nx e ∧ I ds.length e := by
  have key : ∀ (rs : List D) (i : Nat) (e : En), ds.drop i = rs → I i e → ∃ e', loopF g f rs e = .nx e' ∧ I (i + rs.length) e' := by
    intro rs
    induction rs with
    | nil => exact fun i e _ h => ⟨e, rfl, h⟩
    | cons d rs ih =>
      intro i e hd h
      have hi : ds[i]? = some d := by
        have := List.getElem?_drop (xs := ds) (i := i) (j := 0)
        rw [hd] at this
        simpa using this.symm
      obtain ⟨e1, e2, q1, q2, q3⟩ := step i d e hi h
      have hd' : ds.drop (i + 1) = rs := by
        rw [← List.drop_drop, hd]
        rfl
      obtain ⟨e', r1, r2⟩ := ih (i + 1) e2 hd' q3
      refine ⟨e', ?_, by rw [List.length_cons, show i + (rs.length + 1) = i + 1 + rs.length by omega]; exact r2⟩
      unfold loopF
      rcases q2 with q2 | q2 <;> simp only [q1, q2] <;> exact r1
  obtain ⟨e, q1, q2⟩ := key ds 0 env (by simp) h0
  exact ⟨e, q1, by simpa using q2⟩
@[simp high] theorem dAll_map (p : D → Bool) (ds : List D) : dAll [.lst (ds.map fun d => .bl (p d))] = some (.im (.bl (ds.all p))) := by
  rw [dAll_lst, show (ds.map fun d => D.bl (p d)) = (ds.map p).map D.bl by rw [List.map_map]; rfl, blsOf_map]
  simp [List.all_map, Function.comp_def]
@[simp high] theorem dAny_map (p : D → Bool) (ds : List D) : dAny [.lst (ds.map fun d => .bl (p d))] = some (.im (.bl (ds.any p))) := by
  rw [dAny_lst, show (ds.map fun d => D.bl (p d)) = (ds.map p).map D.bl by rw [List.map_map]; rfl, blsOf_map]
  simp [List.any_map, Function.comp_def]
end DL
namespace DL
open PySem PySem.Spec L2 PyProof.Rows
variable [Wd]
theorem tuple_mul1 (l : Addr) (items : Array Value) (n : Nat) (dd : Option Addr) (sl : Array (Option Value)) (x : Int) (u : Tok) (hx : x = 1) :
    Meets (Builtin.«tuple.__mul__» ⟨[.ref l, .int x u], []⟩) (fun _ R s => s.heap.get? l = some { cls := .type "tuple", dict := dd, data := .seq items n, slots := sl } ∧ R (.ok (.ret (.ref l))) s) :=
  .of_wp fun prog w A R s h => by
    obtain ⟨hp, g, d, tk, os⟩ := s
    obtain ⟨hl, h⟩ := h
    have f1 := AutoSeq1.idx_int
    have c0 : (decide (x < -(2 ^ 63)) || decide (x ≥ 2 ^ 63)) = false := by subst hx; decide
    have c1 : (items.isEmpty || x == 1) = true := by subst hx; simp
    wp_walk using wpAny_loadPart' hl
    exact ⟨_, rfl, h⟩
theorem tuple_mul0 (l : Addr) (items : Array Value) (n : Nat) (dd : Option Addr) (sl : Array (Option Value)) (x : Int) (u : Tok) (hx : x = 0) (hi : items.isEmpty = false) :
    Meets (Builtin.«tuple.__mul__» ⟨[.ref l, .int x u], []⟩) (fun _ R s => s.heap.get? l = some { cls := .type "tuple", dict := dd, data := .seq items n, slots := sl } ∧
      R (.ok (.ret (Value.ref s.heap.objs.size))) { s with heap := s.heap.push { cls := Value.type "tuple", data := Data.seq #[] }, toks := s.toks }) :=
  .of_wp fun prog w A R s h => by
    obtain ⟨hp, g, d, tk, os⟩ := s
    obtain ⟨hl, h⟩ := h
    have f1 := AutoSeq1.idx_int
    have c0 : (decide (x < -(2 ^ 63)) || decide (x ≥ 2 ^ 63)) = false := by subst hx; decide
    have c1 : (items.isEmpty || x == 1) = false := by subst hx; rw [hi]; rfl
    have c2 : (decide (x ≤ 0) || items.isEmpty) = true := by subst hx; rfl
    wp_walk using wpAny_loadPart' hl
    repeat (first
      | (refine wpAny_ite_false (decide_eq_false (by rw [c0]; exact Bool.false_ne_true)) ?_; wp_walk using wpAny_loadPart' hl)
      | (refine wpAny_ite_false (decide_eq_false (by rw [c1]; exact Bool.false_ne_true)) ?_; wp_walk using wpAny_loadPart' hl)
      | (refine wpAny_ite_true (decide_eq_true (by rw [c2])) ?_; wp_walk using wpAny_loadPart' hl))
    exact ⟨_, rfl, h⟩
def rRep1 (K : PySem.W.Frag) : R2 := fun x y H Q => ∃ l xs, x = .ref l ∧ y = .int 1 ∧ SqT K H l xs ∧ Q (.ref l) H
def rRep0 (K : PySem.W.Frag) : R2 := fun x y H Q => ∃ l xs, x = .ref l ∧ y = .int 0 ∧ SqT K H l xs ∧ xs ≠ [] ∧ ∀ p, H p = none → Q (.ref p) (upd H p (.tup []))
section
variable {X : Cx} {c : Cc}
theorem op_rep1 : OpR X (binaryOp .Mult) (rRep1 X.K) := by
  intro pins s σ H x y v u Q I rx ry h
  obtain ⟨l, xs, rfl, rfl, hT, q⟩ := h
  cases rx
  obtain ⟨t, rfl⟩ := ry
  obtain ⟨its, r, ⟨⟨cls, dd, data, sl⟩, ho, hc, n, hd⟩, hs⟩ := I.tuple hT
  simp only at hc hd
  subst hc hd
  refine wpAny_binaryOp_repeat_ref (T := "tuple") (U := "int") (by decide) ⟨_, ho, rfl⟩ (fun s' => typeIs_int s' 1 t) noFill_tuple_mul F.fills_int_mul F.slot_int_rmul repeat_tuple F.slot_int_index.lookup
    (call_meets F.slot_int_rmul (typeIs_int s 1 t) F.entry_int_rmul (F.args_int_rmul_2 _ _) (int_rmul_tuple 1 t l its.toArray n dd sl)
      ⟨ho, rfl, ⟨_, ho, rfl⟩, call_meets F.slot_tuple_mul ⟨_, ho, rfl⟩ F.entry_tuple_mul (F.args_tuple_mul_2 _ _) (tuple_mul1 l its.toArray n dd sl 1 t rfl) ⟨ho, ?_⟩⟩)
  exact ⟨.ref l, H, I, rfl, q⟩
theorem op_rep0 : OpR X (binaryOp .Mult) (rRep0 X.K) := by
  intro pins s σ H x y v u Q I rx ry h
  obtain ⟨l, xs, rfl, rfl, hT, hne, q⟩ := h
  cases rx
  obtain ⟨t, rfl⟩ := ry
  obtain ⟨its, r, ⟨⟨cls, dd, data, sl⟩, ho, hc, n, hd⟩, hs⟩ := I.tuple hT
  simp only at hc hd
  subst hc hd
  have hi : its.toArray.isEmpty = false := by
    cases its with
    | nil =>
      cases r
      exact (hne rfl).elim
    | cons a b => rfl
  refine wpAny_binaryOp_repeat_ref (T := "tuple") (U := "int") (by decide) ⟨_, ho, rfl⟩ (fun s' => typeIs_int s' 0 t) noFill_tuple_mul F.fills_int_mul F.slot_int_rmul repeat_tuple F.slot_int_index.lookup
    (call_meets F.slot_int_rmul (typeIs_int s 0 t) F.entry_int_rmul (F.args_int_rmul_2 _ _) (int_rmul_tuple 0 t l its.toArray n dd sl)
      ⟨ho, rfl, ⟨_, ho, rfl⟩, call_meets F.slot_tuple_mul ⟨_, ho, rfl⟩ F.entry_tuple_mul (F.args_tuple_mul_2 _ _) (tuple_mul0 l its.toArray n dd sl 0 t rfl hi) ⟨ho, ?_⟩⟩)
  refine ⟨.ref s.heap.objs.size, _, I.laid (t' := s.toks) (o := .tup []) (fun b ob q => Heap.get?_push_of_some _ q) (Nat.le_refl _) ?_, rfl, q _ (I.hok.fresh (Nat.le_refl _))⟩
  exact ⟨Nat.zero_le _, _, .nil, IsTup.new _ _⟩
def dRep1 : D → D → Option T
  | .tup xs, .int k => if k = 1 then some (.im (.tup xs)) else none
  | _, _ => none
def dRep0 : D → D → Option T
  | .tup xs, .int k => if xs ≠ [] ∧ k = 0 then some (.im (.tup [])) else none
  | _, _ => none
theorem d_rep1 : OpD c (rRep1 c.K) dRep1 := by
  intro L σ H env x y dx dy t Q re hx hy e k
  cases dx <;> cases dy <;> simp only [dRep1] at e <;> try (cases e; done)
  split at e
  · rename_i q
    cases e
    obtain ⟨a, xs, rfl, h1, r1⟩ := hx.tup
    cases hy.int
    subst q
    exact ⟨a, xs, rfl, rfl, h1, k _ H re .refl (.tup h1 r1)⟩
  · cases e
theorem d_rep0 : OpD c (rRep0 c.K) dRep0 := by
  intro L σ H env x y dx dy t Q re hx hy e k
  cases dx <;> cases dy <;> simp only [dRep0] at e <;> try (cases e; done)
  split at e
  · rename_i q
    cases e
    obtain ⟨a, xs, rfl, h1, r1⟩ := hx.tup
    cases hy.int
    obtain ⟨q1, rfl⟩ := q
    refine ⟨a, xs, rfl, rfl, h1, fun z => q1 ?_, fun p n => ?_⟩
    · subst z
      cases r1
      rfl
    · have kp : ∀ {zs : HO} b o, H b = some o → upd H p zs b = some o := fun b o e => by rw [upd_ne (ne_of_none e n)]; exact e
      exact k _ _ (re.grow kp) (.grow kp) (.tup (.inl (.inl upd_same)) .nil)
  · cases e
abbrev rMulT (K : PySem.W.Frag) : R2 := fun x y H Q => rMulA K x y H Q ∨ (rRep1 K x y H Q ∨ rRep0 K x y H Q)
def dMulT (x y : D) : Option T := match dMulA x y with
  | some t => some t
  | none => match dRep1 x y with
    | some t => some t
    | none => dRep0 x y
theorem op_mulT : OpR X (binaryOp .Mult) (rMulT X.K) := op_mulA.or (op_rep1.or op_rep0)
theorem d_mulT : OpD c (rMulT c.K) dMulT := d_mulA.or (d_rep1.or d_rep0)
end
end DL
namespace DL
open PySem PySem.Spec L2
variable [Wd]
section
variable {X : Cx} {c : Cc}
end
section
variable {X : Cx} {c : Cc}
end
end DL
namespace DL
open PySem PySem.Spec L2
variable [Wd]
section
variable {X : Cx} {c : Cc} {W : WX} {pos : Pos} {cnd : Expr} {body : List Stmt} {ft : FT} {f : FS}
end
section
variable {X : Cx} {c : Cc} {W : WX} {pos p : Pos} {e tg a b : Expr} {fa : FE} {fas : FA}
end
end DL
namespace DL
open PySem PySem.Spec L2
variable [Wd]
section
variable {X : Cx} {c : Cc}
end
section
variable {X : Cx} {c : Cc} {W : WX} {a : Expr} {fa : FE} {p p2 q pos : Pos}
end
def rCountD (K : PySem.W.Frag) : V → List V → Hp → VK → Prop := fun x xs H Q => ∃ (a : Addr) (ys : List V) (y : V) (d : PyData) (ds : List PyData), x = V.ref a ∧ xs = [y] ∧ SqL K H a ys ∧ DpAll K H ys ds ∧ Dp K H y d ∧
  PyData.plainAll ds = true ∧ d.plain = true ∧ d.depth ≤ 60 ∧ Q (.int ((ds.countP fun z => PyData.eqv z d : Nat) : Int)) H
theorem mt_countD {X : Cx} (hu : X.A.units + 65 < cLine) : MtR X "list.count" (rCountD X.K) := by
  intro pins s σ H x xs v us Q I rx rxs h
  obtain ⟨a, ys, y, d, ds, rfl, rfl, hl, hys, hy, pl, pd, hd, q⟩ := h
  cases rx
  cases rxs with
  | cons ry rt =>
    cases rt
    obtain ⟨bs, r1⟩ := Dp.reads I d y _ hy ry
    obtain ⟨its, rv, hl', hz⟩ := I.list hl
    obtain ⟨as, r2⟩ := Dp.readsAll I _ _ _ hys rv
    refine PySem.SeqAt.count_list_data hl'.isList r2 r1 pl pd ?_ ⟨.int _, H, I.tok _, ⟨_, rfl⟩, q⟩
    have : min (PyData.depthAll ds) d.depth ≤ d.depth := Nat.min_le_right _ _
    omega
end DL
namespace DL
open PySem PySem.Spec PyProof PyProof.Rows L2
variable [Wd]
def rvN (n : Nat) : Option Int → Nat
  | none => n
  | some i => (max (-1) (min (if i < 0 then i + (n : Int) else i) ((n : Int) - 1)) + 1).toNat
theorem rv_bounds (o : Option Int) (n : Nat) : sliceBounds o none (some (-1)) n = (((rvN n o : Nat) : Int) - 1, -1, -1) := by
  cases o with
  | none => exact PySem.W.krv_bounds n
  | some i =>
    have h1 : ¬ ((-1 : Int) > 0) := by decide
    simp only [sliceBounds, rvN, Option.getD_some, h1, if_false]
    congr 1
    split <;> omega
theorem rv_items {α : Type} (xs : Array α) (r : Nat) : ((List.range r).map fun k => r - 1 - k).filterMap (xs[·]?) = (xs.toList.take r).reverse := by
  rw [PySem.W.krv_range, List.filterMap_reverse]
  congr 1
  have h := pick_run xs 0 r
  have e : (List.range r).map (0 + ·) = List.range r := by
    rw [show ((0 + ·) : Nat → Nat) = id from funext fun k => Nat.zero_add k, List.map_id]
  rw [e, List.drop_zero] at h
  exact h
theorem rv_pick (items : Array Value) (o : Option Int) : slicePick items o none (some (-1)) = (items.toList.take (rvN items.size o)).reverse.toArray := by
  unfold slicePick
  rw [rv_bounds]
  show ((sliceRange (((rvN items.size o : Nat) : Int) - 1) (-1) (-1)).filterMap (items[·]?)).toArray = _
  rw [PySem.W.krv_sliceRange, rv_items]
theorem rv_adjust (o : Option Int) (n : Nat) : Builtin.Slice.sliceAdjust o none (-1) (n : Int) = (((rvN n o : Nat) : Int) - 1, -1) := by
  have h1 : (-1 : Int) < 0 := by decide
  cases o with
  | none => simp only [Builtin.Slice.sliceAdjust, rvN, h1, if_true]
  | some i =>
    simp only [Builtin.Slice.sliceAdjust, rvN, h1, if_true]
    congr 1
    split <;> omega
theorem rv_places (r : Nat) : Builtin.Slice.slicePlaces ((r : Int) - 1) (-1) (-1) = r := by
  unfold Builtin.Slice.slicePlaces
  have h1 : ¬ ((-1 : Int) > 0) := by decide
  simp only [h1, if_false, show (- -1 : Int) = 1 by decide, Int.ediv_one]
  split <;> omega
theorem rv_gen (xs : Array Value) (r : Nat) : ((List.range r).filterMap fun (m : Nat) => xs[(((r : Int) - 1) + (m : Int) * (-1)).toNat]?).toArray = (xs.toList.take r).reverse.toArray := by
  rw [← rv_items xs r]
  show (List.filterMap ((fun x => xs[x]?) ∘ fun (m : Nat) => (((r : Int) - 1) + (m : Int) * (-1)).toNat) (List.range r)).toArray = _
  rw [← List.filterMap_map]
  congr 2
  apply List.map_congr_left
  intro k hk
  have := List.mem_range.mp hk
  omega
section
variable {prog : Program} {w : World} {A : Around} {E : Value → Shared → Prop} {s : Shared}
theorem sliceApplied_rv {sl : Addr} {vl vs : Value} {lo : Option Int} {n : Nat} {Q : Int × Int × Nat → Shared → Prop} (hs : s.heap.IsSliceOf sl vl .none vs) (pl : IsPart vl lo) (pk : IsPart vs (some (-1)))
    (h : Q (((rvN n lo : Nat) : Int) - 1, -1, rvN n lo) s) : wpAny (model prog w) A (Builtin.Slice.sliceApplied (.ref sl) (pure (n : Int))) Q E s := by
  obtain ⟨os, hos, hcs, hds⟩ := id hs
  unfold Builtin.Slice.sliceApplied Builtin.Slice.sliceFields
  refine wpAny_bind (wpAny_bind (wpAny_field hos hds (x := vl) rfl (wpAny_bind (wpAny_field hos hds (x := .none) rfl (wpAny_bind (wpAny_field hos hds (x := vs) rfl (wpAny_pure ?_)))))))
  refine wpAny_bind (HT.slicePart_ pk ?_)
  show wpAny _ _ (if ((-1 : Int) == 0) = true then _ else _) _ _ s
  rw [if_neg (by decide)]
  refine wpAny_bind (HT.slicePart_ pl (wpAny_bind (slicePart_none (wpAny_bind (wpAny_pure ?_)))))
  show wpAny _ _ (match Builtin.Slice.sliceAdjust lo none (-1) (n : Int) with | (lo, hi) => pure (lo, (-1 : Int), Builtin.Slice.slicePlaces lo hi (-1))) _ _ s
  rw [rv_adjust lo n]
  show wpAny _ _ (pure (((rvN n lo : Nat) : Int) - 1, (-1 : Int), Builtin.Slice.slicePlaces (((rvN n lo : Nat) : Int) - 1) (-1) (-1))) _ _ s
  rw [rv_places]
  exact wpAny_pure h
theorem getItem_tuple_rv {t sl : Addr} {items : Array Value} {vl vs : Value} {lo : Option Int} {Q : Value → Shared → Prop} (ht : IsTup s.heap t items) (hs : s.heap.IsSliceOf sl vl .none vs) (pl : IsPart vl lo) (pk : IsPart vs (some (-1)))
    (h : Q (.ref s.heap.objs.size) { s with heap := s.heap.push { cls := .type "tuple", data := .seq ((items.toList.take (rvN items.size lo)).reverse).toArray } })
    (hsz : items.size ≤ sizeLine) : wpAny (model prog w) A (getItem (.ref t) (.ref sl)) Q E s := by
  have htake : sizeOk (.seq ((items.toList.take (rvN items.size lo)).reverse).toArray) := by
    show ((items.toList.take (rvN items.size lo)).reverse).toArray.size ≤ sizeLine
    rw [List.size_toArray, List.length_reverse, List.length_take, Array.length_toList]
    omega
  obtain ⟨os, hos, hcs, hds⟩ := id hs
  have hTs : s.TypeIs (.ref sl) "slice" := ⟨os, hos, hcs⟩
  unfold getItem
  try with_reducible refine wpAny_holding ?_
  first | refine wpAny_bind (wpAny_pure ?_) | skip
  refine wpAny_bind (wpAny_sequenceKey ht.typeIs (by decide) ?_)
  refine wpAny_bind (wpAny_callSpecial?_slot (name := Str.ofString "__getitem__") ht.typeIs PyProof.Rows.slot_tuple_getitem
    (wpAny_call_entry PyProof.Rows.slot_tuple_getitem ht.typeIs entry_tuple_getitem ?_ (args_tuple_getitem _ _)))
  show wpAny _ _ (Builtin.Tuple.tupleItemsOf (.ref t) >>= _) _ _ s
  refine wpAny_bind (tupleItemsOf_ ht ?_)
  refine wpAny_bind (wpAny_typeOf hTs ?_)
  rw [if_pos (by decide)]
  refine wpAny_bind (sliceApplied_rv hs pl pk ?_)
  have hno : ¬ (((((rvN items.size lo : Nat) : Int) - 1) == 0 && (-1 : Int) == 1 && (rvN items.size lo) == items.size) = true) := by
    intro q
    rw [Bool.and_eq_true, Bool.and_eq_true] at q
    exact absurd q.1.2 (by decide)
  show wpAny _ _ (if ((((rvN items.size lo : Nat) : Int) - 1) == 0 && (-1 : Int) == 1 && (rvN items.size lo) == items.size) = true then _ else _) _ _ s
  rw [if_neg hno, rv_gen]
  first
    | exact wpAny_bind (m := Builtin.Tuple.tupleExact _) (wpAny_newObj_type (wpAny_pure ⟨_, rfl, wpAny_pure h⟩) htake)
    | exact wpAny_bind (m := Builtin.Tuple.tupleExact _) (wpAny_newObj_type (wpAny_bind (wpAny_pure (wpAny_pure ⟨_, rfl, wpAny_pure h⟩))) htake)
    | exact wpAny_bind (wpAny_bind (m := Builtin.Tuple.tupleExact _) (wpAny_newObj_type (wpAny_pure (wpAny_pure ⟨_, rfl, wpAny_pure h⟩)) htake))
    | exact wpAny_bind (wpAny_bind (m := Builtin.Tuple.tupleExact _) (wpAny_newObj_type (wpAny_pure ⟨_, rfl, wpAny_pure h⟩) htake))
end
def rvV {α : Type} (xs : List α) (o : Option Int) : List α := (xs.take (rvN xs.length o)).reverse
theorem rvV_length {α : Type} (xs : List α) (o : Option Int) : (rvV xs o).length ≤ xs.length := by
  unfold rvV
  rw [List.length_reverse, List.length_take]
  omega
def rRv (K : PySem.W.Frag) : V → Option Int → Hp → VK → Prop := fun x o H Q =>
  (∃ a xs, x = .ref a ∧ SqL K H a xs ∧ ∀ p, H p = none → Q (.ref p) (upd H p (.lst (rvV xs o)))) ∨ (∃ a xs, x = .ref a ∧ SqT K H a xs ∧ ∀ p, H p = none → Q (.ref p) (upd H p (.tup (rvV xs o))))
def tRv (K : PySem.W.Frag) (te : TE) (tl : TO) : TE := fun σ H Q => te σ H fun x H1 => tl σ H1 fun o H2 => rRv K x o H2 Q
section
variable {X : Cx} {e : Expr} {te : TE} {lo : Option Expr} {tl : TO} {k : Nat} {p1 p2 p3 pos : Pos}
theorem pe_rv (he : PE X e te) (hl : PO X lo tl) : PE X (.Subscript e (.Slice lo none (some (.UnaryOp .USub (.Constant (.int 1) k p1) p2)) p3) pos) (tRv X.K te tl) := by
  refine ⟨fun pins s σ H Q I h => ?_⟩
  refine Subscript_ (thn (he.run pins s σ H _ I h) fun v s1 ⟨x, H1, I1, r1, q1⟩ => ?_)
  have hst : PO X (some (.UnaryOp .USub (.Constant (.int 1) k p1) p2)) (tPart (tUn (rU fun i => .int (-i)) (tC (.int 1)))) := po_some (pe_un un_neg pe_int)
  refine wpAny_Slice (thn (hl.run pins s1 σ H1 _ I1 q1) fun vl s2 ⟨l, H2, I2, pl, q2⟩ => ?_)
  refine thn (po_none.run pins s2 σ H2 (fun o H3 => o = none ∧ H3 = H2) I2 ⟨rfl, rfl⟩) fun vu s3 ⟨u, H3, I3, pu, eu, e3⟩ => ?_
  subst eu e3
  cases pu
  refine thn (hst.run pins s3 σ H3 (fun o H4 => o = some (-1) ∧ H4 = H3) I3 ⟨1, rfl, -1, rfl, rfl, rfl⟩) fun vs s4 ⟨o, H4, I4, ps, eo, e4⟩ => ?_
  subst eo e4
  have I5 : Inv X pins σ H4 { s4 with heap := s4.heap.push { cls := .type "slice", data := .fields #[vl, .none, vs] } } := I4.kept (t' := s4.toks) fun b ob q => Heap.get?_push_of_some _ q
  rcases q2 with ⟨a, xs, rfl, hx, q⟩ | ⟨a, xs, rfl, hx, q⟩
  · cases r1
    obtain ⟨its, r, ht, hz⟩ := I5.list hx
    have hlen := r.length
    show wpAny (model X.prog X.w) X.A (subscriptTail e (.Slice lo none (some (.UnaryOp .USub (.Constant (.int 1) k p1) p2)) p3) (.ref a) (.ref s4.heap.objs.size)) (EP X pins σ Q) X.xe { s4 with heap := s4.heap.push { cls := .type "slice", data := .fields #[vl, .none, vs] } }
    refine tail_any (ops := [.ref a, .ref s4.heap.objs.size]) ht.isList.typeIs (PySem.slot_list_getitem.lookup) ?_ (by with_unfolding_all rfl)
    refine wpAny_getItem_list_slice ht.isList (Heap.IsSliceOf.new _ vl .none vs) pl .none ps (by decide) ?_ (by rw [List.size_toArray]; omega)
    rw [rv_pick, show its.toArray.size = xs.length by rw [List.size_toArray]; exact hlen.symm]
    refine ⟨.ref _, _, I5.laid (t' := s4.toks) (o := .lst (rvV xs l)) (fun b ob q => Heap.get?_push_of_some _ q) (Nat.le_refl _) ?_, rfl, q _ (I5.hok.fresh (Nat.le_refl _))⟩
    exact ⟨Nat.le_trans (rvV_length xs l) hz, _, 0, (r.take _).reverse, Heap.get?_push_size _ rfl⟩
  · cases r1
    obtain ⟨its, r, ht, hz⟩ := I5.tuple hx
    have hlen := r.length
    show wpAny (model X.prog X.w) X.A (subscriptTail e (.Slice lo none (some (.UnaryOp .USub (.Constant (.int 1) k p1) p2)) p3) (.ref a) (.ref s4.heap.objs.size)) (EP X pins σ Q) X.xe { s4 with heap := s4.heap.push { cls := .type "slice", data := .fields #[vl, .none, vs] } }
    refine tail_any (ops := [.ref a, .ref s4.heap.objs.size]) ht.typeIs (PyProof.Rows.slot_tuple_getitem.lookup) ?_ (by with_unfolding_all rfl)
    refine getItem_tuple_rv ht (Heap.IsSliceOf.new _ vl .none vs) pl ps ?_ (by rw [List.size_toArray]; omega)
    rw [show its.toArray.size = xs.length by rw [List.size_toArray]; exact hlen.symm]
    refine ⟨.ref _, _, I5.laid (t' := s4.toks) (o := .tup (rvV xs l)) (fun b ob q => Heap.get?_push_of_some _ q) (Nat.le_refl _) ?_, rfl, q _ (I5.hok.fresh (Nat.le_refl _))⟩
    exact ⟨Nat.le_trans (rvV_length xs l) hz, _, (r.take _).reverse, IsTup.new _ _⟩
end
def dRv (d : D) (o : Option Int) : Option T := match d with
  | .tup ds => some (.im (.tup (rvV ds o)))
  | .lst ds => some (.fr (rvV ds o))
  | _ => none
def rvT (t : T) (o : Option Int) (env : En) : R T := match t.val env with
  | some d => R.opt (dRv d o) env
  | none => .er
@[simp] theorem dRv_tup (ds : List D) (o : Option Int) : dRv (.tup ds) o = some (.im (.tup (rvV ds o))) := rfl
@[simp] theorem dRv_lst (ds : List D) (o : Option Int) : dRv (.lst ds) o = some (.fr (rvV ds o)) := rfl
def eRv (fa : FE) (fl : En → R (Option Int)) : FE := fun env => (fa env).bind fun t e1 => (fl e1).bind fun o e2 => rvT t o e2
@[simp] theorem eRv_s (fa : FE) (fl : En → R (Option Int)) (env : En) : eRv fa fl env = (fa env).bind fun t e1 => (fl e1).bind fun o e2 => rvT t o e2 := rfl
section
variable {X : Cx} {c : Cc} {W : WX} {a : Expr} {fa : FE} {fl : En → R (Option Int)} {lo : Option Expr} {k : Nat} {p1 p2 p3 pos : Pos}
theorem Reps.rv {K : PySem.W.Frag} {G : Addr → Prop} {H : Hp} {xs : List V} {ds : List D} (r : Reps K G H xs ds) (o : Option Int) : Reps K G H (rvV xs o) (rvV ds o) := by
  unfold rvV
  rw [r.length]
  exact (r.take _).reverse
theorem de_rv (ha : PE X a (dE c W fa)) (hl : PO X lo (dO c W fl)) (hK : c.K = X.K := by rfl) : PE X (.Subscript a (.Slice lo none (some (.UnaryOp .USub (.Constant (.int 1) k p1) p2)) p3) pos) (dE c W (eRv fa fl)) :=
  PEw (pe_rv ha hl) fun σ H Q h => by
    obtain ⟨env, L, re, h⟩ := dE_iff.mp h
    refine dE.of re (h.bind.mono fun t e1 H1 r1 s1 h1 x q1 => ?_)
    refine ⟨e1, L, r1, h1.bind.mono fun o e2 H2 r2 s2 h2 => ?_⟩
    unfold rvT at h2
    cases e : t.val e2 with
    | none => rw [e] at h2; exact h2.elim
    | some d =>
      rw [e] at h2
      have q := q1.opr r1 s2 r2 e
      have kk : ∀ {t'}, R.opt (dRv d o) e2 = .ok t' e2 → ∀ v H', RE c L σ H' e2 → Stp σ e2 H2 σ e2 H' → RepT c L (Nn σ e2 H2) σ H' e2 v t' → Q v H' := fun {t'} eq v H' a b q => by
        dsimp only at h2
        rw [eq] at h2
        exact h2 H' a b v (q.less (fun _ z => z) fun a n => s1.back (s2.back n))
      cases d with
      | tup ds =>
        obtain ⟨a, xs, rfl, h, r⟩ := q.tup
        rw [hK] at h
        exact .inr ⟨a, xs, rfl, h, new_tup r2 (r.rv o) (kk rfl)⟩
      | lst ds =>
        obtain ⟨a, xs, rfl, h, r⟩ := q.lst
        refine .inl ⟨a, xs, rfl, .of h, fun p n => ?_⟩
        obtain ⟨y1, y2, y3⟩ := r2.newL (r.rv o) n
        exact kk rfl _ _ y1 y2 y3
      | non => exact h2.elim
      | bl i => exact h2.elim
      | int i => exact h2.elim
      | str x => exact h2.elim
      | fz xs => exact h2.elim
      | dct _ _ => exact h2.elim
      | kd _ _ => exact h2.elim
end
end DL
namespace DL
open PySem PySem.Spec PyProof PyProof.Rows PySem.W L2
variable [Wd]
section
variable {prog : Program} {w : World} {A : Around} {E : Value → Shared → Prop} {s : Shared}
end
end DL
namespace DL
open PySem PySem.Spec PyProof.Rows L2
variable [Wd]
def ExcK (K : PySem.W.Frag) (mg : Str → Option Value) (x : Str) : Prop := ∃ C : Addr, mg x = some (.ref C) ∧ PySem.W.excIn K C [.type "ValueError", .type "Exception", .type "BaseException", .type "object"] "ValueError.__new__" = true ∧
  PySem.W.keepIn K (.ref C) = true ∧ PySem.W.subIn K (.ref C) (.type "BaseException") = some true ∧ PySem.W.typeIn K (.ref C) = some (.type "type")
def sRz (x : Str) : FS := fun env => .ex x env
@[simp] theorem sRz_s (x : Str) (env : En) : sRz x env = .ex x env := rfl
section
variable {X : Cx} {c : Cc} {W : WX}
theorem ds_raise {x m : Str} {j : Nat} {p p2 pos pos' : Pos} (hc : X.calm = true) (tk : Takes X W) (xk : ExcK X.K X.mg x) (hg : Gl X x) (hM : c.mg = X.mg := by rfl) (hdb : (x == ("__debug__" : Str)) = false := by decide) :
    PS X (.Raise (some (.Call (.Name x p) [.Constant (.str m) j p2] [] pos)) none pos') (dS c W (sRz x)) := by
  obtain ⟨C, gC, eC, kC, bC, tC⟩ := xk
  refine PSw (ps_raise hc tk (pmk_own PySem.F.excBase_ValueError eC gC kC (raises_own bC tC) hg hdb)) fun D σ H h => ?_
  obtain ⟨env, L, r, h⟩ := h
  exact h σ H r .refl C (by rw [hM]; exact gC)
end
open L2H in
structure FnX (P : Program) (w : World) (K : PySem.W.Frag) (mg : Str → Option Value) (base : Heap) (CX : CXT) (k : Nat) (f : Addr) (fd : FuncData) (ps : List Str) (sp : Addr × Obj → Sp) : Prop where
  len : ∀ p vs H Q E, sp p vs H Q E → vs.length = ps.length
  run : ∀ (A : Around) (outer : List Env) (s : Shared) (H : Hp) (args : Args) (us : List Value) (vs : List V) (Q : VK) (E : XK) (p : Addr × Obj), RoomH k A → PinOk outer H s p → Env0 P w K mg base A outer s H → BindsTo s fd args (ps.zip us) → Vals vs us → sp p vs H Q E →
    codeAny (model P w) A (.call (.ref f) args) (CR CX outer P w H s Q E) s
open L2H in
theorem fn_ofX {CX : CXT} {P : Program} {w : World} {K : PySem.W.Frag} {mg : Str → Option Value} {base : Heap} {k : Nat} {f : Addr} {name qual : Str} {params : Arguments} {body : List Stmt} {scope : Scope} {dV kV doc pm cdv ct oc : Value} {an od : Option Addr}
    {osl : Array (Option Value)} {N ps : List Str} {sp : Addr × Obj → Sp} (lk : K.lookup f = some ⟨oc, od, .func (PySem.W.fnOf name qual params body scope dV kV doc pm an cdv ct), osl⟩) (hcd : PySem.W.codeIn K cdv qual = true) (S : FnScope N ps scope)
    (len : ∀ p vs H Q E, sp p vs H Q E → vs.length = ps.length)
    (hbody : ∀ (A : Around) (outer : List Env) (s : Shared) (H : Hp) (vs : List V) (Q : VK) (E : XK) (p : Addr × Obj), RoomH k (A.deeper (envOfC qual scope s.heap.objs.size f cdv)) → sp p vs H Q E →
      ∃ t, PSs (cxH CX P w K mg base N qual scope f cdv A outer s H E p) body t ∧ t { nx := fun _ H' => Q .non H', rt := Q } (L2.start N vs) H) :
    FnX P w K mg base CX (k + 1) f (PySem.W.fnOf name qual params body scope dV kV doc pm an cdv ct) ps sp := by
  refine ⟨len, fun A outer s H args us vs Q E p hr hpin e0 hb r hsp => ?_⟩
  have hl := len _ _ _ _ _ hsp
  have KX : K.In s.heap := e0.mod.kin.keeps fun b o e => (e0.bs b o e).1
  have lim : s.heap.NoLimit := e0.mod.nolimit.keeps fun b o e => (e0.bs b o e).1
  have hkind : ∀ y ∈ ps.zip us, scope.names.lookup y.1 = some .local ∨ (scope.names.lookup y.1 = some .cell ∧ ((cellsFrom (s.heap.objs.size + 1) scope.names []).lookup y.1).isSome = true) := fun ⟨n, v⟩ hy => by
    rcases S.par n (List.of_mem_zip hy).1 with q | q
    · exact .inl q
    · exact .inr ⟨q, PySem.W.cellsFrom_some _ _ _ (.inl q)⟩
  refine codeAny_call_function hr.depth (KX _ _ lk) rfl S.co S.gen rfl (PySem.W.codeRec_of KX hcd) (hb _ _ _ _ ?_)
  refine wpAny_newFunctionEnv_cells S.kind hkind fun env he s1 x => ?_
  subst he
  refine ⟨lim.keeps x.toInCall.keep, codeAny_func ?_⟩
  obtain ⟨t, ht, hq⟩ := hbody A outer s H vs Q E p (hr.deeper _) hsp
  have I : Inv (cxH CX P w K mg base N qual scope f cdv A outer s H E p) [] (L2.start N vs) H s1 := inv_startH S hpin e0 hl r x
  refine wpAny_mono (ht.run [] s1 (L2.start N vs) H _ I hq) (fun fl s' hs => ?_) fun e s' hs => hs
  have fin : ∀ {σ' : L2.St} {H' : Hp} {v : V} {u : Value}, Inv (cxH CX P w K mg base N qual scope f cdv A outer s H E p) [] σ' H' s' → RelV v u → Q v H' → CE outer P w H s Q u s' :=
    fun {σ' H' v u} J rv q => ⟨v, H', J.os, J.bare, J.base, J.hok, rv, q⟩
  cases fl with
  | ret u =>
    obtain ⟨v, σ', H', J, rv, q⟩ := hs
    exact fin J rv q
  | next =>
    obtain ⟨σ', H', J, q⟩ := hs
    exact fin (v := V.non) (u := Value.none) J rfl q
  | brk =>
    obtain ⟨_, _, _, q⟩ := hs
    exact False.elim q
  | cont =>
    obtain ⟨_, _, _, q⟩ := hs
    exact False.elim q
section
variable {X : Cx} {CX : CXT} {k : Nat} {f C : Addr} {fd : FuncData} {ps : List Str} {sp : Addr × Obj → Sp} {E : L2.St → XK} {x m : Str} {q pos apos : Pos} {e o : Expr} {es : List Expr} {ta : TE} {t : TA}
open L2H in
theorem run_fnX {pins : List (Addr × Obj)} {σ : L2.St} {H : Hp} {s : Shared} {Q : VK} {us : List Value} {vs : List V} {p : Addr × Obj} (F : FnX X.prog X.w X.K X.mg X.base CX k f fd ps sp) (hr : RoomH k X.A) (hp : p ∈ X.pn) (hb : Binds X.K fd ps []) (hx : PassesAt CX X σ (E σ))
    (I : Inv X pins σ H s) (r : Vals vs us) (h : sp p vs H Q (E σ)) : wpAny (model X.prog X.w) X.A (call (.ref f) us) (EP X pins σ Q) X.xe s := by
  have hl : us.length = ps.length := by rw [← r.length]; exact F.len _ _ _ _ _ h
  have b := hb s us I.kIn (by rw [List.append_nil]; exact hl)
  rw [List.append_nil] at b
  have P1 := I.pin p (List.mem_append_left _ hp)
  have hpin : PinOk X.stack H s p := ⟨P1.1, P1.2.1, fun hm => (List.mem_cons.mp (I.stkSub p.1 hm)).elim P1.2.2.1 P1.2.2.2.1, P1.2.2.2.2⟩
  refine wpAny_call (codeAny_mono (F.run X.A X.stack s H ⟨us, []⟩ us vs Q (E σ) p hr hpin I.env0 b r h) fun r s' hq => ?_)
  cases r with
  | error e => exact hx pins H s e s' I hq
  | ok fl =>
    cases fl with
    | ret u => exact I.after hq
    | next => exact False.elim hq
    | brk => exact False.elim hq
    | cont => exact False.elim hq
open L2H in
theorem pe_callX {p : Addr × Obj} (F : FnX X.prog X.w X.K X.mg X.base CX k f fd ps sp) (hr : RoomH k X.A) (hp : p ∈ X.pn) (hg : Gl X x) (hm : X.mg x = some (.ref f)) (hk : PySem.W.keepIn X.K (.ref f) = true) (hb : Binds X.K fd ps []) (hx : ∀ σ, PassesAt CX X σ (E σ))
    (ha : PA X (e :: es) t) (hdb : (x == ("__debug__" : Str)) = false := by decide) (he : starEach (e :: es) X.env = (false, eval e X.env) :: starEach es X.env := by rfl) (hpl : (backTo pos (starEach es X.env)).any (·.1) = false := by rfl) :
    PE X (.Call (.Name x q) (e :: es) [] pos) (tCallS (sp p) E t) := by
  refine ⟨fun pins s σ H Q I h => ?_⟩
  refine wpAny_Call_Name_kw (ld_glob I hg hm ?_ hdb)
  refine PySem.W.callWith_K (h₀ := X.base) I.ok.mod.kin hk (thn (ha.run pos pins s σ H _ I h) fun us s1 ⟨vs, H1, I1, r, q⟩ => ⟨I1.kIn, ?_⟩) he hpl
  exact run_fnX F hr hp hb (hx σ) I1 r q
end
theorem call_isX {X : Cx} {a D : Addr} {oe : Obj} (hp : (a, oe) ∈ X.pn) (C : ExcC X.K D) (hz : Zc (.ref D) none oe) (hf : ∃ vs, oe.data = .fields vs) : CallR X (.builtin "isinstance") (rIsE X.K D a) := by
  intro pins s σ H xs us Q I r h
  obtain ⟨c, cv, b, rfl, hcv, e, q⟩ := h
  cases r with
  | cons rx rr =>
    cases rr with
    | cons rt rr =>
      cases rr
      cases rx
      have ec := hcv _ rt
      subst ec
      obtain ⟨hget, _⟩ := I.pin (a, oe) (List.mem_append.mpr (.inl hp))
      obtain ⟨vs, hv⟩ := hf
      have J : PySem.W.InstAt s.heap a oe D none := by
        obtain ⟨oc, od, oda, osl⟩ := oe
        obtain ⟨h1, h2⟩ := hz
        dsimp only at h1 h2 hv
        subst h1 h2 hv
        exact ⟨hget, rfl, rfl, trivial⟩
      exact PySem.W.kia_one (PySem.W.handS_kitx_exc C.hg C.hk C.hs C.hd C.ha C.hn C.ht C.hm) I.kIn J e (fun z => nomatch z) fun tk => ⟨.bl b, H, I.kept (t' := tk) fun _ _ z => z, rfl, q⟩
end DL
namespace DL
open PySem PySem.Spec PyProof.Rows L2
variable [Wd]
def xn : List Str := ["InvalidShop", "InvalidBasket", "InvalidActs", "InvalidAct", "InvalidOffers", "InvalidKinds", "InvalidNumber", "Different", "NoFault", "NotThere", "NothingToUndo", "ParseError"]
structure XF (K : PySem.W.Frag) (P C : Addr) : Prop where
  cd : ∃ cd, PySem.W.clsIn K C = some cd ∧ cd.mro = [.ref C, .ref P, .type "ValueError", .type "Exception", .type "BaseException", .type "object"]
  ty : PySem.W.typeIn K (.ref C) = some (.type "type")
  hg : PySem.W.findIn K (.ref C) "__getattribute__" = some (some (.builtin "BaseException.__getattribute__"))
  hk : PySem.W.findIn K (.ref C) "__getattr__" = some none
  hd : PySem.W.hasDictIn K C = true
  ha : PySem.W.findIn K (.ref C) "__class__" = some (some (.builtin "object.__class__"))
inductive XFs (K : PySem.W.Frag) (mg : Str → Option Value) (P : Addr) : List Str → List Addr → Prop
  | nil : XFs K mg P [] []
  | cons {x C xs cs} (g : mg x = some (.ref C)) (f : XF K P C) (r : XFs K mg P xs cs) : XFs K mg P (x :: xs) (C :: cs)
theorem XFs.get {K : PySem.W.Frag} {mg : Str → Option Value} {P : Addr} : ∀ {xs : List Str} {cs : List Addr}, XFs K mg P xs cs → ∀ {j : Nat} {x : Str}, xs[j]? = some x → ∃ C, cs[j]? = some C ∧ mg x = some (.ref C) ∧ XF K P C
  | _, _, .nil, j, x, h => by simp at h
  | _, _, .cons g f r, 0, x, h => by simp at h; subst h; exact ⟨_, rfl, g, f⟩
  | _, _, .cons g f r, j + 1, x, h => by simpa using XFs.get r (by simpa using h)
structure Exn (K : PySem.W.Frag) (mg : Str → Option Value) (P : Addr) (cs : List Addr) : Prop where
  xs : XFs K mg P xn cs
  nd : (P :: cs).Nodup
  gP : mg "PriceError" = some (.ref P)
  bP : PySem.W.subIn K (.ref P) (.type "BaseException") = some true
  iP : PySem.W.isClsIn K P = true
  tP : PySem.W.typeIn K (.ref P) = some (.type "type")
  hn : PySem.W.specialIn K (.builtin "object.__class__") "__get__" = some (some (.builtin "getset_descriptor.__get__"))
  ht : PySem.W.takesIn K (.builtin "object.__class__") = some true
section
variable {K : PySem.W.Frag} {mg : Str → Option Value} {P C : Addr} {cs : List Addr}
theorem XFs.len : ∀ {xs : List Str} {cs : List Addr}, XFs K mg P xs cs → cs.length = xs.length
  | _, _, .nil => rfl
  | _, _, .cons _ _ r => congrArg (· + 1) (XFs.len r)
theorem XFs.at : ∀ {xs : List Str} {cs : List Addr}, XFs K mg P xs cs → ∀ {j : Nat} {C : Addr}, cs[j]? = some C → XF K P C
  | _, _, .nil, j, C, h => by simp at h
  | _, _, .cons _ f r, 0, C, h => by simp at h; subst h; exact f
  | _, _, .cons _ f r, j + 1, C, h => XFs.at r (by simpa using h)
theorem Exn.len (x : Exn K mg P cs) : cs.length = 12 := x.xs.len
theorem Exn.at (x : Exn K mg P cs) {j : Nat} {C : Addr} (h : cs[j]? = some C) : XF K P C := x.xs.at h
theorem XF.sub (f : XF K P C) (b : Value) : PySem.W.subIn K (.ref C) b = some ([Value.ref C, .ref P, .type "ValueError", .type "Exception", .type "BaseException", .type "object"].contains b) := by
  obtain ⟨cd, h1, h2⟩ := f.cd
  show PySem.W.mroIn K C b = _
  unfold PySem.W.mroIn
  rw [h1, Option.bind_some, h2]
  rfl
theorem XF.is (f : XF K P C) : PySem.W.isClsIn K C = true := by
  obtain ⟨cd, h1, h2⟩ := f.cd
  unfold PySem.W.isClsIn
  rw [h1]
  rfl
theorem Exn.excC (x : Exn K mg P cs) (f : XF K P C) : ExcC K C := ⟨f.hg, f.hk, by rw [f.sub]; rfl, f.hd, f.ha, x.hn, x.ht, by
  have := f.sub (.type "object")
  exact this.trans rfl⟩
theorem kitCls_ref {t : Value} {D : Addr} {b : Bool} (h1 : PySem.W.isClsIn K D = true) (h2 : PySem.W.typeIn K (.ref D) = some (.type "type")) (h3 : PySem.W.subIn K t (.ref D) = some b) : PySem.W.kitCls K t (.ref D) = some b := by
  show (if ((PySem.W.clsIn K D).isSome && PySem.W.typeIn K (.ref D) == some (.type "type")) = true then PySem.W.subIn K t (.ref D) else none) = some b
  have e1 : (PySem.W.clsIn K D).isSome = true := h1
  rw [e1, h2, if_pos (by rfl)]
  exact h3
theorem Exn.kit (x : Exn K mg P cs) {i j : Nat} {C D : Addr} (hi : cs[i]? = some C) (hj : cs[j]? = some D) (fC : XF K P C) (fD : XF K P D) : PySem.W.kitOne K (.ref C) (.ref D) = some (decide (i = j)) := by
  have hil := (List.getElem?_eq_some_iff.mp hi).1
  have hjl := (List.getElem?_eq_some_iff.mp hj).1
  have nd := x.nd
  rw [List.nodup_cons] at nd
  have np : (Value.ref P == Value.ref D) = false := Bool.eq_false_iff.mpr fun q => by
    have e := Value.ref.inj (beq_iff_eq.mp q)
    exact nd.1 (by rw [e]; exact List.mem_of_getElem? hj)
  unfold PySem.W.kitOne
  by_cases e : i = j
  · subst e
    rw [hi] at hj
    cases hj
    rw [if_pos (beq_self_eq_true _), decide_eq_true rfl]
  · have nc : (Value.ref C == Value.ref D) = false := Bool.eq_false_iff.mpr fun q => by
      have e' := Value.ref.inj (beq_iff_eq.mp q)
      subst e'
      exact e ((List.getElem?_inj hil nd.2).mp (hi.trans hj.symm))
    rw [if_neg (by rw [nc]; exact Bool.false_ne_true), decide_eq_false e]
    refine kitCls_ref fD.is fD.ty ?_
    rw [fC.sub]
    have n1 : (Value.ref D == Value.ref C) = false := by rw [BEq.comm]; exact nc
    have n2 : (Value.ref D == Value.ref P) = false := by rw [BEq.comm]; exact np
    simp only [List.contains_cons, n1, n2, Bool.false_or]
    rfl
theorem Exn.kitV (x : Exn K mg P cs) (fC : XF K P C) : PySem.W.kitOne K (.ref C) (.type "ValueError") = some true := by
  unfold PySem.W.kitOne
  have e : (Value.ref C == Value.type "ValueError") = false := rfl
  rw [e, if_neg Bool.false_ne_true]
  show (if PySem.W.kitMeta "ValueError" = true then PySem.W.subIn K (.ref C) (.type "ValueError") else none) = some true
  have m : PySem.W.kitMeta "ValueError" = true := by decide +kernel
  rw [if_pos m, fC.sub]
  have n1 : (Value.type "ValueError" == Value.ref C) = false := rfl
  have n2 : (Value.type "ValueError" == Value.ref P) = false := rfl
  simp only [List.contains_cons, n1, n2, Bool.false_or]
  rfl
theorem Exn.exm (x : Exn K mg P cs) (fC : XF K P C) : PySem.W.exmOne K (.ref C) (.ref P) = some true := by
  unfold PySem.W.exmOne
  rw [x.bP, if_pos (by rfl)]
  refine kitCls_ref x.iP x.tP ?_
  rw [fC.sub]
  simp
end
end DL
namespace DL
open PySem PySem.Spec PyProof.Rows L2
variable [Wd]
def spWhich (cs : List Addr) (p : Addr × Obj) : Sp := fun vs H Q E => vs = [.ref p.1] ∧ ∃ (C : Addr) (j : Nat), cs[j]? = some C ∧ Zc (.ref C) none p.2 ∧ (∃ vs, p.2.data = .fields vs) ∧
  ∀ t H', (∀ b o, H b = some o → H' b = some o) → H t = none → H' t = some (.tup [.str "raised", .int (j : Nat)]) → Q (.ref t) H'
theorem spWhich_len {cs : List Addr} : ∀ p vs H Q E, spWhich cs p vs H Q E → vs.length = ["_law_e"].length := fun p vs H Q E h => by
  rw [h.1]
  rfl
def tSuite (cs : List Addr) (i : Nat) : Addr → Value → Option Addr → TS := fun a cls d D σ H => ∃ (C : Addr) (j : Nat), cls = .ref C ∧ d = none ∧ cs[j]? = some C ∧ σ[i]? = some (some (.ref a)) ∧
  ∀ t H', (∀ b o, H b = some o → H' b = some o) → H t = none → H' t = some (.tup [.str "raised", .int (j : Nat)]) → D.rt (.ref t) H'
theorem xn_get {x : Str} {j : Nat} (h : xn.idxOf? x = some j) : xn[j]? = some x := by
  rw [List.idxOf?, List.findIdx?_eq_some_iff_getElem] at h
  obtain ⟨h1, h2, _⟩ := h
  rw [List.getElem?_eq_getElem h1]
  exact congrArg some (beq_iff_eq.mp h2)
section
variable {X : Cx} {c : Cc} {Wout : WX} {n : Str} {i k : Nat} {body : List Stmt} {np pos pos' q1 q2 q3 q4 : Pos} {f : FS} {P a : Addr} {cs : List Addr} {fd : FuncData}
end
end DL
namespace DL
open PySem PySem.Spec L2
variable [Wd]
theorem bo_isinstance : bootBuiltins "isinstance" = some (.builtin "isinstance") := by decide +kernel
theorem bo_ValueError : bootBuiltins "ValueError" = some (.type "ValueError") := by decide +kernel
section
variable {K : PySem.W.Frag} {a C D1 D2 D3 : Addr} {b b1 b2 b3 : Bool} {σ : St} {H : Hp}
abbrev tI (K : PySem.W.Frag) (C a : Addr) (v : V) : TE := tCB (rIsE K C a) (tCons (tVar 0) (tCons (tC v) tNil))
theorem rd_is {Q : VK} {v : V} {u : Value} (h0 : σ[0]? = some (some (.ref a))) (hv : ∀ w, RelV v w → w = u) (hk : PySem.W.kitOne K (.ref C) u = some b) (q : Q (.bl b) H) : tI K C a v σ H Q :=
  ⟨_, h0, _, u, b, rfl, hv, hk, q⟩
theorem rel_me {D : Addr} : RelV (.ref D) (.ref D) := rfl
theorem rel_ref {D : Addr} : ∀ w, RelV (.ref D) w → w = .ref D := fun w h => h
theorem rd_list3 {Q : VK} (h0 : σ[0]? = some (some (.ref a))) (k1 : PySem.W.kitOne K (.ref C) (.ref D1) = some b1) (k2 : PySem.W.kitOne K (.ref C) (.ref D2) = some b2) (k3 : PySem.W.kitOne K (.ref C) (.ref D3) = some b3)
    (q : ∀ p, H p = none → Q (.ref p) (upd H p (.lst ([b1, b2, b3].map V.bl)))) : tLst (tCons (tI K C a (.ref D1)) (tCons (tI K C a (.ref D2)) (tCons (tI K C a (.ref D3)) tNil))) σ H Q :=
  rd_is h0 rel_ref k1 (rd_is h0 rel_ref k2 (rd_is h0 rel_ref k3 ⟨by show (3 : Nat) ≤ sizeLine; decide, q⟩))
theorem rd_ext3 {Q : VK} {l : Addr} {bs : List Bool} (h0 : σ[0]? = some (some (.ref a))) (h1 : σ[1]? = some (some (.ref l))) (hl : H l = some (.lst (bs.map V.bl))) (hb : bs.length ≤ 100) (k1 : PySem.W.kitOne K (.ref C) (.ref D1) = some b1) (k2 : PySem.W.kitOne K (.ref C) (.ref D2) = some b2) (k3 : PySem.W.kitOne K (.ref C) (.ref D3) = some b3)
    (q : ∀ H', (∀ b o, b ≠ l → H b = some o → H' b = some o) → H' l = some (.lst ((bs ++ [b1, b2, b3]).map V.bl)) → Q .non H') :
    tBM K "list" rExtend (tVar 1) (tCons (tLst (tCons (tI K C a (.ref D1)) (tCons (tI K C a (.ref D2)) (tCons (tI K C a (.ref D3)) tNil)))) tNil) σ H Q := by
  refine ⟨V.ref l, h1, Or.inl ⟨rfl, _, SqL.of hl⟩, rd_list3 h0 k1 k2 k3 fun p np => ?_⟩
  have ne : l ≠ p := ne_of_none hl np
  refine ⟨l, p, _, _, rfl, rfl, by rw [upd_ne ne]; exact hl, upd_same, ?_, ?_⟩
  · rw [List.length_map, List.length_map]
    refine Nat.le_trans (show bs.length + 3 ≤ 103 from Nat.add_le_add_right hb 3) (line6 (by decide))
  · rw [← List.map_append]
    refine q _ (fun b o nb e => ?_) upd_same
    rw [upd_ne nb, upd_ne (ne_of_none e np)]
    exact e
theorem reps_bls {G : Addr → Prop} : ∀ bs : List Bool, Reps K G H (bs.map V.bl) (bs.map D.bl)
  | [] => .nil
  | b :: bs => .cons (.bl b) (reps_bls bs)
theorem plain_bls : ∀ bs : List Bool, PyData.plainAll (toPs (bs.map D.bl)) = true
  | [] => rfl
  | b :: bs => plain_bls bs
theorem rd_count {Q : VK} {l : Addr} {bs : List Bool} (h1 : σ[1]? = some (some (.ref l))) (hl : H l = some (.lst (bs.map V.bl))) (q : Q (.int (bs.countP id : Nat)) H) :
    tBM K "list" (rCountD K) (tVar 1) (tCons (tC (.bl true)) tNil) σ H Q := by
  refine ⟨V.ref l, h1, Or.inl ⟨rfl, _, SqL.of hl⟩, l, bs.map V.bl, .bl true, .bool true, toPs (bs.map D.bl), rfl, rfl, .of hl, Reps.dp (G := fun _ => True) (reps_bls bs) (plain_bls bs), .bl true, plain_bls bs, rfl, by decide, ?_⟩
  have e : (toPs (bs.map D.bl)).countP (fun z => PyData.eqv z (.bool true)) = bs.countP id := by
    rw [toPs_map, List.map_map, List.countP_map]
    refine List.countP_congr fun b _ => ?_
    cases b <;> decide
  rw [e]
  exact q
theorem rd_index {Q : VK} {l : Addr} {bs : List Bool} {j : Nat} (h1 : σ[1]? = some (some (.ref l))) (hl : H l = some (.lst (bs.map V.bl))) (hs : SeqAt.shaped (.list (toPs (bs.map D.bl))) = true) (hj : bs[j]? = some true) (hm : ∀ m, m < j → bs[m]? = some true → False) (q : Q (.int (j : Nat)) H) :
    tBM K "list" (rIndexD K) (tVar 1) (tCons (tC (.bl true)) tNil) σ H Q := by
  refine ⟨V.ref l, h1, Or.inl ⟨rfl, _, SqL.of hl⟩, l, .bl true, .bool true, toPs (bs.map D.bl), j, .bool true, rfl, rfl, .lst (.of hl) (Reps.dp (G := fun _ => True) (reps_bls bs) (plain_bls bs)), .bl true, hs, by decide, ?_, by decide, fun m z' hm' hz => ?_, q⟩
  · rw [toPs_map, List.map_map, List.getElem?_map, hj]
    rfl
  · rw [toPs_map, List.map_map, List.getElem?_map] at hz
    obtain ⟨b, e1, rfl⟩ := Option.map_eq_some_iff.mp hz
    cases b with
    | true => exact (hm m hm' e1).elim
    | false => decide
end
def wbs (j : Nat) : List Bool := [decide (j = 0), decide (j = 1), decide (j = 2), decide (j = 3), decide (j = 4), decide (j = 5), decide (j = 6), decide (j = 7), decide (j = 8), decide (j = 9), decide (j = 10), decide (j = 11)]
theorem wbs_ok {j : Nat} (h : j < 12) : (wbs j).countP id = 1 ∧ SeqAt.shaped (.list (toPs ((wbs j).map D.bl))) = true ∧ (wbs j)[j]? = some true ∧ ∀ m, m < j → (wbs j)[m]? = some true → False := by
  have : ∀ j : Fin 12, (wbs j.1).countP id = 1 ∧ SeqAt.shaped (.list (toPs ((wbs j.1).map D.bl))) = true ∧ (wbs j.1)[j.1]? = some true ∧ ∀ m : Fin 12, m.1 < j.1 → (wbs j.1)[m.1]? = some true → False := by decide +kernel
  obtain ⟨h1, h2, h3, h4⟩ := this ⟨j, h⟩
  exact ⟨h1, h2, h3, fun m hm e => h4 ⟨m, Nat.lt_trans hm h⟩ hm e⟩
section
variable {K : PySem.W.Frag} {a C c0 c1 c2 c3 c4 c5 c6 c7 c8 c9 c10 c11 : Addr} {j : Nat} {H : Hp}
theorem rd_asg {te : TE} {r : TS} {D : Ends} {σ : L2.St} {i : Nat} (h : te σ H fun x H1 => r D (σ.set i (some x)) H1) : tSeq (tAsg te (gName i)) r D σ H := h
theorem rd_drop {te : TE} {r : TS} {D : Ends} {σ : L2.St} (h : te σ H fun _ H1 => r D σ H1) : tSeq (tDrop te) r D σ H := h
theorem rd_if2 {tc : TE} {t2 : TT} {u r : TS} {D : Ends} {σ : L2.St} (h : tc σ H fun x H1 => scal x (.int 1) = true ∧ ∃ k, V.bl (!decide (x = .int 1)) = .bl k ∧ (if k = true then (if true = true then u { D with nx := r D } σ H1 else r D σ H1) else t2 σ H1 fun c H2 => if (!c) = true then u { D with nx := r D } σ H2 else r D σ H2)) :
    tSeq (tIfS (tOr (tTest (tOp rNe tc (tC (V.int 1)))) (tNot t2)) u tNext) r D σ H := h
theorem rd_ret2 {ti : TE} {D : Ends} {σ : L2.St} {x : Str} (h : ti σ H fun y H1 => (2 : Nat) ≤ sizeLine ∧ ∀ p, H1 p = none → D.rt (.ref p) (upd H1 p (.tup [.str x, y]))) : tRet (tTup (tCons (tC (V.str x)) (tCons ti tNil))) D σ H := h
theorem which_reading {D : Ends} {u : TS} (hlen : j < 12)
    (k0 : PySem.W.kitOne K (.ref C) (.ref c0) = some (decide (j = 0))) (k1 : PySem.W.kitOne K (.ref C) (.ref c1) = some (decide (j = 1))) (k2 : PySem.W.kitOne K (.ref C) (.ref c2) = some (decide (j = 2)))
    (k3 : PySem.W.kitOne K (.ref C) (.ref c3) = some (decide (j = 3))) (k4 : PySem.W.kitOne K (.ref C) (.ref c4) = some (decide (j = 4))) (k5 : PySem.W.kitOne K (.ref C) (.ref c5) = some (decide (j = 5)))
    (k6 : PySem.W.kitOne K (.ref C) (.ref c6) = some (decide (j = 6))) (k7 : PySem.W.kitOne K (.ref C) (.ref c7) = some (decide (j = 7))) (k8 : PySem.W.kitOne K (.ref C) (.ref c8) = some (decide (j = 8)))
    (k9 : PySem.W.kitOne K (.ref C) (.ref c9) = some (decide (j = 9))) (k10 : PySem.W.kitOne K (.ref C) (.ref c10) = some (decide (j = 10))) (k11 : PySem.W.kitOne K (.ref C) (.ref c11) = some (decide (j = 11)))
    (kV : PySem.W.kitOne K (.ref C) (.type "ValueError") = some true)
    (q : ∀ t H', (∀ b o, H b = some o → H' b = some o) → H t = none → H' t = some (.tup [.str "raised", .int (j : Nat)]) → D.rt (.ref t) H') :
    tSeq (tAsg (tLst (tCons (tI K C a (.ref c0)) (tCons (tI K C a (.ref c1)) (tCons (tI K C a (.ref c2)) tNil)))) (gName 1))
      (tSeq (tDrop (tBM K "list" rExtend (tVar 1) (tCons (tLst (tCons (tI K C a (.ref c3)) (tCons (tI K C a (.ref c4)) (tCons (tI K C a (.ref c5)) tNil)))) tNil)))
      (tSeq (tDrop (tBM K "list" rExtend (tVar 1) (tCons (tLst (tCons (tI K C a (.ref c6)) (tCons (tI K C a (.ref c7)) (tCons (tI K C a (.ref c8)) tNil)))) tNil)))
      (tSeq (tDrop (tBM K "list" rExtend (tVar 1) (tCons (tLst (tCons (tI K C a (.ref c9)) (tCons (tI K C a (.ref c10)) (tCons (tI K C a (.ref c11)) tNil)))) tNil)))
      (tSeq (tIfS (tOr (tTest (tOp rNe (tBM K "list" (rCountD K) (tVar 1) (tCons (tC (V.bl true)) tNil)) (tC (V.int 1)))) (tNot (tB (tI K C a (V.ty "ValueError"))))) u tNext)
        (tRet (tTup (tCons (tC (V.str "raised")) (tCons (tBM K "list" (rIndexD K) (tVar 1) (tCons (tC (V.bl true)) tNil)) tNil))))))))
      D (L2.start ["_law_e", "_law_own"] [V.ref a]) H := by
  refine rd_asg (rd_list3 (σ := [some (.ref a), none]) (H := H) (a := a) rfl k0 k1 k2 fun l nl => ?_)
  refine rd_drop (rd_ext3 (σ := [some (.ref a), some (.ref l)]) (a := a) (l := l) (bs := [decide (j = 0), decide (j = 1), decide (j = 2)]) rfl rfl upd_same (by show (3 : Nat) ≤ 100; decide) k3 k4 k5 fun H1 kp1 e1 => ?_)
  refine rd_drop (rd_ext3 (σ := [some (.ref a), some (.ref l)]) (a := a) (l := l) rfl rfl e1 (by show (6 : Nat) ≤ 100; decide) k6 k7 k8 fun H2 kp2 e2 => ?_)
  refine rd_drop (rd_ext3 (σ := [some (.ref a), some (.ref l)]) (a := a) (l := l) rfl rfl e2 (by show (9 : Nat) ≤ 100; decide) k9 k10 k11 fun H3 kp3 e3 => ?_)
  obtain ⟨w1, w2, w3, w4⟩ := wbs_ok hlen
  have kp : ∀ b o, H b = some o → H3 b = some o := fun b o e => by
    have nb : b ≠ l := ne_of_none e nl
    exact kp3 b o nb (kp2 b o nb (kp1 b o nb (by rw [upd_ne nb]; exact e)))
  have cnt : ∀ Q : VK, Q (.int 1) H3 → tBM K "list" (rCountD K) (tVar 1) (tCons (tC (V.bl true)) tNil) [some (.ref a), some (.ref l)] H3 Q := fun Q h =>
    rd_count (σ := [some (.ref a), some (.ref l)]) (l := l) (bs := wbs j) rfl e3 (by rw [w1]; exact h)
  refine rd_if2 (cnt _ ⟨rfl, _, rfl, ?_⟩)
  show if false = true then _ else _
  rw [if_neg Bool.false_ne_true]
  refine rd_is (σ := [some (.ref a), some (.ref l)]) (a := a) (b := true) rfl (fun w h => h) kV ?_
  refine ⟨true, rfl, ?_⟩
  show if false = true then _ else _
  rw [if_neg Bool.false_ne_true]
  refine rd_ret2 ?_
  refine rd_index (σ := [some (.ref a), some (.ref l)]) (l := l) (bs := wbs j) (j := j) rfl e3 w2 w3 w4 ?_
  refine ⟨by show (2 : Nat) ≤ sizeLine; decide, fun t nt => ?_⟩
  refine q t _ (fun b o e => ?_) ?_ upd_same
  · rw [upd_ne (ne_of_none (kp b o e) nt)]; exact kp b o e
  · cases e : H t with
    | none => rfl
    | some o => rw [kp t o e] at nt; cases nt
end
end DL
namespace DL
open PySem PySem.Spec L2
variable [Wd]
section
variable {X : Cx} {c : Cc} {W : WX} {j : Nat} {st : Stmt} {rest a b : List Stmt} {f g : FS} {fa : FE} {ft : FT} {e : Expr} {pos : Pos}
end
section
variable {X : Cx} {c : Cc} {W : WX} {j : Nat} {pos p : Pos} {iter tg : Expr} {body : List Stmt} {fi : FI} {g : FG} {f : FS}
end
end DL
namespace DL
open PySem PySem.Spec L2
variable [Wd]
def strT (t : T) (k : Str → R T) : R T := match t with
  | .im (.str a) => k a
  | _ => .er
@[simp] theorem strT_s (a : Str) (k : Str → R T) : strT (.im (.str a)) k = k a := rfl
section
variable {X : Cx} {c : Cc} {W : WX} {pos : Pos} {fa fb : FE} {r : V → List V → Hp → VK → Prop}
end
def strsOf : List D → Option (List Str)
  | [] => some []
  | .str i :: ds => (strsOf ds).map (i :: ·)
  | _ => none
@[simp] theorem strsOf_map : ∀ ns : List Str, strsOf (ns.map D.str) = some ns
  | [] => rfl
  | n :: ns => by rw [List.map_cons]; unfold strsOf; rw [strsOf_map ns]; rfl
section
variable {X : Cx} {c : Cc} {W : WX} {pos apos : Pos} {o e : Expr} {fa fb : FE}
end
end DL
namespace DL
open PySem PySem.Spec L2 TL
end DL
namespace DL
open PySem PySem.Spec L2 PyProof.Rows
variable [Wd]
theorem upd_keep {H : Hp} {p : Addr} {o : HO} (hp : H p = none) : ∀ b q, H b = some q → upd H p o b = some q := fun b q e => by
  unfold upd
  by_cases z : b = p
  · subst z; rw [hp] at e; cases e
  · simp [z, e]
theorem upd_at {H : Hp} {p : Addr} {o : HO} : upd H p o p = some o := by simp [upd]
inductive FnsD (X : Cx) : List Expr → List V → List FD → Prop
  | nil : FnsD X [] [] []
  | cons {k : Nat} {f : Addr} {fd : FuncData} {ps : List Str} {x : Str} {p : Pos} {g : FD} {es : List Expr} {vs : List V} {gs : List FD} (F : FnOk X.prog X.w X.K X.mg X.base (L2.CX X.prog X.w) k f fd ps (spD X.K X.mg g)) (hr : Room k X.A) (hg : Gl X x) (hm : X.mg x = some (.ref f)) (hk : PySem.W.keepIn X.K (.ref f) = true) (hb : Binds X.K fd ps []) (r : FnsD X es vs gs)
    (hd : (x == ("__debug__" : Str)) = false := by decide) (hs : starEach (.Name x p :: es) X.env = (false, eval (.Name x p) X.env) :: starEach es X.env := by rfl) : FnsD X (.Name x p :: es) (.ref f :: vs) (g :: gs)
section
variable {X : Cx} {c : Cc} {W : WX} {pos p tp sp : Pos} {e b : Expr} {es ar : List Expr} {vs : List V} {gs : List FD} {fi : FE} {fa : FA} {x1 : Nat}
theorem FnsD.len : ∀ {es vs gs}, FnsD X es vs gs → vs.length = gs.length
  | _, _, _, .nil => rfl
  | _, _, _, .cons _ _ _ _ _ _ r _ _ => by simp [r.len]
def FnAt (X : Cx) (f : Addr) (g : FD) : Prop := ∃ (k : Nat) (fd : FuncData) (ps : List Str), FnOk X.prog X.w X.K X.mg X.base (L2.CX X.prog X.w) k f fd ps (spD X.K X.mg g) ∧ Room k X.A ∧ PySem.W.keepIn X.K (.ref f) = true ∧ Binds X.K fd ps []
theorem FnsD.get : ∀ {es vs gs}, FnsD X es vs gs → ∀ {n : Nat} {g : FD}, gs[n]? = some g → ∃ f, vs[n]? = some (.ref f) ∧ FnAt X f g
  | _, _, _, .nil, n, g, h => by simp at h
  | _, _, _, .cons F hr hg hm hk hb r hd hs, 0, g, h => by
    cases h
    exact ⟨_, rfl, _, _, _, F, hr, hk, hb⟩
  | _, _, _, .cons F hr hg hm hk hb r hd hs, n + 1, g, h => r.get (n := n) h
end
section
variable {X : Cx} {CX : CXT} {c : Cc} {W : WX} {pos p : Pos} {x : Str} {e : Expr} {es : List Expr} {fa : FA} {g : FD} {k : Nat} {f C : Addr} {fd : FuncData} {ps : List Str} {sp : Sp} {E : L2.St → XK} {t : TA}
theorem run_makeS {pins : List (Addr × Obj)} {σ : L2.St} {H : Hp} {s : Shared} {Q : VK} {us : List Value} {vs : List V} (M : Mk X.K C f) (F : FnOk X.prog X.w X.K X.mg X.base CX k f fd ps sp) (hr : Room (k + 1) X.A) (hb : Binds X.K fd ps [])
    (hx : PassesAt CX X σ (E σ)) (I : L2.Inv X pins σ H s) (r : Vals vs us)
    (h : ∀ x dx, H x = none → H dx = none → dx ≠ x → sp (.ref x :: vs) (upd (upd H dx (.own x)) x (.ins C dx [])) (fun v H2 => v = .non ∧ Q (.ref x) H2) (E σ)) :
    wpAny (model X.prog X.w) X.A (call (.ref C) us) (EP X pins σ Q) X.xe s := by
  have hq := h (s.heap.objs.size + 1) s.heap.objs.size (I.hok.fresh (Nat.le_succ _)) (I.hok.fresh (Nat.le_refl _)) (Nat.ne_of_lt (Nat.lt_succ_self _))
  have I2 := Inv.made (C := C) I
  have r2 : Vals (V.ref (s.heap.objs.size + 1) :: vs) (Value.ref (s.heap.objs.size + 1) :: us) := .cons rfl r
  have hl : (Value.ref (s.heap.objs.size + 1) :: us).length = ps.length := by
    have e := r2.length
    rw [F.len _ _ _ _ hq] at e
    exact e.symm
  have b := hb _ (Value.ref (s.heap.objs.size + 1) :: us) I2.kIn (by rw [List.append_nil]; exact hl)
  rw [List.append_nil] at b
  refine wpAny_call (make_map (f := f) I.kIn M.makes M.init (beq_iff_eq.mp M.fn) (codeAny_mono (F.run _ X.stack _ _ ⟨Value.ref (s.heap.objs.size + 1) :: us, []⟩ (Value.ref (s.heap.objs.size + 1) :: us) _ _ (E σ) (hr.make C us [])
    (I2.env0.make C us []) b r2 hq) fun r s' hq' => ?_))
  cases r with
  | error e => exact hx pins _ _ e s' I2 hq'
  | ok fl =>
    cases fl with
    | ret u =>
      obtain ⟨v, H', I3, rv, ev, q3⟩ := I2.after hq'
      subst ev
      exact ⟨rv, ⟨V.ref (s.heap.objs.size + 1), H', I3, rfl, q3⟩⟩
    | next => exact False.elim hq'
    | brk => exact False.elim hq'
    | cont => exact False.elim hq'
def tMakeS (C : Addr) (sp : Sp) (E : L2.St → XK) (t : TA) : TE := fun σ H Q => t σ H fun vs H1 => ∀ x dx, H1 x = none → H1 dx = none → dx ≠ x →
  sp (V.ref x :: vs) (upd (upd H1 dx (.own x)) x (.ins C dx [])) (fun v H2 => v = .non ∧ Q (.ref x) H2) (E σ)
theorem pe_makeS (M : Mk X.K C f) (F : FnOk X.prog X.w X.K X.mg X.base CX k f fd ps sp) (hr : Room (k + 1) X.A) (hg : Gl X x) (hm : X.mg x = some (.ref C)) (hb : Binds X.K fd ps []) (hx : ∀ σ, PassesAt CX X σ (E σ))
    (ha : PA X (e :: es) t) (hdb : (x == ("__debug__" : Str)) = false := by decide) (he : starEach (e :: es) X.env = (false, eval e X.env) :: starEach es X.env := by rfl) (hpl : (backTo pos (starEach es X.env)).any (·.1) = false := by rfl) :
    PE X (.Call (.Name x p) (e :: es) [] pos) (tMakeS C sp E t) := by
  refine ⟨fun pins s σ H Q I h => ?_⟩
  refine wpAny_Call_Name_kw (ld_glob I hg hm ?_ hdb)
  refine PySem.W.callWith_K (h₀ := X.base) I.ok.mod.kin M.kp (thn (ha.run pos pins s σ H _ I h) fun us s1 ⟨vs, H1, I1, r, q⟩ => ⟨I1.kIn, ?_⟩) he hpl
  exact run_makeS M F hr hb (hx σ) I1 r q
end
structure CdM (K : PySem.W.Frag) (mg : Str → Option Value) (x m q : Str) (st : Stmt) (ps : List Str) (C f : Addr) (fd : FuncData) : Prop where
  F : L2.Fun K m q st f fd
  g : mg x = some (.ref C)
  b : Binds K fd ps []
  made : Mk K C f
end DL
namespace DL
open PySem PySem.Spec L2 PyProof.Rows CwR
variable [Wd]
section
variable {X : Cx} {c : Cc} {W : WX} {pos apos p c0 c1 : Pos} {o e f : Expr} {es : List Expr} {fa fb fe : FE} {fs fr : FA} {te : TE} {t t' : TA} {x : Str} {j k : Nat} {y z : Str}
end
end DL
namespace DL
open PySem PySem.Spec L2 PyProof.Rows CwR
variable [Wd]
section
variable {X : Cx} {c : Cc} {W : WX} {pos apos p : Pos} {o e f : Expr} {es : List Expr} {st : Stmt} {rest : List Stmt} {fa fb fe fo : FE} {fs fr fas : FA} {te to : TE} {t ta : TA} {ts us : TS} {g h : FS}
end
end DL
namespace DL
open PySem PySem.Spec L2 PyProof.Rows
variable [Wd]
abbrev Ke := List (List Int × Addr × V)
abbrev KeV := List (List Int × Addr × Value)
abbrev Sames : Ke → KeV → Prop := Paired fun x y => x.1 = y.1 ∧ x.2.1 = y.2.1 ∧ RelV x.2.2 y.2.2
abbrev kdT (P : Program) (w : World) : HeapKind P w (List Int) := tupleKind (intKind P w)
theorem Sames.keys : ∀ {kvs : Ke} {ys : KeV}, Sames kvs ys → kvs.map (·.1) = ys.map (·.1)
  | _, _, .nil => rfl
  | _, _, .cons r t => by rw [List.map_cons, List.map_cons, r.1, Sames.keys t]
theorem Sames.mem : ∀ {kvs : Ke} {ys : KeV}, Sames kvs ys → ∀ y ∈ ys, ∃ x ∈ kvs, x.1 = y.1 ∧ x.2.1 = y.2.1
  | _, _, .nil, y, h => by cases h
  | _, _, .cons (a := a) (b := b) q t, y, h => by
    rcases List.mem_cons.mp h with rfl | h
    · exact ⟨a, List.mem_cons_self, q.1, q.2.1⟩
    · obtain ⟨x, hx, e⟩ := Sames.mem t y h
      exact ⟨x, List.mem_cons_of_mem _ hx, e⟩
theorem Sames.get {kvs : Ke} {ys : KeV} (h : Sames kvs ys) {i : Nat} {k : List Int} {b : Addr} {v : V} (e : kvs[i]? = some (k, b, v)) : ∃ u, ys[i]? = some (k, b, u) ∧ RelV v u := by
  obtain ⟨⟨k', b', u⟩, e1, e2, e3, e4⟩ := paired_get h e
  cases e2
  cases e3
  exact ⟨u, e1, e4⟩
def dcM (a : Addr) (kvs : Ke) : HO := .ext fun h => ∃ o, h.get? a = some o ∧ DcObj a o kvs
section
variable {X : Cx} {pins : List (Addr × Obj)} {σ : L2.St} {H : Hp} {s : Shared} {a : Addr} {o : Obj} {kvs : Ke}
abbrev KeyT (K : PySem.W.Frag) (H : Hp) (kvs : Ke) : Prop := ∀ x ∈ kvs, SqT K H x.2.1 (x.1.map V.int)
theorem DcObj.dict (I : Inv X pins σ H s) (d : DcObj a o kvs) (e : s.heap.get? a = some o) (hq : KeyT X.K H kvs) : ∃ ys, Sames kvs ys ∧ s.heap.DictOfH (kdT X.prog X.w) a ys ∧ ys.length ≤ sizeLine := by
  obtain ⟨es, ep, ys, hd, hs, he⟩ := d.dat
  have hs : Sames kvs ys := hs
  refine ⟨ys, hs, ⟨o, es, ep, e, d.ex, hd, he, fun y hy => ?_, by rw [← hs.keys]; exact d.nd⟩, by rw [← Paired.length hs]; exact d.len⟩
  obtain ⟨x, hx, e1, e2⟩ := hs.mem y hy
  rw [← e1, ← e2]
  exact I.isT (hq x hx)
theorem DcObj.of {P : Program} {w : World} {h : Heap} {ys : KeV} (hm : h.DictOfH (kdT P w) a ys) (hs : Sames kvs ys) (sm : (a == sysModules) = false) (hl : kvs.length ≤ sizeLine) : ∃ o, h.get? a = some o ∧ DcObj a o kvs := by
  obtain ⟨o, es, ep, e, ex, hd, he, _, nd⟩ := hm
  exact ⟨o, e, sm, hl, ex, by rw [hs.keys]; exact nd, es, ep, ys, hd, hs, he⟩
end
end DL
namespace DL
open PySem PySem.Spec L2 PyProof.Rows
variable [Wd]
section
variable {X : Cx} {pos : Pos} {kx vx a b e : Expr} {tk tv ta tb te : TE}
end
section
variable {P : Program} {w : World} {K : PySem.W.Frag} {d : Addr} {o : Obj} {kvs : Ke}
end
section
variable {X : Cx} {e : Expr} {te : TE} {apos cpos pos : Pos}
end
end DL
namespace DL
open PySem PySem.Spec L2 PyProof.Rows
variable [Wd]
section
variable {Y : Cx} {pins : List (Addr × Obj)} {σ : L2.St} {fp : List Addr} {tn : Nat → Heap → Prop} {W : Nat → Nat → Hp → Prop} {J : It} {Sp : (Hp → Prop) → V → Hp → Prop} {Fin : Hp → Prop} {tg : Expr} {it : Addr} {n : Nat} {s : Shared}
end
section
variable {X : Cx} {tg iter kx vx : Expr} {ifs : List Expr} {rest : List Comprehension} {scope : Scope} {own : List (Str × Nat)} {pos pos' : Pos} {wi : TI}
end
end DL
namespace DL
open PySem PySem.Spec L2 PyProof.Rows
variable [Wd]
section
variable {X : Cx} {tg iter kx vx tg1 iter1 : Expr} {ifs ifs1 : List Expr} {scope : Scope} {own : List (Str × Nat)} {vs1 : List Nat} {pos pos' spos : Pos} {wi wi1 : TI} {g g1 : TG} {tt tt1 : TT} {tk tv : TE}
abbrev InB (X : Cx) (scope : Scope) (p : Cx → Prop) : Prop := ∀ (s : Shared) (H : Hp) (C : Addr) (cl : List (Str × Addr)) (fp : List Addr), p (X.blk s H scope (compEnvC scope cl C X.env) fp)
section
variable {prog : Program} {w : World} {A : Around} {R : Result → Shared → Prop} {s : Shared} {t0 i0 t1 i1 : Expr} {ifs0 : List Expr} {it : Value} {D : Addr} {env : Env}
end
end
end DL
namespace DL
open PySem PySem.Spec L2 PyProof.Rows
variable [Wd]
section
variable {X : Cx} {tg iter kx vx tg1 iter1 : Expr} {ifs ifs1 : List Expr} {scope : Scope} {own : List (Str × Nat)} {vs1 : List Nat} {pos pos' spos : Pos} {wi wi1 : TI} {g g1 : TG} {tt tt1 : TT} {tk tv : TE}
section
variable (hc : X.calm = true) (hu : X.A.units < cLine) (hN : X.N.Nodup) (hi : PI X tg iter wi) (ok : BlkOk X.N X.env.scope scope own) (hg : InB X scope fun Y => PG Y tg g) (ht : InB X scope fun Y => PTs Y ifs tt)
include hc hu hN hi ok hg ht
variable {i : Nat} {y : Str} {py : Pos} (hy : X.N[i]? = some y) (hyl : X.env.scope.names.lookup y = some .local)
include hy hyl
end
end
end DL
namespace DL
open PySem PySem.Spec L2
variable [Wd]
section
variable {c : Cc} {L Z : Addr → Prop} {σ σ' : L2.St} {H H' : Hp} {env env' : En}
abbrev ZOk (L : Addr → Prop) (H : Hp) (Z : Addr → Prop) : Prop := ∀ b, Z b → L b ∨ ∃ φ, H b = some (.ext φ)
theorem RE.zn (re : RE c L σ H env) (hz : ZOk L H Z) {b : Addr} (h : Z b) : ¬ ownM σ env b := by
  intro ow
  rcases hz b h with l | ⟨φ, e⟩
  · exact (re.ext b l).1 ow
  · obtain ⟨i, io, ds, e1, e2⟩ := ow
    obtain ⟨a, xs, e3, e4, _⟩ := re.own i io ds e1
    rw [e2] at e3
    cases e3
    rw [e] at e4
    cases e4
theorem ZOk.step (hz : ZOk L H Z) (re : RE c L σ H env) (s : Stp σ env H σ env' H') : ZOk L H' Z := fun b zb => by
  rcases hz b zb with l | ⟨φ, e⟩
  · exact .inl l
  · refine .inr ⟨φ, ?_⟩
    rw [(s b (Nn.not e (re.zn hz zb))).1, e]
end
section
variable {X : Cx} {c : Cc} {W : WX} {e tg : Expr} {fa : FE} {fas : FA} {p pos : Pos}
end
end DL
namespace DL
open PySem PySem.Spec L2
variable [Wd]
section
variable {X : Cx} {c : Cc} {W : WX} {α : Type} {L : Addr → Prop} {AR : α → L2.St → En → Hp → Prop} {SB : Sp0} {ft : FT} {t : CT} {vs : List Nat} {body : α → En → R α} {k : Wk} {J : It} {σw : L2.St}
end
end DL
namespace DL
open PySem PySem.Spec L2
variable [Wd]
def dcOf (m : List (List Int × D)) : D := .dct (m.map fun p => .tup (p.1.map .int)) (m.map (·.2))
section
variable {c : Cc} {W : WX} {L : Addr → Prop} {σ : L2.St} {H : Hp} {env : En} {Dd : Addr}
theorem RE.noX {φ : Heap → Prop} (h : RE c L σ H env) (e : H Dd = some (.ext φ)) : ¬ Nn σ env H Dd := Nn.not e fun ⟨i, io, ds, e1, e2⟩ => by
  obtain ⟨a, xs, e3, e4, _⟩ := h.own i io ds e1
  rw [e2] at e3
  cases e3
  rw [e] at e4
  cases e4
def ARd (c : Cc) (L : Addr → Prop) (Dd : Addr) (m : List (List Int × D)) (σ : L2.St) (env : En) (H : Hp) : Prop := ∃ kvs : Ke, H Dd = some (dcM Dd kvs) ∧ KeyT c.K H kvs ∧ kvs.map (·.1) = m.map (·.1) ∧ Reps c.K (Av L σ env) H (kvs.map (·.2.2)) (m.map (·.2))
def ARl (c : Cc) (L : Addr → Prop) (Dd : Addr) (acc : List D) (σ : L2.St) (env : En) (H : Hp) : Prop := ∃ xs, H Dd = some (.lst xs) ∧ Reps c.K (Av L σ env) H xs acc
theorem ARd.stab (m : List (List Int × D)) (σ : L2.St) (env : En) (H : Hp) (σ' : L2.St) (env' : En) (H' : Hp) (r : RE c L σ H env) (s : Stp σ env H σ' env' H') (h : ARd c L Dd m σ env H) : ARd c L Dd m σ' env' H' := by
  obtain ⟨kvs, e, hq, hk, rs⟩ := h
  refine ⟨kvs, ?_, fun x hx => (r.tk s).sqt (hq x hx), hk, r.reps s rs⟩
  rw [(s Dd (r.noX e)).1, e]
theorem ARl.stab (l : L Dd) (acc : List D) (σ : L2.St) (env : En) (H : Hp) (σ' : L2.St) (env' : En) (H' : Hp) (r : RE c L σ H env) (s : Stp σ env H σ' env' H') (h : ARl c L Dd acc σ env H) : ARl c L Dd acc σ' env' H' := by
  obtain ⟨xs, e, rs⟩ := h
  refine ⟨xs, ?_, r.reps s rs⟩
  rw [(s Dd (Nn.not e (r.ext Dd l).1)).1, e]
variable {SB' : Sp0} {fe fk fv : FE}
end
end DL
namespace DL
open PySem PySem.Spec L2
variable [Wd]
section
variable {X : Cx} {c : Cc} {W : WX} {fi fi1 : FI} {vs vs1 : List Nat} {t t1 : CT} {ft ft1 : FT} {fe fk fv fa fb : FE}
end
end DL
namespace DL
open PySem PySem.Spec L2
variable [Wd]
section
variable {X : Cx} {c : Cc} {W : WX} {fi fi1 : FI} {vs vs1 : List Nat} {t t1 : CT} {ft ft1 : FT} {fe fk fv fa fb : FE} {pos spos apos cpos p : Pos} {elt kx vx iter iter1 tg tg1 a b e : Expr} {ifs ifs1 : List Expr} {scope : Scope} {own : List (Str × Nat)}
def eDisp1 (fk fv : FE) : FE := fun env => (fk env).bind fun tk e1 => (fv e1).bind fun tv e2 => match tk, tv with
  | .im (.tup ds), .im y => match intsOf ds with
    | some ns => .ok (.im (dcOf [(ns, y)])) e2
    | none => .er
  | _, _ => .er
def getK : List D → List D → List Int → Option D
  | .tup ds :: ks, v :: vs, ns => if intsOf ds = some ns then some v else getK ks vs ns
  | _, _, _ => none
def dDIx : D → D → Option T
  | .dct ks vs, .tup ds => match intsOf ds with
    | some ns => (getK ks vs ns).map T.im
    | none => none
  | _, _ => none
def eDIx (fa fb : FE) : FE := fun env => (fa env).bind fun ta e1 => (fb e1).bind fun tb e2 => match ta with
  | .im d => match tb.val e2 with
    | some k => R.opt (dDIx d k) e2
    | none => .er
  | _ => .er
def pairsD (ks vs : List D) : List D := ks.zipWith (fun k v => .tup [k, v]) vs
def iDi (t : T) (env : En) : R Wk := match t with
  | .im (.dct ks vs) => .ok ⟨pairsD ks vs, none⟩ env
  | _ => .er
def fiDi (fa : FE) : FI := fun env => (fa env).bind iDi
def eDMax (fe : FE) : FE := fun env => (fe env).bind fun t e1 => match t with
  | .im (.dct _ vs) => match intsOf vs with
    | some (n :: ns) => .ok (.im (.int (ns.foldl max n))) e1
    | _ => .er
  | _ => .er
end
end DL
namespace DL
open PySem PySem.Spec L2
@[simp] theorem eDisp1_s (fk fv : FE) (env : En) : eDisp1 fk fv env = ((fk env).bind fun tk e1 => (fv e1).bind fun tv e2 => match tk, tv with
  | .im (.tup ds), .im y => match intsOf ds with
    | some ns => .ok (.im (dcOf [(ns, y)])) e2
    | none => .er
  | _, _ => .er) := rfl
@[simp] theorem eDIx_s (fa fb : FE) (env : En) : eDIx fa fb env = ((fa env).bind fun ta e1 => (fb e1).bind fun tb e2 => match ta with
  | .im d => match tb.val e2 with
    | some k => R.opt (dDIx d k) e2
    | none => .er
  | _ => .er) := rfl
@[simp] theorem fiDi_s (fa : FE) (env : En) : fiDi fa env = ((fa env).bind iDi) := rfl
@[simp] theorem iDi_s (ks vs : List D) (env : En) : iDi (.im (.dct ks vs)) env = .ok ⟨pairsD ks vs, none⟩ env := rfl
@[simp] theorem eDMax_s (fe : FE) (env : En) : eDMax fe env = ((fe env).bind fun t e1 => match t with
  | .im (.dct _ vs) => match intsOf vs with
    | some (n :: ns) => .ok (.im (.int (ns.foldl max n))) e1
    | _ => .er
  | _ => .er) := rfl
end DL
namespace DL
open PySem PySem.Spec L2
variable [Wd]
section
variable {X : Cx} {c : Cc} {W : WX} {e tg elt a b : Expr} {te : TE} {fe : FE} {fas : FA} {ft : FT} {t : CT} {pos p pc px spos rpos : Pos} {ifs : List Expr} {scope : Scope} {own : List (Str × Nat)} {x : Str} {i : Nat}
end
end DL
namespace DL
open PySem PySem.Spec L2
variable [Wd]
section
variable {X : Cx} {c : Cc} {pos : Pos} {es : List Expr} {gs : FGs}
def gTA (n : Nat) (gs : FGs) : FG := fun t env => match t with
  | .im (.lst ds) => if ds.length = n then gs (ds.map fun d => ⟨false, d⟩) env else .er
  | t => gT n gs t env
@[simp] theorem gTA_lst (n : Nat) (gs : FGs) (ds : List D) (env : En) : gTA n gs (.im (.lst ds)) env = if ds.length = n then gs (ds.map fun d => ⟨false, d⟩) env else .er := rfl
@[simp] theorem gTA_tup (n : Nat) (gs : FGs) (ds : List D) (env : En) : gTA n gs (.im (.tup ds)) env = gT n gs (.im (.tup ds)) env := rfl
end
end DL
namespace DL
open PySem PySem.Spec L2
variable [Wd]
section
open PySem.W PyProof.Rows PySem.SeqAt
variable {prog : Program} {w : World} {A : Around} {E : Value → Shared → Prop} {s : Shared}
section
variable {M : Model}
end
end
def relabelS (scope sc : Scope) : Scope :=
  { scope with names := scope.names.map fun (n, k) => if (k == .free && sc.kind == .function && sc.names.lookup n == some .cell) then (n, .cell) else (n, k) }
theorem relabel_is (scope : Scope) (env : Env) : relabel scope env = relabelS scope env.scope := rfl
end DL
namespace DL
open PySem PySem.Spec L2
variable [Wd]
section
variable {X : Cx} {c : Cc} {W : WX} {pos p kp np : Pos} {e : Expr} {fa : FA}
end
end DL
namespace DL
open PySem PySem.Spec L2
variable [Wd]
section
open PySem.W PyProof.Rows
def ItA (c : Bool) (h : Heap) (it l : Addr) (k : Nat) : Prop := if c = true then h.IsListIter it l k else h.IsTupleIter it l k
def SqA (c : Bool) (h : Heap) (l : Addr) (xs : Array Value) : Prop := if c = true then h.IsList l xs else h.IsTuple l xs
theorem ItA.ext {c : Bool} {h g : Heap} {it l x : Addr} {k : Nat} (i : ItA c h it l k) (e : Heap.ExtBut x h g) (n : it ≠ x) : ItA c g it l k := by
  cases c
  · exact Heap.IsTupleIter.extBut (show h.IsTupleIter it l k from i) e n
  · exact Heap.IsListIter.extBut (show h.IsListIter it l k from i) e n
theorem ItA.at {c : Bool} {h g : Heap} {it l : Addr} {k : Nat} (i : ItA c h it l k) (e : ∀ o, h.get? it = some o → g.get? it = some o) : ItA c g it l k := by
  cases c
  · exact Heap.IsTupleIter.at (show h.IsTupleIter it l k from i) e
  · exact Heap.IsListIter.at (show h.IsListIter it l k from i) e
theorem SqA.ext {c : Bool} {h g : Heap} {l x : Addr} {xs : Array Value} (i : SqA c h l xs) (e : Heap.ExtBut x h g) (n : l ≠ x) : SqA c g l xs := by
  cases c
  · exact Heap.IsTuple.extBut (show h.IsTuple l xs from i) e n
  · exact Heap.IsList.extBut (show h.IsList l xs from i) e n
theorem ItA.obj {c : Bool} {h : Heap} {it l : Addr} {k : Nat} (i : ItA c h it l k) : ∃ o, h.get? it = some o ∧ ∀ v, o.data ≠ .cell v := by
  cases c
  · obtain ⟨o, e, _, d⟩ := (show h.IsTupleIter it l k from i)
    exact ⟨o, e, fun v z => by rw [d] at z; cases z⟩
  · obtain ⟨o, e, _, d⟩ := (show h.IsListIter it l k from i)
    exact ⟨o, e, fun v z => by rw [d] at z; cases z⟩
section
variable {prog : Program} {w : World} {A : Around} {E : Value → Shared → Prop} {s : Shared}
end
section
variable {X : Cx} {pins : List (Addr × Obj)} {s : Shared} {σ : L2.St} {H : Hp}
end
section
variable {prog : Program} {w : World} {A : Around} {E : Value → Shared → Prop} {s : Shared}
end
end
end DL
namespace DL
open PySem PySem.Spec L2
variable [Wd]
section
variable {c : Cc}
end
def iZm (fz : Bool) (ts : List T) (env : En) : R Wk := match ts with
  | [t, .im (.tup es)] => onI (fun xs => zipD xs es) (iL fz t.weak env)
  | _ => .er
def fiZm (fz : Bool) (fa : FA) : FI := fun env => (fa env).bind (iZm fz)
def iZn (fz : Bool) (ts : List T) (env : En) : R Wk := match ts with
  | [t, u] => (iL true u.weak env).bind fun k2 e2 => onI (fun xs => zipD xs k2.its) (iL fz t.weak e2)
  | _ => .er
def fiZn (fz : Bool) (fa : FA) : FI := fun env => (fa env).bind (iZn fz)
@[simp] theorem fiZm_s (fz : Bool) (fa : FA) (env : En) : fiZm fz fa env = ((fa env).bind (iZm fz)) := rfl
@[simp] theorem fiZn_s (fz : Bool) (fa : FA) (env : En) : fiZn fz fa env = ((fa env).bind (iZn fz)) := rfl
section
variable {X : Cx} {c : Cc} {W : WX} {pos p : Pos} {tg a b : Expr} {fas : FA}
end
end DL
namespace DL
open PySem PySem.Spec L2 PyProof.Rows
variable [Wd]
abbrev KnV := List (NestedKey × Addr × Value)
abbrev SamN : Kn → KnV → Prop := Paired fun x y => x.1 = y.1 ∧ x.2.1 = y.2.1 ∧ RelV x.2.2 y.2.2
theorem SamN.keys : ∀ {kvs : Kn} {ys : KnV}, SamN kvs ys → kvs.map (·.1) = ys.map (·.1)
  | _, _, .nil => rfl
  | _, _, .cons r t => by rw [List.map_cons, List.map_cons, r.1, SamN.keys t]
theorem SamN.mem : ∀ {kvs : Kn} {ys : KnV}, SamN kvs ys → ∀ y ∈ ys, ∃ x ∈ kvs, x.1 = y.1 ∧ x.2.1 = y.2.1
  | _, _, .nil, y, h => by cases h
  | _, _, .cons (a := a) (b := b) q t, y, h => by
    rcases List.mem_cons.mp h with rfl | h
    · exact ⟨a, List.mem_cons_self, q.1, q.2.1⟩
    · obtain ⟨x, hx, e⟩ := SamN.mem t y h
      exact ⟨x, List.mem_cons_of_mem _ hx, e⟩
def ndM (a : Addr) (kvs : Kn) : HO := match kvs with
  | [] => dcM a []
  | k :: ks => .ext fun h => ∃ o, h.get? a = some o ∧ NdObj Wd.w a o (k :: ks)
theorem ndM_ext (a : Addr) (kvs : Kn) : ∃ φ, ndM a kvs = .ext φ := by
  cases kvs with
  | nil => exact ⟨_, rfl⟩
  | cons k ks => exact ⟨_, rfl⟩
section
variable {P : Program} {w : World} {H : Hp} {h : Heap} {a : Addr} {o : Obj} {kvs : Kn}
end
section
variable {X : Cx} {pins : List (Addr × Obj)} {σ : L2.St} {H : Hp} {s : Shared} {a : Addr} {o : Obj} {kvs : Kn}
mutual
theorem isN (I : Inv X pins σ H s) : ∀ {k : NestedKey} {v : V} {u : Value}, KeyV X.K H k v → RelV v u → NestedIs s.heap k u
  | _, _, u, .none, r => by
    obtain rfl : u = Value.none := r
    exact .none
  | _, _, u, .num i, r => by
    obtain ⟨t, rfl⟩ := r
    exact .int _ _
  | _, _, u, .text x, r => by
    obtain ⟨t, rfl⟩ := r
    exact .text _ _
  | _, _, u, .tup h rs, r => by
    obtain rfl : u = Value.ref _ := r
    obtain ⟨its, rv, ⟨o, ho, hc, n, hd⟩, _⟩ := I.tuple h
    exact .tup ho hc hd (by simpa using isNs I rs rv)
theorem isNs (I : Inv X pins σ H s) : ∀ {ks : List NestedKey} {vs : List V} {us : List Value}, KeysV X.K H ks vs → Vals vs us → NestedAll s.heap ks us
  | _, _, _, .nil, .nil => .nil
  | _, _, _, .cons r rs, .cons q qs => .cons (isN I r q) (isNs I rs qs)
end
theorem isK (I : Inv X pins σ H s) {k : NestedKey} {b : Addr} (h : KeyV X.K H k (.ref b)) (hd : k.depth ≤ 8) : (nestedKind X.prog X.w).is s.heap k b := ⟨isN I h rfl, hd⟩
theorem NdObj.dict (I : Inv X pins σ H s) (hw : X.w = Wd.w) (d : NdObj Wd.w a o kvs) (e : s.heap.get? a = some o) (hq : KeyN X.K H kvs) : ∃ ys, SamN kvs ys ∧ s.heap.DictOfH (nestedKind X.prog X.w) a ys ∧ ys.length ≤ sizeLine := by
  obtain ⟨es, ep, ys, hd, hs, he⟩ := d.dat
  have hs : SamN kvs ys := hs
  refine ⟨ys, hs, ⟨o, es, ep, e, d.ex, hd, ?_, fun y hy => ?_, by rw [← hs.keys]; exact d.nd⟩, by rw [← Paired.length hs]; exact d.len⟩
  · rw [he, hw]
    rfl
  · obtain ⟨x, hx, e1, e2⟩ := hs.mem y hy
    rw [← e1, ← e2]
    exact isK I (hq x hx).1 (hq x hx).2
theorem NdObj.of {P : Program} {w : World} {h : Heap} {ys : KnV} (hw : w = Wd.w) (hm : h.DictOfH (nestedKind P w) a ys) (hs : SamN kvs ys) (sm : (a == sysModules) = false) (hl : kvs.length ≤ sizeLine) : ∃ o, h.get? a = some o ∧ NdObj Wd.w a o kvs := by
  obtain ⟨o, es, ep, e, ex, hd, he, _, nd⟩ := hm
  subst hw
  exact ⟨o, e, sm, hl, ex, by rw [hs.keys]; exact nd, es, ep, ys, hd, hs, he⟩
end
section
variable {X : Cx} {tg iter kx vx : Expr} {ifs : List Expr} {scope : Scope} {own : List (Str × Nat)} {pos pos' spos : Pos} {wi : TI} {g : TG} {tt : TT} {tk tv : TE}
end
end DL
namespace DL
open PySem PySem.Spec L2
variable [Wd]
section
variable {K : PySem.W.Frag} {G : Addr → Prop} {H : Hp}
mutual
theorem Rep.key : ∀ {k : NestedKey} {v : V}, Rep K G H v (keyD k) → KeyV K H k v
  | .none, v, h => by
    have h : Rep K G H v .non := h
    cases h
    exact .none
  | .num i, v, h => by
    have h : Rep K G H v (.int i) := h
    cases h
    exact .num i
  | .text x, v, h => by
    have h : Rep K G H v (.str x) := h
    cases h
    exact .text x
  | .tup ks, v, h => by
    have h : Rep K G H v (.tup (keysD ks)) := h
    cases h with
    | tup ht rs => exact .tup ht (Reps.key rs)
theorem Reps.key : ∀ {ks : List NestedKey} {vs : List V}, Reps K G H vs (keysD ks) → KeysV K H ks vs
  | [], vs, h => by
    have h : Reps K G H vs [] := h
    cases h
    exact .nil
  | k :: ks, vs, h => by
    have h : Reps K G H vs (keyD k :: keysD ks) := h
    cases h with
    | cons r rs => exact .cons (Rep.key r) (Reps.key rs)
end
end
theorem KeyV.at {K : PySem.W.Frag} {H : Hp} {ks : List NestedKey} {v : V} (h : KeyV K H (.tup ks) v) : ∃ a xs, v = .ref a ∧ SqT K H a xs ∧ KeysV K H ks xs := by
  cases h with
  | tup ht rk => exact ⟨_, _, rfl, ht, rk⟩
def dnOf (m : List (D × D)) : D := .kd (m.map (·.1)) (m.map (·.2))
section
variable {c : Cc} {W : WX} {L : Addr → Prop} {σ : L2.St} {H : Hp} {env : En} {Dd : Addr} {kvs : Kn}
theorem RE.noXN (h : RE c L σ H env) (e : H Dd = some (ndM Dd kvs)) : ¬ Nn σ env H Dd := by
  obtain ⟨φ, ee⟩ := ndM_ext Dd kvs
  rw [ee] at e
  exact h.noX e
def ARn (c : Cc) (L : Addr → Prop) (Dd : Addr) (m : List (D × D)) (σ : L2.St) (env : En) (H : Hp) : Prop := ∃ kvs : Kn, H Dd = some (ndM Dd kvs) ∧ KeyN c.K H kvs ∧ kvs.map (fun x => keyD x.1) = m.map (·.1) ∧ Reps c.K (Av L σ env) H (kvs.map (·.2.2)) (m.map (·.2))
theorem ARn.stab (m : List (D × D)) (σ : L2.St) (env : En) (H : Hp) (σ' : L2.St) (env' : En) (H' : Hp) (r : RE c L σ H env) (s : Stp σ env H σ' env' H') (h : ARn c L Dd m σ env H) : ARn c L Dd m σ' env' H' := by
  obtain ⟨kvs, e, hq, hk, rs⟩ := h
  refine ⟨kvs, ?_, KeyN.tk (r.tk s) hq, hk, r.reps s rs⟩
  rw [(s Dd (r.noXN e)).1, e]
variable {SB' : Sp0} {fk fv : FE}
end
section
variable {X : Cx} {c : Cc} {W : WX} {fi : FI} {vs : List Nat} {t : CT} {ft : FT} {fk fv : FE} {tg iter kx vx : Expr} {ifs : List Expr} {scope : Scope} {own : List (Str × Nat)} {pos spos : Pos}
def eWk (fa : FE) : FE := fun env => (fa env).bind fun t e => .ok t.weak e
end
@[simp] theorem eWk_s (fa : FE) (env : En) : eWk fa env = (fa env).bind fun t e => .ok t.weak e := rfl
@[simp] theorem dnOf_s (m : List (D × D)) : dnOf m = .kd (m.map (·.1)) (m.map (·.2)) := rfl
end DL
namespace DL
open PySem PySem.Spec L2 PyProof.Rows
variable [Wd]
section
variable {X : Cx} {pos : Pos}
end
mutual
theorem KeyV.rep {K : PySem.W.Frag} {G : Addr → Prop} {H : Hp} : ∀ {k : NestedKey} {v : V}, KeyV K H k v → Rep K G H v (keyD k)
  | _, _, .none => .non
  | _, _, .num i => .int i
  | _, _, .text x => .str x
  | _, _, .tup h r => .tup h (KeysV.reps r)
theorem KeysV.reps {K : PySem.W.Frag} {G : Addr → Prop} {H : Hp} : ∀ {ks : List NestedKey} {vs : List V}, KeysV K H ks vs → Reps K G H vs (keysD ks)
  | _, _, .nil => .nil
  | _, _, .cons r rs => .cons (KeyV.rep r) (KeysV.reps rs)
end
section
variable {X : Cx}
end
abbrev Gh := List (D × D)
abbrev FGS := Addr → En → Gh → Fl × Gh
section
variable {X : Cx} {c : Cc} {W : WX} {σ0 : L2.St} {env0 : En} {H0 : Hp} {a : Addr} {f g : FGS} {fs : FS} {ft : FT} {st : Stmt} {rest ss ts : List Stmt} {pos : Pos}
theorem RE.setHd {L : Addr → Prop} {σ : L2.St} {H : Hp} {env : En} {i : Nat} {p : Addr} (h : RE c L σ H env) : RE c L (σ.set i (some (.ref p))) H (env.set i (.hd p)) ∧ Stp σ env H (σ.set i (some (.ref p))) (env.set i (.hd p)) H := by
  have sub : ∀ b, ownM (σ.set i (some (.ref p))) (env.set i (.hd p)) b → ownM σ env b := fun b z => by
    rcases own_set z with z | ⟨_, io, ds, z⟩
    · exact z.1
    · cases z
  have av : ∀ b, Av L σ env b → Av L (σ.set i (some (.ref p))) (env.set i (.hd p)) b := fun b g => ⟨g.1, fun z => g.2 (sub b z)⟩
  have st : Stp σ env H (σ.set i (some (.ref p))) (env.set i (.hd p)) H := fun b n => ⟨rfl, fun z => n (z.imp (sub b) id)⟩
  have get : ∀ {j : Nat} {s : Sl}, (env.set i (.hd p))[j]? = some s → (j = i ∧ s = .hd p ∧ i < env.length) ∨ (j ≠ i ∧ env[j]? = some s) := fun {j s} q => by
    by_cases z : i = j
    · subst z
      rw [List.getElem?_set] at q
      simp only [if_true] at q
      split at q
      · rename_i hi
        cases q
        exact .inl ⟨rfl, rfl, hi⟩
      · cases q
    · rw [List.getElem?_set_ne z] at q
      exact .inr ⟨fun y => z y.symm, q⟩
  refine ⟨⟨by rw [List.length_set, List.length_set]; exact h.len, fun j d' q => ?_, fun j io ds q => ?_, fun j k io jo ds es a q1 q2 q3 q4 => ?_, fun b lb => ⟨fun z => (h.ext b lb).1 (sub b z), (h.ext b lb).2⟩, h.fr, h.io, fun j a q => ?_⟩, st⟩
  · rcases get q with ⟨rfl, z, hi⟩ | ⟨ne, q⟩
    · cases z
    · obtain ⟨v', e1, r'⟩ := h.im j d' q
      exact ⟨v', by rw [List.getElem?_set_ne (Ne.symm ne)]; exact e1, r'.mono (.refl H) fun b xs g e => ⟨av b g, e⟩⟩
  · rcases get q with ⟨rfl, z, hi⟩ | ⟨ne, q⟩
    · cases z
    · obtain ⟨a, xs, e1, e2, r', z⟩ := h.own j io ds q
      exact ⟨a, xs, by rw [List.getElem?_set_ne (Ne.symm ne)]; exact e1, e2, r'.mono (.refl H) fun b xs g e => ⟨av b g, e⟩, z⟩
  · rcases get q1 with ⟨rfl, z, hi⟩ | ⟨ne1, q1⟩
    · cases z
    · rcases get q2 with ⟨rfl, z, hi⟩ | ⟨ne2, q2⟩
      · cases z
      · rw [List.getElem?_set_ne (Ne.symm ne1)] at q3
        rw [List.getElem?_set_ne (Ne.symm ne2)] at q4
        exact h.inj j k io jo ds es a q1 q2 q3 q4
  · rcases get q with ⟨rfl, z, hi⟩ | ⟨ne, q⟩
    · cases z
      rw [List.getElem?_set_self (by rw [← h.len]; exact hi)]
    · rw [List.getElem?_set_ne (Ne.symm ne)]
      exact h.hd j a q
theorem RepT.sub {L N : Addr → Prop} {σ : L2.St} {H : Hp} {env env' : En} {v : V} {t : T} (na : ∀ j, t ≠ .al j) (l : env'.length = env.length) (k : ∀ (j : Nat) (s : Sl), env'[j]? = some s → s = .no ∨ env[j]? = some s) (h : RepT c L N σ H env v t) : RepT c L N σ H env' v t := by
  have ow : ∀ a, ownM σ env' a → ownM σ env a := fun a ⟨i, io, ds, e1, e2⟩ => by
    rcases k i _ e1 with z | q1
    · cases z
    · exact ⟨i, io, ds, q1, e2⟩
  have re : ∀ {L : Addr → Prop}, RE c L σ H env → RE c L σ H env' := fun r => (r.sub (l.trans r.len) fun j s e => (k j s e).imp id fun q => ⟨q, rfl⟩).1
  cases t with
  | im d => exact Rep.mono (.refl H) (fun a xs g e => ⟨⟨g.1, fun z => g.2 (ow a z)⟩, e⟩) h
  | al i => exact (na i rfl).elim
  | fr ds =>
    obtain ⟨a, xs, e, e1, r, n1, n2, n3, q⟩ := h
    exact ⟨a, xs, e, e1, r.mono (.refl H) (fun b ys g e => ⟨⟨g.1, fun z => g.2 (ow b z)⟩, e⟩), n1, n2, n3, re q⟩
  | ft cs =>
    obtain ⟨t, vs, As, e, e1, r, n1, q⟩ := h
    exact ⟨t, vs, As, e, e1, r.mono (.refl H) (fun b ys g e => ⟨⟨g.1, fun z => g.2 (ow b z)⟩, e⟩) (fun _ _ _ e => e), n1, re q⟩
end
end DL
namespace DL
open PySem PySem.Spec L2 PyProof.Rows
variable [Wd]
structure Tl where
  l : Addr
  sh : D
  now : D
  bef : List D
abbrev Gt := Addr → Option Tl
def gput (m : Gt) (a : Addr) (t : Tl) : Gt := fun b => if b = a then some t else m b
theorem gput_eq (m : Gt) (a : Addr) (t : Tl) : gput m a t a = some t := by unfold gput; rw [if_pos rfl]
theorem gput_ne (m : Gt) {a b : Addr} (t : Tl) (h : b ≠ a) : gput m a t b = m b := by unfold gput; rw [if_neg h]
abbrev Nw : Addr → Prop := fun _ => False
section
variable {K : PySem.W.Frag} {G : Addr → Prop} {H H' : Hp}
theorem Rep.up {v : V} {d : D} (r : Rep K Nw H v d) : Rep K G H v d := r.mono (.refl H) fun _ _ z => z.elim
theorem Reps.up {v : List V} {d : List D} (r : Reps K Nw H v d) : Reps K G H v d := r.mono (.refl H) fun _ _ z => z.elim
theorem Rep.to {v : V} {d : D} (r : Rep K Nw H v d) (k : TK H H') : Rep K Nw H' v d := r.mono k fun _ _ z => z.elim
theorem Reps.to {v : List V} {d : List D} (r : Reps K Nw H v d) (k : TK H H') : Reps K Nw H' v d := r.mono k fun _ _ z => z.elim
mutual
theorem Rep.fl : ∀ {v d}, Rep K Nw H v d → D.flat d = true
  | _, _, .non => rfl
  | _, _, .bl b => rfl
  | _, _, .int i => rfl
  | _, _, .str x => rfl
  | _, _, .tup h r => by simpa [D.flat] using Reps.fl r
  | _, _, .lst g _ _ => g.elim
  | _, _, .fz h r => by simpa [D.flat] using Reps.fl r
  | _, _, .dct h ho hq hk r => by simpa [D.flat] using Reps.fl r
  | _, _, .kd h ho hq hk r => by simpa [D.flat] using Reps.fl r
theorem Reps.fl : ∀ {vs ds}, Reps K Nw H vs ds → D.flats ds = true
  | _, _, .nil => rfl
  | _, _, .cons r rs => by simp [D.flats, Rep.fl r, Reps.fl rs]
end
end
abbrev tlF (v1 v2 : V) (l : Addr) : List (Str × V) := [("_shop", v1), ("_now", v2), ("_before", .ref l)]
structure TilAt (K : PySem.W.Frag) (C : Addr) (H : Hp) (a : Addr) (t : Tl) : Prop where
  ex : ∃ dx v1 v2 xs, H a = some (.ins C dx (tlF v1 v2 t.l)) ∧ H t.l = some (.lst xs) ∧ Rep K Nw H v1 t.sh ∧ Rep K Nw H v2 t.now ∧ Reps K Nw H xs t.bef
structure AT (c : Cc) (C : Addr) (L : Addr → Prop) (m : Gt) (H : Hp) : Prop where
  at_ : ∀ a t, m a = some t → TilAt c.K C H a t
  off : ∀ a t, m a = some t → L t.l ∧ c.H0 a = none ∧ c.H0 t.l = none
  inj : ∀ a b t u, m a = some t → m b = some u → t.l = u.l → a = b
theorem TilAt.to {K : PySem.W.Frag} {C a : Addr} {H H' : Hp} {t : Tl} (h : TilAt K C H a t) (k : TK H H') (ea : H' a = H a) (el : H' t.l = H t.l) : TilAt K C H' a t := by
  obtain ⟨dx, v1, v2, xs, h1, h2, r1, r2, r3⟩ := h.ex
  exact ⟨dx, v1, v2, xs, ea.trans h1, el.trans h2, r1.to k, r2.to k, r3.to k⟩
section
variable {c : Cc} {C : Addr} {L L' : Addr → Prop} {σ σ' : L2.St} {env env' : En} {H H' : Hp} {m : Gt}
theorem RE.no_own {a : Addr} (r : RE c L σ H env) {o : HO} (h : H a = some o) (n : ∀ xs, o ≠ .lst xs) : ¬ ownM σ env a := fun ⟨i, io, ds, e1, e2⟩ => by
  obtain ⟨b, xs, e3, e4, _⟩ := r.own i io ds e1
  rw [e2] at e3
  cases e3
  rw [h] at e4
  cases e4
  exact n _ rfl
theorem AT.stab (r : RE c L σ H env) (s : Stp σ env H σ' env' H') (ar : AT c C L m H) : AT c C L m H' := by
  refine ⟨fun a t e => ?_, ar.off, ar.inj⟩
  have q := ar.at_ a t e
  obtain ⟨dx, v1, v2, xs, h1, h2, _⟩ := q.ex
  exact q.to (r.tk s) (s a (Nn.not h1 (r.no_own h1 fun _ z => nomatch z))).1 (s t.l (Nn.not h2 (r.ext _ (ar.off a t e).1).1)).1
theorem AT.empty : AT c C L (fun _ => none) H := ⟨(fun _ _ e => nomatch e), (fun _ _ e => nomatch e), (fun _ _ _ _ e => nomatch e)⟩
end
inductive GV where
  | d (x : D) | h (a : Addr)
def RepG (K : PySem.W.Frag) (H : Hp) (v : V) : GV → Prop
  | .d x => Rep K Nw H v x
  | .h a => v = .ref a
theorem RepG.to {K : PySem.W.Frag} {H H' : Hp} {v : V} {g : GV} (h : RepG K H v g) (k : TK H H') : RepG K H' v g := by
  cases g with
  | d x => exact Rep.to h k
  | h a => exact h
inductive RepGs (K : PySem.W.Frag) (H : Hp) : List V → List GV → Prop
  | nil : RepGs K H [] []
  | cons {v g vs gs} (r : RepG K H v g) (rs : RepGs K H vs gs) : RepGs K H (v :: vs) (g :: gs)
theorem RepGs.to {K : PySem.W.Frag} {H H' : Hp} (k : TK H H') : ∀ {vs gs}, RepGs K H vs gs → RepGs K H' vs gs
  | _, _, .nil => .nil
  | _, _, .cons r rs => .cons (r.to k) (RepGs.to k rs)
inductive Gr (α : Type) where
  | er | ok (v : α) (e : En) | ex (x : Str) (e : En)
abbrev FW (α : Type) := En → Gt → (Gr α → Gt → Prop) → Prop
inductive Fw where
  | er | nx (e : En) | rt (v : GV) (e : En) | bk (e : En) | ct (e : En) | ex (x : Str) (e : En)
abbrev FSw := En → Gt → (Fw → Gt → Prop) → Prop
def hK {α : Type} (c : Cc) (C : Addr) (W : WX) (σ : L2.St) (H : Hp) (r : Gr α) (m' : Gt) (P : α → Hp → Prop) : Prop := match r with
  | .er => False
  | .ok v e => ∀ H' L', TK H H' → RE c L' σ H' e → AT c C L' m' H' → P v H'
  | .ex x e => ∀ H' L', TK H H' → RE c L' σ H' e → AT c C L' m' H' → Wx c.mg W x σ H'
def hE (c : Cc) (C : Addr) (W : WX) (f : FW GV) : TE := fun σ H Q => ∃ env L m P, RE c L σ H env ∧ AT c C L m H ∧ f env m P ∧ ∀ r m', P r m' → hK c C W σ H r m' fun v H' => ∀ x, RepG c.K H' x v → Q x H'
def hA (c : Cc) (C : Addr) (W : WX) (f : FW (List GV)) : TA := fun σ H Q => ∃ env L m P, RE c L σ H env ∧ AT c C L m H ∧ f env m P ∧ ∀ r m', P r m' → hK c C W σ H r m' fun v H' => ∀ x, RepGs c.K H' x v → Q x H'
def hT (c : Cc) (C : Addr) (W : WX) (f : FW Bool) : TT := fun σ H Q => ∃ env L m P, RE c L σ H env ∧ AT c C L m H ∧ f env m P ∧ ∀ r m', P r m' → hK c C W σ H r m' fun b H' => Q b H'
def sKw (c : Cc) (C : Addr) (W : WX) (H : Hp) (r : Fw) (m' : Gt) (D : Ends) : Prop := match r with
  | .er => False
  | .nx e => ∀ σ' H' L', TK H H' → RE c L' σ' H' e → AT c C L' m' H' → D.nx σ' H'
  | .bk e => ∀ σ' H' L', TK H H' → RE c L' σ' H' e → AT c C L' m' H' → D.bk σ' H'
  | .ct e => ∀ σ' H' L', TK H H' → RE c L' σ' H' e → AT c C L' m' H' → D.ct σ' H'
  | .rt v e => ∀ x σ' H' L', TK H H' → RE c L' σ' H' e → AT c C L' m' H' → RepG c.K H' x v → D.rt x H'
  | .ex x e => ∀ σ' H' L', TK H H' → RE c L' σ' H' e → AT c C L' m' H' → Wx c.mg W x σ' H'
def hS (c : Cc) (C : Addr) (W : WX) (f : FSw) : TS := fun D σ H => ∃ env L m P, RE c L σ H env ∧ AT c C L m H ∧ f env m P ∧ ∀ r m', P r m' → sKw c C W H r m' D
theorem TK.trans {H H1 H2 : Hp} (a : TK H H1) (b : TK H1 H2) : TK H H2 := ⟨fun x xs e => b.tup x xs (a.tup x xs e), fun x o u e => b.frz x o u (a.frz x o u e)⟩
theorem sKw.from {c : Cc} {C : Addr} {W : WX} {H H1 : Hp} {r : Fw} {m' : Gt} {D : Ends} (h : sKw c C W H r m' D) (t : TK H H1) : sKw c C W H1 r m' D := by
  cases r with
  | er => exact h
  | nx e => exact fun σ' H' L' t' => h σ' H' L' (t.trans t')
  | bk e => exact fun σ' H' L' t' => h σ' H' L' (t.trans t')
  | ct e => exact fun σ' H' L' t' => h σ' H' L' (t.trans t')
  | rt v e => exact fun x σ' H' L' t' => h x σ' H' L' (t.trans t')
  | ex x e => exact fun σ' H' L' t' => h σ' H' L' (t.trans t')
def wB {α β : Type} (f : FW α) (g : α → FW β) : FW β := fun env m P => f env m fun r m1 => match r with
  | .ok v e => g v e m1 P
  | .ex x e => P (.ex x e) m1
  | .er => False
def gLe (f : FE) : FW GV := fun env m P => match f env with
  | .er => False
  | .ex x e => P (.ex x e) m
  | .ok t e => ∃ d, t.weak = .im d ∧ D.flat d = true ∧ P (.ok (.d d) e) m
def gLt (f : FT) : FW Bool := fun env m P => match f env with
  | .er => False
  | .ex x e => P (.ex x e) m
  | .ok b e => P (.ok b e) m
def gHd (i : Nat) : FW GV := fun env m P => ∃ a, env[i]? = some (.hd a) ∧ P (.ok (.h a) env) m
def gNil' : FW (List GV) := fun env m P => P (.ok [] env) m
def gCons' (f : FW GV) (g : FW (List GV)) : FW (List GV) := wB f fun v => wB g fun vs e m P => P (.ok (v :: vs) e) m
section
variable {X : Cx} {c : Cc} {C : Addr} {W : WX} {pos p : Pos} {e a b : Expr} {es rest : List Expr} {fe : FE} {ft : FT} {fa fb : FW GV} {fs : FW (List GV)} {fc fd : FW Bool}
theorem flat_nw {L : Addr → Prop} {N : Addr → Prop} {σ : L2.St} {H : Hp} {env : En} {v : V} {t : T} {d : D} (q : RepT c L N σ H env v t) (e : t.weak = .im d) (f : D.flat d = true) : Rep c.K Nw H v d := by
  have := q.wk
  rw [e] at this
  exact Rep.flat this f
theorem ge_lift (h : PE X e (dE c W fe)) : PE X e (hE c C W (gLe fe)) := PEw h fun σ H Q ⟨env, L, m, P, r, ar, f, k⟩ => by
  refine dE.of r ?_
  unfold gLe at f
  cases q : fe env with
  | er => rw [q] at f; exact f
  | ex x e1 => rw [q] at f; exact fun H' r' s' => k _ _ f H' L (r.tk s') r' (ar.stab r s')
  | ok t e1 =>
    rw [q] at f
    obtain ⟨d, e2, fl, f⟩ := f
    exact fun H' r' s' v qv => k _ _ f H' L (r.tk s') r' (ar.stab r s') v (flat_nw qv e2 fl)
theorem gt_lift (h : PT X e (dT c W ft)) : PT X e (hT c C W (gLt ft)) := PTw h fun σ H Q ⟨env, L, m, P, r, ar, f, k⟩ => by
  refine dT.of r ?_
  unfold gLt at f
  cases q : ft env with
  | er => rw [q] at f; exact f
  | ex x e1 => rw [q] at f; exact fun H' r' s' => k _ _ f H' L (r.tk s') r' (ar.stab r s')
  | ok b e1 => rw [q] at f; exact fun H' r' s' => k _ _ f H' L (r.tk s') r' (ar.stab r s')
theorem ge_hd {i : Nat} (h : PE X e (tVar i)) : PE X e (hE c C W (gHd i)) := PEw h fun σ H Q ⟨env, L, m, P, r, ar, ⟨a, ea, f⟩, k⟩ => ⟨_, r.hd i a ea, k _ _ f H L (.refl H) r ar _ rfl⟩
theorem wB_K {α β : Type} {σ : L2.St} {H : Hp} {f : FW α} {g : α → FW β} {env : En} {m : Gt} {P : Gr β → Gt → Prop} {Q : β → Hp → Prop} (h : wB f g env m P) (k : ∀ r m', P r m' → hK c C W σ H r m' Q) :
    ∃ P1, f env m P1 ∧ ∀ r m1, P1 r m1 → hK c C W σ H r m1 fun v H1 => ∃ e L1, TK H H1 ∧ RE c L1 σ H1 e ∧ AT c C L1 m1 H1 ∧ g v e m1 P ∧ ∀ r m', P r m' → hK c C W σ H1 r m' Q := by
  refine ⟨_, h, fun r m1 q => ?_⟩
  cases r with
  | er => exact q
  | ex x e => exact k _ _ q
  | ok v e =>
    intro H1 L1 t1 r1 a1
    refine ⟨e, L1, t1, r1, a1, q, fun r m' z => ?_⟩
    have := k r m' z
    have tt : ∀ {H2 : Hp}, TK H1 H2 → TK H H2 := fun t2 => ⟨fun b xs e => t2.tup b xs (t1.tup b xs e), fun b o u e => t2.frz b o u (t1.frz b o u e)⟩
    cases r with
    | er => exact this
    | ex x e => exact fun H2 L2 t2 => this H2 L2 (tt t2)
    | ok v e => exact fun H2 L2 t2 => this H2 L2 (tt t2)
theorem ga_nil : PA X [] (hA c C W gNil') := PAw pa_nil fun σ H Q ⟨env, L, m, P, r, ar, f, k⟩ => k _ _ f H L (.refl H) r ar _ .nil
theorem ga_cons (ha : PE X e (hE c C W fa)) (hr : PA X es (hA c C W fs)) (hs : starEach (e :: es) X.env = (false, eval e X.env) :: starEach es X.env := by rfl) : PA X (e :: es) (hA c C W (gCons' fa fs)) := PAw (pa_cons ha hr hs) fun σ H Q ⟨env, L, m, P, r, ar, f, k⟩ => by
  obtain ⟨P1, f1, k1⟩ := wB_K f k
  refine ⟨env, L, m, P1, r, ar, f1, fun r1 m1 q1 => ?_⟩
  have := k1 r1 m1 q1
  cases r1 with
  | er => exact this
  | ex x e1 => exact this
  | ok v e1 =>
    intro H1 L1 t1 r1' a1 x rx
    obtain ⟨e2, L2, t2, r2, a2, f2, k2⟩ := this H1 L1 t1 r1' a1
    obtain ⟨P2, f3, k3⟩ := wB_K f2 k2
    refine ⟨e2, L2, m1, P2, r2, a2, f3, fun r3 m3 q3 => ?_⟩
    have := k3 r3 m3 q3
    cases r3 with
    | er => exact this
    | ex x e1 => exact this
    | ok vs e3 =>
      intro H3 L3 t3 r3' a3 xs rxs
      obtain ⟨e4, L4, t4, r4, a4, f4, k4⟩ := this H3 L3 t3 r3' a3
      exact k4 _ _ f4 H3 L4 (.refl H3) r4 a4 _ (.cons (rx.to t3) rxs)
end
def gRes (o : Option T) : FW GV := fun env m P => match o with
  | none => False
  | some t => ∃ d, t.weak = .im d ∧ D.flat d = true ∧ P (.ok (.d d) env) m
def gOp2 (g : D → D → Option T) (fa fb : FW GV) : FW GV := wB fa fun x => wB fb fun y => match x, y with
  | .d x, .d y => gRes (g x y)
  | _, _ => fun _ _ _ => False
def gBl (o : Option T) : FW Bool := fun env m P => match o with
  | some (.im (.bl b)) => P (.ok b env) m
  | _ => False
def gCm (g : D → D → Option T) (fa fb : FW GV) : FW Bool := wB fa fun x => wB fb fun y => match x, y with
  | .d x, .d y => gBl (g x y)
  | _, _ => fun _ _ _ => False
def gDs : List GV → Option (List D)
  | [] => some []
  | .d x :: r => (gDs r).map (x :: ·)
  | .h _ :: _ => none
def gBi (g : List D → Option T) (fs : FW (List GV)) : FW GV := wB fs fun vs => match gDs vs with
  | some ds => gRes (g ds)
  | none => fun _ _ _ => False
theorem gDs_reps {K : PySem.W.Frag} {H : Hp} : ∀ {xs : List V} {gs : List GV} {ds : List D}, RepGs K H xs gs → gDs gs = some ds → Reps K Nw H xs ds
  | _, [], ds, h, e => by cases h; cases e; exact .nil
  | _, .d x :: r, ds, h, e => by
    cases h with
    | cons h1 h2 =>
      unfold gDs at e
      obtain ⟨es, e1, rfl⟩ := Option.map_eq_some_iff.mp e
      exact .cons h1 (gDs_reps h2 e1)
  | _, .h a :: r, ds, h, e => by cases e
section
variable {X : Cx} {c : Cc} {C : Addr} {W : WX} {pos p : Pos} {x : Str} {e a b : Expr} {es rest : List Expr} {fa fb : FW GV} {fs : FW (List GV)} {fc fd : FW Bool}
theorem two_K {α : Type} {σ : L2.St} {H : Hp} {env : En} {L : Addr → Prop} {m : Gt} {h : GV → GV → FW α} {P : Gr α → Gt → Prop} {Q : α → Hp → Prop} (r : RE c L σ H env) (ar : AT c C L m H) (f : wB fa (fun x => wB fb fun y => h x y) env m P) (k : ∀ r m', P r m' → hK c C W σ H r m' Q) :
    hE c C W fa σ H fun x H1 => hE c C W fb σ H1 fun y H2 => ∃ gx gy e2 L2 m2, RepG c.K H2 x gx ∧ RepG c.K H2 y gy ∧ RE c L2 σ H2 e2 ∧ AT c C L2 m2 H2 ∧ h gx gy e2 m2 P ∧ ∀ r m', P r m' → hK c C W σ H2 r m' Q := by
  obtain ⟨P1, f1, k1⟩ := wB_K f k
  refine ⟨env, L, m, P1, r, ar, f1, fun r1 m1 q1 => ?_⟩
  have := k1 r1 m1 q1
  cases r1 with
  | er => exact this
  | ex x e1 => exact this
  | ok v e1 =>
    intro H1 L1 t1 r1' a1 x rx
    obtain ⟨e2, L2, t2, r2, a2, f2, k2⟩ := this H1 L1 t1 r1' a1
    obtain ⟨P2, f3, k3⟩ := wB_K f2 k2
    refine ⟨e2, L2, m1, P2, r2, a2, f3, fun r3 m3 q3 => ?_⟩
    have := k3 r3 m3 q3
    cases r3 with
    | er => exact this
    | ex x e1 => exact this
    | ok w e3 =>
      intro H3 L3 t3 r3' a3 y ry
      obtain ⟨e4, L4, t4, r4, a4, f4, k4⟩ := this H3 L3 t3 r3' a3
      exact ⟨v, w, e4, L4, m3, rx.to t3, ry, r4, a4, f4, k4⟩
theorem hE.mono {f : FW GV} {σ : L2.St} {H : Hp} {Q Q' : VK} (h : hE c C W f σ H Q) (k : ∀ x H', Q x H' → Q' x H') : hE c C W f σ H Q' := by
  obtain ⟨env, L, m, P, r, ar, f, q⟩ := h
  refine ⟨env, L, m, P, r, ar, f, fun r m' z => ?_⟩
  have := q r m' z
  cases r with
  | er => exact this
  | ex x e => exact this
  | ok v e => exact fun H' L' t r a x rx => k x H' (this H' L' t r a x rx)
theorem op_K {r : R2} {g : D → D → Option T} (ho : OpD c r g) {σ : L2.St} {H : Hp} {env : En} {L : Addr → Prop} {m : Gt} {x y : V} {dx dy : D} {t : T} (re : RE c L σ H env) (ar : AT c C L m H) (rx : Rep c.K Nw H x dx) (ry : Rep c.K Nw H y dy) (e : g dx dy = some t) {Q : VK}
    (k : ∀ v H', RE c L σ H' env → AT c C L m H' → TK H H' → (∀ d, t.weak = .im d → D.flat d = true → Rep c.K Nw H' v d) → Q v H') : r x y H Q :=
  ho L σ H env x y dx dy t Q re rx.up.o ry.up.o e fun v H' r' s' q => k v H' r' (ar.stab re s') (re.tk s') fun d e f => flat_nw q e f
theorem ge_two {r : R2} {g : D → D → Option T} (ho : OpD c r g) : ∀ σ H Q, hE c C W (gOp2 g fa fb) σ H Q → tOp r (hE c C W fa) (hE c C W fb) σ H Q := fun σ H Q ⟨env, L, m, P, re, ar, f, k⟩ => by
  refine (two_K re ar f k).mono fun x H1 h1 => h1.mono fun y H2 ⟨gx, gy, e2, L2, m2, rx, ry, r2, a2, f2, k2⟩ => ?_
  cases gx with
  | h _ => exact f2.elim
  | d dx =>
    cases gy with
    | h _ => exact f2.elim
    | d dy =>
      have f2 : gRes (g dx dy) e2 m2 P := f2
      unfold gRes at f2
      cases eg : g dx dy with
      | none => rw [eg] at f2; exact f2.elim
      | some t =>
        rw [eg] at f2
        obtain ⟨d, w, fl, f2⟩ := f2
        exact op_K ho r2 a2 rx ry eg fun v H' r' a' t' q => k2 _ _ f2 H' L2 t' r' a' v (q d w fl)
theorem ge_op {op : Operator} {r : R2} {g : D → D → Option T} (hr : OpR X (binaryOp op) r) (ho : OpD c r g) (ha : PE X a (hE c C W fa)) (hb : PE X b (hE c C W fb)) : PE X (.BinOp a op b pos) (hE c C W (gOp2 g fa fb)) := PEw (pe_op hr ha hb) (ge_two ho)
theorem ge_cmp {op : CmpOp} {r : R2} {g : D → D → Option T} (hr : OpR X (compareOp op) r) (ho : OpD c r g) (ha : PE X a (hE c C W fa)) (hb : PE X b (hE c C W fb)) (hm : behindInMarks op b = false) : PE X (.Compare a [op] [b] pos) (hE c C W (gOp2 g fa fb)) := PEw (pe_cmpR hr ha hb hm) (ge_two ho)
theorem gt_cmp {op : CmpOp} {r : R2} {g : D → D → Option T} (hr : OpR X (compareOp op) r) (ho : OpD c r g) (ha : PE X a (hE c C W fa)) (hb : PE X b (hE c C W fb)) (hm : behindInMarks op b = false) : PT X (.Compare a [op] [b] pos) (hT c C W (gCm g fa fb)) := PTw (pt_cmpR hr ha hb hm) fun σ H Q ⟨env, L, m, P, re, ar, f, k⟩ => by
  refine (two_K re ar f k).mono fun x H1 h1 => h1.mono fun y H2 ⟨gx, gy, e2, L2, m2, rx, ry, r2, a2, f2, k2⟩ => ?_
  cases gx with
  | h _ => exact f2.elim
  | d dx =>
    cases gy with
    | h _ => exact f2.elim
    | d dy =>
      have f2 : gBl (g dx dy) e2 m2 P := f2
      unfold gBl at f2
      split at f2
      · rename_i b eg
        refine op_K ho r2 a2 rx ry eg fun v H' r' a' t' q => ⟨b, ?_, k2 _ _ f2 H' L2 t' r' a'⟩
        have := q (.bl b) rfl rfl
        cases this
        rfl
      · exact f2.elim
theorem ge_bi {r : List V → Hp → VK → Prop} {g : List D → Option T} {id : String} (ho : CallD c r g) (hc : CallR X (.builtin id) r) (hg : Gl X x) (hm : X.mg x = none) (hv : bootBuiltins x = some (.builtin id)) (ha : PA X (e :: es) (hA c C W fs)) (hn : x ≠ "__name__" := by decide) (hdb : (x == ("__debug__" : Str)) = false := by decide)
    (he : starEach (e :: es) X.env = (false, eval e X.env) :: starEach es X.env := by rfl) (hpl : (backTo pos (starEach es X.env)).any (·.1) = false := by rfl) : PE X (.Call (.Name x p) (e :: es) [] pos) (hE c C W (gBi g fs)) := PEw (pe_callB hc hg hm hv ha hn hdb he hpl) fun σ H Q ⟨env, L, m, P, re, ar, f, k⟩ => by
  obtain ⟨P1, f1, k1⟩ := wB_K f k
  refine ⟨env, L, m, P1, re, ar, f1, fun r1 m1 q1 => ?_⟩
  have := k1 r1 m1 q1
  cases r1 with
  | er => exact this
  | ex x e1 => exact this
  | ok vs e1 =>
    intro H1 L1 t1 r1' a1 xs rxs
    obtain ⟨e2, L2, t2, r2, a2, f2, k2⟩ := this H1 L1 t1 r1' a1
    cases ed : gDs vs with
    | none => rw [ed] at f2; exact f2.elim
    | some ds =>
      rw [ed] at f2
      dsimp only at f2
      unfold gRes at f2
      cases eg : g ds with
      | none => rw [eg] at f2; exact f2.elim
      | some t =>
        rw [eg] at f2
        obtain ⟨d, w, fl, f2⟩ := f2
        have os : ∀ {xs : List V} {ds : List D}, Reps c.K Nw H1 xs ds → RepOs c.K (Av L2 σ e2) H1 xs ds := fun {xs ds} h => by
          induction ds generalizing xs with
          | nil => cases h; exact .nil
          | cons d ds ih => cases h with | cons h1 h2 => exact .cons h1.up.o (ih h2)
        exact ho L2 σ H1 e2 xs ds t Q r2 (os (gDs_reps rxs ed)) eg fun v H' r' s' q => k2 _ _ f2 H' L2 (r2.tk s') r' (a2.stab r2 s') v (flat_nw q w fl)
theorem hT.mono {f : FW Bool} {σ : L2.St} {H : Hp} {Q Q' : Bool → Hp → Prop} (h : hT c C W f σ H Q) (k : ∀ x H', Q x H' → Q' x H') : hT c C W f σ H Q' := by
  obtain ⟨env, L, m, P, r, ar, f, q⟩ := h
  refine ⟨env, L, m, P, r, ar, f, fun r m' z => ?_⟩
  have := q r m' z
  cases r with
  | er => exact this
  | ex x e => exact this
  | ok v e => exact fun H' L' t r a => k v H' (this H' L' t r a)
def gOr (f g : FW Bool) : FW Bool := wB f fun b => bif b then (fun e m P => P (.ok true e) m) else g
def gAn (f g : FW Bool) : FW Bool := wB f fun b => bif b then g else fun e m P => P (.ok false e) m
def gNo (f : FW Bool) : FW Bool := wB f fun b e m P => P (.ok (!b) e) m
def gVb (f : FW GV) : FW Bool := wB f fun v => match v with
  | .d (.bl b) => fun e m P => P (.ok b e) m
  | _ => fun _ _ _ => False
theorem gT_bind {f : FW Bool} {g : Bool → FW Bool} {σ : L2.St} {H : Hp} {Q : Bool → Hp → Prop} (h : hT c C W (wB f g) σ H Q) : hT c C W f σ H fun b H1 => hT c C W (g b) σ H1 Q := by
  obtain ⟨env, L, m, P, re, ar, f, k⟩ := h
  obtain ⟨P1, f1, k1⟩ := wB_K f k
  refine ⟨env, L, m, P1, re, ar, f1, fun r1 m1 q1 => ?_⟩
  have := k1 r1 m1 q1
  cases r1 with
  | er => exact this
  | ex x e1 => exact this
  | ok b e1 =>
    intro H1 L1 t1 r1' a1
    obtain ⟨e2, L2, t2, r2, a2, f2, k2⟩ := this H1 L1 t1 r1' a1
    exact ⟨e2, L2, m1, P, r2, a2, f2, k2⟩
theorem gT_pure {b : Bool} {σ : L2.St} {H : Hp} {Q : Bool → Hp → Prop} (h : hT c C W (fun e m P => P (.ok b e) m) σ H Q) : Q b H := by
  obtain ⟨env, L, m, P, re, ar, f, k⟩ := h
  exact k _ _ f H L (.refl H) re ar
theorem gt_or1 (ha : PT X a (hT c C W fc)) : PW X (.BoolOp .Or [a] pos) (hT c C W fc) := pw_or1 ha
theorem gt_and1 (ha : PT X a (hT c C W fc)) : PW X (.BoolOp .And [a] pos) (hT c C W fc) := pw_and1 ha
theorem gt_or (ha : PT X a (hT c C W fc)) (hb : PW X (.BoolOp .Or (b :: rest) pos) (hT c C W fd)) : PW X (.BoolOp .Or (a :: b :: rest) pos) (hT c C W (gOr fc fd)) := PWw (pw_or ha hb) fun σ H Q h => (gT_bind h).mono fun x H1 q => by
  cases x with
  | true => rw [if_pos rfl]; exact gT_pure q
  | false => rw [if_neg Bool.false_ne_true]; exact q
theorem gt_and (ha : PT X a (hT c C W fc)) (hb : PW X (.BoolOp .And (b :: rest) pos) (hT c C W fd)) : PW X (.BoolOp .And (a :: b :: rest) pos) (hT c C W (gAn fc fd)) := PWw (pw_and ha hb) fun σ H Q h => (gT_bind h).mono fun x H1 q => by
  cases x with
  | true => rw [if_pos rfl]; exact q
  | false => rw [if_neg Bool.false_ne_true]; exact gT_pure q
theorem gt_not (ha : PT X a (hT c C W fc)) : PT X (.UnaryOp .Not a pos) (hT c C W (gNo fc)) := PTw (pt_not ha) fun σ H Q h => (gT_bind h).mono fun x H1 q => gT_pure q
theorem gt_val (h : PE X a (hE c C W fa)) (he : ∀ whole, isTrue a X.env whole = (do let v ← whole; standAt a.pos; holding [v] (truthy v)) := by intro _; rfl) : PT X a (hT c C W (gVb fa)) := PTw (pt_val h he) fun σ H Q ⟨env, L, m, P, re, ar, f, k⟩ => by
  obtain ⟨P1, f1, k1⟩ := wB_K f k
  refine ⟨env, L, m, P1, re, ar, f1, fun r1 m1 q1 => ?_⟩
  have := k1 r1 m1 q1
  cases r1 with
  | er => exact this
  | ex x e1 => exact this
  | ok v e1 =>
    intro H1 L1 t1 r1' a1 x rx
    obtain ⟨e2, L2, t2, r2, a2, f2, k2⟩ := this H1 L1 t1 r1' a1
    cases v with
    | h _ => exact f2.elim
    | d d =>
      cases d <;> try exact f2.elim
      rename_i b
      have rx : Rep c.K Nw H1 x (.bl b) := rx
      cases rx
      exact ⟨b, rfl, k2 _ _ f2 H1 L2 (.refl H1) r2 a2⟩
end
end DL
namespace DL
open PySem PySem.Spec L2 PyProof.Rows
variable [Wd]
section
variable {c : Cc} {C : Addr} {L L' : Addr → Prop} {σ : L2.St} {env : En} {H H' : Hp} {m : Gt}
theorem RE.alter (h : RE c L σ H env) (S : Addr → Prop) (same : ∀ b o, H b = some o → ¬ S b → H' b = some o) (hS : ∀ b, S b → c.H0 b = none ∧ ((∃ xs ys, H b = some (.lst xs) ∧ L b ∧ H' b = some (.lst ys)) ∨ ∃ D dx fs, H b = some (.ins D dx fs)))
    (l1 : ∀ a, L a → L' a) (l2 : ∀ a, L' a → L a ∨ (H a = none ∧ ∃ xs, H' a = some (.lst xs))) : RE c L' σ H' env ∧ TK H H' := by
  have tk : TK H H' := by
    refine ⟨fun b xs e => same b _ e fun z => ?_, fun b o u e => same b _ e fun z => ?_⟩
    · rcases (hS b z).2 with ⟨_, _, q, _⟩ | ⟨_, _, _, q⟩ <;> (rw [e] at q; cases q)
    · rcases (hS b z).2 with ⟨_, _, q, _⟩ | ⟨_, _, _, q⟩ <;> (rw [e] at q; cases q)
  have g : ∀ a xs, Av L σ env a → H a = some (.lst xs) → Av L' σ env a ∧ H' a = some (.lst xs) := fun a xs av e => by
    refine ⟨⟨fun z => ?_, av.2⟩, same a _ e fun z => ?_⟩
    · rcases l2 a z with z | ⟨z, _⟩
      · exact av.1 z
      · rw [e] at z; cases z
    · rcases (hS a z).2 with ⟨_, _, _, q, _⟩ | ⟨_, _, _, q⟩
      · exact av.1 q
      · rw [e] at q; cases q
  refine ⟨⟨h.len, fun i d e => ?_, fun i io ds e => ?_, h.inj, fun a la => ?_, fun b o n e => ?_, fun a ia => ?_, h.hd⟩, tk⟩
  · obtain ⟨v, e1, r⟩ := h.im i d e
    exact ⟨v, e1, r.mono tk g⟩
  · obtain ⟨a, xs, e1, e2, r, z⟩ := h.own i io ds e
    refine ⟨a, xs, e1, same a _ e2 fun z => ?_, r.mono tk g, z⟩
    rcases (hS a z).2 with ⟨_, _, _, q, _⟩ | ⟨_, _, _, q⟩
    · exact (h.ext a q).1 ⟨i, io, ds, e, e1⟩
    · rw [e2] at q; cases q
  · rcases l2 a la with z | ⟨z, xs, e⟩
    · obtain ⟨n, xs, e⟩ := h.ext a z
      refine ⟨n, ?_⟩
      by_cases s : S a
      · rcases (hS a s).2 with ⟨_, ys, _, _, q⟩ | ⟨_, _, _, q⟩
        · exact ⟨ys, q⟩
        · rw [e] at q; cases q
      · exact ⟨xs, same a _ e s⟩
    · refine ⟨fun ⟨i, io, ds, e1, e2⟩ => ?_, xs, e⟩
      obtain ⟨b, ys, e3, e4, _⟩ := h.own i io ds e1
      rw [e2] at e3
      cases e3
      rw [z] at e4
      cases e4
  · refine same b o (h.fr b o n e) fun z => ?_
    rw [(hS b z).1] at e
    cases e
  · obtain ⟨xs, e⟩ := h.io a ia
    by_cases s : S a
    · rcases (hS a s).2 with ⟨_, ys, _, _, q⟩ | ⟨_, _, _, q⟩
      · exact ⟨ys, q⟩
      · rw [e] at q; cases q
    · exact ⟨xs, same a _ e s⟩
theorem AT.write (r : RE c L σ H env) (ar : AT c C L m H) {a p : Addr} {o : HO} {t t' : Tl} (e : m a = some t) (hp : (p = t.l ∧ ∃ ys, o = .lst ys) ∨ (p = a ∧ ∃ dx fs, o = .ins C dx fs)) (hl : t'.l = t.l) (ht : TK H (upd H p o) → TilAt c.K C (upd H p o) a t') :
    RE c L σ (upd H p o) env ∧ AT c C L (gput m a t') (upd H p o) ∧ TK H (upd H p o) := by
  obtain ⟨dx, v1, v2, xs, h1, h2, _⟩ := (ar.at_ a t e).ex
  obtain ⟨o1, o2, o3⟩ := ar.off a t e
  obtain ⟨r', tk⟩ := r.alter (H' := upd H p o) (L' := L) (fun b => b = p) (fun b u e n => by rw [upd_ne n]; exact e) (fun b z => by
    subst z
    rcases hp with ⟨rfl, ys, rfl⟩ | ⟨rfl, _, _, rfl⟩
    · exact ⟨o3, .inl ⟨xs, ys, h2, o1, upd_same⟩⟩
    · exact ⟨o2, .inr ⟨_, _, _, h1⟩⟩) (fun _ z => z) fun _ z => .inl z
  refine ⟨r', ⟨fun b u eb => ?_, fun b u eb => ?_, fun b b' u u' eb eb' el => ?_⟩, tk⟩
  · by_cases z : b = a
    · subst z
      rw [gput_eq] at eb
      cases eb
      exact ht tk
    · rw [gput_ne m t' z] at eb
      obtain ⟨dy, w1, w2, ys, k1, k2, _⟩ := (ar.at_ b u eb).ex
      have n1 : b ≠ p := by
        rcases hp with ⟨rfl, _⟩ | ⟨rfl, _⟩
        · intro y; rw [y, h2] at k1; cases k1
        · exact z
      have n2 : u.l ≠ p := by
        rcases hp with ⟨rfl, _⟩ | ⟨rfl, _⟩
        · exact fun y => z (ar.inj b a u t eb e y)
        · intro y; rw [y, h1] at k2; cases k2
      exact (ar.at_ b u eb).to tk (upd_ne n1) (upd_ne n2)
  · by_cases z : b = a
    · subst z
      rw [gput_eq] at eb
      cases eb
      rw [hl]
      exact ⟨o1, o2, o3⟩
    · rw [gput_ne m t' z] at eb
      exact ar.off b u eb
  · by_cases z : b = a
    · subst z
      rw [gput_eq] at eb
      cases eb
      by_cases z' : b' = b
      · exact z'.symm
      · rw [gput_ne m t' z'] at eb'
        exact (ar.inj b b' t u' e eb' (hl ▸ el))
    · rw [gput_ne m t' z] at eb
      by_cases z' : b' = a
      · subst z'
        rw [gput_eq] at eb'
        cases eb'
        exact ar.inj b b' u t eb e (el.trans hl)
      · rw [gput_ne m t' z'] at eb'
        exact ar.inj b b' u u' eb eb' el
end
def fldG (f : Str) (t : Tl) : Option D := if f = "_shop" then some t.sh else if f = "_now" then some t.now else none
def hFld (i : Nat) (f : Str) : FW GV := fun env m P => ∃ a t d, env[i]? = some (.hd a) ∧ m a = some t ∧ fldG f t = some d ∧ P (.ok (.d d) env) m
def hLen (i : Nat) : FW GV := fun env m P => ∃ a t, env[i]? = some (.hd a) ∧ m a = some t ∧ P (.ok (.d (.int t.bef.length)) env) m
def hPop (i : Nat) : FW GV := fun env m P => ∃ a t d, env[i]? = some (.hd a) ∧ m a = some t ∧ t.bef[t.bef.length - 1]? = some d ∧ P (.ok (.d d) env) (gput m a { t with bef := t.bef.dropLast })
def hApp (i j : Nat) : FW GV := fun env m P => ∃ a t d, env[i]? = some (.hd a) ∧ m a = some t ∧ env[j]? = some (.im d) ∧ D.flat d = true ∧ t.bef.length < 1000000 ∧ P (.ok (.d .non) env) (gput m a { t with bef := t.bef ++ [d] })
structure ClsT (K : PySem.W.Frag) (C : Addr) : Prop where
  c : Cls K C
  sh : NoAttr K C "_shop"
  nw : NoAttr K C "_now"
  bf : NoAttr K C "_before"
section
variable {X : Cx} {c : Cc} {C : Addr} {W : WX} {pos p apos cpos : Pos} {x : Str} {e o a b value : Expr} {es : List Expr} {fa fb : FW GV} {i : Nat}
theorem he_fld {f : Str} (ct : ClsT X.K C) (h : PE X o (tVar i)) (hb : attributeBase o f X.env (eval o X.env) = eval o X.env := by rfl) (hK : c.K = X.K := by rfl) : PE X (.Attribute o f pos) (hE c C W (hFld i f)) := PEw (pe_fld h hb) fun σ H Q ⟨env, L, m, P, r, ar, ⟨a, t, d, ea, em, ef, f'⟩, k⟩ => by
  refine ⟨_, r.hd i a ea, ?_⟩
  obtain ⟨dx, v1, v2, xs, h1, h2, r1, r2, r3⟩ := (ar.at_ a t em).ex
  unfold fldG at ef
  by_cases z : f = "_shop"
  · subst z
    rw [if_pos rfl] at ef
    cases ef
    exact ⟨a, C, dx, _, v1, rfl, h1, ct.c, ct.sh, rfl, k _ _ f' H L (.refl H) r ar _ r1⟩
  · rw [if_neg z] at ef
    by_cases z2 : f = "_now"
    · subst z2
      rw [if_pos rfl] at ef
      cases ef
      exact ⟨a, C, dx, _, v2, rfl, h1, ct.c, ct.nw, rfl, k _ _ f' H L (.refl H) r ar _ r2⟩
    · rw [if_neg z2] at ef
      cases ef
theorem pe_bef (ct : ClsT X.K C) (h : PE X o (tVar i)) (hb : attributeBase o "_before" X.env (eval o X.env) = eval o X.env := by rfl) : PE X (.Attribute o "_before" pos) (tFld X.K (tVar i) "_before") := pe_fld h hb
theorem bef_K (ct : ClsT X.K C) {σ : L2.St} {H : Hp} {env : En} {L : Addr → Prop} {m : Gt} {a : Addr} {t : Tl} (r : RE c L σ H env) (ar : AT c C L m H) (ea : env[i]? = some (.hd a)) (em : m a = some t) {Q : VK} (q : Q (.ref t.l) H) : tFld X.K (tVar i) "_before" σ H Q := by
  obtain ⟨dx, v1, v2, xs, h1, h2, r1, r2, r3⟩ := (ar.at_ a t em).ex
  exact ⟨_, r.hd i a ea, a, C, dx, _, _, rfl, h1, ct.c, ct.bf, rfl, q⟩
theorem he_len (ct : ClsT X.K C) (h : PE X o (tVar i)) (hg : Gl X "len") (hm : X.mg "len" = none) (hv : bootBuiltins "len" = some (.builtin "len")) (hb : attributeBase o "_before" X.env (eval o X.env) = eval o X.env := by rfl)
    (he : starEach [Expr.Attribute o "_before" pos] X.env = (false, eval (.Attribute o "_before" pos) X.env) :: starEach [] X.env := by rfl) : PE X (.Call (.Name "len" p) [.Attribute o "_before" pos] [] cpos) (hE c C W (hLen i)) := PEw (pe_callB call_lenA hg hm hv (pa_cons (pe_bef ct h hb) pa_nil he) (by decide) (by decide) he (by rfl)) fun σ H Q ⟨env, L, m, P, r, ar, ⟨a, t, ea, em, f⟩, k⟩ => by
  refine bef_K ct r ar ea em ?_
  obtain ⟨dx, v1, v2, xs, h1, h2, r1, r2, r3⟩ := (ar.at_ a t em).ex
  refine .inr ⟨_, xs, rfl, .inl (.inl (.inl h2)), ?_⟩
  have := k _ _ f H L (.refl H) r ar (.int t.bef.length) (.int _)
  rw [r3.length]
  exact this
theorem he_pop (ct : ClsT X.K C) (h : PE X o (tVar i)) (hb : attributeBase o "_before" X.env (eval o X.env) = eval o X.env := by rfl)
    (hbase : attributeBase (.Attribute o "_before" pos) "pop" X.env (eval (.Attribute o "_before" pos) X.env) = eval (.Attribute o "_before" pos) X.env := by rfl) (hline : (apos.endLine == cpos.line) = true := by rfl) (hK : c.K = X.K := by rfl) :
    PE X (.Call (.Attribute (.Attribute o "_before" pos) "pop" apos) [] [] cpos) (hE c C W (hPop i)) := PEw (pe_bm0 PySem.F.plainAttrs_list PySem.F.slot_list_pop PySem.F.type_list_pop mt_pop (pe_bef ct h hb) hbase hline) fun σ H Q ⟨env, L, m, P, r, ar, ⟨a, t, d, ea, em, ed, f⟩, k⟩ => by
  refine bef_K ct r ar ea em ?_
  obtain ⟨dx, v1, v2, xs, h1, h2, r1, r2, r3⟩ := (ar.at_ a t em).ex
  obtain ⟨v, ev, rv⟩ := r3.get ed
  have dl : ∀ {xs : List V} {ds : List D}, Reps c.K Nw H xs ds → Reps c.K Nw H xs.dropLast ds.dropLast := fun {xs ds} h => by
    have := Reps.take (ds.length - 1) h
    rw [List.dropLast_eq_take, List.dropLast_eq_take, h.length]
    exact this
  refine ⟨.inl ⟨rfl, xs, .inl (.inl h2)⟩, t.l, xs, v, rfl, rfl, h2, by rw [r3.length]; exact ev, ?_⟩
  obtain ⟨q1, q2, q3⟩ := ar.write r (a := a) (p := t.l) (o := .lst xs.dropLast) (t' := { t with bef := t.bef.dropLast }) em (.inl ⟨rfl, _, rfl⟩) rfl fun tk => ⟨dx, v1, v2, xs.dropLast, by rw [upd_ne (fun z => by rw [z, h2] at h1; cases h1)]; exact h1, upd_same, r1.to tk, r2.to tk, (dl r3).to tk⟩
  exact k _ _ f _ L q3 q1 q2 v (rv.to q3)
theorem he_app {j : Nat} (ct : ClsT X.K C) (h : PE X o (tVar i)) (he : PE X e (tVar j)) (hb : attributeBase o "_before" X.env (eval o X.env) = eval o X.env := by rfl)
    (hbase : attributeBase (.Attribute o "_before" pos) "append" X.env (eval (.Attribute o "_before" pos) X.env) = eval (.Attribute o "_before" pos) X.env := by rfl)
    (hfew : ((backTo cpos (starEach [e] X.env)).all (fun x => !x.1) && (backToKw cpos (keywordEach [] X.env)).all (fun x => x.1.isSome)
      && decide (([e] : List Expr).length + ([] : List Keyword).length + (if ([] : List Keyword).isEmpty then 0 else 1) < 30)) = true := by rfl)
    (hline : (apos.endLine == cpos.line) = true := by rfl) (hs : starEach [e] X.env = (false, eval e X.env) :: starEach [] X.env := by rfl) (hplain : (backTo cpos (starEach [] X.env)).any (·.1) = false := by rfl) :
    PE X (.Call (.Attribute (.Attribute o "_before" pos) "append" apos) [e] [] cpos) (hE c C W (hApp i j)) := PEw (pe_bm PySem.F.plainAttrs_list PySem.F.slot_list_append PySem.F.type_list_append mt_append (pe_bef ct h hb) (pa_cons he pa_nil hs) hbase hfew hline hs hplain) fun σ H Q ⟨env, L, m, P, r, ar, ⟨a, t, d, ea, em, ed, fd, hl, f⟩, k⟩ => by
  refine bef_K ct r ar ea em ?_
  obtain ⟨dx, v1, v2, xs, h1, h2, r1, r2, r3⟩ := (ar.at_ a t em).ex
  obtain ⟨v, ev, rv⟩ := r.im j d ed
  have rv : Rep c.K Nw H v d := rv.flat fd
  refine ⟨.inl ⟨rfl, xs, .inl (.inl h2)⟩, v, ev, t.l, xs, v, rfl, rfl, h2, by rw [r3.length]; exact Nat.lt_of_lt_of_le hl (line6 (Nat.le_refl _)), ?_⟩
  obtain ⟨q1, q2, q3⟩ := ar.write r (a := a) (p := t.l) (o := .lst (xs ++ [v])) (t' := { t with bef := t.bef ++ [d] }) em (.inl ⟨rfl, _, rfl⟩) rfl fun tk => ⟨dx, v1, v2, xs ++ [v], by rw [upd_ne (fun z => by rw [z, h2] at h1; cases h1)]; exact h1, upd_same, r1.to tk, r2.to tk, Reps.append (r3.to tk) (.cons (rv.to tk) .nil)⟩
  exact k _ _ f _ L q3 q1 q2 .non .non
def gLs (f : FS) : FSw := fun env m P => match f env with
  | .er => False
  | .nx e => P (.nx e) m
  | .bk e => P (.bk e) m
  | .ct e => P (.ct e) m
  | .ex x e => P (.ex x e) m
  | .rt t e => ∃ d, t.weak = .im d ∧ D.flat d = true ∧ P (.rt (.d d) e) m
def hSeq (f g : FSw) : FSw := fun env m P => f env m fun r m1 => match r with
  | .nx e => g e m1 P
  | .er => False
  | r => P r m1
def hIf (ft : FW Bool) (f g : FSw) : FSw := fun env m P => ft env m fun r m1 => match r with
  | .er => False
  | .ex x e => P (.ex x e) m1
  | .ok b e => bif b then f e m1 P else g e m1 P
def hRet (fe : FW GV) : FSw := fun env m P => fe env m fun r m1 => match r with
  | .er => False
  | .ex x e => P (.ex x e) m1
  | .ok v e => P (.rt v e) m1
def hDrop (fe : FW GV) : FSw := fun env m P => fe env m fun r m1 => match r with
  | .er => False
  | .ex x e => P (.ex x e) m1
  | .ok _ e => P (.nx e) m1
def slG : GV → Sl
  | .d d => .im d
  | .h a => .hd a
def hSet (i : Nat) (fe : FW GV) : FSw := fun env m P => fe env m fun r m1 => match r with
  | .er => False
  | .ex x e => P (.ex x e) m1
  | .ok v e => P (.nx (e.set i (slG v))) m1
def putG (f : Str) (d : D) (t : Tl) : Tl := if f = "_now" then { t with now := d } else { t with sh := d }
def hPut (i : Nat) (f : Str) (fe : FW GV) : FSw := fun env m P => fe env m fun r m1 => match r with
  | .er => False
  | .ex x e => P (.ex x e) m1
  | .ok v e => ∃ d a t, v = .d d ∧ e[i]? = some (.hd a) ∧ m1 a = some t ∧ P (.nx e) (gput m1 a (putG f d t))
theorem gs_lift {st : Stmt} {fs : FS} (h : PS X st (dS c W fs)) : PS X st (hS c C W (gLs fs)) := PSw h fun D σ H ⟨env, L, m, P, r, ar, f, k⟩ => by
  refine dS.of r ?_
  unfold gLs at f
  cases q : fs env with
  | er => rw [q] at f; exact f
  | nx e => rw [q] at f; exact fun σ' H' r' s' => k _ _ f σ' H' L (r.tk s') r' (ar.stab r s')
  | bk e => rw [q] at f; exact fun σ' H' r' s' => k _ _ f σ' H' L (r.tk s') r' (ar.stab r s')
  | ct e => rw [q] at f; exact fun σ' H' r' s' => k _ _ f σ' H' L (r.tk s') r' (ar.stab r s')
  | ex x e => rw [q] at f; exact fun σ' H' r' s' => k _ _ f σ' H' L (r.tk s') r' (ar.stab r s')
  | rt t e =>
    rw [q] at f
    obtain ⟨d, w, fl, f⟩ := f
    exact fun v σ' H' r' s' qv => k _ _ f v σ' H' L (r.tk s') r' (ar.stab r s') (flat_nw qv w fl)
theorem gss_nil' : PSs X [] (hS c C W (gLs sNx)) := PSsw pss_nil fun D σ H ⟨env, L, m, P, r, ar, f, k⟩ => k _ _ f σ H L (.refl H) r ar
theorem gss_cons' {st : Stmt} {rest : List Stmt} {f g : FSw} (h1 : PS X st (hS c C W f)) (h2 : PSs X rest (hS c C W g)) : PSs X (st :: rest) (hS c C W (hSeq f g)) := PSsw (pss_cons h1 h2) fun D σ H ⟨env, L, m, P, r, ar, f, k⟩ => by
  refine ⟨env, L, m, _, r, ar, f, fun r1 m1 q => ?_⟩
  cases r1 with
  | er => exact q
  | nx e => exact fun σ' H' L' t' r' a' => ⟨e, L', m1, P, r', a', q, fun r m z => (k r m z).from t'⟩
  | rt v e => exact k _ _ q
  | bk e => exact k _ _ q
  | ct e => exact k _ _ q
  | ex x e => exact k _ _ q
theorem gss_one' {st : Stmt} {f : FSw} (h1 : PS X st (hS c C W f)) : PSs X [st] (hS c C W f) := pss_one h1
theorem gs_if {t : Expr} {ss ts : List Stmt} {ft : FW Bool} {f g : FSw} (hc : PT X t (hT c C W ft)) (ha : PSs X ss (hS c C W f)) (hb : PSs X ts (hS c C W g)) : PS X (.If t ss ts pos) (hS c C W (hIf ft f g)) := PSw (ps_if hc ha hb) fun D σ H ⟨env, L, m, P, r, ar, f, k⟩ => by
  refine ⟨env, L, m, _, r, ar, f, fun r1 m1 q => ?_⟩
  cases r1 with
  | er => exact q
  | ex x e => exact fun H' L' t' r' a' => k _ _ q σ H' L' t' r' a'
  | ok b e =>
    intro H' L' t' r' a'
    cases b with
    | true => rw [if_pos rfl]; exact ⟨e, L', m1, P, r', a', q, fun r m z => (k r m z).from t'⟩
    | false => rw [if_neg Bool.false_ne_true]; exact ⟨e, L', m1, P, r', a', q, fun r m z => (k r m z).from t'⟩
theorem gs_ret (he : PE X e (hE c C W fa)) : PS X (.Return (some e) pos) (hS c C W (hRet fa)) := PSw (ps_ret he) fun D σ H ⟨env, L, m, P, r, ar, f, k⟩ => by
  refine ⟨env, L, m, _, r, ar, f, fun r1 m1 q => ?_⟩
  cases r1 with
  | er => exact q
  | ex x e => exact fun H' L' t' r' a' => k _ _ q σ H' L' t' r' a'
  | ok v e => exact fun H' L' t' r' a' x rx => k _ _ q x σ H' L' t' r' a' rx
theorem gs_expr (he : PE X e (hE c C W fa)) (hs : swapsWith e none pos.line X.env = pure false := by rfl) : PS X (.Expr e pos) (hS c C W (hDrop fa)) := PSw (ps_expr he hs) fun D σ H ⟨env, L, m, P, r, ar, f, k⟩ => by
  refine ⟨env, L, m, _, r, ar, f, fun r1 m1 q => ?_⟩
  cases r1 with
  | er => exact q
  | ex x e => exact fun H' L' t' r' a' => k _ _ q σ H' L' t' r' a'
  | ok v e => exact fun H' L' t' r' a' x rx => k _ _ q σ H' L' t' r' a'
theorem set_K {σ : L2.St} {H : Hp} {env : En} {L : Addr → Prop} {m : Gt} {v : V} {g : GV} (r : RE c L σ H env) (ar : AT c C L m H) (q : RepG c.K H v g) : RE c L (σ.set i (some v)) H (env.set i (slG g)) ∧ AT c C L m H := by
  refine ⟨?_, ar⟩
  cases g with
  | d d =>
    have q : Rep c.K Nw H v d := q
    exact (r.setIm (i := i) q.up).1
  | h a =>
    have q : v = .ref a := q
    subst q
    exact r.setHd.1
theorem gs_set {y : Str} {pos' : Pos} (hN : X.N.Nodup) (hi : X.N[i]? = some y) (hx : Loc X.env.scope y) (he : PE X e (hE c C W fa)) (hs : swapsWith e (some (.Name y pos')) pos.line X.env = pure false := by rfl) (hf : X.fn y = true ∨ X.env.scope.names.lookup y = some .local := by first | exact .inl rfl | exact .inr rfl) :
    PS X (.Assign [.Name y pos'] e pos) (hS c C W (hSet i fa)) := PSw (ps_set hN hi hx he hs hf) fun D σ H ⟨env, L, m, P, r, ar, f, k⟩ => by
  refine ⟨env, L, m, _, r, ar, f, fun r1 m1 q => ?_⟩
  cases r1 with
  | er => exact q
  | ex x e => exact fun H' L' t' r' a' => k _ _ q σ H' L' t' r' a'
  | ok v e =>
    intro H' L' t' r' a' x rx
    obtain ⟨z1, z2⟩ := set_K (i := i) r' a' rx
    exact k _ _ q _ H' L' t' z1 z2
theorem gs_put {f : Str} {tpos : Pos} (ct : ClsT X.K C) (h : PE X o (tVar i)) (hv : PE X value (hE c C W fa)) (hf : f = "_now" ∨ f = "_shop") (hs : swapsWith value (some (.Attribute o f tpos)) pos.line X.env = pure false := by rfl) : PS X (.Assign [.Attribute o f tpos] value pos) (hS c C W (hPut i f fa)) := PSw (ps_fld h hv hs) fun D σ H ⟨env, L, m, P, r, ar, f', k⟩ => by
  refine ⟨env, L, m, _, r, ar, f', fun r1 m1 q => ?_⟩
  cases r1 with
  | er => exact q
  | ex x e => exact fun H' L' t' r' a' => k _ _ q σ H' L' t' r' a'
  | ok v e =>
    intro H' L' t' r' a' y ry
    obtain ⟨d, a, t, rfl, ea, em, q⟩ := q
    refine ⟨_, r'.hd i a ea, ?_⟩
    obtain ⟨dx, v1, v2, xs, h1, h2, w1, w2, w3⟩ := (a'.at_ a t em).ex
    have ry : Rep c.K Nw H' y d := ry
    rcases hf with rfl | rfl
    · refine ⟨a, C, dx, _, rfl, h1, ct.c, ct.nw, by simp, ?_⟩
      have ep : putF "_now" y (tlF v1 v2 t.l) = tlF v1 y t.l := by
        have n : ¬ ("_shop" : Str) = "_now" := by decide +kernel
        unfold tlF
        rw [putF, if_neg n, putF, if_pos rfl]
      rw [ep]
      obtain ⟨q1, q2, q3⟩ := a'.write r' (a := a) (p := a) (o := .ins C dx (tlF v1 y t.l)) (t' := putG "_now" d t) em (.inr ⟨rfl, _, _, rfl⟩) rfl fun tk => ⟨dx, v1, y, xs, upd_same, by show upd H' a _ t.l = _; rw [upd_ne (fun z => by rw [← z, h2] at h1; cases h1)]; exact h2, w1.to tk, ry.to tk, w3.to tk⟩
      exact k _ _ q σ _ L' (t'.trans q3) q1 q2
    · refine ⟨a, C, dx, _, rfl, h1, ct.c, ct.sh, by simp, ?_⟩
      have ep : putF "_shop" y (tlF v1 v2 t.l) = tlF y v2 t.l := by simp [putF]
      rw [ep]
      obtain ⟨q1, q2, q3⟩ := a'.write r' (a := a) (p := a) (o := .ins C dx (tlF y v2 t.l)) (t' := putG "_shop" d t) em (.inr ⟨rfl, _, _, rfl⟩) rfl fun tk => ⟨dx, y, v2, xs, upd_same, by show upd H' a _ t.l = _; rw [upd_ne (fun z => by rw [← z, h2] at h1; cases h1)]; exact h2, ry.to tk, w2.to tk, w3.to tk⟩
      exact k _ _ q σ _ L' (t'.trans q3) q1 q2
end
end DL
namespace DL
open PySem PySem.Spec L2 PyProof.Rows
variable [Wd]
inductive Go where
  | ok (v : GV) | ex (x : Str)
abbrev FDT := List GV → Gt → (Go → Gt → Prop) → Prop
def Tch (m : Gt) (b : Addr) : Prop := (∃ t, m b = some t) ∨ ∃ a t, m a = some t ∧ t.l = b
def Ext (m m' : Gt) : Prop := ∀ a t, m a = some t → ∃ t', m' a = some t' ∧ t'.l = t.l
theorem Ext.refl (m : Gt) : Ext m m := fun a t e => ⟨t, e, rfl⟩
theorem Ext.trans {m m1 m2 : Gt} (a : Ext m m1) (b : Ext m1 m2) : Ext m m2 := fun x t e => by
  obtain ⟨t1, e1, l1⟩ := a x t e
  obtain ⟨t2, e2, l2⟩ := b x t1 e1
  exact ⟨t2, e2, l2.trans l1⟩
theorem Ext.put {m : Gt} {a : Addr} {t t' : Tl} (e : m a = some t) (l : t'.l = t.l) : Ext m (gput m a t') := fun b u eb => by
  by_cases z : b = a
  · subst z
    rw [e] at eb
    cases eb
    exact ⟨t', gput_eq _ _ _, l⟩
  · exact ⟨u, (gput_ne m t' z).trans eb, rfl⟩
open Classical in
noncomputable def Hoff (H : Hp) (m : Gt) : Hp := fun b => if Tch m b then none else H b
theorem Hoff_t {H : Hp} {m : Gt} {b : Addr} (h : Tch m b) : Hoff H m b = none := by
  classical
  unfold Hoff
  rw [if_pos h]
theorem Hoff_n {H : Hp} {m : Gt} {b : Addr} (h : ¬ Tch m b) : Hoff H m b = H b := by
  classical
  unfold Hoff
  rw [if_neg h]
noncomputable abbrev ccT (K : PySem.W.Frag) (mg : Str → Option Value) (H : Hp) (m : Gt) (vs : List V) : Cc := ⟨K, mg, Hoff H m, fun _ => False, vs⟩
def spT (K : PySem.W.Frag) (mg : Str → Option Value) (C : Addr) (g : FDT) : Sp := fun vs H Q E => ∃ gs L m P, RepGs K H vs gs ∧ AT (ccT K mg H m vs) C L m H ∧ (∀ a, L a → ∃ xs, H a = some (.lst xs)) ∧ g gs m P ∧ ∀ r m', P r m' → match r with
  | .ok v => ∀ x H' L', (∀ b o, H b = some o → ¬ Tch m b → H' b = some o) → AT (ccT K mg H m vs) C L' m' H' → RepG K H' x v → Q x H'
  | .ex x => ∀ H' L', (∀ b o, H b = some o → ¬ Tch m b → H' b = some o) → AT (ccT K mg H m vs) C L' m' H' → ∀ C', mg x = some (.ref C') → E (.ref C') none H'
def runT (p n : Nat) (f : FSw) : FDT := fun gs m P => gs.length = p ∧ f (padE n (gs.map slG)) m fun r m' => match r with
  | .nx _ => P (.ok (.d .non)) m'
  | .rt v _ => P (.ok v) m'
  | .ex x _ => P (.ex x) m'
  | _ => False
section
variable {K : PySem.W.Frag} {mg : Str → Option Value} {C : Addr} {H : Hp} {m : Gt} {vs : List V} {gs : List GV} {L : Addr → Prop}
theorem RepGs.length : ∀ {vs gs}, RepGs K H vs gs → vs.length = gs.length
  | _, _, .nil => rfl
  | _, _, .cons _ rs => congrArg (· + 1) (RepGs.length rs)
theorem RepGs.get : ∀ {vs gs} {i : Nat} {g : GV}, RepGs K H vs gs → gs[i]? = some g → ∃ v, vs[i]? = some v ∧ RepG K H v g
  | _, _, i, g, .nil, e => by simp at e
  | _, _, 0, g, .cons r rs, e => by cases e; exact ⟨_, rfl, r⟩
  | _, _, i + 1, g, .cons r rs, e => RepGs.get (i := i) rs (by simpa using e)
theorem no_own_G {σ : L2.St} (b : Addr) : ¬ ownM σ (gs.map slG) b := fun ⟨i, io, es, e1, _⟩ => by
  rw [List.getElem?_map] at e1
  obtain ⟨g, _, e⟩ := Option.map_eq_some_iff.mp e1
  cases g <;> cases e
theorem RE.enterT (r : RepGs K H vs gs) (ext : ∀ a, L a → ∃ xs, H a = some (.lst xs)) : RE (ccT K mg H m vs) L (vs.map some) H (gs.map slG) where
  len := by rw [List.length_map, List.length_map, r.length]
  im := fun i d e => by
    rw [List.getElem?_map] at e
    obtain ⟨g, eg, e2⟩ := Option.map_eq_some_iff.mp e
    obtain ⟨v, ev, rv⟩ := r.get eg
    cases g with
    | h _ => cases e2
    | d x =>
      cases e2
      have rv : Rep K Nw H v d := rv
      exact ⟨v, by rw [List.getElem?_map, ev]; rfl, rv.up⟩
  own := fun i io es e => by
    rw [List.getElem?_map] at e
    obtain ⟨g, eg, e2⟩ := Option.map_eq_some_iff.mp e
    cases g <;> cases e2
  inj := fun i j io jo es fs a e => by
    rw [List.getElem?_map] at e
    obtain ⟨g, eg, e2⟩ := Option.map_eq_some_iff.mp e
    cases g <;> cases e2
  ext := fun a la => ⟨no_own_G a, ext a la⟩
  fr := fun b o _ e => by
    by_cases z : Tch m b
    · rw [show (ccT K mg H m vs).H0 b = none from Hoff_t z] at e; cases e
    · rw [show (ccT K mg H m vs).H0 b = H b from Hoff_n z] at e; exact e
  io := fun a z => z.elim
  hd := fun i a e => by
    rw [List.getElem?_map] at e
    obtain ⟨g, eg, e2⟩ := Option.map_eq_some_iff.mp e
    obtain ⟨v, ev, rv⟩ := r.get eg
    cases g with
    | d _ => cases e2
    | h b =>
      cases e2
      have rv : v = .ref a := rv
      rw [List.getElem?_map, ev, rv]
      rfl
variable {P : Program} {w : World} {base : Heap}
theorem fn_okT {x qual : Str} {st : Stmt} {f : Addr} {fd : FuncData} {N ps : List Str} {k n p : Nat} {g : FSw} (F : Fun K x qual st f fd) (S : FnScope N ps (defScope st)) (hn : N.length = n) (hp : ps.length = p)
    (hb : ∀ (cdv : Value) (A : Around) (outer : List Env) (s : Shared) (H : Hp) (m : Gt) (vs : List V) (E : XK), Room k (A.deeper (PyProof.Rows.envOfC qual (defScope st) s.heap.objs.size f cdv)) →
      PSs (cxOf (L2.CX P w) P w K mg base N qual (defScope st) f cdv A outer s H E) (defBody st) (hS (ccT K mg H m vs) C (fun cls d _ H => E cls d H) g)) :
    FnOk P w K mg base (L2.CX P w) (k + 1) f fd ps (spT K mg C (runT p n g)) := by
  have len : ∀ (vs : List V) (H : Hp) (Q : VK) (E : XK), spT K mg C (runT p n g) vs H Q E → vs.length = p := fun vs H Q E ⟨gs, L, m, P, r, _, _, h, _⟩ => r.length.trans h.1
  refine F.okX S (fun vs H Q E h => (len vs H Q E h).trans hp.symm) fun cdv A outer s H vs Q E hr h => ?_
  obtain ⟨gs, L, m, P, r, ar, ext, ⟨hl, hf⟩, kk⟩ := h
  refine ⟨_, hb cdv A outer s H m vs E hr, padE n (gs.map slG), L, m, _, (RE.enterT r ext).pad hn (by rw [List.length_map, r.length]), ar, hf, fun r' m' q => ?_⟩
  have frame : ∀ {σ' : L2.St} {H' : Hp} {L' : Addr → Prop} {e : En}, RE (ccT K mg H m vs) L' σ' H' e → ∀ b o, H b = some o → ¬ Tch m b → H' b = some o := fun re b o e n => re.fr b o (fun z => z) ((Hoff_n n).trans e)
  cases r' with
  | er => exact q.elim
  | bk e => exact q.elim
  | ct e => exact q.elim
  | nx e => exact fun σ' H' L' _ re a' => kk _ _ q .non H' L' (frame re) a' .non
  | rt v e => exact fun y σ' H' L' _ re a' ry => kk _ _ q y H' L' (frame re) a' ry
  | ex y e => exact fun σ' H' L' _ re a' C' hC => kk _ _ q H' L' (frame re) a' C' hC
theorem law_okT {k f : _} {fd : FuncData} {x : Str} {g : FDT} (F : FnOk P w K mg base (L2.CX P w) k f fd [x] (spT K mg C g)) (h : ∀ ns : List Int, ns.length ≤ 63 → g [.d (.fz (ns.map D.int))] (fun _ => none) fun r _ => r = .ok (.d (.bl true))) : FnOk P w K mg base (L2.CX P w) k f fd [x] (spLaw K) :=
  F.imp fun vs H Q E ⟨a, ns, ev, hl, hz, kk⟩ => by
    subst ev
    refine ⟨_, fun _ => False, fun _ => none, _, .cons (g := .d (.fz (ns.map D.int))) (show Rep K Nw H (.ref a) (.fz (ns.map D.int)) from .fz hz (Reps.of_ints ns)) .nil, AT.empty, fun a z => z.elim, h ns hl, fun r m' e => ?_⟩
    subst e
    intro y H' L' _ _ ry
    have ry : Rep K Nw H' y (.bl true) := ry
    cases ry
    exact kk H'
end
section
variable {c : Cc} {C : Addr} {L L' : Addr → Prop} {σ : L2.St} {env : En} {H H' : Hp} {m m' : Gt} {vs : List V}
theorem AT.hand (re : RE c L σ H env) (ar : AT c C L m H) : AT (ccT c.K c.mg H m vs) C L m H :=
  ⟨ar.at_, fun a t e => ⟨(ar.off a t e).1, Hoff_t (.inl ⟨t, e⟩), Hoff_t (.inr ⟨a, t, e, rfl⟩)⟩, ar.inj⟩
theorem AT.back (re : RE c L σ H env) (ar : AT c C L m H) (ext : Ext m m') (fr : ∀ b o, H b = some o → ¬ Tch m b → H' b = some o) (a' : AT (ccT c.K c.mg H m vs) C L' m' H') : ∃ L2, RE c L2 σ H' env ∧ AT c C L2 m' H' ∧ TK H H' := by
  -- an old instance's address is no list's, and the other way round
  have old : ∀ b t', m' b = some t' → (∃ t, m b = some t ∧ t'.l = t.l) ∨ (m b = none ∧ H b = none ∧ H t'.l = none) := fun b t' e => by
    cases em : m b with
    | some t =>
      obtain ⟨t2, e2, l2⟩ := ext b t em
      rw [e] at e2
      cases e2
      exact .inl ⟨t, rfl, l2⟩
    | none =>
      refine .inr ⟨rfl, ?_, ?_⟩
      · have h0 := (a'.off b t' e).2.1
        by_cases z : Tch m b
        · rcases z with ⟨t, z⟩ | ⟨a, t, z, zl⟩
          · rw [em] at z; cases z
          · obtain ⟨t2, e2, l2⟩ := ext a t z
            obtain ⟨_, _, _, _, k1, _⟩ := (a'.at_ b t' e).ex
            obtain ⟨_, _, _, _, _, k2, _⟩ := (a'.at_ a t2 e2).ex
            rw [l2, zl, k1] at k2
            cases k2
        · exact (Hoff_n z).symm.trans h0
      · have h0 := (a'.off b t' e).2.2
        by_cases z : Tch m t'.l
        · rcases z with ⟨t, z⟩ | ⟨a, t, z, zl⟩
          · obtain ⟨t2, e2, l2⟩ := ext _ t z
            obtain ⟨_, _, _, _, k1, _⟩ := (a'.at_ _ t2 e2).ex
            obtain ⟨_, _, _, _, _, k2, _⟩ := (a'.at_ b t' e).ex
            rw [k1] at k2
            cases k2
          · obtain ⟨t2, e2, l2⟩ := ext a t z
            have := a'.inj a b t2 t' e2 e (l2.trans zl)
            subst this
            rw [em] at z
            cases z
        · exact (Hoff_n z).symm.trans h0
  obtain ⟨r2, tk⟩ := re.alter (H' := H') (L' := fun a => L a ∨ ∃ b t, m' b = some t ∧ t.l = a) (Tch m) fr (fun b z => by
    rcases z with ⟨t, z⟩ | ⟨a, t, z, rfl⟩
    · obtain ⟨_, _, _, _, k1, _⟩ := (ar.at_ b t z).ex
      exact ⟨(ar.off b t z).2.1, .inr ⟨_, _, _, k1⟩⟩
    · obtain ⟨_, _, _, xs, _, k2, _⟩ := (ar.at_ a t z).ex
      obtain ⟨t2, e2, l2⟩ := ext a t z
      obtain ⟨_, _, _, ys, _, k3, _⟩ := (a'.at_ a t2 e2).ex
      rw [l2] at k3
      exact ⟨(ar.off a t z).2.2, .inl ⟨xs, ys, k2, (ar.off a t z).1, k3⟩⟩) (fun a z => .inl z) fun a z => by
    rcases z with z | ⟨b, t', e, rfl⟩
    · exact .inl z
    · rcases old b t' e with ⟨t, em, el⟩ | ⟨_, _, hn⟩
      · rw [el]
        exact .inl (ar.off b t em).1
      · obtain ⟨_, _, _, ys, _, k3, _⟩ := (a'.at_ b t' e).ex
        exact .inr ⟨hn, ys, k3⟩
  refine ⟨_, r2, ⟨a'.at_, fun b t' e => ?_, a'.inj⟩, tk⟩
  refine ⟨.inr ⟨b, t', e, rfl⟩, ?_⟩
  rcases old b t' e with ⟨t, em, el⟩ | ⟨_, h1, h2⟩
  · rw [el]
    exact (ar.off b t em).2
  · exact ⟨re.h0 h1, re.h0 h2⟩
end
def gCl (g : FDT) (vs : List GV) : FW GV := fun env m P => g vs m fun r m' => Ext m m' ∧ match r with
  | .ok v => P (.ok v env) m'
  | .ex x => P (.ex x env) m'
section
variable {X : Cx} {c : Cc} {C : Addr} {W : WX} {pos p apos : Pos} {x mn : Str} {e o : Expr} {es : List Expr} {fa : FW (List GV)} {fo : FW GV} {g : FDT} {k i : Nat} {f : Addr} {fd : FuncData} {ps : List Str}
theorem cl_K {σ : L2.St} {H : Hp} {env : En} {L : Addr → Prop} {m : Gt} {vs : List V} {gs : List GV} {P : Gr GV → Gt → Prop} {Q : VK} (re : RE c L σ H env) (ar : AT c C L m H) (r : RepGs c.K H vs gs) (f : gCl g gs env m P)
    (k : ∀ r m', P r m' → hK c C W σ H r m' fun v H' => ∀ x, RepG c.K H' x v → Q x H') : spT c.K c.mg C g vs H Q (WE W σ) := by
  refine ⟨gs, L, m, _, r, ar.hand re, fun a z => (re.ext a z).2, f, fun r m' ⟨ex, q⟩ => ?_⟩
  cases r with
  | ok v =>
    intro y H' L' fr a' ry
    obtain ⟨L2, r2, a2, tk⟩ := ar.back re ex fr a'
    exact k _ _ q H' L2 tk r2 a2 y ry
  | ex z =>
    intro H' L' fr a' C' hC
    obtain ⟨L2, r2, a2, tk⟩ := ar.back re ex fr a'
    exact k _ _ q H' L2 tk r2 a2 C' hC
theorem he_callT (F : FnOk X.prog X.w X.K X.mg X.base (L2.CX X.prog X.w) k f fd ps (spT X.K X.mg C g)) (hr : Room k X.A) (hg : Gl X x) (hm : X.mg x = some (.ref f)) (hk : PySem.W.keepIn X.K (.ref f) = true) (hb : Binds X.K fd ps []) (tk : Takes X W)
    (ha : PA X (e :: es) (hA c C W fa)) (hK : c.K = X.K := by rfl) (hM : c.mg = X.mg := by rfl) (hdb : (x == ("__debug__" : Str)) = false := by decide) (he : starEach (e :: es) X.env = (false, eval e X.env) :: starEach es X.env := by rfl) (hpl : (backTo pos (starEach es X.env)).any (·.1) = false := by rfl) :
    PE X (.Call (.Name x p) (e :: es) [] pos) (hE c C W (wB fa (gCl g))) :=
  PEw (pe_callS F hr hg hm hk hb (fun σ => passAt tk σ) ha hdb he hpl) fun σ H Q ⟨env, L, m, P, re, ar, f, k⟩ => by
    obtain ⟨P1, f1, k1⟩ := wB_K f k
    refine ⟨env, L, m, P1, re, ar, f1, fun r1 m1 q1 => ?_⟩
    have := k1 r1 m1 q1
    cases r1 with
    | er => exact this
    | ex y e1 => exact this
    | ok vs e1 =>
      intro H1 L1 t1 r1' a1 xs rxs
      obtain ⟨e2, L2, t2, r2, a2, f2, k2⟩ := this H1 L1 t1 r1' a1
      rw [← hK, ← hM]
      exact cl_K r2 a2 rxs f2 k2
def gCd (g : FD) (vs : List GV) : FW GV := fun env m P => match gDs vs with
  | none => False
  | some ds => match g (ds.map .im) with
    | .er => False
    | .ex x _ => P (.ex x env) m
    | .ok t _ => ∃ d, t.weak = .im d ∧ D.flat d = true ∧ P (.ok (.d d) env) m
theorem he_callD {g : FD} (F : FnOk X.prog X.w X.K X.mg X.base (L2.CX X.prog X.w) k f fd ps (spD X.K X.mg g)) (hr : Room k X.A) (hg : Gl X x) (hm : X.mg x = some (.ref f)) (hk : PySem.W.keepIn X.K (.ref f) = true) (hb : Binds X.K fd ps []) (tk : Takes X W)
    (ha : PA X (e :: es) (hA c C W fa)) (hK : c.K = X.K := by rfl) (hM : c.mg = X.mg := by rfl) (hdb : (x == ("__debug__" : Str)) = false := by decide) (he : starEach (e :: es) X.env = (false, eval e X.env) :: starEach es X.env := by rfl) (hpl : (backTo pos (starEach es X.env)).any (·.1) = false := by rfl) :
    PE X (.Call (.Name x p) (e :: es) [] pos) (hE c C W (wB fa (gCd g))) :=
  PEw (pe_callS F hr hg hm hk hb (fun σ => passAt tk σ) ha hdb he hpl) fun σ H Q ⟨env, L, m, P, re, ar, f, k⟩ => by
    obtain ⟨P1, f1, k1⟩ := wB_K f k
    refine ⟨env, L, m, P1, re, ar, f1, fun r1 m1 q1 => ?_⟩
    have := k1 r1 m1 q1
    cases r1 with
    | er => exact this
    | ex y e1 => exact this
    | ok vs e1 =>
      intro H1 L1 t1 r1' a1 xs rxs
      obtain ⟨e2, L2, t2, r2, a2, f2, k2⟩ := this H1 L1 t1 r1' a1
      rw [← hK, ← hM]
      unfold gCd at f2
      cases ed : gDs vs with
      | none => rw [ed] at f2; exact f2.elim
      | some ds =>
        rw [ed] at f2
        dsimp only at f2
        have rds := gDs_reps rxs ed
        have ext : ∀ a, (L2 a ∨ ownM σ e2 a) → ∃ xs, H1 a = some (.lst xs) := fun a z => by
          rcases z with z | ⟨i, io, es, w1, w2⟩
          · exact (r2.ext a z).2
          · obtain ⟨b, ys, w3, w4, _⟩ := r2.own i io es w1
            rw [w2] at w3
            cases w3
            exact ⟨ys, w4⟩
        refine ⟨ds.map .im, fun a => L2 a ∨ ownM σ e2 a, RE.enter rds.up ext, ?_⟩
        have grow : ∀ {H' : Hp} {out : En}, RE (cc0 c.K c.mg H1 xs (ds.map .im)) (fun a => L2 a ∨ ownM σ e2 a) (xs.map some) H' out → ∀ b o, H1 b = some o → H' b = some o := fun {H' out} r b o e => r.fr b o (no_own_im b) e
        cases eg : g (ds.map .im) with
        | er => rw [eg] at f2; exact f2.elim
        | ex y out =>
          rw [eg] at f2
          intro H' rr C' hC
          have s' : Stp σ e2 H1 σ e2 H' := .grow (grow rr)
          exact k2 _ _ f2 H' L2 (r2.tk s') (r2.grow (grow rr)) (a2.stab r2 s') C' hC
        | ok t out =>
          rw [eg] at f2
          obtain ⟨d, w, fl, f2⟩ := f2
          intro v H' rr qt
          have s' : Stp σ e2 H1 σ e2 H' := .grow (grow rr)
          exact k2 _ _ f2 H' L2 (r2.tk s') (r2.grow (grow rr)) (a2.stab r2 s') v (flat_nw (c := cc0 c.K c.mg H1 xs (ds.map .im)) qt w fl)
end
end DL
namespace DL
open PySem PySem.Spec L2 PyProof.Rows
variable [Wd]
section
variable {X : Cx} {CX : CXT} {c : Cc} {C f : Addr} {W : WX} {pos p apos : Pos} {x mn : Str} {e o a b : Expr} {es : List Expr} {fa fb : FW GV} {fs : FW (List GV)} {g : FDT} {k i : Nat} {fd : FuncData} {ps : List Str} {ta : TE} {t : TA} {sp : Sp} {E : L2.St → XK}
theorem pe_methT {pl : Sem Bool} (he : PE X o ta) (c : Cls X.K C) (hm : Meth X.K C mn f) (F : FnOk X.prog X.w X.K X.mg X.base CX k f fd ps sp) (hr : Room k X.A) (hb : Binds X.K fd ps []) (hx : ∀ σ, PassesAt CX X σ (E σ)) (ha : PA X (e :: es) t)
    (hst : starEach (e :: es) X.env = (false, eval e X.env) :: starEach es X.env := by rfl) (hpl : (backTo pos (starEach es X.env)).any (·.1) = false := by rfl)
    (ht : eval (.Call (.Attribute o mn apos) (e :: es) [] pos) X.env = (do
      let ov ← eval o X.env
      standAt apos.atName
      let (f, first) ← holding [ov] (getMethod ov mn pl)
      callWith pos f first (backTo pos (starEach (e :: es) X.env)) (backToKw pos (keywordEach [] X.env))) := by rfl) :
    PE X (.Call (.Attribute o mn apos) (e :: es) [] pos) (L2H.tMethH C mn sp E ta t) := by
  refine ⟨fun pins s σ H Q I h => ?_⟩
  refine PySem.W.methodCall_KW (pl := pl) (thn (he.run pins s σ H _ I h) fun u s1 ⟨x, H1, I1, rx, a, dx, fs, ex, ea, l, q⟩ => ?_) ht
  subst ex
  obtain rfl : u = Value.ref a := rx
  refine getmeth_ok I1 ea c hm l ?_
  refine PySem.W.callWith_K (first := [.ref a]) (h₀ := X.base) I.ok.mod.kin hm.kp (thn (ha.run pos pins s1 σ H1 _ I1 q) fun us s2 ⟨vs, H2, I2, r, q2⟩ => ⟨I2.kIn, ?_⟩) hst hpl
  exact run_fnS (us := .ref a :: us) (vs := .ref a :: vs) F hr hb (hx σ) I2 (.cons rfl r) q2
theorem pe_methT0 {pl : Sem Bool} (he : PE X o ta) (c : Cls X.K C) (hm : Meth X.K C mn f) (F : FnOk X.prog X.w X.K X.mg X.base CX k f fd ps sp) (hr : Room k X.A) (hb : Binds X.K fd ps []) (hx : ∀ σ, PassesAt CX X σ (E σ))
    (ht : eval (.Call (.Attribute o mn apos) [] [] pos) X.env = (do
      let ov ← eval o X.env
      standAt apos.atName
      let (f, first) ← holding [ov] (getMethod ov mn pl)
      callWith pos f first (backTo pos (starEach [] X.env)) (backToKw pos (keywordEach [] X.env))) := by rfl) :
    PE X (.Call (.Attribute o mn apos) [] [] pos) (L2H.tMethH C mn sp E ta tNil) := by
  refine ⟨fun pins s σ H Q I h => ?_⟩
  refine PySem.W.methodCall_KW (pl := pl) (thn (he.run pins s σ H _ I h) fun u s1 ⟨x, H1, I1, rx, a, dx, fs, ex, ea, l, q⟩ => ?_) ht
  subst ex
  obtain rfl : u = Value.ref a := rx
  refine getmeth_ok I1 ea c hm l ?_
  exact PySem.W.callWith_K0 (first := [.ref a]) I1.kIn hm.kp (run_fnS (us := [.ref a]) (vs := [.ref a]) F hr hb (hx σ) I1 (.cons rfl .nil) q)
def noSl (m : Str) : Bool := (m != "_shop") && (m != "_now") && (m != "_before")
theorem noSl_at {m : Str} (h : noSl m = true) (v1 v2 : V) (l : Addr) : (tlF v1 v2 l).lookup m = none := by
  unfold noSl at h
  simp only [Bool.and_eq_true, bne_iff_ne, ne_eq] at h
  obtain ⟨⟨h1, h2⟩, h3⟩ := h
  unfold tlF
  rw [List.lookup_cons, beq_false_of_ne h1, List.lookup_cons, beq_false_of_ne h2, List.lookup_cons, beq_false_of_ne h3]
  rfl
def gMe (i : Nat) (fs : FW (List GV)) (g : FDT) : FW GV := fun env m P => ∃ a, env[i]? = some (.hd a) ∧ (∃ t, m a = some t) ∧ wB fs (fun vs => gCl g (.h a :: vs)) env m P
theorem he_meth {pl : Sem Bool} (ho : PE X o (tVar i)) (ct : ClsT X.K C) (hm : Meth X.K C mn f) (F : FnOk X.prog X.w X.K X.mg X.base (L2.CX X.prog X.w) k f fd ps (spT X.K X.mg C g)) (hr : Room k X.A) (hb : Binds X.K fd ps []) (tk : Takes X W) (ha : PA X (e :: es) (hA c C W fs)) (hn : noSl mn = true)
    (hK : c.K = X.K := by rfl) (hM : c.mg = X.mg := by rfl)
    (hst : starEach (e :: es) X.env = (false, eval e X.env) :: starEach es X.env := by rfl) (hpl : (backTo pos (starEach es X.env)).any (·.1) = false := by rfl)
    (ht : eval (.Call (.Attribute o mn apos) (e :: es) [] pos) X.env = (do
      let ov ← eval o X.env
      standAt apos.atName
      let (f, first) ← holding [ov] (getMethod ov mn pl)
      callWith pos f first (backTo pos (starEach (e :: es) X.env)) (backToKw pos (keywordEach [] X.env))) := by rfl) :
    PE X (.Call (.Attribute o mn apos) (e :: es) [] pos) (hE c C W (gMe i fs g)) :=
  PEw (pe_methT (pl := pl) (E := WE W) ho ct.c hm F hr hb (fun σ => passAt tk σ) ha hst hpl ht) fun σ H Q ⟨env, L, m, P, re, ar, ⟨a, ea, ⟨t, et⟩, f⟩, k⟩ => by
    obtain ⟨dx, v1, v2, xs, h1, h2, _⟩ := (ar.at_ a t et).ex
    refine ⟨_, re.hd i a ea, a, dx, _, rfl, h1, noSl_at hn v1 v2 t.l, ?_⟩
    obtain ⟨P1, f1, k1⟩ := wB_K f k
    refine ⟨env, L, m, P1, re, ar, f1, fun r1 m1 q1 => ?_⟩
    have := k1 r1 m1 q1
    cases r1 with
    | er => exact this
    | ex y e1 => exact this
    | ok vs e1 =>
      intro H1 L1 t1 r1' a1 xs rxs
      obtain ⟨e2, L2, t2, r2, a2, f2, k2⟩ := this H1 L1 t1 r1' a1
      rw [← hK, ← hM]
      exact cl_K r2 a2 (RepGs.cons (g := .h a) rfl rxs) f2 k2
theorem he_meth0 {pl : Sem Bool} (ho : PE X o (tVar i)) (ct : ClsT X.K C) (hm : Meth X.K C mn f) (F : FnOk X.prog X.w X.K X.mg X.base (L2.CX X.prog X.w) k f fd ps (spT X.K X.mg C g)) (hr : Room k X.A) (hb : Binds X.K fd ps []) (tk : Takes X W) (hn : noSl mn = true)
    (hK : c.K = X.K := by rfl) (hM : c.mg = X.mg := by rfl)
    (ht : eval (.Call (.Attribute o mn apos) [] [] pos) X.env = (do
      let ov ← eval o X.env
      standAt apos.atName
      let (f, first) ← holding [ov] (getMethod ov mn pl)
      callWith pos f first (backTo pos (starEach [] X.env)) (backToKw pos (keywordEach [] X.env))) := by rfl) :
    PE X (.Call (.Attribute o mn apos) [] [] pos) (hE c C W (gMe i gNil' g)) :=
  PEw (pe_methT0 (pl := pl) (E := WE W) ho ct.c hm F hr hb (fun σ => passAt tk σ) ht) fun σ H Q ⟨env, L, m, P, re, ar, ⟨a, ea, ⟨t, et⟩, f⟩, k⟩ => by
    obtain ⟨dx, v1, v2, xs, h1, h2, _⟩ := (ar.at_ a t et).ex
    refine ⟨_, re.hd i a ea, a, dx, _, rfl, h1, noSl_at hn v1 v2 t.l, ?_⟩
    rw [← hK, ← hM]
    exact cl_K (vs := [.ref a]) (gs := [.h a]) re ar (RepGs.cons (g := .h a) rfl .nil) f k
theorem ge_ix (ha : PE X a (hE c C W fa)) (hb : PE X b (hE c C W fb)) (hs : PlainIx b) (hK : c.K = X.K := by rfl) : PE X (.Subscript a b pos) (hE c C W (gOp2 dIx fa fb)) := PEw (pe_ix ix_seq ha hb hs) (by rw [← hK]; exact ge_two d_ix)
end
end DL
namespace DL
open PySem PySem.Spec L2 PyProof.Rows
variable [Wd]
abbrev NoX : XK := fun _ _ _ => False
section
variable {X : Cx} {c : Cc} {C f : Addr} {W : WX} {pos p apos : Pos} {x mn : Str} {e o a b : Expr} {es : List Expr} {fa fb : FW GV} {fs : FW (List GV)} {g : FDT} {k i : Nat} {fd : FuncData} {ps : List Str} {ta : TE} {t : TA} {sp : Sp} {E : L2.St → XK}
end
end DL
namespace DL
open PySem PySem.Spec L2 PyProof.Rows
variable [Wd]
def hTry (i : Nat) (f : FSw) : FSw := fun env m P => f env m fun r m1 => match r with
  | .er => False
  | .ex x e => i < e.length ∧ ∃ j : Nat, xn.idxOf? x = some j ∧ P (.rt (.d (.tup [.str "raised", .int (j : Nat)])) e) m1
  | r => P r m1
section
variable {X : Cx} {c : Cc} {C : Addr} {Wout : WX} {n : Str} {i k : Nat} {body : List Stmt} {np pos pos' q1 q2 q3 q4 : Pos} {f : FSw} {P a : Addr} {cs : List Addr} {fd : FuncData}
theorem gs_try (FW : FnX X.prog X.w X.K X.mg X.base (L2.CX X.prog X.w) k a fd ["_law_e"] (spWhich cs)) (hr : L2H.RoomH k X.A) (hg : Gl X "_law_which") (hm : X.mg "_law_which" = some (.ref a)) (hk : PySem.W.keepIn X.K (.ref a) = true) (hb : Binds X.K fd ["_law_e"] [])
    (xs : Exn X.K X.mg P cs) (hgP : Gl X "PriceError") (hs : X.stack = X.env :: X.outer) (hf : X.env.frame = some X.env.locals) (hN : X.N.Nodup) (hi : X.N[i]? = some n) (hln : X.env.kindOf n = some .local) (hv : Vis X.env.scope n) (hd1 : (n == ("__debug__" : Str)) = false) (hd2 : (n == ("__classdict__" : Str)) = false)
    (tk : Takes X Wout) (hM : c.mg = X.mg)
    (hbd : ∀ (W : WX) (pn : List (Addr × Obj)) (xe : Value → Shared → Prop), Takes (X.tr pn xe) W → PassesOwn (model X.prog X.w) X.A X.env xe → PSs (X.tr pn xe) body (hS c C W f)) :
    PS X (.Try body [.ExceptHandler (some (.Name "PriceError" np)) (some n) [.Return (some (.Call (.Name "_law_which" q1) [.Name n q2] [] q3)) q4] pos'] [] [] pos) (hS c C Wout (hTry i f)) := by
  refine PSw (ps_try_as (c := .ref P) (tb := fun W => hS c C W f) (ts := tSuite cs i) hs hf hN hi hln ⟨hgP, by decide, .inl xs.gP⟩ tk hbd (fun a' oe cls d pn hz hfd => ?_)) fun D σ H h => ?_
  · refine PSsw (pss_one (ps_ret (pe_callX (X := X.suite a' ((a', oe) :: pn)) (p := (a', oe)) (E := fun _ _ _ _ => False) FW ⟨hr.dp, hr.un⟩ List.mem_cons_self hg hm hk hb (fun σ pins H s e s' I cx => ?_) (pa_cons (pe_var hi hv hd1 hd2) pa_nil)))) fun D σ H h => ?_
    · obtain ⟨_, _, _, _, _, _, _, _, _, _, _, _, z⟩ := cx
      exact z.elim
    · obtain ⟨C, j, rfl, rfl, hj, hσ, q⟩ := h
      exact ⟨_, hσ, rfl, C, j, hj, hz, hfd, q⟩
  · obtain ⟨env, L, m, Pp, r, ar, h, kk⟩ := h
    refine ⟨env, L, m, _, r, ar, h, fun r1 m1 q => ?_⟩
    cases r1 with
    | er => exact q.elim
    | nx e' => exact kk _ _ q
    | bk e' => exact kk _ _ q
    | ct e' => exact kk _ _ q
    | rt t e' => exact kk _ _ q
    | ex x e' =>
      obtain ⟨hl0, j, ej, q⟩ := q
      intro σ' H' L' t' re a1 C' hC
      obtain ⟨C2, hc', g', f'⟩ := xs.xs.get (xn_get ej)
      rw [hM] at hC
      have eC : C2 = C' := by
        rw [g'] at hC
        exact Value.ref.inj (Option.some.inj hC)
      subst eC
      refine ⟨true, xs.exm f', fun _ a na => ⟨C2, j, rfl, rfl, hc', ?_, fun t H'' kp nt et => ?_⟩, fun z => nomatch z⟩
      · exact List.getElem?_set_self (by rw [← re.len]; exact hl0)
      · exact kk _ _ q (.ref t) σ' H'' L' (t'.trans (re.tk (Stp.grow kp))) (re.grow kp) (a1.stab re (Stp.grow kp)) (show Rep c.K Nw H'' (.ref t) (.tup [.str "raised", .int (j : Nat)]) from .tup (xs := [.str "raised", .int (j : Nat)]) (.inl (.inl et)) (.cons (.str _) (.cons (.int _) .nil)))
end
structure SrcT (K : PySem.W.Frag) (H1 : Hp) (J : It) (its : List D) : Prop where
  stop : ∀ i H, TK H1 H → its.length ≤ i → J.stop i H
  go : ∀ i H, TK H1 H → i < its.length → J.go i H
  yld : ∀ i H x H' d, TK H1 H → its[i]? = some d → J.yld i H x H' → H' = H ∧ Rep K Nw H' x d
def hI (c : Cc) (C : Addr) (W : WX) (f : FW (List D)) : TI := fun σ H R => ∃ env L m P, RE c L σ H env ∧ AT c C L m H ∧ f env m P ∧ ∀ r m', P r m' → hK c C W σ H r m' fun its H1 => ∀ J, SrcT c.K H1 J its → R J H1
def loopH (j : Nat) (f : FSw) : List D → FSw
  | [] => fun env m P => P (.nx env) m
  | d :: ds => fun env m P => f (env.set j (.im d)) m fun r m1 => match r with
    | .er => False
    | .nx e => loopH j f ds e m1 P
    | .ct e => loopH j f ds e m1 P
    | .bk e => P (.nx e) m1
    | .rt v e => P (.rt v e) m1
    | .ex x e => P (.ex x e) m1
def hFor (j : Nat) (fi : FW (List D)) (f : FSw) : FSw := fun env m P => fi env m fun r m1 => match r with
  | .er => False
  | .ex x e => P (.ex x e) m1
  | .ok its e => loopH j f its e m1 P
section
variable {X : Cx} {c : Cc} {C : Addr} {W : WX} {pos p : Pos} {iter tg a b e : Expr} {es : List Expr} {body : List Stmt} {fi : FW (List D)} {fs : FW (List GV)} {fa fb : FW GV} {f : FSw} {i j : Nat}
theorem gs_for (hp : PassesOwn (model X.prog X.w) X.A X.env X.xe) (hc : X.calm = true) (hi : PI X tg iter (hI c C W fi)) (hg : PG X tg (gName j)) (hb : PSs X body (hS c C W f))
    (hs : ∀ x, foldedSetIterable iter X.env x = pure x := by intro _; rfl) : PS X (.For tg iter body [] pos) (hS c C W (hFor j fi f)) := PSw (ps_for hp hc hi hg hb hs) fun D σ H ⟨env, L, m, P, r, ar, f', k⟩ => by
  refine ⟨env, L, m, _, r, ar, f', fun r1 m1 q => ?_⟩
  cases r1 with
  | er => exact q
  | ex x e => exact fun H' L' t' r' a' => k _ _ q σ H' L' t' r' a'
  | ok its e =>
    intro H1 L1 t1 r1 a1 J src
    refine ⟨fun i mm σ H' => mm = its.length - i ∧ TK H1 H' ∧ ∃ env L m, RE c L σ H' env ∧ AT c C L m H' ∧ loopH j f (its.drop i) env m P, ⟨_, rfl, .refl H1, e, L1, m1, r1, a1, q⟩, fun i mm σ H' ⟨em, tk, env', L', m', r', a', q'⟩ => ?_⟩
    by_cases hi : its.length ≤ i
    · refine .inl ⟨src.stop i H' tk hi, ?_⟩
      rw [List.drop_eq_nil_of_le hi] at q'
      exact k _ _ q' σ H' L' (t1.trans tk) r' a'
    · have hi : i < its.length := Nat.lt_of_not_le hi
      refine .inr ⟨src.go i H' tk hi, fun σ2 H2 => TK H1 H2 ∧ ∃ env L m, RE c L σ2 H2 env ∧ AT c C L m H2 ∧ loopH j f (its.drop (i + 1)) env m P, fun σ2 H2 n => ⟨its.length - (i + 1), by omega, rfl, n⟩, fun x H'' y => ?_⟩
      rw [List.drop_eq_getElem_cons hi] at q'
      obtain ⟨rfl, rx⟩ := src.yld i H' x H'' its[i] tk (List.getElem?_eq_getElem hi) y
      obtain ⟨z1, z2⟩ := set_K (i := j) r' a' (show RepG c.K H'' x (.d its[i]) from rx)
      refine ⟨_, L', m', _, z1, z2, q', fun r2 m2 q2 => ?_⟩
      cases r2 with
      | er => exact q2.elim
      | nx e => exact fun σ3 H3 L3 t3 r3 a3 => ⟨tk.trans t3, e, L3, m2, r3, a3, q2⟩
      | ct e => exact fun σ3 H3 L3 t3 r3 a3 => ⟨tk.trans t3, e, L3, m2, r3, a3, q2⟩
      | bk e => exact fun σ3 H3 L3 t3 r3 a3 => k _ _ q2 σ3 H3 L3 ((t1.trans tk).trans t3) r3 a3
      | rt v e => exact fun y σ3 H3 L3 t3 r3 a3 ry => k _ _ q2 y σ3 H3 L3 ((t1.trans tk).trans t3) r3 a3 ry
      | ex x e => exact fun σ3 H3 L3 t3 r3 a3 => k _ _ q2 σ3 H3 L3 ((t1.trans tk).trans t3) r3 a3
def hR1 (fs : FW (List GV)) : FW (List D) := wB fs fun vs env m P => match vs with
  | [.d (.int n)] => -(2 ^ 62) ≤ n ∧ n < 2 ^ 62 ∧ P (.ok (rngD 0 n) env) m
  | _ => False
theorem src_rngT {K : PySem.W.Frag} {H1 : Hp} (n : Int) : SrcT K H1 (Itr 0 n.toNat) (rngD 0 n) := by
  have len : (rngD 0 n).length = n.toNat := by simp [rngD]
  refine ⟨fun i H _ hi => ?_, fun i H _ hi => ?_, fun i H x H' d _ hd hy => ?_⟩
  · show n.toNat ≤ i
    rw [← len]; exact hi
  · show i < n.toNat
    rw [← len]; exact hi
  · obtain ⟨rfl, rfl⟩ := hy
    dsimp only [rngD] at hd
    rw [List.getElem?_map] at hd
    cases q : (List.range (n - 0).toNat)[i]? with
    | none => rw [q] at hd; cases hd
    | some j =>
      rw [q] at hd
      cases hd
      have : j = i := by
        have q2 := List.getElem?_eq_some_iff.mp q
        obtain ⟨h1, h2⟩ := q2
        simpa using h2.symm
      subst this
      exact ⟨rfl, .int _⟩
theorem gi_range1 (hg : Gl X "range") (hm : X.mg "range" = none) (ha : PA X [a] (hA c C W fs)) (hs : starEach [a] X.env = [(false, eval a X.env)] := by rfl) : PI X tg (.Call (.Name "range" p) [a] [] pos) (hI c C W (hR1 fs)) :=
  PIw (pi_range1 hg hm ha hs) fun σ H R ⟨env, L, m, P, re, ar, f, k⟩ => by
    obtain ⟨P1, f1, k1⟩ := wB_K f k
    refine ⟨env, L, m, P1, re, ar, f1, fun r1 m1 q1 => ?_⟩
    have := k1 r1 m1 q1
    cases r1 with
    | er => exact this
    | ex y e1 => exact this
    | ok vs e1 =>
      intro H1 L1 t1 r1' a1 xs rxs
      obtain ⟨e2, L2, t2, r2, a2, f2, k2⟩ := this H1 L1 t1 r1' a1
      split at f2
      · rename_i n
        obtain ⟨h0, h1, f2⟩ := f2
        cases rxs with
        | cons q qs =>
          cases qs
          have q : Rep c.K Nw H1 _ (.int n) := q
          cases q
          exact ⟨n, rfl, h0, h1, k2 _ _ f2 H1 L2 (.refl H1) r2 a2 _ (src_rngT n)⟩
      · exact f2.elim
def hPar (i j : Nat) (fs : FW (List GV)) : FSw := fun env m P => fs env m fun r m1 => match r with
  | .er => False
  | .ex x e => P (.ex x e) m1
  | .ok [v, w] e => P (.nx ((e.set i (slG v)).set j (slG w))) m1
  | .ok _ _ => False
theorem gs_par {x y : Str} {px py pt : Pos} {kt k2 pt2} (hc : X.calm = true) (hN : X.N.Nodup) (hi : X.N[i]? = some x) (hj : X.N[j]? = some y) (hij : i ≠ j)
    (hx : X.env.scope.names.lookup x = some .local) (hy : X.env.scope.names.lookup y = some .local) (ha : PA X [a, b] (hA c C W fs))
    (hw : swappedStores [.Tuple [.Name x px, .Name y py] kt pt] (.Tuple [a, b] k2 pt2) X.env = pure (some [x, y]) := by rfl)
    (hs : swapsWithSole [.Tuple [.Name x px, .Name y py] kt pt] (.Tuple [a, b] k2 pt2) pos.line X.env = pure false := by rfl) :
    PS X (.Assign [.Tuple [.Name x px, .Name y py] kt pt] (.Tuple [a, b] k2 pt2) pos) (hS c C W (hPar i j fs)) := PSw (ps_par hc hN hi hj hij hx hy ha hw hs) fun D σ H ⟨env, L, m, P, r, ar, f, k⟩ => by
  refine ⟨env, L, m, _, r, ar, f, fun r1 m1 q => ?_⟩
  cases r1 with
  | er => exact q.elim
  | ex x e => exact fun H' L' t' r' a' => k _ _ q σ H' L' t' r' a'
  | ok vs e =>
    intro H' L' t' r' a' xs rxs
    match vs, rxs, q with
    | [v, w], .cons r1 (.cons r2 .nil), q =>
      obtain ⟨z1, z2⟩ := set_K (i := i) r' a' r1
      obtain ⟨z3, z4⟩ := set_K (i := j) z1 z2 r2
      exact ⟨_, _, rfl, k _ _ q _ H' L' t' z3 z4⟩
    | [], _, q => exact q.elim
    | [_], _, q => exact q.elim
    | _ :: _ :: _ :: _, _, q => exact q.elim
end
end DL
namespace DL
open PySem PySem.Spec L2 PyProof.Rows
variable [Wd]
def spInit (K : PySem.W.Frag) (C : Addr) (ok : D → Option D) : Sp := fun vs H Q E => ∃ a dx v d d2, vs = [.ref a, v] ∧ H a = some (.ins C dx []) ∧ Rep K Nw H v d ∧ ok d = some d2 ∧
  ∀ H' l v1 v2, (∀ b o, H b = some o → b ≠ a → H' b = some o) → H l = none → l ≠ a → H' a = some (.ins C dx (tlF v1 v2 l)) → H' l = some (.lst []) → Rep K Nw H' v1 d → Rep K Nw H' v2 d2 → Q .non H'
abbrev m1T (a : Addr) : Gt := gput (fun _ => none) a ⟨a, .non, .non, []⟩
theorem tch1 {a b : Addr} : Tch (m1T a) b ↔ b = a := by
  constructor
  · rintro (⟨t, h⟩ | ⟨b', t, h, rfl⟩)
    · by_cases z : b = a
      · exact z
      · rw [m1T, gput_ne _ _ z] at h; cases h
    · by_cases z : b' = a
      · subst z; rw [m1T, gput_eq] at h; cases h; rfl
      · rw [m1T, gput_ne _ _ z] at h; cases h
  · rintro rfl
    exact .inl ⟨_, gput_eq _ _ _⟩
section
variable {c : Cc} {L : Addr → Prop} {σ : L2.St} {env : En} {H : Hp}
theorem RE.wr {C dx a : Addr} {fs fs' : List (Str × V)} (re : RE c L σ H env) (h0 : c.H0 a = none) (ha : H a = some (.ins C dx fs)) : RE c L σ (upd H a (.ins C dx fs')) env ∧ TK H (upd H a (.ins C dx fs')) :=
  re.alter (fun b => b = a) (fun b o e n => by rw [upd_ne n]; exact e) (fun b z => ⟨by rw [z]; exact h0, .inr ⟨C, dx, fs, by rw [z]; exact ha⟩⟩) (fun _ z => z) fun _ z => .inl z
end
section
variable {P : Program} {w : World} {K : PySem.W.Frag} {mg : Str → Option Value} {base : Heap} {C : Addr}
theorem fn_okI {x qual : Str} {st : Stmt} {f : Addr} {fd : FuncData} {N ps : List Str} {k : Nat} {ok : D → Option D} {st1 : Stmt} {o2 o3 o4 e2 e3 : Expr} {p2 p3 p4 q2 q3 q4 ql : Pos} {f1 : FS} {f2 f3 : FE} (ct : ClsT K C) (F : Fun K x qual st f fd) (S : FnScope N ps (defScope st)) (hn : N.length = 2) (hp : ps.length = 2)
    (hd : ∀ a d d2, ok d = some d2 → D.flat d2 = true ∧ f1 [.hd a, .im d] = .nx [.hd a, .im d] ∧ f2 [.hd a, .im d] = .ok (.im d) [.hd a, .im d] ∧ f3 [.hd a, .im d] = .ok (.im d2) [.hd a, .im d])
    (eb : defBody st = [st1, .Assign [.Attribute o2 "_shop" p2] e2 q2, .Assign [.Attribute o3 "_now" p3] e3 q3, .Assign [.Attribute o4 "_before" p4] (.List [] ql) q4])
    (hb : ∀ (cdv : Value) (A : Around) (outer : List Env) (s : Shared) (H : Hp) (m : Gt) (vs : List V) (E : XK), Room k (A.deeper (PyProof.Rows.envOfC qual (defScope st) s.heap.objs.size f cdv)) →
      let X := cxOf (L2.CX P w) P w K mg base N qual (defScope st) f cdv A outer s H E
      PS X st1 (dS (ccT K mg H m vs) (fun cls d _ H => E cls d H) f1) ∧ PE X o2 (tVar 0) ∧ PE X e2 (dE (ccT K mg H m vs) (fun cls d _ H => E cls d H) f2) ∧ PE X o3 (tVar 0) ∧ PE X e3 (dE (ccT K mg H m vs) (fun cls d _ H => E cls d H) f3) ∧ PE X o4 (tVar 0) ∧
      swapsWith e2 (some (.Attribute o2 "_shop" p2)) q2.line X.env = pure false ∧ swapsWith e3 (some (.Attribute o3 "_now" p3)) q3.line X.env = pure false ∧ swapsWith (.List [] ql) (some (.Attribute o4 "_before" p4)) q4.line X.env = pure false) :
    FnOk P w K mg base (L2.CX P w) (k + 1) f fd ps (spInit K C ok) := by
  refine F.okX S (fun vs H Q E h => by obtain ⟨a, dx, v, d, d2, rfl, _⟩ := h; exact hp.symm) fun cdv A outer s H vs Q E hr h => ?_
  obtain ⟨a, dx, v, d, d2, rfl, ha, rv, ek, kk⟩ := h
  obtain ⟨s1, o2', v2', o3', v3', o4', w2, w3, w4⟩ := hb cdv A outer s H (m1T a) [.ref a, v] E hr
  obtain ⟨fl2, g1, g2, g3⟩ := hd a d d2 ek
  rw [eb]
  refine ⟨_, pss_cons s1 (pss_cons (ps_fld o2' v2' w2) (pss_cons (ps_fld o3' v3' w3) (pss_one (ps_fld o4' (pe_lst pa_nil) w4)))), ?_⟩
  have fl := Rep.fl rv
  have re0 : RE (ccT K mg H (m1T a) [.ref a, v]) (fun _ => False) (L2.start N [.ref a, v]) H [.hd a, .im d] := (RE.enterT (L := fun _ => False) (RepGs.cons (g := .h a) rfl (.cons (g := .d d) rv .nil)) fun a z => z.elim).pad hn (by rfl)
  have h0 : (ccT K mg H (m1T a) [.ref a, v]).H0 a = none := Hoff_t (tch1.mpr rfl)
  have at_ : ∀ {σ σ' : L2.St} {H1 H2 : Hp} {C dx : Addr} {fs : List (Str × V)}, RE (ccT K mg H (m1T a) [.ref a, v]) (fun _ => False) σ H1 [.hd a, .im d] → Stp σ [.hd a, .im d] H1 σ' [.hd a, .im d] H2 → H1 a = some (.ins C dx fs) → H2 a = some (.ins C dx fs) := fun re st e => (st a (Nn.not e (re.no_own e fun _ z => nomatch z))).1.trans e
  refine dS.of re0 ?_
  rw [g1]
  intro σ1 H1 r1 st1
  have a1 := at_ re0 st1 ha
  refine dE.of r1 ?_
  rw [g2]
  intro H2 r2 st2 y qy
  have a2 := at_ r1 st2 a1
  refine ⟨_, r2.hd 0 a rfl, a, C, dx, [], rfl, a2, ct.c, ct.sh, by simp, ?_⟩
  have ry : Rep K Nw H2 y d := flat_nw (c := ccT K mg H (m1T a) [.ref a, v]) qy rfl fl
  obtain ⟨r3, t3⟩ := r2.wr (fs' := putF "_shop" y []) h0 a2
  refine dE.of r3 ?_
  rw [g3]
  intro H4 r4 st4 y2 qy2
  have a4 := at_ r3 st4 upd_same
  refine ⟨_, r4.hd 0 a rfl, a, C, dx, _, rfl, a4, ct.c, ct.nw, by simp [putF], ?_⟩
  have ry2 : Rep K Nw H4 y2 d2 := flat_nw (c := ccT K mg H (m1T a) [.ref a, v]) qy2 rfl fl2
  obtain ⟨r5, t5⟩ := r4.wr (fs' := putF "_now" y2 (putF "_shop" y [])) h0 a4
  refine ⟨by simp, fun l hl => ?_⟩
  have kp := upd_keep (o := .lst []) hl
  have r6 := r5.grow kp
  have nl : l ≠ a := fun z => by rw [z, upd_same] at hl; cases hl
  have a6 : upd (upd H4 a (.ins C dx (putF "_now" y2 (putF "_shop" y [])))) l (.lst []) a = some (.ins C dx (putF "_now" y2 (putF "_shop" y []))) := kp _ _ upd_same
  have n1 : ¬ ("_shop" : Str) = "_now" := by decide +kernel
  have n2 : ¬ ("_shop" : Str) = "_before" := by decide +kernel
  have n3 : ¬ ("_now" : Str) = "_before" := by decide +kernel
  have ef0 : putF "_now" y2 (putF "_shop" y []) = ([("_shop", y), ("_now", y2)] : List (Str × V)) := by
    show putF "_now" y2 ([("_shop", y)] : List (Str × V)) = _
    rw [putF, if_neg n1, putF]
  refine ⟨_, r6.hd 0 a rfl, a, C, dx, _, rfl, a6, ct.c, ct.bf, by rw [ef0]; simp, ?_⟩
  obtain ⟨r7, t7⟩ := r6.wr (fs' := putF "_before" (.ref l) (putF "_now" y2 (putF "_shop" y []))) h0 a6
  have ef : putF "_before" (.ref l) (putF "_now" y2 (putF "_shop" y [])) = tlF y y2 l := by
    rw [ef0, putF, if_neg n2, putF, if_neg n3, putF]
  have frame : ∀ b o, H b = some o → b ≠ a → upd (upd (upd H4 a (.ins C dx (putF "_now" y2 (putF "_shop" y [])))) l (.lst [])) a (.ins C dx (putF "_before" (.ref l) (putF "_now" y2 (putF "_shop" y [])))) b = some o := fun b o e n => r7.fr b o (fun z => z) ((Hoff_n fun z => n (tch1.mp z)).trans e)
  refine kk _ l y y2 frame ?_ nl ?_ ?_ ?_ ?_
  · cases e : H l with
    | none => rfl
    | some o =>
      have := r5.fr l o (fun z => z) ((Hoff_n fun z => nl (tch1.mp z)).trans e)
      rw [hl] at this
      cases this
  · rw [upd_same, ef]
  · rw [upd_ne nl]; exact upd_same
  · exact ((((ry.to t3).to (r3.tk st4)).to t5).to (r5.tk (Stp.grow kp))).to t7
  · exact (((ry2.to t5)).to (r5.tk (Stp.grow kp))).to t7
end
def gMk (ok : D → Option D) (fs : FW (List GV)) : FW GV := wB fs fun vs env m P => match vs with
  | [.d d] => ∃ d2, ok d = some d2 ∧ ∀ a l, m a = none → (∀ b t, m b = some t → t.l ≠ l) → P (.ok (.h a) env) (gput m a ⟨l, d, d2, []⟩)
  | _ => False
section
variable {X : Cx} {c : Cc} {C f : Addr} {W : WX} {pos p : Pos} {x : Str} {e : Expr} {es : List Expr} {fs : FW (List GV)} {k : Nat} {fd : FuncData} {ps : List Str} {ok : D → Option D}
theorem he_make (M : Mk X.K C f) (F : FnOk X.prog X.w X.K X.mg X.base (L2.CX X.prog X.w) k f fd ps (spInit X.K C ok)) (hr : Room (k + 1) X.A) (hg : Gl X x) (hm : X.mg x = some (.ref C)) (hb : Binds X.K fd ps []) (tk : Takes X W) (ha : PA X (e :: es) (hA c C W fs))
    (hK : c.K = X.K := by rfl) (hdb : (x == ("__debug__" : Str)) = false := by decide) (he : starEach (e :: es) X.env = (false, eval e X.env) :: starEach es X.env := by rfl) (hpl : (backTo pos (starEach es X.env)).any (·.1) = false := by rfl) :
    PE X (.Call (.Name x p) (e :: es) [] pos) (hE c C W (gMk ok fs)) :=
  PEw (pe_makeS M F hr hg hm hb (E := WE W) (fun σ => passAt tk σ) ha hdb he hpl) fun σ H Q ⟨env, L, m, P, re, ar, f, k⟩ => by
    obtain ⟨P1, f1, k1⟩ := wB_K f k
    refine ⟨env, L, m, P1, re, ar, f1, fun r1 m1 q1 => ?_⟩
    have := k1 r1 m1 q1
    cases r1 with
    | er => exact this
    | ex y e1 => exact this
    | ok vs e1 =>
      intro H1 L1 t1 r1' a1 xs rxs x dx hx hdx hne
      obtain ⟨e2, L2, t2, r2, a2, f2, k2⟩ := this H1 L1 t1 r1' a1
      match vs, rxs, f2 with
      | [.d d], .cons (v := v) rd .nil, f2 =>
        have rd : Rep c.K Nw H1 v d := rd
        obtain ⟨d2, ed, f2⟩ := f2
        have kp1 := upd_keep (o := .own x) hdx
        have hx1 : upd H1 dx (.own x) x = none := by rw [upd_ne (Ne.symm hne)]; exact hx
        have kp2 := upd_keep (o := .ins C dx []) hx1
        have kp : ∀ b o, H1 b = some o → upd (upd H1 dx (.own x)) x (.ins C dx []) b = some o := fun b o e => kp2 b o (kp1 b o e)
        rw [← hK]
        refine ⟨x, dx, v, d, d2, rfl, upd_same, rd.to (r2.tk (Stp.grow kp)), ed, fun H' l v1 v2 fr hl nl e1 e3 w1 w2 => ⟨rfl, ?_⟩⟩
        have hl1 : H1 l = none := by
          cases e : H1 l with
          | none => rfl
          | some o => rw [kp l o e] at hl; cases hl
        have kp3 : ∀ b o, H1 b = some o → H' b = some o := fun b o e => fr b o (kp b o e) fun z => by rw [z, hx] at e; cases e
        have st := Stp.grow (σ := σ) (env := e2) kp3
        have r3 := r2.grow kp3
        have a3 := a2.stab r2 st
        have tk := r2.tk st
        obtain ⟨r4, _⟩ := r2.alter (H' := H') (L' := fun b => L2 b ∨ b = l) (fun _ => False) (fun b o e _ => kp3 b o e) (fun b z => z.elim) (fun a z => .inl z) fun a z => by
          rcases z with z | rfl
          · exact .inl z
          · exact .inr ⟨hl1, _, e3⟩
        have nm : m1 x = none := by
          cases e : m1 x with
          | none => rfl
          | some t =>
            obtain ⟨_, _, _, _, h1, _⟩ := (a2.at_ x t e).ex
            rw [hx] at h1; cases h1
        have nll : ∀ b t, m1 b = some t → t.l ≠ l := fun b t e z => by
          obtain ⟨_, _, _, _, _, h2, _⟩ := (a2.at_ b t e).ex
          rw [z, hl1] at h2; cases h2
        refine k2 _ _ (f2 x l nm nll) H' (fun b => L2 b ∨ b = l) tk r4 ⟨fun b u eb => ?_, fun b u eb => ?_, fun b b' u u' eb eb' el => ?_⟩ _ rfl
        · by_cases z : b = x
          · subst z
            rw [gput_eq] at eb
            cases eb
            exact ⟨dx, v1, v2, [], e1, e3, w1, w2, .nil⟩
          · rw [gput_ne _ _ z] at eb
            exact a3.at_ b u eb
        · by_cases z : b = x
          · subst z
            rw [gput_eq] at eb
            cases eb
            exact ⟨.inr rfl, r2.h0 hx, r2.h0 hl1⟩
          · rw [gput_ne _ _ z] at eb
            exact ⟨.inl (a3.off b u eb).1, (a3.off b u eb).2⟩
        · by_cases z : b = x
          · subst z
            rw [gput_eq] at eb
            cases eb
            by_cases z' : b' = b
            · exact z'.symm
            · rw [gput_ne _ _ z'] at eb'
              exact (nll b' u' eb' el.symm).elim
          · rw [gput_ne _ _ z] at eb
            by_cases z' : b' = x
            · subst z'
              rw [gput_eq] at eb'
              cases eb'
              exact (nll b u eb el).elim
            · rw [gput_ne _ _ z'] at eb'
              exact a3.inj b b' u u' eb eb' el
      | [], _, f2 => exact f2.elim
      | [.h _], _, f2 => exact f2.elim
      | .d _ :: _ :: _, _, f2 => exact f2.elim
      | .h _ :: _ :: _, _, f2 => exact f2.elim
end
end DL
namespace DL
open PySem PySem.Spec L2 PyProof.Rows
variable [Wd]
structure CdG (K : PySem.W.Frag) (C : Addr) (m q : Str) (st : Stmt) (ps : List Str) (f : Addr) (fd : FuncData) : Prop where
  F : L2.Fun K m q st f fd
  b : Binds K fd ps []
  m : Meth K C m f
def OkI (f1 : FS) (f2 f3 : FE) (d d2 : D) : Prop := ∀ a, D.flat d2 = true ∧ f1 [.hd a, .im d] = .nx [.hd a, .im d] ∧ f2 [.hd a, .im d] = .ok (.im d) [.hd a, .im d] ∧ f3 [.hd a, .im d] = .ok (.im d2) [.hd a, .im d]
open Classical in
noncomputable def okOf (f1 : FS) (f2 f3 : FE) (d : D) : Option D := if h : ∃ d2, OkI f1 f2 f3 d d2 then some h.choose else none
theorem okOf_is {f1 : FS} {f2 f3 : FE} (a : Addr) (d d2 : D) (h : okOf f1 f2 f3 d = some d2) : D.flat d2 = true ∧ f1 [.hd a, .im d] = .nx [.hd a, .im d] ∧ f2 [.hd a, .im d] = .ok (.im d) [.hd a, .im d] ∧ f3 [.hd a, .im d] = .ok (.im d2) [.hd a, .im d] := by
  classical
  unfold okOf at h
  by_cases z : ∃ d2, OkI f1 f2 f3 d d2
  · rw [dif_pos z] at h
    have := z.choose_spec a
    rw [Option.some.inj h] at this
    exact this
  · rw [dif_neg z] at h
    cases h
theorem okOf_eq {f1 : FS} {f2 f3 : FE} {d d2 : D} (h : OkI f1 f2 f3 d d2) : okOf f1 f2 f3 d = some d2 := by
  classical
  have z : ∃ d2, OkI f1 f2 f3 d d2 := ⟨d2, h⟩
  unfold okOf
  rw [dif_pos z]
  have h1 := (z.choose_spec 0).2.2.2
  rw [(h 0).2.2.2] at h1
  injection h1 with h1 h2
  injection h1 with h1
  rw [← h1]
end DL
namespace DL
open PySem PySem.Spec L2 PyProof.Rows
variable [Wd]
structure ClsE (K : PySem.W.Frag) (C : Addr) : Prop where
  c : Cls K C
  ha : PySem.W.findIn K (.ref C) "__class__" = some (some (.builtin "object.__class__"))
  hn : PySem.W.specialIn K (.builtin "object.__class__") "__get__" = some (some (.builtin "getset_descriptor.__get__"))
  ht : PySem.W.takesIn K (.builtin "object.__class__") = some true
  hm : PySem.W.mroIn K C (.type "object") = some true
  k1 : PySem.W.kitOne K (.ref C) (.ref C) = some true
  k2 : PySem.W.kitOne K (.type "tuple") (.ref C) = some false
  k3 : PySem.W.kitOne K (.type "NoneType") (.ref C) = some false
  n2 : PySem.W.notFirst K C (.type "tuple") = true
  n3 : PySem.W.notFirst K C (.type "NoneType") = true
def tyG (C : Addr) : GV → Option (Value × Bool)
  | .h _ => some (.ref C, true)
  | .d .non => some (.type "NoneType", false)
  | .d (.tup _) => some (.type "tuple", false)
  | _ => none
def tbG : GV → Option Bool
  | .h _ => some true
  | .d .non => some false
  | .d (.tup _) => some false
  | _ => none
theorem tyG_of {C : Addr} {g : GV} {b : Bool} (h : tbG g = some b) : ∃ t, tyG C g = some (t, b) := by
  cases g with
  | h a => cases h; exact ⟨_, rfl⟩
  | d d => cases d <;> first | (cases h; exact ⟨_, rfl⟩) | cases h
def knG (m : Gt) : GV → Prop
  | .h b => ∃ t, m b = some t
  | _ => True
section
variable {c : Cc} {C : Addr} {L : Addr → Prop} {H : Hp} {m : Gt} {K : PySem.W.Frag}
theorem ty_of (ce : ClsE c.K C) (ar : AT c C L m H) {y : V} {g : GV} {t : Value} {b : Bool} (r : RepG c.K H y g) (kn : knG m g) (e : tyG C g = some (t, b)) : TyX c.K H y t ∧ PySem.W.kitOne c.K t (.ref C) = some b ∧ PySem.W.notFirst c.K C t = true := by
  cases g with
  | h a =>
    cases e
    obtain ⟨u, eu⟩ := kn
    obtain ⟨dx, v1, v2, xs, h1, _⟩ := (ar.at_ a u eu).ex
    cases (show y = .ref a from r)
    exact ⟨.base (.ins h1 ce.c ce.ha ce.hn ce.ht ce.hm), ce.k1, by simp [PySem.W.notFirst]⟩
  | d d =>
    cases d <;> try cases e
    · have r : Rep c.K Nw H y .non := r
      cases r
      exact ⟨.base .non, ce.k3, ce.n3⟩
    · rename_i ds
      have r : Rep c.K Nw H y (.tup ds) := r
      refine ⟨?_, ce.k2, ce.n2⟩
      cases r with
      | tup h rs =>
        rcases h with (h | ⟨o, h⟩) | ⟨o, its, n, h1, h2, _⟩
        · exact .base (.tup h)
        · exact .fTuple h
        · exact .kTuple h1 h2
end
section
variable {X : Cx} {c : Cc} {C f : Addr} {W : WX} {pos p apos p1 p2 : Pos} {x mn : Str} {e o a b : Expr} {es rest : List Expr} {fa fb : FW GV} {fs : FW (List GV)} {g : FDT} {k i j : Nat} {fd : FuncData} {ps : List Str} {ta : TE} {t : TA} {sp : Sp} {E : L2.St → XK}
def gVr (i : Nat) : FW GV := fun env m P => match env[i]? with
  | some (.hd a) => P (.ok (.h a) env) m
  | some (.im d) => D.flat d = true ∧ P (.ok (.d d) env) m
  | _ => False
theorem ge_vr (h : PE X e (tVar i)) : PE X e (hE c C W (gVr i)) := PEw h fun σ H Q ⟨env, L, m, P, r, ar, f, k⟩ => by
  unfold gVr at f
  split at f
  · rename_i a ea
    exact ⟨_, r.hd i a ea, k _ _ f H L (.refl H) r ar _ rfl⟩
  · rename_i d ed
    obtain ⟨v, ev, rv⟩ := r.im i d ed
    exact ⟨v, ev, k _ _ f.2 H L (.refl H) r ar v (show Rep c.K Nw H v d from rv.flat f.1)⟩
  · exact f.elim
def gIsT (fa : FW GV) : FW GV := wB fa fun v env m P => knG m v ∧ ∃ b, tbG v = some b ∧ P (.ok (.d (.bl b)) env) m
theorem he_isT (ce : ClsE X.K C) (ha : PE X a (hE c C W fa)) (hg : Gl X "isinstance") (hm : X.mg "isinstance" = none) (hv : bootBuiltins "isinstance" = some (.builtin "isinstance")) (hgT : Gl X "Till") (hmT : X.mg "Till" = some (.ref C)) (hK : c.K = X.K := by rfl)
    (he2 : starEach [Expr.Name "Till" p2] X.env = (false, eval (.Name "Till" p2) X.env) :: starEach [] X.env := by rfl) (he : starEach [a, .Name "Till" p2] X.env = (false, eval a X.env) :: starEach [.Name "Till" p2] X.env := by rfl)
    (hpl : (backTo pos (starEach [Expr.Name "Till" p2] X.env)).any (·.1) = false := by rfl) : PE X (.Call (.Name "isinstance" p) [a, .Name "Till" p2] [] pos) (hE c C W (gIsT fa)) :=
  PEw (pe_callB call_isi hg hm hv (pa_cons ha (pa_cons (pe_glob hgT hmT (v := .ref C) rfl) pa_nil he2) he) (by decide) (by decide) he hpl) fun σ H Q ⟨env, L, m, P, re, ar, f, k⟩ => by
    obtain ⟨P1, f1, k1⟩ := wB_K f k
    refine ⟨env, L, m, P1, re, ar, f1, fun r1 m1 q1 => ?_⟩
    have := k1 r1 m1 q1
    cases r1 with
    | er => exact this
    | ex y e1 => exact this
    | ok v e1 =>
      intro H1 L1 t1 r1' a1 x rx
      obtain ⟨e2, L2, t2, r2, a2, ⟨kn, b, eb, f2⟩, k2⟩ := this H1 L1 t1 r1' a1
      obtain ⟨t, et⟩ := tyG_of (C := C) eb
      obtain ⟨w1, w2, _⟩ := ty_of (hK.symm ▸ ce) a2 rx kn et
      rw [hK] at w1 w2
      exact ⟨x, .ref C, t, .ref C, b, rfl, .own C, w1, w2, k2 _ _ f2 H1 L2 (.refl H1) r2 a2 _ (show Rep c.K Nw H1 (.bl b) (.bl b) from .bl b)⟩
def gAV (fa fb : FW GV) : FW GV := wB fa fun v => match v with
  | .d (.bl true) => fb
  | .d (.bl false) => fun env m P => P (.ok (.d (.bl false)) env) m
  | _ => fun _ _ _ => False
theorem ge_one' {op} (h : PE X a (hE c C W fa)) : PE X (.BoolOp op [a] pos) (hE c C W fa) := pe_one h
theorem ge_and (ha : PE X a (hE c C W fa)) (hb : PE X (.BoolOp .And (b :: rest) pos) (hE c C W fb)) : PE X (.BoolOp .And (a :: b :: rest) pos) (hE c C W (gAV fa fb)) := PEw (pe_and ha hb) fun σ H Q ⟨env, L, m, P, re, ar, f, k⟩ => by
  obtain ⟨P1, f1, k1⟩ := wB_K f k
  refine ⟨env, L, m, P1, re, ar, f1, fun r1 m1 q1 => ?_⟩
  have := k1 r1 m1 q1
  cases r1 with
  | er => exact this
  | ex y e1 => exact this
  | ok v e1 =>
    intro H1 L1 t1 r1' a1 x rx
    obtain ⟨e2, L2, t2, r2, a2, f2, k2⟩ := this H1 L1 t1 r1' a1
    cases v with
    | h _ => exact f2.elim
    | d d =>
      cases d <;> try exact f2.elim
      rename_i bb
      have rx : Rep c.K Nw H1 x (.bl bb) := rx
      cases rx
      refine ⟨bb, rfl, ?_⟩
      cases bb with
      | true => rw [if_pos rfl]; exact ⟨e2, L2, m1, P, r2, a2, f2, k2⟩
      | false => rw [if_neg Bool.false_ne_true]; exact k2 _ _ f2 H1 L2 (.refl H1) r2 a2 _ (show Rep c.K Nw H1 (.bl false) (.bl false) from .bl false)
def rEqT (K : PySem.W.Frag) (C : Addr) (sp : Sp) : R2 := fun x y H Q => ∃ a dx fs tb, x = .ref a ∧ H a = some (.ins C dx fs) ∧ TyX K H y tb ∧ PySem.W.notFirst K C tb = true ∧ sp [.ref a, y] H (fun v H' => ∃ b, v = .bl b ∧ Q (.bl b) H') NoX
theorem op_eqT (hs : PySem.W.findIn X.K (.ref C) "__eq__" = some (some (.ref f))) (hf : PySem.W.isFn X.K (.ref f) = true) (F : FnOk X.prog X.w X.K X.mg X.base (L2.CX X.prog X.w) k f fd ps sp) (hr : Room k X.A) (hb : Binds X.K fd ps []) : OpR X (compareOp .Eq) (rEqT X.K C sp) := by
  intro pins s σ H x y u v Q I rx ry hq
  obtain ⟨a, dx, fs, tb, rfl, ha, ty, nf, q⟩ := hq
  cases (show u = Value.ref a from rx)
  show wpAny (model X.prog X.w) X.A (richCompare .Eq (.ref a) v) (EP X pins σ Q) X.xe s
  obtain ⟨mA, J, _⟩ := ins_get I.hok ha
  obtain ⟨od, J, _⟩ := J.look
  obtain ⟨m, hF⟩ := I.fr
  obtain ⟨Pk, Z, pz, _⟩ := kit_of I ry ty
  have hl := F.len _ _ _ _ q
  refine PySem.W.cmp_K (op := .Eq) (tb := tb) (by have := hr.un; omega) hF I.ok.mod.kin J (Z.ty _ _ I.kIn pz) nf hs hf ?_
  refine wpAny_mono (Q := EP X pins σ fun v H' => ∃ b, v = .bl b ∧ Q (.bl b) H') ?_ (fun w s' hq => ?_) fun _ _ z => z
  · refine wpAny_call (codeAny_mono (F.run X.A X.stack s H ⟨[.ref a, v], []⟩ [.ref a, v] [.ref a, y] _ NoX hr I.env0 (by
      have := hb s [.ref a, v] I.kIn (by simpa using hl)
      simpa using this) (.cons rfl (.cons ry .nil)) q) fun r s' hq => ?_)
    cases r with
    | error e =>
      obtain ⟨_, _, _, _, _, _, _, _, _, _, _, _, z⟩ := hq
      exact z.elim
    | ok fl =>
      cases fl with
      | ret u => exact I.after hq
      | next => exact False.elim hq
      | brk => exact False.elim hq
      | cont => exact False.elim hq
  · obtain ⟨z, H', I', rz, b, rfl, q'⟩ := hq
    cases (show w = Value.bool b from rz)
    exact ⟨.bl b, H', I', rfl, q'⟩
def okBl (P : Gr Bool → Gt → Prop) (env : En) (m' : Gt) : Go → Prop
  | .ok (.d (.bl b)) => P (.ok b env) m'
  | _ => False
def okBv (P : Gr GV → Gt → Prop) (env : En) (m' : Gt) : Go → Prop
  | .ok (.d (.bl b)) => P (.ok (.d (.bl b)) env) m'
  | _ => False
def gEqT (g : FDT) (fa fb : FW GV) : FW Bool := wB fa fun x => wB fb fun y env m P => ∃ a b, x = .h a ∧ (∃ t, m a = some t) ∧ knG m y ∧ tbG y = some b ∧ g [.h a, y] m fun r m' => Ext m m' ∧ okBl P env m' r
def gEqV (g : FDT) (fa fb : FW GV) : FW GV := wB fa fun x => wB fb fun y env m P => ∃ a b, x = .h a ∧ (∃ t, m a = some t) ∧ knG m y ∧ tbG y = some b ∧ g [.h a, y] m fun r m' => Ext m m' ∧ okBv P env m' r
theorem eq_K {σ : L2.St} {H : Hp} {env : En} {L : Addr → Prop} {m : Gt} {x y : V} {a' : Addr} {gy : GV} {t : Value} {bb : Bool} {Q : VK} {R : Bool → Gt → Prop} (ce : ClsE c.K C) (re : RE c L σ H env) (ar : AT c C L m H) (ex : x = .ref a') (ry : RepG c.K H y gy) (ka : ∃ t, m a' = some t) (kn : knG m gy) (et : tyG C gy = some (t, bb))
    (f : g [.h a', gy] m fun r m' => Ext m m' ∧ match r with | .ok (.d (.bl b)) => R b m' | _ => False) (k : ∀ b m' H' L', TK H H' → RE c L' σ H' env → AT c C L' m' H' → R b m' → Q (.bl b) H') : rEqT c.K C (spT c.K c.mg C g) x y H Q := by
  subst ex
  obtain ⟨u, eu⟩ := ka
  obtain ⟨dx, v1, v2, xs, h1, h2, _⟩ := (ar.at_ a' u eu).ex
  obtain ⟨w1, _, w3⟩ := ty_of ce ar ry kn et
  refine ⟨a', dx, _, t, rfl, h1, w1, w3, [.h a', gy], L, m, _, RepGs.cons (g := .h a') rfl (.cons ry .nil), ar.hand re, fun a z => (re.ext a z).2, f, fun r m' ⟨ex, q⟩ => ?_⟩
  cases r with
  | ex y => exact q.elim
  | ok v =>
    cases v with
    | h _ => exact q.elim
    | d d =>
      cases d <;> try exact q.elim
      rename_i b _
      intro y H' L' fr a' ry
      obtain ⟨L2, r2, a2, tk⟩ := ar.back re ex fr a'
      have ry : Rep c.K Nw H' y (.bl b) := ry
      cases ry
      exact ⟨b, rfl, k b m' H' L2 tk r2 a2 q⟩
theorem gt_eqT (ce : ClsE X.K C) (hs : PySem.W.findIn X.K (.ref C) "__eq__" = some (some (.ref f))) (hf : PySem.W.isFn X.K (.ref f) = true) (F : FnOk X.prog X.w X.K X.mg X.base (L2.CX X.prog X.w) k f fd ps (spT X.K X.mg C g)) (hr : Room k X.A) (hbi : Binds X.K fd ps []) (ha : PE X a (hE c C W fa)) (hb : PE X b (hE c C W fb)) (hm : behindInMarks .Eq b = false)
    (hK : c.K = X.K := by rfl) (hM : c.mg = X.mg := by rfl) : PT X (.Compare a [.Eq] [b] pos) (hT c C W (gEqT g fa fb)) := PTw (pt_cmpR (op_eqT hs hf F hr hbi) ha hb hm) fun σ H Q ⟨env, L, m, P, re, ar, f, k⟩ => by
  refine (two_K re ar f k).mono fun x H1 h1 => h1.mono fun y H2 ⟨gx, gy, e2, L2, m2, rx, ry, r2, a2, ⟨a', bb, eg, ka, kn, eb, f2⟩, k2⟩ => ?_
  obtain ⟨t, et⟩ := tyG_of (C := C) eb
  subst eg
  rw [← hK, ← hM]
  exact eq_K (hK.symm ▸ ce) r2 a2 rx ry ka kn et (R := fun b m' => P (.ok b e2) m') f2 fun b m' H' L' tk re ar q => ⟨b, rfl, k2 _ _ q H' L' tk re ar⟩
theorem ge_eqT (ce : ClsE X.K C) (hs : PySem.W.findIn X.K (.ref C) "__eq__" = some (some (.ref f))) (hf : PySem.W.isFn X.K (.ref f) = true) (F : FnOk X.prog X.w X.K X.mg X.base (L2.CX X.prog X.w) k f fd ps (spT X.K X.mg C g)) (hr : Room k X.A) (hbi : Binds X.K fd ps []) (ha : PE X a (hE c C W fa)) (hb : PE X b (hE c C W fb)) (hm : behindInMarks .Eq b = false)
    (hK : c.K = X.K := by rfl) (hM : c.mg = X.mg := by rfl) : PE X (.Compare a [.Eq] [b] pos) (hE c C W (gEqV g fa fb)) := PEw (pe_cmpR (op_eqT hs hf F hr hbi) ha hb hm) fun σ H Q ⟨env, L, m, P, re, ar, f, k⟩ => by
  refine (two_K re ar f k).mono fun x H1 h1 => h1.mono fun y H2 ⟨gx, gy, e2, L2, m2, rx, ry, r2, a2, ⟨a', bb, eg, ka, kn, eb, f2⟩, k2⟩ => ?_
  obtain ⟨t, et⟩ := tyG_of (C := C) eb
  subst eg
  rw [← hK, ← hM]
  exact eq_K (hK.symm ▸ ce) r2 a2 rx ry ka kn et (R := fun b m' => P (.ok (.d (.bl b)) e2) m') f2 fun b m' H' L' tk re ar q => k2 _ _ q H' L' tk re ar _ (show Rep c.K Nw H' (.bl b) (.bl b) from .bl b)
end
end DL
namespace DL
open PySem PySem.Spec L2 PyProof.Rows
variable [Wd]
def hParL (i j : Nat) (fa : FW GV) : FSw := fun env m P => fa env m fun r m1 => match r with
  | .er => False
  | .ex x e => P (.ex x e) m1
  | .ok v e => P (.nx ((e.set i (slG v)).set j (.own false []))) m1
def hAppO (j : Nat) (fa : FW GV) : FW GV := fun env m P => (∃ io ds, env[j]? = some (.own io ds)) ∧ fa env m fun r m1 => match r with
  | .er => False
  | .ex x e => P (.ex x e) m1
  | .ok (.d d) e => ∃ io ds, e[j]? = some (.own io ds) ∧ ds.length < 1000000 ∧ P (.ok (.d .non) (e.set j (.own io (ds ++ [d])))) m1
  | .ok (.h _) _ => False
section
variable {X : Cx} {c : Cc} {C f : Addr} {W : WX} {pos p apos pl : Pos} {x mn : Str} {e o a b : Expr} {es rest : List Expr} {fa fb : FW GV} {fs : FW (List GV)} {i j : Nat}
theorem gs_parL {x y : Str} {px py pt : Pos} {kt k2 pt2} (hc : X.calm = true) (hN : X.N.Nodup) (hi : X.N[i]? = some x) (hj : X.N[j]? = some y) (hij : i ≠ j)
    (hx : X.env.scope.names.lookup x = some .local) (hy : X.env.scope.names.lookup y = some .local) (ha : PE X a (hE c C W fa))
    (he : starEach [a, .List [] pl] X.env = (false, eval a X.env) :: starEach [.List [] pl] X.env := by rfl) (he2 : starEach [Expr.List [] pl] X.env = (false, eval (.List [] pl) X.env) :: starEach [] X.env := by rfl)
    (hw : swappedStores [.Tuple [.Name x px, .Name y py] kt pt] (.Tuple [a, .List [] pl] k2 pt2) X.env = pure (some [x, y]) := by rfl)
    (hs : swapsWithSole [.Tuple [.Name x px, .Name y py] kt pt] (.Tuple [a, .List [] pl] k2 pt2) pos.line X.env = pure false := by rfl) :
    PS X (.Assign [.Tuple [.Name x px, .Name y py] kt pt] (.Tuple [a, .List [] pl] k2 pt2) pos) (hS c C W (hParL i j fa)) := PSw (ps_par hc hN hi hj hij hx hy (pa_cons ha (pa_cons (pe_lst pa_nil) pa_nil he2) he) hw hs) fun D σ H ⟨env, L, m, P, r, ar, f, k⟩ => by
  refine ⟨env, L, m, _, r, ar, f, fun r1 m1 q => ?_⟩
  cases r1 with
  | er => exact q.elim
  | ex x e => exact fun H' L' t' r' a' => k _ _ q σ H' L' t' r' a'
  | ok v e =>
    intro H' L' t' r' a' y ry
    refine ⟨by simp, fun l hl => ⟨y, .ref l, rfl, ?_⟩⟩
    have kp := upd_keep (o := .lst []) hl
    obtain ⟨z1, z2⟩ := set_K (i := i) r' a' ry
    have z3 := z1.more (a := l) (xs := []) kp hl upd_at
    have nl : ¬ L' l := fun z => by
      obtain ⟨_, xs, e⟩ := z1.ext l z
      rw [hl] at e; cases e
    obtain ⟨z4, _⟩ := z3.setFr (i := j) (N := fun _ => True) (xs := []) (ds := []) upd_at .nil nl (z1.h0 hl) trivial
    exact k _ _ q _ _ L' (t'.trans (z1.tk (Stp.grow kp))) z4 (z2.stab z1 (Stp.grow kp))
theorem he_appO (h : PE X o (tVar j)) (he : PE X e (hE c C W fa))
    (hbase : attributeBase o "append" X.env (eval o X.env) = eval o X.env := by rfl)
    (hfew : ((backTo pos (starEach [e] X.env)).all (fun x => !x.1) && (backToKw pos (keywordEach [] X.env)).all (fun x => x.1.isSome)
      && decide (([e] : List Expr).length + ([] : List Keyword).length + (if ([] : List Keyword).isEmpty then 0 else 1) < 30)) = true := by rfl)
    (hline : (apos.endLine == pos.line) = true := by rfl) (hs : starEach [e] X.env = (false, eval e X.env) :: starEach [] X.env := by rfl) (hplain : (backTo pos (starEach [] X.env)).any (·.1) = false := by rfl) :
    PE X (.Call (.Attribute o "append" apos) [e] [] pos) (hE c C W (hAppO j fa)) := PEw (pe_bm PySem.F.plainAttrs_list PySem.F.slot_list_append PySem.F.type_list_append mt_append h (pa_cons he pa_nil hs) hbase hfew hline hs hplain) fun σ H Q ⟨env, L, m, P, r, ar, ⟨⟨io, ds, e0⟩, f⟩, k⟩ => by
  obtain ⟨a0, xs0, s0, h0, _⟩ := r.own j io ds e0
  refine ⟨_, s0, .inl ⟨rfl, xs0, .inl (.inl h0)⟩, env, L, m, _, r, ar, f, fun r1 m1 q => ?_⟩
  cases r1 with
  | er => exact q.elim
  | ex x e => exact fun H' L' t' r' a' => k _ _ q H' L' t' r' a'
  | ok v e =>
    cases v with
    | h _ => exact q.elim
    | d d =>
      obtain ⟨io, ds, e1, hl, q⟩ := q
      intro H' L' t' r' a' y ry
      have ry : Rep c.K Nw H' y d := ry
      obtain ⟨a1, xs1, s1, h1, rs, _⟩ := r'.own j io ds e1
      rw [s0] at s1
      cases s1
      refine ⟨a0, xs1, y, rfl, rfl, h1, by rw [rs.length]; exact Nat.lt_of_lt_of_le hl (line6 (Nat.le_refl _)), ?_⟩
      have kp : ∀ b o, b ≠ a0 → H' b = some o → upd H' a0 (.lst (xs1 ++ [y])) b = some o := fun b o n e => by rw [upd_ne n]; exact e
      have tk : TK H' (upd H' a0 (.lst (xs1 ++ [y]))) := ⟨fun b xs e => kp b _ (fun z => by rw [z, h1] at e; cases e) e, fun b o u e => kp b _ (fun z => by rw [z, h1] at e; cases e) e⟩
      obtain ⟨z1, z2⟩ := r'.put (ds' := ds ++ [d]) e1 s0 kp upd_same (Reps.append (rs.mono tk fun b xs g e => ⟨g, kp b _ (fun z => g.2 ⟨j, io, ds, e1, by rw [z]; exact s0⟩) e⟩) (.cons (ry.to tk).up .nil))
      exact k _ _ q _ L' (t'.trans tk) z1 (a'.stab r' z2) _ (show Rep c.K Nw _ .non .non from .non)
end
abbrev ccF (c : Cc) (p : Addr) (o : HO) : Cc := ⟨c.K, c.mg, upd c.H0 p o, c.Io, c.vs⟩
def hForL (j : Nat) (fe : FE) (f : FSw) : FSw := fun env m P => match fe env with
  | .ok (.fr ds) e => D.flats ds = true ∧ loopH j f ds e m P
  | _ => False
section
variable {c : Cc} {C p : Addr} {o : HO} {L : Addr → Prop} {σ : L2.St} {H : Hp} {env : En} {m : Gt}
theorem RE.inF (r : RE c L σ H env) (e : H p = some o) (n : ¬ ownM σ env p) : RE (ccF c p o) L σ H env :=
  ⟨r.len, r.im, fun i io ds e1 => by
    obtain ⟨a, xs, e2, e3, e4, e5, e6⟩ := r.own i io ds e1
    refine ⟨a, xs, e2, e3, e4, fun z => ?_, e6⟩
    show upd c.H0 p o a = none
    rw [upd_ne fun z => n ⟨i, io, ds, e1, by rw [← z]; exact e2⟩]
    exact e5 z, r.inj, r.ext, fun b u nb e1 => by
    by_cases z : b = p
    · subst z
      have e1 : upd c.H0 b o b = some u := e1
      rw [upd_same] at e1
      cases e1
      exact e
    · have e1 : upd c.H0 p o b = some u := e1
      rw [upd_ne z] at e1
      exact r.fr b u nb e1, r.io, r.hd⟩
theorem RE.outF (r : RE (ccF c p o) L σ H env) (h0 : c.H0 p = none) : RE c L σ H env :=
  ⟨r.len, r.im, fun i io ds e1 => by
    obtain ⟨a, xs, e2, e3, e4, e5, e6⟩ := r.own i io ds e1
    refine ⟨a, xs, e2, e3, e4, fun z => ?_, e6⟩
    have := e5 z
    have : upd c.H0 p o a = none := this
    by_cases y : a = p
    · rw [y, upd_same] at this; cases this
    · rw [upd_ne y] at this; exact this, r.inj, r.ext, fun b u nb e1 => by
    refine r.fr b u nb ?_
    show upd c.H0 p o b = some u
    rw [upd_ne fun z => by rw [z, h0] at e1; cases e1]
    exact e1, r.io, r.hd⟩
theorem AT.inF {xs : List V} (a : AT c C L m H) (e : H p = some (.lst xs)) (n : ¬ L p) : AT (ccF c p o) C L m H :=
  ⟨a.at_, fun b t eb => by
    obtain ⟨h1, h2, h3⟩ := a.off b t eb
    obtain ⟨_, _, _, _, k1, _⟩ := (a.at_ b t eb).ex
    refine ⟨h1, ?_, ?_⟩
    · show upd c.H0 p o b = none
      rw [upd_ne fun z => by rw [z, e] at k1; cases k1]; exact h2
    · show upd c.H0 p o t.l = none
      rw [upd_ne fun z => n (by rw [← z]; exact h1)]; exact h3, a.inj⟩
theorem AT.outF (a : AT (ccF c p o) C L m H) (h0 : c.H0 p = none) : AT c C L m H :=
  ⟨a.at_, fun b t eb => by
    obtain ⟨h1, h2, h3⟩ := a.off b t eb
    have k : ∀ q, (ccF c p o).H0 q = none → c.H0 q = none := fun q z => by
      have z : upd c.H0 p o q = none := z
      by_cases y : q = p
      · rw [y, upd_same] at z; cases z
      · rw [upd_ne y] at z; exact z
    exact ⟨h1, k _ h2, k _ h3⟩, a.inj⟩
end
section
variable {X : Cx} {c : Cc} {C : Addr} {W : WX} {pos : Pos} {iter tg : Expr} {body : List Stmt} {fe : FE} {f : FSw} {j : Nat}
theorem gs_forL (hp : PassesOwn (model X.prog X.w) X.A X.env X.xe) (hc : X.calm = true) (hi : PE X iter (dE c W fe)) (hg : PG X tg (gName j)) (hb : ∀ p o, PSs X body (hS (ccF c p o) C W f)) (hK : c.K = X.K := by rfl) (hIo : ∀ p, ¬ c.Io p := by exact fun _ z => z)
    (hs : ∀ x, foldedSetIterable iter X.env x = pure x := by intro _; rfl) : PS X (.For tg iter body [] pos) (hS c C W (hForL j fe f)) := by
  have hb' : PSs X body (fun D σ H => ∃ p o, hS (ccF c p o) C W f D σ H) := ⟨fun pins s σ H D I ⟨p, o, q⟩ => (hb p o).run pins s σ H D I q⟩
  refine PSw (ps_for hp hc (pi_list hi) hg hb' hs) fun D σ H ⟨env, L, m, P, r, ar, f', k⟩ => ?_
  refine dE.of r ?_
  unfold hForL at f'
  cases eq : fe env with
  | er => rw [eq] at f'; exact f'.elim
  | ex x e => rw [eq] at f'; exact f'.elim
  | ok t e =>
    rw [eq] at f'
    cases t with
    | im d => exact f'.elim
    | al i => exact f'.elim
    | ft cs => exact f'.elim
    | fr ds =>
      obtain ⟨fl, f'⟩ := f'
      intro H1 r1 s1 v ⟨p, xs, ev, hpx, rs, nl, h0, _, rF⟩
      subst ev
      have t1 := r.tk s1
      have a1 := ar.stab r s1
      have rsw : Reps c.K Nw H1 xs ds := rs.flats fl
      have nown : ¬ ownM σ e p := (rF.ext p (.inr rfl)).1
      have sq : ∀ {H' : Hp}, H' p = some (.lst xs) → SqL X.K H' p xs := fun e => .inl (.inl e)
      have at_ : ∀ {σ' H' L' env'}, RE (ccF c p (.lst xs)) L' σ' H' env' → H' p = some (.lst xs) := fun re => re.fr p _ (hIo p) (by show upd c.H0 p _ p = _; rw [upd_same])
      refine ⟨p, rfl, ⟨xs, sq hpx⟩, fun i mm σ H' => mm = ds.length - i ∧ TK H1 H' ∧ ∃ env L m, RE (ccF c p (.lst xs)) L σ H' env ∧ AT (ccF c p (.lst xs)) C L m H' ∧ loopH j f (ds.drop i) env m P, ⟨_, rfl, .refl H1, e, L, m, r1.inF hpx nown, a1.inF hpx nl, f'⟩, fun i mm σ H' ⟨em, tk, env', L', m', r', a', q'⟩ => ?_⟩
      have hl := rsw.length
      by_cases hi : ds.length ≤ i
      · refine .inl ⟨⟨xs, sq (at_ r'), by omega⟩, ?_⟩
        rw [List.drop_eq_nil_of_le hi] at q'
        exact k _ _ q' σ H' L' (t1.trans tk) (r'.outF h0) (a'.outF h0)
      · have hi : i < ds.length := Nat.lt_of_not_le hi
        obtain ⟨v, ev, rv⟩ := rsw.get (List.getElem?_eq_getElem hi)
        refine .inr ⟨⟨xs, v, sq (at_ r'), ev⟩, fun σ2 H2 => TK H1 H2 ∧ ∃ env L m, RE (ccF c p (.lst xs)) L σ2 H2 env ∧ AT (ccF c p (.lst xs)) C L m H2 ∧ loopH j f (ds.drop (i + 1)) env m P, fun σ2 H2 n => ⟨ds.length - (i + 1), by omega, rfl, n⟩, fun x H'' y => ?_⟩
        rw [List.drop_eq_getElem_cons hi] at q'
        obtain ⟨rfl, y⟩ := y
        have := y xs (sq (at_ r'))
        rw [ev] at this
        cases this
        obtain ⟨z1, z2⟩ := set_K (i := j) r' a' (show RepG c.K H'' v (.d ds[i]) from rv.to tk)
        refine ⟨p, .lst xs, _, L', m', _, z1, z2, q', fun r2 m2 q2 => ?_⟩
        cases r2 with
        | er => exact q2.elim
        | nx e => exact fun σ3 H3 L3 t3 r3 a3 => ⟨tk.trans t3, e, L3, m2, r3, a3, q2⟩
        | ct e => exact fun σ3 H3 L3 t3 r3 a3 => ⟨tk.trans t3, e, L3, m2, r3, a3, q2⟩
        | bk e => exact fun σ3 H3 L3 t3 r3 a3 => k _ _ q2 σ3 H3 L3 ((t1.trans tk).trans t3) (r3.outF h0) (a3.outF h0)
        | rt v e => exact fun y σ3 H3 L3 t3 r3 a3 ry => k _ _ q2 y σ3 H3 L3 ((t1.trans tk).trans t3) (r3.outF h0) (a3.outF h0) ry
        | ex x e => exact fun σ3 H3 L3 t3 r3 a3 => k _ _ q2 σ3 H3 L3 ((t1.trans tk).trans t3) (r3.outF h0) (a3.outF h0)
end
end DL
namespace DL
open PySem PySem.Spec L2
def g_SUM_WORDS : D := .tup [.str "over", .str "each"]
noncomputable def f_is_integer : FS := (sRet (eAn (eIsi "int" (eVar 0)) (eNo (eIsi "bool" (eVar 0)))))
noncomputable def d_is_integer : FD := runD 1 1 f_is_integer
noncomputable def f_is_between : FS := (sRet (eAn (eCall d_is_integer (aCons (eVar 0) aNil)) (eCh dLe dLe (eVar 1) (eVar 0) (eVar 2))))
noncomputable def d_is_between : FD := runD 3 3 f_is_between
noncomputable def f_is_tuple_of : FS := (sRet (eAn (eIsi "tuple" (eVar 0)) (eOp dEqA (eB dLen (aCons (eVar 0) aNil)) (eVar 1))))
noncomputable def d_is_tuple_of : FD := runD 2 2 f_is_tuple_of
noncomputable def f_is_most : FS := (sRet (eOr (eOp dIs (eVar 0) (eC .non)) (eCall d_is_between (aCons (eVar 0) (aCons (eC (.int 1)) (aCons (eC (.int 2)) aNil))))))
noncomputable def d_is_most : FD := runD 1 1 f_is_most
noncomputable def f_is_good : FS := (sSeq (sIf (tNo (tV (eCall d_is_tuple_of (aCons (eVar 0) (aCons (eC (.int 2)) aNil))))) (sRet (eC (.bl false))) sNx)
    (sSeq (sAsg (eVar 0) (gT 2 (gsCons (gN 1) (gsCons (gN 2) gsNil))))
    (sRet (eAn (eCall d_is_between (aCons (eVar 1) (aCons (eC (.int 1)) (aCons (eC (.int 9)) aNil)))) (eCall d_is_between (aCons (eVar 2) (aCons (eC (.int 0)) (aCons (eC (.int 9)) aNil))))))))
noncomputable def d_is_good : FD := runD 3 1 f_is_good
noncomputable def f_is_pack : FS := (sSeq (sIf (tNo (tV (eCall d_is_tuple_of (aCons (eVar 0) (aCons (eC (.int 5)) aNil))))) (sRet (eC (.bl false))) sNx)
    (sSeq (sAsg (eVar 0) (gT 5 (gsCons (gN 2) (gsCons (gN 3) (gsCons (gN 4) (gsCons (gN 5) (gsCons (gN 6) gsNil)))))))
    (sRet (eAn (eCall d_is_between (aCons (eVar 3) (aCons (eC (.int 0)) (aCons (eOp dSub (eVar 1) (eC (.int 1))) aNil)))) (eAn (eCall d_is_between (aCons (eVar 4) (aCons (eC (.int 2)) (aCons (eC (.int 3)) aNil)))) (eAn (eCall d_is_between (aCons (eVar 5) (aCons (eVar 4) (aCons (eC (.int 30)) aNil)))) (eCall d_is_most (aCons (eVar 6) aNil))))))))
noncomputable def d_is_pack : FD := runD 7 2 f_is_pack
noncomputable def f_is_from : FS := (sSeq (sIf (tNo (tV (eCall d_is_tuple_of (aCons (eVar 0) (aCons (eC (.int 4)) aNil))))) (sRet (eC (.bl false))) sNx)
    (sSeq (sAsg (eVar 0) (gT 4 (gsCons (gN 2) (gsCons (gN 3) (gsCons (gN 4) (gsCons (gN 5) gsNil))))))
    (sRet (eAn (eCall d_is_between (aCons (eVar 3) (aCons (eC (.int 0)) (aCons (eOp dSub (eVar 1) (eC (.int 1))) aNil)))) (eAn (eCall d_is_between (aCons (eVar 4) (aCons (eC (.int 2)) (aCons (eC (.int 4)) aNil)))) (eCall d_is_between (aCons (eVar 5) (aCons (eC (.int 1)) (aCons (eC (.int 9)) aNil)))))))))
noncomputable def d_is_from : FD := runD 6 2 f_is_from
noncomputable def f_is_over : FS := (sSeq (sIf (tNo (tV (eCall d_is_tuple_of (aCons (eVar 0) (aCons (eC (.int 3)) aNil))))) (sRet (eC (.bl false))) sNx)
    (sSeq (sAsg (eVar 0) (gT 3 (gsCons (gN 1) (gsCons (gN 2) (gsCons (gN 3) gsNil)))))
    (sRet (eAn (eCall d_is_between (aCons (eVar 2) (aCons (eC (.int 2)) (aCons (eC (.int 12)) aNil)))) (eCall d_is_between (aCons (eVar 3) (aCons (eC (.int 1)) (aCons (eB dMin2 (aCons (eC (.int 6)) (aCons (eVar 2) aNil))) aNil))))))))
noncomputable def d_is_over : FD := runD 4 1 f_is_over
noncomputable def f_is_each : FS := (sSeq (sIf (tNo (tV (eCall d_is_tuple_of (aCons (eVar 0) (aCons (eC (.int 4)) aNil))))) (sRet (eC (.bl false))) sNx)
    (sSeq (sAsg (eVar 0) (gT 4 (gsCons (gN 1) (gsCons (gN 2) (gsCons (gN 3) (gsCons (gN 4) gsNil))))))
    (sSeq (sIf (tOr' (tNo (tV (eCall d_is_between (aCons (eVar 2) (aCons (eC (.int 2)) (aCons (eC (.int 6)) aNil)))))) (tNo (tV (eCall d_is_between (aCons (eVar 3) (aCons (eC (.int 1)) (aCons (eVar 2) aNil))))))) (sRet (eC (.bl false))) sNx)
    (sRet (eAn (eCall d_is_most (aCons (eVar 4) aNil)) (eOr (eOp dNis (eVar 4) (eC .non)) (eOp dLe (eOp dMulA (eC (.int 2)) (eVar 3)) (eVar 2))))))))
noncomputable def d_is_each : FD := runD 5 1 f_is_each
noncomputable def f_is_rule : FS := (sSeq (sIf (tOr' (tNo (tV (eIsi "tuple" (eVar 0)))) (tV (eOp dEqA (eB dLen (aCons (eVar 0) aNil)) (eC (.int 0))))) (sRet (eC (.bl false))) sNx)
    (sSeq (sAsg (eOp dIx (eVar 0) (eC (.int 0))) (gN 2))
    (sSeq (sIf (tNo (tV (eIsi "str" (eVar 2)))) (sRet (eC (.bl false))) sNx)
    (sSeq (sIf (tV (eOp dEqA (eVar 2) (eC (.str "pack")))) (sRet (eCall d_is_pack (aCons (eVar 0) (aCons (eVar 1) aNil)))) sNx)
    (sSeq (sIf (tV (eOp dEqA (eVar 2) (eC (.str "from")))) (sRet (eCall d_is_from (aCons (eVar 0) (aCons (eVar 1) aNil)))) sNx)
    (sSeq (sIf (tV (eOp dEqA (eVar 2) (eC (.str "over")))) (sRet (eCall d_is_over (aCons (eVar 0) aNil))) sNx)
    (sRet (eAn (eOp dEqA (eVar 2) (eC (.str "each"))) (eCall d_is_each (aCons (eVar 0) aNil))))))))))
noncomputable def d_is_rule : FD := runD 3 2 f_is_rule
noncomputable def f_is_endless_each : FS := (sRet (eAn (eOp dEqA (eOp dIx (eVar 0) (eC (.int 0))) (eC (.str "each"))) (eOp dIs (eOp dIx (eVar 0) (eC (.int 3))) (eC .non))))
noncomputable def d_is_endless_each : FD := runD 1 1 f_is_endless_each
noncomputable def f_are_goods : FS := (sSeq (sIf (tOr' (tNo (tV (eIsi "tuple" (eVar 0)))) (tNo (tV (eCh dLe dLe (eC (.int 1)) (eB dLen (aCons (eVar 0) aNil)) (eC (.int 2)))))) (sRet (eC (.bl false))) sNx)
    (sRet (eB dAll (aCons (eLc (fiT (eVar 0)) [1] (.one 1) tT (eCall d_is_good (aCons (eVar 1) aNil))) aNil))))
noncomputable def d_are_goods : FD := runD 2 1 f_are_goods
noncomputable def f_are_rules : FS := (sSeq (sIf (tOr' (tNo (tV (eIsi "tuple" (eVar 0)))) (tV (eOp dGt (eB dLen (aCons (eVar 0) aNil)) (eC (.int 4))))) (sRet (eC (.bl false))) sNx)
    (sSeq (sIf (tNo (tV (eB dAll (aCons (eLc (fiT (eVar 0)) [2] (.one 2) tT (eCall d_is_rule (aCons (eVar 2) (aCons (eVar 1) aNil)))) aNil)))) (sRet (eC (.bl false))) sNx)
    (sRet (eOp dLe (eB dLen (aCons (eLc (fiT (eVar 0)) [2] (.one 2) (tV (eCall d_is_endless_each (aCons (eVar 2) aNil))) (eVar 2)) aNil)) (eC (.int 1))))))
noncomputable def d_are_rules : FD := runD 3 2 f_are_rules
noncomputable def f_is_shop : FS := (sSeq (sIf (tNo (tV (eCall d_is_tuple_of (aCons (eVar 0) (aCons (eC (.int 2)) aNil))))) (sRet (eC (.bl false))) sNx)
    (sSeq (sAsg (eVar 0) (gT 2 (gsCons (gN 1) (gsCons (gN 2) gsNil))))
    (sRet (eAn (eCall d_are_goods (aCons (eVar 1) aNil)) (eCall d_are_rules (aCons (eVar 2) (aCons (eB dLen (aCons (eVar 1) aNil)) aNil)))))))
noncomputable def d_is_shop : FD := runD 3 1 f_is_shop
noncomputable def f__law_cell_at : FS := (sSeq (sIf (tV (eOp dLt (eVar 1) (eB dLen (aCons (eVar 0) aNil)))) (sRet (eOp dIx (eVar 0) (eVar 1))) sNx)
    (sSeq (sIf (tV (eOp dEqA (eVar 0) (eLst aNil))) (sRet (eC (.int 0))) sNx)
    (sSeq (sAsg (eOp dIx (eVar 0) (eOp dMod (eVar 1) (eB dLen (aCons (eVar 0) aNil)))) (gN 2))
    (sSeq (sFor (fiR1 (aCons (eB dMin2 (aCons (eOp dFdiv (eVar 1) (eB dLen (aCons (eVar 0) aNil))) (aCons (eC (.int 60)) aNil))) aNil)) (gN 3) (sAsg (eOp dFdiv (eVar 2) (eC (.int 1000003))) (gN 2)))
    (sRet (eOp dAdd (eOp dAdd (eOp dMulA (eOp dIx (eVar 0) (eOp dMod (eVar 1) (eB dLen (aCons (eVar 0) aNil)))) (eC (.int 31))) (eVar 1)) (eOp dMulA (eVar 2) (eC (.int 101)))))))))
noncomputable def d__law_cell_at : FD := runD 4 2 f__law_cell_at
noncomputable def f__law_mixed : FS := (sSeq (sAsg (eOp dMod (eOp dAdd (eOp dAdd (eOp dMulA (eCall d__law_cell_at (aCons (eVar 0) (aCons (eVar 1) aNil))) (eC (.int 1103515245))) (eOp dMulA (eC (.int 7919)) (eVar 1))) (eC (.int 12345))) (eC (.int 2147483647))) (gN 3))
    (sRet (eOp dMod (eOp dMod (eOp dMod (eOp dPow (eVar 3) (eC (.int 5))) (eC (.int 2147483647))) (eC (.int 999983))) (eVar 2))))
noncomputable def d__law_mixed : FD := runD 4 3 f__law_mixed
noncomputable def f__law_draw : FS := (sSeq (sDrop (eMet kApp (eVar 1) (aCons (eC (.int 0)) aNil)))
    (sRet (eCall d__law_mixed (aCons (eVar 0) (aCons (eB dLen (aCons (eVar 1) aNil)) (aCons (eVar 2) aNil))))))
noncomputable def d__law_draw : FD := runD 3 3 f__law_draw
noncomputable def f__law_pick : FS := (sRet (eOp dIx (eVar 2) (eCallI 1 d__law_draw (aCons (eVar 0) (aCons (eVar 1) (aCons (eB dLen (aCons (eVar 2) aNil)) aNil))))))
noncomputable def d__law_pick : FD := runD 3 3 f__law_pick
noncomputable def f__law_some_rule_1 : FS := (sAsg (eCallI 1 d__law_draw (aCons (eVar 0) (aCons (eVar 1) (aCons (eC (.int 5)) aNil)))) (gN 4))
noncomputable def f__law_some_rule_2 : FS := (sAsg (eCallI 1 d__law_draw (aCons (eVar 0) (aCons (eVar 1) (aCons (eB dLen (aCons (eVar 2) aNil)) aNil)))) (gN 5))
noncomputable def f__law_some_rule_3 : FS := (sAsg (eOp dIx (eOp dIx (eVar 2) (eVar 5)) (eC (.int 0))) (gN 6))
noncomputable def f__law_some_rule_4 : FS := (sIf (tV (eOp dLt (eVar 4) (eC (.int 2)))) (sSeq (sAsg (eOp dAdd (eC (.int 2)) (eCallI 1 d__law_draw (aCons (eVar 0) (aCons (eVar 1) (aCons (eC (.int 2)) aNil))))) (gN 9))
    (sSeq (sAsg (eB dMax2 (aCons (eVar 9) (aCons (eOp dSub (eOp dMulA (eVar 9) (eVar 6)) (eCallI 1 d__law_draw (aCons (eVar 0) (aCons (eVar 1) (aCons (eOp dAdd (eOp dMulA (eC (.int 2)) (eVar 9)) (eC (.int 2))) aNil))))) aNil))) (gN 10))
    (sRet (eTup (aCons (eC (.str "pack")) (aCons (eVar 5) (aCons (eVar 9) (aCons (eVar 10) (aCons (eCallI 1 d__law_pick (aCons (eVar 0) (aCons (eVar 1) (aCons (eTup (aCons (eC .non) (aCons (eC .non) (aCons (eC (.int 1)) (aCons (eC (.int 2)) aNil))))) aNil)))) aNil))))))))) sNx)
noncomputable def f__law_some_rule_5 : FS := (sIf (tV (eOp dEqA (eVar 4) (eC (.int 2)))) (sRet (eTup (aCons (eC (.str "from")) (aCons (eVar 5) (aCons (eOp dAdd (eC (.int 2)) (eCallI 1 d__law_draw (aCons (eVar 0) (aCons (eVar 1) (aCons (eC (.int 3)) aNil))))) (aCons (eB dMax2 (aCons (eC (.int 1)) (aCons (eOp dSub (eVar 6) (eCallI 1 d__law_draw (aCons (eVar 0) (aCons (eVar 1) (aCons (eC (.int 4)) aNil))))) aNil))) aNil)))))) sNx)
noncomputable def f__law_some_rule_6 : FS := (sIf (tV (eOp dEqA (eVar 4) (eC (.int 3)))) (sSeq (sAsg (eOp dAdd (eC (.int 4)) (eCallI 1 d__law_draw (aCons (eVar 0) (aCons (eVar 1) (aCons (eC (.int 9)) aNil))))) (gN 7))
    (sRet (eTup (aCons (eC (.str "over")) (aCons (eVar 7) (aCons (eOp dAdd (eC (.int 1)) (eCallI 1 d__law_draw (aCons (eVar 0) (aCons (eVar 1) (aCons (eC (.int 4)) aNil))))) aNil)))))) sNx)
noncomputable def f__law_some_rule_7 : FS := (sAsg (eOp dAdd (eC (.int 2)) (eCallI 1 d__law_draw (aCons (eVar 0) (aCons (eVar 1) (aCons (eC (.int 5)) aNil))))) (gN 7))
noncomputable def f__law_some_rule_8 : FS := (sAsg (eCallI 1 d__law_pick (aCons (eVar 0) (aCons (eVar 1) (aCons (eIf (tV (eVar 3)) (eTup (aCons (eC (.int 1)) (aCons (eC (.int 2)) aNil))) (eTup (aCons (eC .non) (aCons (eC .non) (aCons (eC (.int 1)) (aCons (eC (.int 2)) aNil)))))) aNil)))) (gN 8))
noncomputable def f__law_some_rule_9 : FS := (sRet (eTup (aCons (eC (.str "each")) (aCons (eVar 7) (aCons (eOp dAdd (eC (.int 1)) (eCallI 1 d__law_draw (aCons (eVar 0) (aCons (eVar 1) (aCons (eOp dFdiv (eVar 7) (eC (.int 2))) aNil))))) (aCons (eVar 8) aNil))))))
noncomputable def f__law_some_rule : FS := sSeq f__law_some_rule_1 (sSeq f__law_some_rule_2 (sSeq f__law_some_rule_3 (sSeq f__law_some_rule_4 (sSeq f__law_some_rule_5 (sSeq f__law_some_rule_6 (sSeq f__law_some_rule_7 (sSeq f__law_some_rule_8 (f__law_some_rule_9))))))))
noncomputable def d__law_some_rule : FD := runD 11 4 f__law_some_rule
noncomputable def f__law_some_goods : FS := (sSeq (sAsg (eIf (tV (eOp dEqA (eCallI 1 d__law_draw (aCons (eVar 0) (aCons (eVar 1) (aCons (eC (.int 3)) aNil)))) (eC (.int 0)))) (eC (.int 2)) (eC (.int 1))) (gN 2))
    (sRet (eB dTuple (aCons (eLc (fiR1 (aCons (eVar 2) aNil)) [3] (.one 3) tT (eTup (aCons (eOp dAdd (eC (.int 3)) (eCallI 1 d__law_draw (aCons (eVar 0) (aCons (eVar 1) (aCons (eC (.int 7)) aNil))))) (aCons (eCallI 1 d__law_draw (aCons (eVar 0) (aCons (eVar 1) (aCons (eC (.int 8)) aNil)))) aNil)))) aNil))))
noncomputable def d__law_some_goods : FD := runD 4 2 f__law_some_goods
noncomputable def f__law_some_shop : FS := (sSeq (sPar 3 4 (aCons (eCallI 1 d__law_some_goods (aCons (eVar 0) (aCons (eVar 1) aNil))) (aCons (eLst aNil) aNil)))
    (sSeq (sFor (fiR1 (aCons (eCallI 1 d__law_draw (aCons (eVar 0) (aCons (eVar 1) (aCons (eC (.int 5)) aNil)))) aNil)) (gN 2) (sSeq (sAsg (eB dAny (aCons (eLc (fiL false (eVar 4)) [6] (.one 6) tT (eAn (eOp dEqA (eOp dIx (eVar 6) (eC (.int 0))) (eC (.str "each"))) (eOp dIs (eOp dIx (eVar 6) (eC (.int 3))) (eC .non)))) aNil)) (gN 5))
    (sDrop (eMet kApp (eVar 4) (aCons (eCallI 1 d__law_some_rule (aCons (eVar 0) (aCons (eVar 1) (aCons (eVar 3) (aCons (eVar 5) aNil))))) aNil)))))
    (sRet (eTup (aCons (eVar 3) (aCons (eB dTuple (aCons (eVar 4) aNil)) aNil))))))
noncomputable def d__law_some_shop : FD := runD 7 2 f__law_some_shop
noncomputable def f_check_shop : FS := (sIf (tNo (tV (eCall d_is_shop (aCons (eVar 0) aNil)))) (sRz "InvalidShop") sNx)
noncomputable def d_check_shop : FD := runD 1 1 f_check_shop
noncomputable def f_full_times : FS := (sSeq (sAsg (eOp dFdiv (eVar 0) (eVar 1)) (gN 3))
    (sRet (eIf (tV (eOp dIs (eVar 2) (eC .non))) (eVar 3) (eB dMin2 (aCons (eVar 3) (aCons (eVar 2) aNil))))))
noncomputable def d_full_times : FD := runD 4 3 f_full_times
noncomputable def f_fitting_rule : FS := (sSeq (sFor (fiE true (aCons (eVar 0) aNil)) (gT 2 (gsCons (gN 3) (gsCons (gN 4) gsNil))) (sIf (tAn (tV (eOp (dIn true) (eOp dIx (eVar 4) (eC (.int 0))) (eC g_SUM_WORDS))) (tAn (tV (eOp dEqA (eOp dIx (eVar 4) (eC (.int 1))) (eVar 1))) (tV (eOp dGe (eVar 2) (eOp dIx (eVar 4) (eC (.int 2))))))) (sRet (eVar 3)) sNx))
    (sRet (eC .non)))
noncomputable def d_fitting_rule : FD := runD 5 3 f_fitting_rule
noncomputable def f_pack_times : FS := (sSeq (sAsg (eVar 0) (gT 5 (gsCons (gN 2) (gsCons (gN 2) (gsCons (gN 3) (gsCons (gN 2) (gsCons (gN 4) gsNil)))))))
    (sRet (eCall d_full_times (aCons (eVar 1) (aCons (eVar 3) (aCons (eVar 4) aNil))))))
noncomputable def d_pack_times : FD := runD 5 2 f_pack_times
noncomputable def f_pack_amount : FS := (sSeq (sAsg (eVar 0) (gT 5 (gsCons (gN 4) (gsCons (gN 4) (gsCons (gN 5) (gsCons (gN 6) (gsCons (gN 4) gsNil)))))))
    (sSeq (sAsg (eCall d_pack_times (aCons (eVar 0) (aCons (eVar 2) aNil))) (gN 3))
    (sRet (eOp dAdd (eOp dMulA (eVar 3) (eVar 6)) (eOp dMulA (eOp dSub (eVar 2) (eOp dMulA (eVar 3) (eVar 5))) (eVar 1))))))
noncomputable def d_pack_amount : FD := runD 7 3 f_pack_amount
noncomputable def f_good_amount : FS := (sSeq (sAsg (eVar 0) (gT 2 (gsCons (gN 5) (gsCons (gN 6) gsNil))))
    (sSeq (sAsg (eOp dIx (eVar 5) (eVar 1)) (gT 2 (gsCons (gN 7) (gsCons (gN 8) gsNil))))
    (sSeq (sAsg (eCall d_fitting_rule (aCons (eVar 6) (aCons (eVar 1) (aCons (eVar 2) aNil)))) (gN 3))
    (sSeq (sIf (tV (eOp dIs (eVar 3) (eC .non))) (sRet (eOp dMulA (eVar 2) (eVar 7))) sNx)
    (sSeq (sAsg (eOp dIx (eVar 6) (eVar 3)) (gN 4))
    (sSeq (sIf (tV (eOp dEqA (eOp dIx (eVar 4) (eC (.int 0))) (eC (.str "pack")))) (sRet (eCall d_pack_amount (aCons (eVar 4) (aCons (eVar 7) (aCons (eVar 2) aNil))))) sNx)
    (sRet (eOp dMulA (eVar 2) (eOp dIx (eVar 4) (eC (.int 3)))))))))))
noncomputable def d_good_amount : FD := runD 9 3 f_good_amount
noncomputable def f_amounts_of : FS := (sRet (eB dTuple (aCons (eLc (fiE false (aCons (eVar 1) aNil)) [2, 3] (.tup [2, 3]) tT (eCall d_good_amount (aCons (eVar 0) (aCons (eVar 2) (aCons (eVar 3) aNil))))) aNil)))
noncomputable def d_amounts_of : FD := runD 4 2 f_amounts_of
noncomputable def f_off_times : FS := (sSeq (sIf (tV (eOp dEqA (eOp dIx (eVar 0) (eC (.int 0))) (eC (.str "over")))) (sRet (eIf (tV (eOp dGe (eVar 1) (eOp dIx (eVar 0) (eC (.int 1))))) (eC (.int 1)) (eC (.int 0)))) sNx)
    (sSeq (sIf (tV (eOp dEqA (eOp dIx (eVar 0) (eC (.int 0))) (eC (.str "each")))) (sRet (eCall d_full_times (aCons (eVar 1) (aCons (eOp dIx (eVar 0) (eC (.int 1))) (aCons (eOp dIx (eVar 0) (eC (.int 3))) aNil))))) sNx)
    (sRet (eC (.int 0)))))
noncomputable def d_off_times : FD := runD 2 2 f_off_times
noncomputable def b_apply_sums_1_1 : FS := (sAsg (eCall d_off_times (aCons (eVar 4) (aCons (eVar 2) aNil))) (gN 5))
noncomputable def b_apply_sums_1_2 : FS := (sAug 2 dSub (eOp dMulA (eVar 5) (eOp dIx (eVar 4) (eC (.int 2)))))
noncomputable def b_apply_sums_1_3 : FS := (sDrop (eMet kApp (eVar 3) (aCons (eVar 5) aNil)))
noncomputable def b_apply_sums_1 : FS := sSeq b_apply_sums_1_1 (sSeq b_apply_sums_1_2 (b_apply_sums_1_3))
noncomputable def f_apply_sums_1 : FS := (sAsg (eVar 1) (gN 2))
noncomputable def f_apply_sums_2 : FS := (sAsg (eLst aNil) (gN 3))
noncomputable def f_apply_sums_3 : FS := (sFor (fiT (eVar 0)) (gN 4) b_apply_sums_1)
noncomputable def f_apply_sums_4 : FS := (sRet (eTup (aCons (eVar 2) (aCons (eVar 3) aNil))))
noncomputable def f_apply_sums : FS := sSeq f_apply_sums_1 (sSeq f_apply_sums_2 (sSeq f_apply_sums_3 (f_apply_sums_4)))
noncomputable def d_apply_sums : FD := runD 6 2 f_apply_sums
noncomputable def f_left_of_1 : FS := (sAsg (eCall d_apply_sums (aCons (eVar 0) (aCons (eVar 1) aNil))) (gT 2 (gsCons (gN 2) (gsCons (gN 3) gsNil))))
noncomputable def f_left_of_2 : FS := (sRet (eVar 2))
noncomputable def f_left_of : FS := sSeq f_left_of_1 (f_left_of_2)
noncomputable def d_left_of : FD := runD 4 2 f_left_of
noncomputable def f_charge_of : FS := (sRet (eCall d_left_of (aCons (eOp dIx (eVar 0) (eC (.int 1))) (aCons (eB dSum (aCons (eCall d_amounts_of (aCons (eVar 0) (aCons (eVar 1) aNil))) aNil)) aNil))))
noncomputable def d_charge_of : FD := runD 2 2 f_charge_of
noncomputable def f_with_more : FS := (sRet (eOp dAdd (eOp dAdd (eSl (eVar 0) tNp (tPa (eVar 1))) (eTup (aCons (eOp dAdd (eOp dIx (eVar 0) (eVar 1)) (eVar 2)) aNil))) (eSl (eVar 0) (tPa (eOp dAdd (eVar 1) (eC (.int 1)))) tNp)))
noncomputable def d_with_more : FD := runD 3 3 f_with_more
end DL
namespace DL
open PySem PySem.Spec L2
def isBetween (v : D) (lo hi : Int) : Bool := match v with
  | .int i => decide (lo ≤ i) && decide (i ≤ hi)
  | _ => false
def isInt : D → Bool
  | .int _ => true
  | _ => false
theorem r_is_integer (v : D) : d_is_integer [.im v] = .ok (.im (.bl (isInt v))) [.no] := by
  cases v <;> simp [d_is_integer, f_is_integer, isInt, sEr, op2, op1, T.val, R.opt, toB, opL, vals, consT, disp, mvs, mkTup, callT, callI, argE, others, isAl, isAli, finT, outE, padE, runD, cpsOf, cpT, toI, slT, T.weak, metT, kApp, kExt, elemD, iT, iL, iR1, iR2, iE, iZ, onI]
theorem r_is_between (v : D) (lo hi : Int) : d_is_between [.im v, .im (.int lo), .im (.int hi)] = .ok (.im (.bl (isBetween v lo hi))) [.no, .no, .no] := by
  cases v <;> simp [d_is_between, f_is_between, isBetween, r_is_integer, isInt, sEr, op2, op1, T.val, R.opt, toB, opL, vals, consT, disp, mvs, mkTup, callT, callI, argE, others, isAl, isAli, finT, outE, padE, runD, cpsOf, cpT, toI, slT, T.weak, metT, kApp, kExt, elemD, iT, iL, iR1, iR2, iE, iZ, onI]
def isTupleOf (v : D) (n : Int) : Bool := match v with
  | .tup ds => (ds.length : Int) == n
  | _ => false
theorem r_is_tuple_of (v : D) (n : Int) : d_is_tuple_of [.im v, .im (.int n)] = .ok (.im (.bl (isTupleOf v n))) [.no, .no] := by
  cases v <;> simp [d_is_tuple_of, f_is_tuple_of, isTupleOf, sEr, op2, op1, T.val, R.opt, toB, opL, vals, consT, disp, mvs, mkTup, callT, callI, argE, others, isAl, isAli, finT, outE, padE, runD, cpsOf, cpT, toI, slT, T.weak, metT, kApp, kExt, elemD, iT, iL, iR1, iR2, iE, iZ, onI]
def isMost (v : D) : Bool := match v with
  | .non => true
  | v => isBetween v 1 2
theorem r_is_most (v : D) : d_is_most [.im v] = .ok (.im (.bl (isMost v))) [.no] := by
  cases v <;> simp [d_is_most, f_is_most, isMost, r_is_between, sEr, op2, op1, T.val, R.opt, toB, opL, vals, consT, disp, mvs, mkTup, callT, callI, argE, others, isAl, isAli, finT, outE, padE, runD, cpsOf, cpT, toI, slT, T.weak, metT, kApp, kExt, elemD, iT, iL, iR1, iR2, iE, iZ, onI]
def isGood (v : D) : Bool := match v with
  | .tup [p, c] => isBetween p 1 9 && isBetween c 0 9
  | _ => false
theorem r_is_good (v : D) : d_is_good [.im v] = .ok (.im (.bl (isGood v))) [.no] := by
  by_cases h : isTupleOf v 2 = true
  · obtain ⟨a, b, rfl⟩ : ∃ a b, v = .tup [a, b] := by
      cases v <;> simp [isTupleOf] at h
      rename_i ds
      match ds, h with
      | [a, b], _ => exact ⟨a, b, rfl⟩
    simp [d_is_good, f_is_good, isGood, r_is_tuple_of, r_is_between, h, sEr, op2, op1, T.val, R.opt, toB, opL, vals, consT, disp, mvs, mkTup, callT, callI, argE, others, isAl, isAli, finT, outE, padE, runD, cpsOf, cpT, toI, slT, T.weak, metT, kApp, kExt, elemD, iT, iL, iR1, iR2, iE, iZ, onI]
  · have e : isGood v = false := by
      unfold isGood
      split
      · simp [isTupleOf] at h
      · rfl
    simp [d_is_good, f_is_good, e, r_is_tuple_of, h, sEr, op2, op1, T.val, R.opt, toB, opL, vals, consT, disp, mvs, mkTup, callT, callI, argE, others, isAl, isAli, finT, outE, padE, runD, cpsOf, cpT, toI, slT, T.weak, metT, kApp, kExt, elemD, iT, iL, iR1, iR2, iE, iZ, onI]
theorem isBt_int {v : D} {a b : Int} (h : isBetween v a b = true) : ∃ i, v = .int i := by
  cases v <;> first | exact ⟨_, rfl⟩ | exact (Bool.false_ne_true h).elim
theorem isTup_get {v : D} {n : Int} (h : isTupleOf v n = true) : ∃ ds, v = .tup ds ∧ (ds.length : Int) = n := by
  cases v <;> simp [isTupleOf] at h
  exact ⟨_, rfl, h⟩
def isPack (v : D) (n : Int) : Bool := match v with
  | .tup [_, .int g, .int s, p, m] => isBetween (.int g) 0 (n - 1) && (isBetween (.int s) 2 3 && (isBetween p s 30 && isMost m))
  | _ => false
theorem r_is_pack (v : D) (n : Int) : d_is_pack [.im v, .im (.int n)] = .ok (.im (.bl (isPack v n))) [.no, .no] := by
  by_cases h : isTupleOf v 5 = true
  · obtain ⟨ds, rfl, hl⟩ := isTup_get h
    match ds, hl with
    | [a, g, s, p, m], _ =>
      by_cases hg : isBetween g 0 (n - 1) = true
      · by_cases hs : isBetween s 2 3 = true
        · obtain ⟨g, rfl⟩ := isBt_int hg
          obtain ⟨s, rfl⟩ := isBt_int hs
          simp [d_is_pack, f_is_pack, isPack, r_is_tuple_of, r_is_between, r_is_most, h, sEr, op2, op1, T.val, R.opt, toB, opL, vals, consT, disp, mvs, mkTup, callT, callI, argE, others, isAl, isAli, finT, outE, padE, runD, cpsOf, cpT, toI, slT, T.weak, metT, kApp, kExt, elemD, iT, iL, iR1, iR2, iE, iZ, onI]
        · have e : isPack (.tup [a, g, s, p, m]) n = false := by
            unfold isPack
            split
            · rename_i z; cases z; simp [hs]
            · rfl
          simp [d_is_pack, f_is_pack, e, r_is_tuple_of, r_is_between, r_is_most, h, hs, sEr, op2, op1, T.val, R.opt, toB, opL, vals, consT, disp, mvs, mkTup, callT, callI, argE, others, isAl, isAli, finT, outE, padE, runD, cpsOf, cpT, toI, slT, T.weak, metT, kApp, kExt, elemD, iT, iL, iR1, iR2, iE, iZ, onI]
      · have e : isPack (.tup [a, g, s, p, m]) n = false := by
          unfold isPack
          split
          · rename_i z; cases z; simp [hg]
          · rfl
        simp [d_is_pack, f_is_pack, e, r_is_tuple_of, r_is_between, r_is_most, h, hg, sEr, op2, op1, T.val, R.opt, toB, opL, vals, consT, disp, mvs, mkTup, callT, callI, argE, others, isAl, isAli, finT, outE, padE, runD, cpsOf, cpT, toI, slT, T.weak, metT, kApp, kExt, elemD, iT, iL, iR1, iR2, iE, iZ, onI]
  · have e : isPack v n = false := by
      unfold isPack
      split
      · simp [isTupleOf] at h
      · rfl
    simp [d_is_pack, f_is_pack, e, r_is_tuple_of, h, sEr, op2, op1, T.val, R.opt, toB, opL, vals, consT, disp, mvs, mkTup, callT, callI, argE, others, isAl, isAli, finT, outE, padE, runD, cpsOf, cpT, toI, slT, T.weak, metT, kApp, kExt, elemD, iT, iL, iR1, iR2, iE, iZ, onI]
def isFrom (v : D) (n : Int) : Bool := match v with
  | .tup [_, g, l, p] => isBetween g 0 (n - 1) && (isBetween l 2 4 && isBetween p 1 9)
  | _ => false
theorem r_is_from (v : D) (n : Int) : d_is_from [.im v, .im (.int n)] = .ok (.im (.bl (isFrom v n))) [.no, .no] := by
  by_cases h : isTupleOf v 4 = true
  · obtain ⟨ds, rfl, hl⟩ := isTup_get h
    match ds, hl with
    | [a, g, s, p], _ => simp [d_is_from, f_is_from, isFrom, r_is_tuple_of, r_is_between, h, sEr, op2, op1, T.val, R.opt, toB, opL, vals, consT, disp, mvs, mkTup, callT, callI, argE, others, isAl, isAli, finT, outE, padE, runD, cpsOf, cpT, toI, slT, T.weak, metT, kApp, kExt, elemD, iT, iL, iR1, iR2, iE, iZ, onI]
  · have e : isFrom v n = false := by
      unfold isFrom
      split
      · simp [isTupleOf] at h
      · rfl
    simp [d_is_from, f_is_from, e, r_is_tuple_of, h, sEr, op2, op1, T.val, R.opt, toB, opL, vals, consT, disp, mvs, mkTup, callT, callI, argE, others, isAl, isAli, finT, outE, padE, runD, cpsOf, cpT, toI, slT, T.weak, metT, kApp, kExt, elemD, iT, iL, iR1, iR2, iE, iZ, onI]
def isOver (v : D) : Bool := match v with
  | .tup [_, .int f, o] => isBetween (.int f) 2 12 && isBetween o 1 (if f < 6 then f else 6)
  | _ => false
theorem r_is_over (v : D) : d_is_over [.im v] = .ok (.im (.bl (isOver v))) [.no] := by
  by_cases h : isTupleOf v 3 = true
  · obtain ⟨ds, rfl, hl⟩ := isTup_get h
    match ds, hl with
    | [a, f, o], _ =>
      by_cases hf : isBetween f 2 12 = true
      · obtain ⟨f, rfl⟩ := isBt_int hf
        simp [d_is_over, f_is_over, isOver, r_is_tuple_of, r_is_between, h, dMin2, sEr, op2, op1, T.val, R.opt, toB, opL, vals, consT, disp, mvs, mkTup, callT, callI, argE, others, isAl, isAli, finT, outE, padE, runD, cpsOf, cpT, toI, slT, T.weak, metT, kApp, kExt, elemD, iT, iL, iR1, iR2, iE, iZ, onI]
      · have e : isOver (.tup [a, f, o]) = false := by
          unfold isOver
          split
          · rename_i z; cases z; simp [hf]
          · rfl
        simp [d_is_over, f_is_over, e, r_is_tuple_of, r_is_between, h, hf, sEr, op2, op1, T.val, R.opt, toB, opL, vals, consT, disp, mvs, mkTup, callT, callI, argE, others, isAl, isAli, finT, outE, padE, runD, cpsOf, cpT, toI, slT, T.weak, metT, kApp, kExt, elemD, iT, iL, iR1, iR2, iE, iZ, onI]
  · have e : isOver v = false := by
      unfold isOver
      split
      · simp [isTupleOf] at h
      · rfl
    simp [d_is_over, f_is_over, e, r_is_tuple_of, h, sEr, op2, op1, T.val, R.opt, toB, opL, vals, consT, disp, mvs, mkTup, callT, callI, argE, others, isAl, isAli, finT, outE, padE, runD, cpsOf, cpT, toI, slT, T.weak, metT, kApp, kExt, elemD, iT, iL, iR1, iR2, iE, iZ, onI]
def isNon : D → Bool
  | .non => true
  | _ => false
def isEach (v : D) : Bool := match v with
  | .tup [_, .int f, .int o, m] => isBetween (.int f) 2 6 && (isBetween (.int o) 1 f && (isMost m && (!isNon m || decide (2 * o ≤ f))))
  | _ => false
theorem dNis_non (m : D) : dNis m .non = some (.im (.bl (!isNon m))) := by cases m <;> rfl
theorem dIs_non (m : D) : dIs m .non = some (.im (.bl (isNon m))) := by cases m <;> rfl
theorem r_is_each (v : D) : d_is_each [.im v] = .ok (.im (.bl (isEach v))) [.no] := by
  by_cases h : isTupleOf v 4 = true
  · obtain ⟨ds, rfl, hl⟩ := isTup_get h
    match ds, hl with
    | [a, f, o, m], _ =>
      by_cases hf : isBetween f 2 6 = true
      · obtain ⟨f, rfl⟩ := isBt_int hf
        by_cases ho : isBetween o 1 f = true
        · obtain ⟨o, rfl⟩ := isBt_int ho
          have q : (-(2 ^ 64) < (2 : Int) ∧ (2 : Int) < 2 ^ 64) ∨ (-(2 ^ 64) < o ∧ o < 2 ^ 64) := .inl (by decide)
          simp [d_is_each, f_is_each, isEach, r_is_tuple_of, r_is_between, r_is_most, h, hf, ho, dNis_non, dMulA, sEr, op2, op1, T.val, R.opt, toB, opL, vals, consT, disp, mvs, mkTup, callT, callI, argE, others, isAl, isAli, finT, outE, padE, runD, cpsOf, cpT, toI, slT, T.weak, metT, kApp, kExt, elemD, iT, iL, iR1, iR2, iE, iZ, onI, -dNis]
        · have e : isEach (.tup [a, .int f, o, m]) = false := by
            unfold isEach
            split
            · rename_i z; cases z; simp [ho]
            · rfl
          simp [d_is_each, f_is_each, e, r_is_tuple_of, r_is_between, h, ho, hf, sEr, op2, op1, T.val, R.opt, toB, opL, vals, consT, disp, mvs, mkTup, callT, callI, argE, others, isAl, isAli, finT, outE, padE, runD, cpsOf, cpT, toI, slT, T.weak, metT, kApp, kExt, elemD, iT, iL, iR1, iR2, iE, iZ, onI]
      · have e : isEach (.tup [a, f, o, m]) = false := by
          unfold isEach
          split
          · rename_i z; cases z; simp [hf]
          · rfl
        simp [d_is_each, f_is_each, e, r_is_tuple_of, r_is_between, h, hf, sEr, op2, op1, T.val, R.opt, toB, opL, vals, consT, disp, mvs, mkTup, callT, callI, argE, others, isAl, isAli, finT, outE, padE, runD, cpsOf, cpT, toI, slT, T.weak, metT, kApp, kExt, elemD, iT, iL, iR1, iR2, iE, iZ, onI]
  · have e : isEach v = false := by
      unfold isEach
      split
      · simp [isTupleOf] at h
      · rfl
    simp [d_is_each, f_is_each, e, r_is_tuple_of, h, sEr, op2, op1, T.val, R.opt, toB, opL, vals, consT, disp, mvs, mkTup, callT, callI, argE, others, isAl, isAli, finT, outE, padE, runD, cpsOf, cpT, toI, slT, T.weak, metT, kApp, kExt, elemD, iT, iL, iR1, iR2, iE, iZ, onI]
def isRule (v : D) (n : Int) : Bool := match v with
  | .tup (.str x :: ds) => bif x == "pack" then isPack v n else bif x == "from" then isFrom v n else bif x == "over" then isOver v else (x == "each" && isEach v)
  | _ => false
theorem r_is_rule (v : D) (n : Int) : d_is_rule [.im v, .im (.int n)] = .ok (.im (.bl (isRule v n))) [.no, .no] := by
  have q : ∀ k : Nat, ((k : Int) + 1 == 0) = false := fun k => by simp; omega
  rcases v with _ | _ | _ | _ | ds | _ | _ <;> try (simp [d_is_rule, f_is_rule, isRule, sEr, op2, op1, T.val, R.opt, toB, opL, vals, consT, disp, mvs, mkTup, callT, callI, argE, others, isAl, isAli, finT, outE, padE, runD, cpsOf, cpT, toI, slT, T.weak, metT, kApp, kExt, elemD, iT, iL, iR1, iR2, iE, iZ, onI]; done)
  cases ds with
  | nil => simp [d_is_rule, f_is_rule, isRule, sEr, op2, op1, T.val, R.opt, toB, opL, vals, consT, disp, mvs, mkTup, callT, callI, argE, others, isAl, isAli, finT, outE, padE, runD, cpsOf, cpT, toI, slT, T.weak, metT, kApp, kExt, elemD, iT, iL, iR1, iR2, iE, iZ, onI]
  | cons w ds =>
    cases w <;> simp [d_is_rule, f_is_rule, isRule, dIx, atI, ixN, q, r_is_pack, r_is_from, r_is_over, r_is_each, sEr, op2, op1, T.val, R.opt, toB, opL, vals, consT, disp, mvs, mkTup, callT, callI, argE, others, isAl, isAli, finT, outE, padE, runD, cpsOf, cpT, toI, slT, T.weak, metT, kApp, kExt, elemD, iT, iL, iR1, iR2, iE, iZ, onI]

end DL
namespace DL
open PySem PySem.Spec L2
def isEndless (v : D) : Bool := match v with
  | .tup [.str x, _, _, m] => x == "each" && isNon m
  | _ => false
theorem rule_word {v : D} {n : Int} (h : isRule v n = true) : ∃ x ds, v = .tup (.str x :: ds) := by
  unfold isRule at h
  split at h
  · exact ⟨_, _, rfl⟩
  · cases h
theorem each_form {ds : List D} (h : isEach (.tup ds) = true) : ∃ a b c m, ds = [a, b, c, m] := by
  unfold isEach at h
  split at h
  · rename_i z; cases z; exact ⟨_, _, _, _, rfl⟩
  · cases h
theorem rule_each {x : Str} {ds : List D} {n : Int} (h : isRule (.tup (.str x :: ds)) n = true) (e : x = "each") : ∃ b c m, ds = [b, c, m] := by
  subst e
  have h : isEach (.tup (.str "each" :: ds)) = true := h
  obtain ⟨a, b, c, m, e⟩ := each_form h
  cases e
  exact ⟨b, c, m, rfl⟩
theorem r_endless {v : D} {n : Int} (h : isRule v n = true) : d_is_endless_each [.im v] = .ok (.im (.bl (isEndless v))) [.no] := by
  obtain ⟨x, ds, rfl⟩ := rule_word h
  have q : ∀ k : Nat, (0 : Int) < (k : Int) + 1 := fun k => by omega
  by_cases e : x = "each"
  · obtain ⟨b, c, m, rfl⟩ := rule_each h e
    subst e
    simp [d_is_endless_each, f_is_endless_each, isEndless, dIx, atI, ixN, dIs_non, sEr, op2, op1, T.val, R.opt, toB, opL, vals, consT, disp, mvs, mkTup, callT, callI, argE, others, isAl, isAli, finT, outE, padE, runD, cpsOf, cpT, toI, slT, T.weak, metT, kApp, kExt, elemD, iT, iL, iR1, iR2, iE, iZ, onI, -dIs]
  · have e' : (x == "each") = false := by simpa using e
    have e2 : isEndless (.tup (.str x :: ds)) = false := by
      unfold isEndless
      split
      · rename_i z; cases z; simp [e']
      · rfl
    simp [d_is_endless_each, f_is_endless_each, e2, e', dIx, atI, ixN, q, sEr, op2, op1, T.val, R.opt, toB, opL, vals, consT, disp, mvs, mkTup, callT, callI, argE, others, isAl, isAli, finT, outE, padE, runD, cpsOf, cpT, toI, slT, T.weak, metT, kApp, kExt, elemD, iT, iL, iR1, iR2, iE, iZ, onI, -dIs]
def areGoods (v : D) : Bool := match v with
  | .tup ds => (decide (1 ≤ ds.length) && decide (ds.length ≤ 2)) && ds.all isGood
  | _ => false
theorem small_size {n : Nat} (h : n ≤ 1000) : n ≤ sizeLine := Nat.le_trans h (by decide)
theorem l_goods (ds : List D) (h : ds.length ≤ 1000) : eLc (fiT (eVar 0)) [1] (.one 1) tT (eCall d_is_good (aCons (eVar 1) aNil)) [.im (.tup ds), .no] = .ok (.fr (ds.map fun d => .bl (isGood d))) [.im (.tup ds), .no] := by
  have := lc_map (k := ⟨ds, none⟩) (vs := [1]) (t := .one 1) (fe := eCall d_is_good (aCons (eVar 1) aNil)) (h := fun d => .bl (isGood d)) (env := [.im (.tup ds), .no]) trivial ds [] (small_size (by simpa using h)) fun d _ =>
    ⟨_, _, _, rfl, by simp [r_is_good, sEr, op2, op1, T.val, R.opt, toB, opL, vals, consT, disp, mvs, mkTup, callT, callI, argE, others, isAl, isAli, finT, outE, padE, runD, cpsOf, cpT, toI, slT, T.weak, metT, kApp, kExt, elemD, iT, iL, iR1, iR2, iE, iZ, onI]; exact ⟨rfl, rfl⟩, rfl, rfl⟩
  rw [eLc_s]
  simp [wipeE, this, sEr, op2, op1, T.val, R.opt, toB, opL, vals, consT, disp, mvs, mkTup, callT, callI, argE, others, isAl, isAli, finT, outE, padE, runD, cpsOf, cpT, toI, slT, T.weak, metT, kApp, kExt, elemD, iT, iL, iR1, iR2, iE, iZ, onI]
theorem r_are_goods (v : D) : d_are_goods [.im v] = .ok (.im (.bl (areGoods v))) [.no] := by
  rcases v with _ | _ | _ | _ | ds | _ | _ <;> try (simp [d_are_goods, f_are_goods, areGoods, sEr, op2, op1, T.val, R.opt, toB, opL, vals, consT, disp, mvs, mkTup, callT, callI, argE, others, isAl, isAli, finT, outE, padE, runD, cpsOf, cpT, toI, slT, T.weak, metT, kApp, kExt, elemD, iT, iL, iR1, iR2, iE, iZ, onI]; done)
  by_cases h : 1 ≤ ds.length ∧ ds.length ≤ 2
  · have h1 : (1 : Int) ≤ ds.length := by omega
    have h2 : (ds.length : Int) ≤ 2 := by omega
    simp [d_are_goods, f_are_goods, areGoods, h, h1, h2, l_goods ds (by omega), sEr, op2, op1, T.val, R.opt, toB, opL, vals, consT, disp, mvs, mkTup, callT, callI, argE, others, isAl, isAli, finT, outE, padE, runD, cpsOf, cpT, toI, slT, T.weak, metT, kApp, kExt, elemD, iT, iL, iR1, iR2, iE, iZ, onI]
  · have e : (decide (1 ≤ ds.length) && decide (ds.length ≤ 2)) = false := by simpa using h
    have e2 : (!decide ((1 : Int) ≤ ds.length) || !decide ((ds.length : Int) ≤ 2)) = true := by simp; omega
    simp [d_are_goods, f_are_goods, areGoods, e, e2, sEr, op2, op1, T.val, R.opt, toB, opL, vals, consT, disp, mvs, mkTup, callT, callI, argE, others, isAl, isAli, finT, outE, padE, runD, cpsOf, cpT, toI, slT, T.weak, metT, kApp, kExt, elemD, iT, iL, iR1, iR2, iE, iZ, onI]
def rulesOk (ds : List D) (n : Int) : Bool := ds.all fun d => isRule d n
def areRules (v : D) (n : Int) : Bool := match v with
  | .tup ds => (decide (ds.length ≤ 4) && rulesOk ds n) && decide ((ds.filter isEndless).length ≤ 1)
  | _ => false
theorem l_rules1 (ds : List D) (n : Int) (h : ds.length ≤ 1000) : eLc (fiT (eVar 0)) [2] (.one 2) tT (eCall d_is_rule (aCons (eVar 2) (aCons (eVar 1) aNil))) [.im (.tup ds), .im (.int n), .no] = .ok (.fr (ds.map fun d => .bl (isRule d n))) [.im (.tup ds), .im (.int n), .no] := by
  have := lc_map (k := ⟨ds, none⟩) (vs := [2]) (t := .one 2) (fe := eCall d_is_rule (aCons (eVar 2) (aCons (eVar 1) aNil))) (h := fun d => .bl (isRule d n)) (env := [.im (.tup ds), .im (.int n), .no]) trivial ds [] (small_size (by simpa using h)) fun d _ =>
    ⟨_, _, _, rfl, by simp [r_is_rule, sEr, op2, op1, T.val, R.opt, toB, opL, vals, consT, disp, mvs, mkTup, callT, callI, argE, others, isAl, isAli, finT, outE, padE, runD, cpsOf, cpT, toI, slT, T.weak, metT, kApp, kExt, elemD, iT, iL, iR1, iR2, iE, iZ, onI]; exact ⟨rfl, rfl⟩, rfl, rfl⟩
  rw [eLc_s]
  simp [wipeE, this, sEr, op2, op1, T.val, R.opt, toB, opL, vals, consT, disp, mvs, mkTup, callT, callI, argE, others, isAl, isAli, finT, outE, padE, runD, cpsOf, cpT, toI, slT, T.weak, metT, kApp, kExt, elemD, iT, iL, iR1, iR2, iE, iZ, onI]
theorem l_rules2 (ds : List D) (n : Int) (h : ds.length ≤ 1000) (hr : rulesOk ds n = true) : eLc (fiT (eVar 0)) [2] (.one 2) (tV (eCall d_is_endless_each (aCons (eVar 2) aNil))) (eVar 2) [.im (.tup ds), .im (.int n), .no] = .ok (.fr (ds.filter isEndless)) [.im (.tup ds), .im (.int n), .no] := by
  have hr : ∀ d ∈ ds, isRule d n = true := by simpa [rulesOk] using hr
  have := lc_filter (k := ⟨ds, none⟩) (vs := [2]) (t := .one 2) (ft := tV (eCall d_is_endless_each (aCons (eVar 2) aNil))) (fe := eVar 2) (p := isEndless) (h := id) (env := [.im (.tup ds), .im (.int n), .no]) trivial ds [] (small_size (by simpa using h)) fun d z =>
    ⟨_, _, rfl, by simp [r_endless (hr d z), sEr, op2, op1, T.val, R.opt, toB, opL, vals, consT, disp, mvs, mkTup, callT, callI, argE, others, isAl, isAli, finT, outE, padE, runD, cpsOf, cpT, toI, slT, T.weak, metT, kApp, kExt, elemD, iT, iL, iR1, iR2, iE, iZ, onI]; exact rfl, rfl, fun _ => ⟨_, _, rfl, rfl, rfl⟩⟩
  rw [eLc_s]
  simp [wipeE, this, sEr, op2, op1, T.val, R.opt, toB, opL, vals, consT, disp, mvs, mkTup, callT, callI, argE, others, isAl, isAli, finT, outE, padE, runD, cpsOf, cpT, toI, slT, T.weak, metT, kApp, kExt, elemD, iT, iL, iR1, iR2, iE, iZ, onI]
theorem r_are_rules (v : D) (n : Int) : d_are_rules [.im v, .im (.int n)] = .ok (.im (.bl (areRules v n))) [.no, .no] := by
  rcases v with _ | _ | _ | _ | ds | _ | _ <;> try (simp [d_are_rules, f_are_rules, areRules, sEr, op2, op1, T.val, R.opt, toB, opL, vals, consT, disp, mvs, mkTup, callT, callI, argE, others, isAl, isAli, finT, outE, padE, runD, cpsOf, cpT, toI, slT, T.weak, metT, kApp, kExt, elemD, iT, iL, iR1, iR2, iE, iZ, onI]; done)
  by_cases h : ds.length ≤ 4
  · have h1 : ¬ (4 : Int) < ds.length := by omega
    by_cases hr : rulesOk ds n = true
    · have hr' : (ds.all fun d => isRule d n) = true := hr
      have e2 : decide (((ds.filter isEndless).length : Int) ≤ 1) = decide ((ds.filter isEndless).length ≤ 1) := by
        rw [Bool.eq_iff_iff]; simp; omega
      simp [d_are_rules, f_are_rules, areRules, h, h1, hr', hr, l_rules1 ds n (by omega), l_rules2 ds n (by omega) hr, e2, sEr, op2, op1, T.val, R.opt, toB, opL, vals, consT, disp, mvs, mkTup, callT, callI, argE, others, isAl, isAli, finT, outE, padE, runD, cpsOf, cpT, toI, slT, T.weak, metT, kApp, kExt, elemD, iT, iL, iR1, iR2, iE, iZ, onI]
    · have hr' : (ds.all fun d => isRule d n) = false := by simpa [rulesOk] using hr
      simp [d_are_rules, f_are_rules, areRules, h, h1, hr', hr, l_rules1 ds n (by omega), sEr, op2, op1, T.val, R.opt, toB, opL, vals, consT, disp, mvs, mkTup, callT, callI, argE, others, isAl, isAli, finT, outE, padE, runD, cpsOf, cpT, toI, slT, T.weak, metT, kApp, kExt, elemD, iT, iL, iR1, iR2, iE, iZ, onI]
  · have h1 : (4 : Int) < ds.length := by omega
    simp [d_are_rules, f_are_rules, areRules, h, h1, sEr, op2, op1, T.val, R.opt, toB, opL, vals, consT, disp, mvs, mkTup, callT, callI, argE, others, isAl, isAli, finT, outE, padE, runD, cpsOf, cpT, toI, slT, T.weak, metT, kApp, kExt, elemD, iT, iL, iR1, iR2, iE, iZ, onI]
def isShop (v : D) : Bool := match v with
  | .tup [.tup gs, rs] => areGoods (.tup gs) && areRules rs gs.length
  | _ => false
theorem goods_tup {v : D} (h : areGoods v = true) : ∃ gs, v = .tup gs := by
  cases v <;> first | exact ⟨_, rfl⟩ | exact (Bool.false_ne_true h).elim
theorem r_is_shop (v : D) : d_is_shop [.im v] = .ok (.im (.bl (isShop v))) [.no] := by
  by_cases h : isTupleOf v 2 = true
  · obtain ⟨ds, rfl, hl⟩ := isTup_get h
    match ds, hl with
    | [g, r], _ =>
      by_cases hg : areGoods g = true
      · obtain ⟨gs, rfl⟩ := goods_tup hg
        simp [d_is_shop, f_is_shop, isShop, r_is_tuple_of, r_are_goods, r_are_rules, h, hg, sEr, op2, op1, T.val, R.opt, toB, opL, vals, consT, disp, mvs, mkTup, callT, callI, argE, others, isAl, isAli, finT, outE, padE, runD, cpsOf, cpT, toI, slT, T.weak, metT, kApp, kExt, elemD, iT, iL, iR1, iR2, iE, iZ, onI]
      · have e : isShop (.tup [g, r]) = false := by
          unfold isShop
          split
          · rename_i z; cases z; simp [hg]
          · rfl
        simp [d_is_shop, f_is_shop, e, r_is_tuple_of, r_are_goods, h, hg, sEr, op2, op1, T.val, R.opt, toB, opL, vals, consT, disp, mvs, mkTup, callT, callI, argE, others, isAl, isAli, finT, outE, padE, runD, cpsOf, cpT, toI, slT, T.weak, metT, kApp, kExt, elemD, iT, iL, iR1, iR2, iE, iZ, onI]
  · have e : isShop v = false := by
      unfold isShop
      split
      · simp [isTupleOf] at h
      · rfl
    simp [d_is_shop, f_is_shop, e, r_is_tuple_of, h, sEr, op2, op1, T.val, R.opt, toB, opL, vals, consT, disp, mvs, mkTup, callT, callI, argE, others, isAl, isAli, finT, outE, padE, runD, cpsOf, cpT, toI, slT, T.weak, metT, kApp, kExt, elemD, iT, iL, iR1, iR2, iE, iZ, onI]
theorem fin4 {p0 : En} {r : D} {m : Nat} {rest : En} {n p : Nat} {f : FS} (hp : p0.length = p) (h : f (padE n p0) = .rt (.im r) rest) (o : En) (ho : outE p0 rest = some o) : runD n p f p0 = .ok (.im r) o := by
  show (if p0.length = p then finF p0 (f (padE n p0)) else .er) = _
  rw [if_pos hp, h]
  show (match outE p0 rest with
    | some o => R.ok (T.im r) o
    | none => .er) = _
  rw [ho]
theorem sFor_of {fi : FI} {g : FG} {f : FS} {env e : En} {its : List D} {x : Fl} (h1 : fi env = .ok ⟨its, none⟩ e) (h2 : loopF g f its e = x) : sFor fi g f env = x := by
  rw [sFor_s, h1]
  exact h2

end DL
namespace DL
open PySem PySem.Spec L2
abbrev scr (ns : List Int) : Sl := .im (.fz (ns.map D.int))
theorem atI_ok {ds : List D} {i : Int} (h0 : 0 ≤ i) (h : i < ds.length) : ∃ d, atI ds i = some d ∧ ds[i.toNat]? = some d := by
  have hi : i.toNat < ds.length := by omega
  refine ⟨ds[i.toNat], ?_, List.getElem?_eq_getElem hi⟩
  unfold atI ixN
  simp [h0, h, hi]
theorem at_ints {ns : List Int} {i : Int} (h0 : 0 ≤ i) (h : i < ns.length) : ∃ z, atI (ns.map D.int) i = some (.int z) := by
  obtain ⟨d, e, q⟩ := atI_ok (ds := ns.map D.int) h0 (by simpa using h)
  rw [List.getElem?_map] at q
  obtain ⟨z, q1, q2⟩ := Option.map_eq_some_iff.mp q
  exact ⟨z, by rw [e, q2]⟩
theorem lays_ints : ∀ ns : List Int, lays (ns.map D.int) = true
  | [] => rfl
  | n :: ns => by rw [List.map_cons]; unfold lays; rw [lays_ints ns]; rfl
theorem deps_ints : ∀ ns : List Int, deps (ns.map D.int) = 0
  | [] => rfl
  | n :: ns => by rw [List.map_cons]; unfold deps; rw [deps_ints ns]; rfl
theorem shp_ints (ns : List Int) : shp (.fz (ns.map D.int)) = true := by
  rw [shp_eq, lay, dep, lays_ints, deps_ints]
  rfl
theorem eq_nil (ns : List Int) : dEqA (.fz (ns.map D.int)) (.lst []) = some (.im (.bl ns.isEmpty)) := by
  have e : shp (.lst []) = true := by rfl
  unfold dEqA dEqS dEq
  simp [shp_ints, e]
  cases ns <;> rfl
theorem r_cell (ns : List Int) (k : Int) (hl : ns.length ≤ 63) (hk : 0 ≤ k) : ∃ z, d__law_cell_at [scr ns, .im (.int k)] = .ok (.im (.int z)) [.no, .no] := by
  by_cases h : k < ns.length
  · obtain ⟨z, e⟩ := at_ints hk h
    exact ⟨z, by simp [d__law_cell_at, f__law_cell_at, scr, h, e, dIx, sEr, op2, op1, T.val, R.opt, toB, opL, vals, consT, disp, mvs, mkTup, callT, callI, argE, others, isAl, isAli, finT, outE, padE, runD, cpsOf, cpT, toI, slT, T.weak, metT, kApp, kExt, elemD, iT, iL, iR1, iR2, iE, iZ, onI]⟩
  · by_cases he : ns = []
    · subst he
      have e := eq_nil []
      refine ⟨0, ?_⟩
      have hk' : ¬ k < 0 := by omega
      simp at e
      simp [d__law_cell_at, f__law_cell_at, scr, hk', e, sEr, op2, op1, T.val, R.opt, toB, opL, vals, consT, disp, mvs, mkTup, callT, callI, argE, others, isAl, isAli, finT, outE, padE, runD, cpsOf, cpT, toI, slT, T.weak, metT, kApp, kExt, elemD, iT, iL, iR1, iR2, iE, iZ, onI]
    · have hp : 0 < ns.length := List.length_pos_iff.mpr he
      have hp' : (0 : Int) < ns.length := by omega
      have hp2 : (ns.length : Int) < 1073741824 := by omega
      obtain ⟨s, es⟩ := at_ints (ns := ns) (i := k % ns.length) (Int.emod_nonneg _ (by omega)) (Int.emod_lt_of_pos _ hp')
      have e := eq_nil ns
      have hne : ns.isEmpty = false := by cases ns <;> first | rfl | exact (he rfl).elim
      rw [hne] at e
      have hq : 0 ≤ k / ns.length := Int.ediv_nonneg hk (by omega)
      -- the loop
      obtain ⟨n, en⟩ : ∃ n : Int, n = if 60 < k / (ns.length : Int) then 60 else k / (ns.length : Int) := ⟨_, rfl⟩
      have hb : (-4611686018427387904 ≤ n) ∧ n < 4611686018427387904 := by
        rw [en]
        split <;> omega
      obtain ⟨e2, q1, s2, a2, q2⟩ := loop_all (g := gN 3) (f := sAsg (eOp dFdiv (eVar 2) (eC (.int 1000003))) (gN 2)) (ds := rngD 0 n) (env := [scr ns, .im (.int k), .im (.int s), .no]) (I := fun _ e => ∃ (s : Int) (a : Sl), e = [scr ns, .im (.int k), .im (.int s), a]) ⟨s, .no, rfl⟩ (by
        rintro i d _ hd ⟨s, a, rfl⟩
        exact ⟨_, [scr ns, .im (.int k), .im (.int (s / 1000003)), .im d], rfl, .inl (by simp [scr, sEr, op2, op1, T.val, R.opt, toB, opL, vals, consT, disp, mvs, mkTup, callT, callI, argE, others, isAl, isAli, finT, outE, padE, runD, cpsOf, cpT, toI, slT, T.weak, metT, kApp, kExt, elemD, iT, iL, iR1, iR2, iE, iZ, onI]), _, _, rfl⟩)
      subst q2
      have fl : sFor (fiR1 (aCons (eB dMin2 (aCons (eOp dFdiv (eVar 1) (eB dLen (aCons (eVar 0) aNil))) (aCons (eC (.int 60)) aNil))) aNil)) (gN 3) (sAsg (eOp dFdiv (eVar 2) (eC (.int 1000003))) (gN 2)) [scr ns, .im (.int k), .im (.int s), .no] = .nx [scr ns, .im (.int k), .im (.int s2), a2] := by
        rw [sFor_s]
        simp [scr, hp, hp', hp2, dMin2, sEr, op2, op1, T.val, R.opt, toB, opL, vals, consT, disp, mvs, mkTup, callT, callI, argE, others, isAl, isAli, finT, outE, padE, runD, cpsOf, cpT, toI, slT, T.weak, metT, kApp, kExt, elemD, iT, iL, iR1, iR2, iE, iZ, onI]
        rw [← en, if_pos hb]
        exact q1
      refine ⟨s * 31 + k + s2 * 101, ?_⟩
      simp [d__law_cell_at, f__law_cell_at, scr, h, e, es, dIx, hp, hp', fl, dMulA, sEr, op2, op1, T.val, R.opt, toB, opL, vals, consT, disp, mvs, mkTup, callT, callI, argE, others, isAl, isAli, finT, outE, padE, runD, cpsOf, cpT, toI, slT, T.weak, metT, kApp, kExt, elemD, iT, iL, iR1, iR2, iE, iZ, onI]

end DL
namespace DL
open PySem PySem.Spec L2
theorem r_mixed (ns : List Int) (k m : Int) (hl : ns.length ≤ 63) (hk : 0 ≤ k) (hm : 0 < m) : ∃ v, d__law_mixed [scr ns, .im (.int k), .im (.int m)] = .ok (.im (.int v)) [.no, .no, .no] ∧ 0 ≤ v ∧ v < m := by
  obtain ⟨z, e⟩ := r_cell ns k hl hk
  have b1 : 0 ≤ (z * 1103515245 + 7919 * k + 12345) % 2147483647 := Int.emod_nonneg _ (by decide)
  have b2 : (z * 1103515245 + 7919 * k + 12345) % 2147483647 < 2147483647 := Int.emod_lt_of_pos _ (by decide)
  obtain ⟨s, es⟩ : ∃ s, s = (z * 1103515245 + 7919 * k + 12345) % 2147483647 := ⟨_, rfl⟩
  rw [← es] at b1 b2
  have b3 : s.natAbs < 18446744073709551616 := by omega
  refine ⟨s ^ 5 % 2147483647 % 999983 % m, ?_, Int.emod_nonneg _ (by omega), Int.emod_lt_of_pos _ hm⟩
  unfold scr at e
  simp [d__law_mixed, f__law_mixed, scr, e, dMulA, hm, ← es, b3, sEr, op2, op1, T.val, R.opt, toB, opL, vals, consT, disp, mvs, mkTup, callT, callI, argE, others, isAl, isAli, finT, outE, padE, runD, cpsOf, cpT, toI, slT, T.weak, metT, kApp, kExt, elemD, iT, iL, iR1, iR2, iE, iZ, onI]
abbrev rep0 (n : Nat) : List D := List.replicate n (.int 0)
theorem rep0_app (n : Nat) : rep0 n ++ [.int 0] = rep0 (n + 1) := by
  unfold rep0
  rw [List.replicate_succ', ]
theorem r_draw (ns : List Int) (n : Nat) (m : Int) (hl : ns.length ≤ 63) (hn : n < 999999) (hm : 0 < m) : ∃ v, d__law_draw [scr ns, .own true (rep0 n), .im (.int m)] = .ok (.im (.int v)) [.no, .own true (rep0 (n + 1)), .no] ∧ 0 ≤ v ∧ v < m := by
  obtain ⟨v, e, h⟩ := r_mixed ns (n + 1 : Nat) m hl (by omega) hm
  refine ⟨v, ?_, h⟩
  have hn' : n < 1000000 := by omega
  unfold scr at e
  have a := rep0_app n
  unfold rep0 at a
  simp at e
  simp [d__law_draw, f__law_draw, scr, rep0, a, hn', e, sEr, op2, op1, T.val, R.opt, toB, opL, vals, consT, disp, mvs, mkTup, callT, callI, argE, others, isAl, isAli, finT, outE, padE, runD, cpsOf, cpT, toI, slT, T.weak, metT, kApp, kExt, elemD, iT, iL, iR1, iR2, iE, iZ, onI]
theorem r_pick (ns : List Int) (n : Nat) (d : D) (ds : List D) (hd : d = .lst ds ∨ d = .tup ds) (hl : ns.length ≤ 63) (hn : n < 999999) (h0 : 0 < ds.length) : ∃ x ∈ ds, d__law_pick [scr ns, .own true (rep0 n), .im d] = .ok (.im x) [.no, .own true (rep0 (n + 1)), .no] := by
  obtain ⟨v, e, h1, h2⟩ := r_draw ns n ds.length hl hn (by omega)
  obtain ⟨x, e1, e2⟩ := atI_ok h1 h2
  refine ⟨x, List.mem_of_getElem? e2, ?_⟩
  unfold scr rep0 at e
  rcases hd with rfl | rfl <;> simp [d__law_pick, f__law_pick, scr, rep0, e, dIx, e1, sEr, op2, op1, T.val, R.opt, toB, opL, vals, consT, disp, mvs, mkTup, callT, callI, argE, others, isAl, isAli, finT, outE, padE, runD, cpsOf, cpT, toI, slT, T.weak, metT, kApp, kExt, elemD, iT, iL, iR1, iR2, iE, iZ, onI]

end DL
namespace DL
open PySem PySem.Spec L2
structure GoodGs (gs : List D) : Prop where
  len : 1 ≤ gs.length ∧ gs.length ≤ 2
  all : ∀ g ∈ gs, ∃ p c : Int, g = .tup [.int p, .int c] ∧ (3 ≤ p ∧ p ≤ 9) ∧ (0 ≤ c ∧ c ≤ 7)
abbrev Er (ns : List Int) (n : Nat) (gs : List D) (cap : Bool) (a b c d e f g : Sl) : En := [scr ns, .own true (rep0 n), .im (.tup gs), .im (.bl cap), a, b, c, d, e, f, g]
theorem isPack_of {g s p n : Int} {m : D} (h1 : 0 ≤ g ∧ g < n) (h2 : 2 ≤ s ∧ s ≤ 3) (h3 : s ≤ p ∧ p ≤ 30) (h4 : isMost m = true) : isRule (.tup [.str "pack", .int g, .int s, .int p, m]) n = true := by
  show isPack (.tup [.str "pack", .int g, .int s, .int p, m]) n = true
  simp [isPack, isBetween, h4, h1.1, h2, h3]
  omega
theorem isFrom_of {g s p n : Int} (h1 : 0 ≤ g ∧ g < n) (h2 : 2 ≤ s ∧ s ≤ 4) (h3 : 1 ≤ p ∧ p ≤ 9) : isRule (.tup [.str "from", .int g, .int s, .int p]) n = true := by
  show isFrom (.tup [.str "from", .int g, .int s, .int p]) n = true
  simp [isFrom, isBetween, h1.1, h2, h3]
  omega
theorem isOver_of {f o n : Int} (h1 : 2 ≤ f ∧ f ≤ 12) (h2 : 1 ≤ o ∧ o ≤ 6) (h3 : o ≤ f) : isRule (.tup [.str "over", .int f, .int o]) n = true := by
  show isOver (.tup [.str "over", .int f, .int o]) = true
  simp [isOver, isBetween, h1, h2.1]
  split <;> omega
theorem isEach_of {f o n : Int} {m : D} (h1 : 2 ≤ f ∧ f ≤ 6) (h2 : 1 ≤ o) (h3 : 2 * o ≤ f) (h4 : isMost m = true) : isRule (.tup [.str "each", .int f, .int o, m]) n = true := by
  show isEach (.tup [.str "each", .int f, .int o, m]) = true
  have h5 : o ≤ f := by omega
  simp [isEach, isBetween, h1, h2, h3, h4, h5]
theorem most_mem {x : D} (h : x ∈ [D.non, .non, .int 1, .int 2]) : isMost x = true := by
  simp at h
  rcases h with rfl | rfl | rfl <;> rfl
def drawnR (gs : List D) (r : D) : Prop := ∀ (g s p : Int) (m : D), r = .tup [.str "pack", .int g, .int s, .int p, m] → ∃ pr c : Int, atI gs g = some (.tup [.int pr, .int c]) ∧ s * pr - (2 * s + 1) ≤ p
def widD : D → Nat
  | .tup l => l.length
  | _ => 0
theorem drawn_not {gs : List D} {r : D} (h : widD r ≠ 5) : drawnR gs r := fun g s p m z => (h (by rw [z]; rfl)).elim
theorem r_some_rule2 (ns : List Int) (n : Nat) (gs : List D) (cap : Bool) (hl : ns.length ≤ 63) (hn : n < 900000) (hg : GoodGs gs) : ∃ (r : D) (m : Nat), d__law_some_rule [scr ns, .own true (rep0 n), .im (.tup gs), .im (.bl cap)] = .ok (.im r) [.no, .own true (rep0 m), .no, .no] ∧ n ≤ m ∧ m ≤ n + 6 ∧ isRule r gs.length = true ∧ (cap = true → isEndless r = false) ∧ D.flat r = true ∧ drawnR gs r := by
  obtain ⟨l1, l2⟩ := hg.len
  obtain ⟨kind, e1, k1, k2⟩ := r_draw ns n 5 hl (by omega) (by decide)
  obtain ⟨good, e2, g1, g2⟩ := r_draw ns (n + 1) gs.length hl (by omega) (by omega)
  obtain ⟨gd, e3, e4⟩ := atI_ok g1 g2
  obtain ⟨p, c, rfl, hp, hc⟩ := hg.all gd (List.mem_of_getElem? e4)
  have s1 : f__law_some_rule_1 (Er ns n gs cap .no .no .no .no .no .no .no) = .nx (Er ns (n + 1) gs cap (.im (.int kind)) .no .no .no .no .no .no) := by
    simp [scr] at e1
    simp [f__law_some_rule_1, scr, e1, sEr, op2, op1, T.val, R.opt, toB, opL, vals, consT, disp, mvs, mkTup, callT, callI, argE, others, isAl, isAli, finT, outE, padE, runD, cpsOf, cpT, toI, slT, T.weak, metT, kApp, kExt, elemD, iT, iL, iR1, iR2, iE, iZ, onI]
  have s2 : f__law_some_rule_2 (Er ns (n + 1) gs cap (.im (.int kind)) .no .no .no .no .no .no) = .nx (Er ns (n + 2) gs cap (.im (.int kind)) (.im (.int good)) .no .no .no .no .no) := by
    simp [scr] at e2
    simp [f__law_some_rule_2, scr, e2, sEr, op2, op1, T.val, R.opt, toB, opL, vals, consT, disp, mvs, mkTup, callT, callI, argE, others, isAl, isAli, finT, outE, padE, runD, cpsOf, cpT, toI, slT, T.weak, metT, kApp, kExt, elemD, iT, iL, iR1, iR2, iE, iZ, onI]
  have s3 : f__law_some_rule_3 (Er ns (n + 2) gs cap (.im (.int kind)) (.im (.int good)) .no .no .no .no .no) = .nx (Er ns (n + 2) gs cap (.im (.int kind)) (.im (.int good)) (.im (.int p)) .no .no .no .no) := by
    simp [f__law_some_rule_3, scr, dIx, e3, sEr, op2, op1, T.val, R.opt, toB, opL, vals, consT, disp, mvs, mkTup, callT, callI, argE, others, isAl, isAli, finT, outE, padE, runD, cpsOf, cpT, toI, slT, T.weak, metT, kApp, kExt, elemD, iT, iL, iR1, iR2, iE, iZ, onI]
    simp [atI, ixN]
  -- from the body's end to the whole
  have fin : ∀ {r : D} {m : Nat} {a b c d e f g : Sl}, f__law_some_rule (Er ns n gs cap .no .no .no .no .no .no .no) = .rt (.im r) (Er ns m gs cap a b c d e f g) → d__law_some_rule [scr ns, .own true (rep0 n), .im (.tup gs), .im (.bl cap)] = .ok (.im r) [.no, .own true (rep0 m), .no, .no] := fun {r m a b c d e f g} h => by
    show (if [scr ns, .own true (rep0 n), .im (.tup gs), .im (.bl cap)].length = 4 then finF [scr ns, .own true (rep0 n), .im (.tup gs), .im (.bl cap)] (f__law_some_rule (Er ns n gs cap .no .no .no .no .no .no .no)) else .er) = _
    rw [if_pos (show [scr ns, Sl.own true (rep0 n), .im (.tup gs), .im (.bl cap)].length = 4 from rfl), h]
    rfl
  have whole : ∀ {x : Fl}, sSeq f__law_some_rule_4 (sSeq f__law_some_rule_5 (sSeq f__law_some_rule_6 (sSeq f__law_some_rule_7 (sSeq f__law_some_rule_8 f__law_some_rule_9)))) (Er ns (n + 2) gs cap (.im (.int kind)) (.im (.int good)) (.im (.int p)) .no .no .no .no) = x → f__law_some_rule (Er ns n gs cap .no .no .no .no .no .no .no) = x := fun {x} h => by
    unfold f__law_some_rule
    rw [sSeq_s, s1, seq_nx, sSeq_s, s2, seq_nx, sSeq_s, s3, seq_nx]
    exact h
  by_cases c1 : kind < 2
  · -- pack
    obtain ⟨sz, e5, z1, z2⟩ := r_draw ns (n + 2) 2 hl (by omega) (by decide)
    obtain ⟨off, e6, o1, o2⟩ := r_draw ns (n + 3) (2 * (2 + sz) + 2) hl (by omega) (by omega)
    obtain ⟨mo, hm, e7⟩ := r_pick ns (n + 4) (.tup [.non, .non, .int 1, .int 2]) _ (.inr rfl) hl (by omega) (by decide)
    have pr : (2 + sz) * p ≤ 27 := by
      have : (2 + sz) * p ≤ 3 * 9 := Int.mul_le_mul (by omega) (by omega) (by omega) (by decide)
      omega
    obtain ⟨pri, ep⟩ : ∃ pri : Int, pri = if (2 + sz) * p - off > 2 + sz then (2 + sz) * p - off else 2 + sz := ⟨_, rfl⟩
    have hpri : 2 + sz ≤ pri ∧ pri ≤ 30 := by rw [ep]; split <;> omega
    have bb : -18446744073709551616 < 2 + sz ∧ 2 + sz < 18446744073709551616 := by omega
    have bb2 : -18446744073709551616 < p ∧ p < 18446744073709551616 := by omega
    have q : sSeq f__law_some_rule_4 (sSeq f__law_some_rule_5 (sSeq f__law_some_rule_6 (sSeq f__law_some_rule_7 (sSeq f__law_some_rule_8 f__law_some_rule_9)))) (Er ns (n + 2) gs cap (.im (.int kind)) (.im (.int good)) (.im (.int p)) .no .no .no .no) = .rt (.im (.tup [.str "pack", .int good, .int (2 + sz), .int pri, mo])) (Er ns (n + 5) gs cap (.im (.int kind)) (.im (.int good)) (.im (.int p)) .no .no (.im (.int (2 + sz))) (.im (.int pri))) := by
      rw [sSeq_s]
      simp [scr] at e5 e6 e7
      simp [f__law_some_rule_4, scr, c1, e5, e6, e7, dMulA, bb, bb2, dMax2, ← ep, sEr, op2, op1, T.val, R.opt, toB, opL, vals, consT, disp, mvs, mkTup, callT, callI, argE, others, isAl, isAli, finT, outE, padE, runD, cpsOf, cpT, toI, slT, T.weak, metT, kApp, kExt, elemD, iT, iL, iR1, iR2, iE, iZ, onI]
    have hf : D.flat mo = true := by
      simp at hm
      rcases hm with rfl | rfl | rfl <;> rfl
    exact ⟨_, n + 5, fin (whole q), by omega, by omega, isPack_of ⟨g1, g2⟩ (by omega) hpri (most_mem hm), fun _ => rfl, by simp [D.flat, D.flats, hf], fun g' s' p' m' z => by
      injection z with z
      injection z with _ z
      injection z with z1 z
      injection z with z2 z
      injection z with z3 z
      injection z1 with z1
      injection z2 with z2
      injection z3 with z3
      refine ⟨p, c, by rw [← z1]; exact e3, ?_⟩
      rw [← z2, ← z3, ep]
      split <;> omega⟩
  · have s4 : f__law_some_rule_4 (Er ns (n + 2) gs cap (.im (.int kind)) (.im (.int good)) (.im (.int p)) .no .no .no .no) = .nx (Er ns (n + 2) gs cap (.im (.int kind)) (.im (.int good)) (.im (.int p)) .no .no .no .no) := by
      simp [f__law_some_rule_4, scr, c1, sEr, op2, op1, T.val, R.opt, toB, opL, vals, consT, disp, mvs, mkTup, callT, callI, argE, others, isAl, isAli, finT, outE, padE, runD, cpsOf, cpT, toI, slT, T.weak, metT, kApp, kExt, elemD, iT, iL, iR1, iR2, iE, iZ, onI]
    by_cases c2 : kind = 2
    · -- from
      subst c2
      obtain ⟨le, e5, z1, z2⟩ := r_draw ns (n + 2) 3 hl (by omega) (by decide)
      obtain ⟨off, e6, o1, o2⟩ := r_draw ns (n + 3) 4 hl (by omega) (by decide)
      obtain ⟨pri, ep⟩ : ∃ pri : Int, pri = if p - off > 1 then p - off else 1 := ⟨_, rfl⟩
      have hpri : 1 ≤ pri ∧ pri ≤ 9 := by rw [ep]; split <;> omega
      have q : sSeq f__law_some_rule_5 (sSeq f__law_some_rule_6 (sSeq f__law_some_rule_7 (sSeq f__law_some_rule_8 f__law_some_rule_9))) (Er ns (n + 2) gs cap (.im (.int 2)) (.im (.int good)) (.im (.int p)) .no .no .no .no) = .rt (.im (.tup [.str "from", .int good, .int (2 + le), .int pri])) (Er ns (n + 4) gs cap (.im (.int 2)) (.im (.int good)) (.im (.int p)) .no .no .no .no) := by
        rw [sSeq_s]
        simp [scr] at e5 e6
        simp [f__law_some_rule_5, scr, e5, e6, dMax2, ← ep, sEr, op2, op1, T.val, R.opt, toB, opL, vals, consT, disp, mvs, mkTup, callT, callI, argE, others, isAl, isAli, finT, outE, padE, runD, cpsOf, cpT, toI, slT, T.weak, metT, kApp, kExt, elemD, iT, iL, iR1, iR2, iE, iZ, onI]
      exact ⟨_, n + 4, fin (whole (by rw [sSeq_s, s4, seq_nx]; exact q)), by omega, by omega, isFrom_of ⟨g1, g2⟩ (by omega) hpri, fun _ => rfl, by simp [D.flat, D.flats], drawn_not (by simp [widD])⟩
    · have s5 : f__law_some_rule_5 (Er ns (n + 2) gs cap (.im (.int kind)) (.im (.int good)) (.im (.int p)) .no .no .no .no) = .nx (Er ns (n + 2) gs cap (.im (.int kind)) (.im (.int good)) (.im (.int p)) .no .no .no .no) := by
        have c2' : (kind == 2) = false := by simpa using c2
        simp [f__law_some_rule_5, scr, c2', sEr, op2, op1, T.val, R.opt, toB, opL, vals, consT, disp, mvs, mkTup, callT, callI, argE, others, isAl, isAli, finT, outE, padE, runD, cpsOf, cpT, toI, slT, T.weak, metT, kApp, kExt, elemD, iT, iL, iR1, iR2, iE, iZ, onI]
      by_cases c3 : kind = 3
      · -- over
        subst c3
        obtain ⟨wh, e5, z1, z2⟩ := r_draw ns (n + 2) 9 hl (by omega) (by decide)
        obtain ⟨off, e6, o1, o2⟩ := r_draw ns (n + 3) 4 hl (by omega) (by decide)
        have q : sSeq f__law_some_rule_6 (sSeq f__law_some_rule_7 (sSeq f__law_some_rule_8 f__law_some_rule_9)) (Er ns (n + 2) gs cap (.im (.int 3)) (.im (.int good)) (.im (.int p)) .no .no .no .no) = .rt (.im (.tup [.str "over", .int (4 + wh), .int (1 + off)])) (Er ns (n + 4) gs cap (.im (.int 3)) (.im (.int good)) (.im (.int p)) (.im (.int (4 + wh))) .no .no .no) := by
          rw [sSeq_s]
          simp [scr] at e5 e6
          simp [f__law_some_rule_6, scr, e5, e6, sEr, op2, op1, T.val, R.opt, toB, opL, vals, consT, disp, mvs, mkTup, callT, callI, argE, others, isAl, isAli, finT, outE, padE, runD, cpsOf, cpT, toI, slT, T.weak, metT, kApp, kExt, elemD, iT, iL, iR1, iR2, iE, iZ, onI]
        exact ⟨_, n + 4, fin (whole (by rw [sSeq_s, s4, seq_nx, sSeq_s, s5, seq_nx]; exact q)), by omega, by omega, isOver_of (by omega) (by omega) (by omega), fun _ => rfl, by simp [D.flat, D.flats], drawn_not (by simp [widD])⟩
      · -- each
        have s6 : f__law_some_rule_6 (Er ns (n + 2) gs cap (.im (.int kind)) (.im (.int good)) (.im (.int p)) .no .no .no .no) = .nx (Er ns (n + 2) gs cap (.im (.int kind)) (.im (.int good)) (.im (.int p)) .no .no .no .no) := by
          have c3' : (kind == 3) = false := by simpa using c3
          simp [f__law_some_rule_6, scr, c3', sEr, op2, op1, T.val, R.opt, toB, opL, vals, consT, disp, mvs, mkTup, callT, callI, argE, others, isAl, isAli, finT, outE, padE, runD, cpsOf, cpT, toI, slT, T.weak, metT, kApp, kExt, elemD, iT, iL, iR1, iR2, iE, iZ, onI]
        obtain ⟨wh, e5, z1, z2⟩ := r_draw ns (n + 2) 5 hl (by omega) (by decide)
        obtain ⟨ms, ems⟩ : ∃ ms : List D, ms = if cap = true then [.int 1, .int 2] else [.non, .non, .int 1, .int 2] := ⟨_, rfl⟩
        have hms : 0 < ms.length ∧ (∀ x ∈ ms, x ∈ [D.non, .non, .int 1, .int 2] ∧ (cap = true → isNon x = false)) := by
          rw [ems]
          cases cap with
          | true => exact ⟨by decide, fun x hx => by simp at hx; rcases hx with rfl | rfl <;> exact ⟨by simp, fun _ => rfl⟩⟩
          | false => exact ⟨by decide, fun x hx => ⟨hx, fun z => nomatch z⟩⟩
        obtain ⟨mo, hm, e6⟩ := r_pick ns (n + 3) (.tup ms) _ (.inr rfl) hl (by omega) hms.1
        have hw : 0 < (2 + wh) / 2 := by omega
        obtain ⟨off, e7, o1, o2⟩ := r_draw ns (n + 4) ((2 + wh) / 2) hl (by omega) hw
        have s7 : f__law_some_rule_7 (Er ns (n + 2) gs cap (.im (.int kind)) (.im (.int good)) (.im (.int p)) .no .no .no .no) = .nx (Er ns (n + 3) gs cap (.im (.int kind)) (.im (.int good)) (.im (.int p)) (.im (.int (2 + wh))) .no .no .no) := by
          simp [scr] at e5
          simp [f__law_some_rule_7, scr, e5, sEr, op2, op1, T.val, R.opt, toB, opL, vals, consT, disp, mvs, mkTup, callT, callI, argE, others, isAl, isAli, finT, outE, padE, runD, cpsOf, cpT, toI, slT, T.weak, metT, kApp, kExt, elemD, iT, iL, iR1, iR2, iE, iZ, onI]
        have s8 : f__law_some_rule_8 (Er ns (n + 3) gs cap (.im (.int kind)) (.im (.int good)) (.im (.int p)) (.im (.int (2 + wh))) .no .no .no) = .nx (Er ns (n + 4) gs cap (.im (.int kind)) (.im (.int good)) (.im (.int p)) (.im (.int (2 + wh))) (.im mo) .no .no) := by
          simp [scr] at e6
          cases cap with
          | true => rw [if_pos rfl] at ems; subst ems; simp [f__law_some_rule_8, scr, e6, sEr, op2, op1, T.val, R.opt, toB, opL, vals, consT, disp, mvs, mkTup, callT, callI, argE, others, isAl, isAli, finT, outE, padE, runD, cpsOf, cpT, toI, slT, T.weak, metT, kApp, kExt, elemD, iT, iL, iR1, iR2, iE, iZ, onI]
          | false => rw [if_neg (by decide)] at ems; subst ems; simp [f__law_some_rule_8, scr, e6, sEr, op2, op1, T.val, R.opt, toB, opL, vals, consT, disp, mvs, mkTup, callT, callI, argE, others, isAl, isAli, finT, outE, padE, runD, cpsOf, cpT, toI, slT, T.weak, metT, kApp, kExt, elemD, iT, iL, iR1, iR2, iE, iZ, onI]
        have q : f__law_some_rule_9 (Er ns (n + 4) gs cap (.im (.int kind)) (.im (.int good)) (.im (.int p)) (.im (.int (2 + wh))) (.im mo) .no .no) = .rt (.im (.tup [.str "each", .int (2 + wh), .int (1 + off), mo])) (Er ns (n + 5) gs cap (.im (.int kind)) (.im (.int good)) (.im (.int p)) (.im (.int (2 + wh))) (.im mo) .no .no) := by
          simp [scr] at e7
          simp [f__law_some_rule_9, scr, e7, sEr, op2, op1, T.val, R.opt, toB, opL, vals, consT, disp, mvs, mkTup, callT, callI, argE, others, isAl, isAli, finT, outE, padE, runD, cpsOf, cpT, toI, slT, T.weak, metT, kApp, kExt, elemD, iT, iL, iR1, iR2, iE, iZ, onI]
        have hf : D.flat mo = true := by
          have := (hms.2 mo hm).1
          simp at this
          rcases this with rfl | rfl | rfl <;> rfl
        refine ⟨_, n + 5, fin (whole (by rw [sSeq_s, s4, seq_nx, sSeq_s, s5, seq_nx, sSeq_s, s6, seq_nx, sSeq_s, s7, seq_nx, sSeq_s, s8, seq_nx]; exact q)), by omega, by omega, isEach_of (by omega) (by omega) (by omega) (most_mem (hms.2 mo hm).1), fun z => ?_, by simp [D.flat, D.flats, hf], drawn_not (by simp [widD])⟩
        show (("each" : Str) == "each" && isNon mo) = false
        rw [(hms.2 mo hm).2 z]
        decide
end DL
namespace DL
open PySem PySem.Spec L2
def GoodD (y : D) : Prop := ∃ p c : Int, y = .tup [.int p, .int c] ∧ (3 ≤ p ∧ p ≤ 9) ∧ (0 ≤ c ∧ c ≤ 7)
theorem flats_mem : ∀ {ds : List D}, (∀ d ∈ ds, D.flat d = true) → D.flats ds = true
  | [], _ => rfl
  | d :: ds, h => by
    unfold D.flats
    rw [h d List.mem_cons_self, flats_mem fun x z => h x (List.mem_cons_of_mem _ z)]
    rfl
theorem flats_app : ∀ {ds es : List D}, D.flats ds = true → D.flats es = true → D.flats (ds ++ es) = true
  | [], es, _, h => h
  | d :: ds, es, h1, h2 => by
    simp [D.flats] at h1
    show (D.flat d && D.flats (ds ++ es)) = true
    rw [h1.1, flats_app h1.2 h2]
    rfl
theorem GoodGs.flat {gs : List D} (h : GoodGs gs) : D.flats gs = true := flats_mem fun d z => by
  obtain ⟨p, c, rfl, _⟩ := h.all d z
  rfl
theorem GoodGs.are {gs : List D} (h : GoodGs gs) : areGoods (.tup gs) = true := by
  have : gs.all isGood = true := by
    rw [List.all_eq_true]
    intro d z
    obtain ⟨p, c, rfl, h1, h2⟩ := h.all d z
    simp [isGood, isBetween]
    omega
  simp [areGoods, this, h.len]
theorem r_some_goods (ns : List Int) (n : Nat) (hl : ns.length ≤ 63) (hn : n < 900000) : ∃ (gs : List D) (m : Nat), d__law_some_goods [scr ns, .own true (rep0 n)] = .ok (.im (.tup gs)) [.no, .own true (rep0 m)] ∧ n ≤ m ∧ m ≤ n + 5 ∧ GoodGs gs := by
  obtain ⟨d0, e1, k1, k2⟩ := r_draw ns n 3 hl (by omega) (by decide)
  obtain ⟨k, ek⟩ : ∃ k : Int, k = bif d0 == 0 then 2 else 1 := ⟨_, rfl⟩
  have hk : 1 ≤ k ∧ k ≤ 2 := by
    rw [ek]
    cases d0 == 0 <;> decide
  have hlen : (rngD 0 k).length = k.toNat := by simp [rngD]
  obtain ⟨ys, q, h1, h2⟩ := lc_some (k := ⟨rngD 0 k, none⟩) (vs := [3]) (t := .one 3) (fe := eTup (aCons (eOp dAdd (eC (.int 3)) (eCallI 1 d__law_draw (aCons (eVar 0) (aCons (eVar 1) (aCons (eC (.int 7)) aNil))))) (aCons (eCallI 1 d__law_draw (aCons (eVar 0) (aCons (eVar 1) (aCons (eC (.int 8)) aNil)))) aNil))) (Pd := fun _ y => GoodD y) (E := fun i => [scr ns, .own true (rep0 (n + 1 + 2 * i)), .im (.int k), .no]) (fun j => trivial) (rngD 0 k) [] 0 (small_size (by rw [hlen]; show 0 + k.toNat ≤ 1000; omega)) (fun d _ i hi => by
    have hi : i < 2 := by rw [hlen] at hi; omega
    obtain ⟨a, ea, a1, a2⟩ := r_draw ns (n + 1 + 2 * i) 7 hl (by omega) (by decide)
    obtain ⟨b, eb, b1, b2⟩ := r_draw ns (n + 1 + 2 * i + 1) 8 hl (by omega) (by decide)
    refine ⟨_, .im (.tup [.int (3 + a), .int b]), [scr ns, .own true (rep0 (n + 1 + 2 * i + 1 + 1)), .im (.int k), .im d], _, rfl, ?_, rfl, ⟨3 + a, b, rfl, by omega, by omega⟩, rfl⟩
    simp [scr] at ea eb
    simp [scr, ea, eb, sEr, op2, op1, T.val, R.opt, toB, opL, vals, consT, disp, mvs, mkTup, callT, callI, argE, others, isAl, isAli, finT, outE, padE, runD, cpsOf, cpT, toI, slT, T.weak, metT, kApp, kExt, elemD, iT, iL, iR1, iR2, iE, iZ, onI])
  have hm : n + 1 + 2 * (0 + (rngD 0 k).length) ≤ n + 5 := by rw [hlen]; omega
  refine ⟨ys, n + 1 + 2 * (0 + (rngD 0 k).length), ?_, by omega, hm, by rw [h1, hlen]; omega, fun g hg => ?_⟩
  · have q2 := eLc_of (fi := fiR1 (aCons (eVar 2) aNil)) (env := [scr ns, .own true (rep0 (n + 1)), .im (.int k), .no]) (k := ⟨rngD 0 k, none⟩) (e := [scr ns, .own true (rep0 (n + 1)), .im (.int k), .no]) (by
      have b : (-4611686018427387904 ≤ k) ∧ k < 4611686018427387904 := by omega
      simp [b, sEr, op2, op1, T.val, R.opt, toB, opL, vals, consT, disp, mvs, mkTup, callT, callI, argE, others, isAl, isAli, finT, outE, padE, runD, cpsOf, cpT, toI, slT, T.weak, metT, kApp, kExt, elemD, iT, iL, iR1, iR2, iE, iZ, onI]) q
    refine fin4 (rest := [scr ns, .own true (rep0 (n + 1 + 2 * (0 + (rngD 0 k).length))), .im (.int k), .no]) (m := 0) rfl ?_ _ rfl
    unfold f__law_some_goods
    have q2' : eLc (fiR1 (aCons (eVar 2) aNil)) [3] (.one 3) tT _ [scr ns, .own true (rep0 (n + 1)), .im (.int k), .no] = .ok (.fr ys) [scr ns, .own true (rep0 (n + 1 + 2 * (0 + (rngD 0 k).length))), .im (.int k), .no] := q2
    simp [scr] at e1
    simp only [scr, rep0] at q2'
    simp [scr, e1, ← ek, q2', sEr, op2, op1, T.val, R.opt, toB, opL, vals, consT, disp, mvs, mkTup, callT, callI, argE, others, isAl, isAli, finT, outE, padE, runD, cpsOf, cpT, toI, slT, T.weak, metT, kApp, kExt, elemD, iT, iL, iR1, iR2, iE, iZ, onI]
  · obtain ⟨i, hi⟩ := List.getElem?_of_mem hg
    have hil : i < (rngD 0 k).length := by
      rw [← h1]
      exact (List.getElem?_eq_some_iff.mp hi).1
    obtain ⟨y', e1, e2⟩ := h2 i _ (List.getElem?_eq_getElem hil)
    rw [hi] at e1
    cases e1
    exact e2

end DL
namespace DL
open PySem PySem.Spec L2
theorem eLst_rule {v : D} {n : Int} (h : isRule v n = true) : ∃ x a ds, v = .tup (.str x :: ds) ∧ (x = "each" → ∃ b m, ds = [a, b, m]) := by
  obtain ⟨x, ds, rfl⟩ := rule_word h
  by_cases e : x = "each"
  · obtain ⟨a, b, m, rfl⟩ := rule_each h e
    exact ⟨x, a, _, rfl, fun _ => ⟨b, m, rfl⟩⟩
  · exact ⟨x, .non, ds, rfl, fun z => (e z).elim⟩
structure GoodRs (rs : List D) (n : Nat) : Prop where
  len : rs.length ≤ 4
  all : ∀ r ∈ rs, isRule r n = true
  one : (rs.filter isEndless).length ≤ 1
  flat : D.flats rs = true
theorem l_capped (i j : Nat) (rs : List D) (n : Nat) (env : En) (hr : ∀ r ∈ rs, isRule r n = true) (hl : rs.length ≤ 1000) (hi : env[i]? = some (.own false rs)) (hw : wipeE env [j] = env) (hj : j < env.length) (hij : ∀ d, wipeE (env.set j (.im d)) [j] = env) :
    eLc (fiL false (eVar i)) [j] (.one j) tT (eAn (eOp dEqA (eOp dIx (eVar j) (eC (.int 0))) (eC (.str "each"))) (eOp dIs (eOp dIx (eVar j) (eC (.int 3))) (eC .non))) env = .ok (.fr (rs.map fun d => .bl (isEndless d))) env := by
  refine eLc_of (k := ⟨rs, some (i, rs)⟩) (e := env) (by simp [hi, sEr, op2, op1, T.val, R.opt, toB, opL, vals, consT, disp, mvs, mkTup, callT, callI, argE, others, isAl, isAli, finT, outE, padE, runD, cpsOf, cpT, toI, slT, T.weak, metT, kApp, kExt, elemD, iT, iL, iR1, iR2, iE, iZ, onI]) ?_
  rw [hw]
  refine lc_map (k := ⟨rs, some (i, rs)⟩) (h := fun d => .bl (isEndless d)) ⟨false, hi⟩ rs [] (small_size (by simpa using hl)) fun d z => ?_
  refine ⟨_, .im (.bl (isEndless d)), env.set j (.im d), rfl, ?_, rfl, hij d⟩
  have hg : (env.set j (.im d))[j]? = some (.im d) := List.getElem?_set_self hj
  obtain ⟨x, a, ds, rfl, he⟩ := eLst_rule (hr d z)
  have q : ∀ k : Nat, (0 : Int) < (k : Int) + 1 := fun k => by omega
  by_cases e : x = "each"
  · obtain ⟨b, m, rfl⟩ := he e
    subst e
    simp [hg, dIx, atI, ixN, isEndless, dIs_non, sEr, op2, op1, T.val, R.opt, toB, opL, vals, consT, disp, mvs, mkTup, callT, callI, argE, others, isAl, isAli, finT, outE, padE, runD, cpsOf, cpT, toI, slT, T.weak, metT, kApp, kExt, elemD, iT, iL, iR1, iR2, iE, iZ, onI, -dIs]
  · have e' : (x == "each") = false := by simpa using e
    have e2 : isEndless (.tup (.str x :: ds)) = false := by
      unfold isEndless
      split
      · rename_i z; cases z; simp [e']
      · rfl
    simp [hg, dIx, atI, ixN, e2, e', q, sEr, op2, op1, T.val, R.opt, toB, opL, vals, consT, disp, mvs, mkTup, callT, callI, argE, others, isAl, isAli, finT, outE, padE, runD, cpsOf, cpT, toI, slT, T.weak, metT, kApp, kExt, elemD, iT, iL, iR1, iR2, iE, iZ, onI, -dIs]
theorem any_endless {rs : List D} (h : rs.any isEndless = false) : rs.filter isEndless = [] := by
  rw [List.filter_eq_nil_iff]
  intro a z
  rw [List.any_eq_false] at h
  exact h a z
theorem r_some_shop2 (ns : List Int) (n : Nat) (hl : ns.length ≤ 63) (hn : n < 800000) : ∃ (gs rs : List D) (m : Nat), d__law_some_shop [scr ns, .own true (rep0 n)] = .ok (.im (.tup [.tup gs, .tup rs])) [.no, .own true (rep0 m)] ∧ n ≤ m ∧ m ≤ n + 40 ∧ GoodGs gs ∧ GoodRs rs gs.length ∧ ∀ r ∈ rs, drawnR gs r := by
  obtain ⟨gs, m1, e1, n1, n2, hg⟩ := r_some_goods ns n hl (by omega)
  obtain ⟨k, e2, k1, k2⟩ := r_draw ns m1 5 hl (by omega) (by decide)
  have hlen : (rngD 0 k).length = k.toNat := by simp [rngD]
  obtain ⟨e3, q1, m2, a2, rs, c2, i1, i2, i3, i4, i5, i6, i7⟩ := loop_all (g := gN 2) (f := sSeq (sAsg (eB dAny (aCons (eLc (fiL false (eVar 4)) [6] (.one 6) tT (eAn (eOp dEqA (eOp dIx (eVar 6) (eC (.int 0))) (eC (.str "each"))) (eOp dIs (eOp dIx (eVar 6) (eC (.int 3))) (eC .non)))) aNil)) (gN 5))
    (sDrop (eMet kApp (eVar 4) (aCons (eCallI 1 d__law_some_rule (aCons (eVar 0) (aCons (eVar 1) (aCons (eVar 3) (aCons (eVar 5) aNil))))) aNil)))) (ds := rngD 0 k) (env := [scr ns, .own true (rep0 (m1 + 1)), .no, .im (.tup gs), .own false [], .no, .no])
    (I := fun i e => ∃ (m : Nat) (a : Sl) (rs : List D) (c : Sl), e = [scr ns, .own true (rep0 m), a, .im (.tup gs), .own false rs, c, .no] ∧ m1 + 1 ≤ m ∧ m ≤ m1 + 1 + 6 * i ∧ rs.length = i ∧ ((∀ r ∈ rs, isRule r gs.length = true) ∧ (rs.filter isEndless).length ≤ 1) ∧ D.flats rs = true ∧ ∀ r ∈ rs, drawnR gs r)
    ⟨m1 + 1, .no, [], .no, rfl, by omega, by omega, rfl, ⟨fun r z => (by cases z), Nat.zero_le _⟩, rfl, fun r z => (by cases z)⟩ (by
    rintro i d _ hd ⟨m, a, rs, c, rfl, j1, j2, j3, ⟨j4, j5⟩, j6, j7⟩
    have hi : i < k.toNat := by
      rw [← hlen]
      exact (List.getElem?_eq_some_iff.mp hd).1
    have lc := l_capped 4 6 rs gs.length [scr ns, .own true (rep0 m), .im d, .im (.tup gs), .own false rs, c, .no] j4 (by omega) rfl rfl (by simp) (fun _ => rfl)
    obtain ⟨r, m', e4, p1, p2, p3, p4, p5, p6⟩ := r_some_rule2 ns m gs (rs.any isEndless) hl (by omega) hg
    refine ⟨_, [scr ns, .own true (rep0 m'), .im d, .im (.tup gs), .own false (rs ++ [r]), .im (.bl (rs.any isEndless)), .no], rfl, .inl ?_, m', _, rs ++ [r], _, rfl, by omega, by omega, by simp [j3], ⟨fun x z => ?_, ?_⟩, flats_app j6 (by simp [D.flats, p5]), fun x z => ?_⟩
    · have hlen2 : rs.length < 1000000 := by omega
      simp only [scr, rep0] at lc e4
      try simp at e4
      simp [lc, e4, hlen2, scr, p5, flatT, hg.flat, sEr, op2, op1, T.val, R.opt, toB, opL, vals, consT, disp, mvs, mkTup, callT, callI, argE, others, isAl, isAli, finT, outE, padE, runD, cpsOf, cpT, toI, slT, T.weak, metT, kApp, kExt, elemD, iT, iL, iR1, iR2, iE, iZ, onI]
    · rcases List.mem_append.mp z with z | z
      · exact j4 x z
      · simp at z
        subst z
        exact p3
    · rw [List.filter_append]
      cases hc : rs.any isEndless with
      | true => simp [p4 hc, j5]
      | false =>
        rw [any_endless hc]
        simp
        exact Nat.le_trans (List.length_filter_le _ _) (by simp)
    · rcases List.mem_append.mp z with z | z
      · exact j7 x z
      · simp at z
        subst z
        exact p6)
  subst i1
  refine ⟨gs, rs, m2, ?_, by omega, by rw [hlen] at i3; omega, hg, ⟨by rw [i4, hlen]; omega, i5.1, i5.2, i6⟩, i7⟩
  refine fin4 (rest := [scr ns, .own true (rep0 m2), a2, .im (.tup gs), .own false rs, c2, .no]) (m := 0) rfl ?_ _ rfl
  have s2 := sFor_of (fi := fiR1 (aCons (eCallI 1 d__law_draw (aCons (eVar 0) (aCons (eVar 1) (aCons (eC (.int 5)) aNil)))) aNil)) (env := [scr ns, .own true (rep0 m1), .no, .im (.tup gs), .own false [], .no, .no]) (by
    have b : (-4611686018427387904 ≤ k) ∧ k < 4611686018427387904 := by omega
    try simp [scr] at e2
    simp [scr, e2, b, sEr, op2, op1, T.val, R.opt, toB, opL, vals, consT, disp, mvs, mkTup, callT, callI, argE, others, isAl, isAli, finT, outE, padE, runD, cpsOf, cpT, toI, slT, T.weak, metT, kApp, kExt, elemD, iT, iL, iR1, iR2, iE, iZ, onI]) q1
  unfold f__law_some_shop
  simp only [scr, rep0] at s2 e1
  try simp at e1
  simp [scr, e1, s2, hg.flat, flatT, sEr, op2, op1, T.val, R.opt, toB, opL, vals, consT, disp, mvs, mkTup, callT, callI, argE, others, isAl, isAli, finT, outE, padE, runD, cpsOf, cpT, toI, slT, T.weak, metT, kApp, kExt, elemD, iT, iL, iR1, iR2, iE, iZ, onI]
end DL
namespace DL
open PySem PySem.Spec L2
@[simp] theorem at_0 (a : D) (ds : List D) : atI (a :: ds) 0 = some a := by
  have q : (0 : Int) < (ds.length : Int) + 1 := by omega
  simp [atI, ixN, q]
@[simp] theorem at_1 (a b : D) (ds : List D) : atI (a :: b :: ds) 1 = some b := by
  have q : (1 : Int) < (ds.length : Int) + 1 + 1 := by omega
  simp [atI, ixN, q]
@[simp] theorem at_2 (a b c : D) (ds : List D) : atI (a :: b :: c :: ds) 2 = some c := by
  have q : (2 : Int) < (ds.length : Int) + 1 + 1 + 1 := by omega
  simp [atI, ixN, q]
@[simp] theorem at_3 (a b c d : D) (ds : List D) : atI (a :: b :: c :: d :: ds) 3 = some d := by
  have q : (3 : Int) < (ds.length : Int) + 1 + 1 + 1 + 1 := by omega
  simp [atI, ixN, q]
@[simp] theorem at_4 (a b c d e : D) (ds : List D) : atI (a :: b :: c :: d :: e :: ds) 4 = some e := by
  have q : (4 : Int) < (ds.length : Int) + 1 + 1 + 1 + 1 + 1 := by omega
  simp [atI, ixN, q]
inductive Ru where
  | pack (g s p : Int) (m : Option Int) | frm (g l p : Int) | over (f o : Int) | each (f o : Int) (m : Option Int)
def oD : Option Int → D
  | none => .non
  | some i => .int i
def Ru.d : Ru → D
  | .pack g s p m => .tup [.str "pack", .int g, .int s, .int p, oD m]
  | .frm g l p => .tup [.str "from", .int g, .int l, .int p]
  | .over f o => .tup [.str "over", .int f, .int o]
  | .each f o m => .tup [.str "each", .int f, .int o, oD m]
def okM : Option Int → Prop
  | none => True
  | some k => 1 ≤ k ∧ k ≤ 2
def Ru.ok : Ru → Int → Prop
  | .pack g s p m, n => (0 ≤ g ∧ g < n) ∧ (2 ≤ s ∧ s ≤ 3) ∧ (s ≤ p ∧ p ≤ 30) ∧ okM m
  | .frm g l p, n => (0 ≤ g ∧ g < n) ∧ (2 ≤ l ∧ l ≤ 4) ∧ (1 ≤ p ∧ p ≤ 9)
  | .over f o, _ => (2 ≤ f ∧ f ≤ 12) ∧ 1 ≤ o ∧ o ≤ 6 ∧ o ≤ f
  | .each f o m, _ => (2 ≤ f ∧ f ≤ 6) ∧ (1 ≤ o ∧ o ≤ f) ∧ okM m ∧ (m = none → 2 * o ≤ f)
theorem isBt_of {i a b : Int} (h : isBetween (.int i) a b = true) : a ≤ i ∧ i ≤ b := by simpa [isBetween] using h
theorem most_of {m : D} (h : isMost m = true) : ∃ o, m = oD o ∧ okM o := by
  cases m with
  | non => exact ⟨none, rfl, trivial⟩
  | int i => exact ⟨some i, rfl, isBt_of h⟩
  | _ => exact (Bool.false_ne_true h).elim
theorem rule_ru {v : D} {n : Int} (h : isRule v n = true) : ∃ r : Ru, v = r.d ∧ r.ok n := by
  obtain ⟨x, ds, rfl⟩ := rule_word h
  by_cases e1 : x = "pack"
  · subst e1
    replace h : isPack (.tup (.str "pack" :: ds)) n = true := h
    unfold isPack at h
    split at h
    · rename_i z
      cases z
      simp only [Bool.and_eq_true] at h
      obtain ⟨h1, h2, h3, h4⟩ := h
      obtain ⟨p, rfl⟩ := isBt_int h3
      obtain ⟨o, rfl, h5⟩ := most_of h4
      have := isBt_of h1
      exact ⟨.pack _ _ p o, rfl, by omega, isBt_of h2, isBt_of h3, h5⟩
    · cases h
  · by_cases e2 : x = "from"
    · subst e2
      replace h : isFrom (.tup (.str "from" :: ds)) n = true := h
      unfold isFrom at h
      split at h
      · rename_i z
        cases z
        simp only [Bool.and_eq_true] at h
        obtain ⟨h1, h2, h3⟩ := h
        obtain ⟨g, rfl⟩ := isBt_int h1
        obtain ⟨l, rfl⟩ := isBt_int h2
        obtain ⟨p, rfl⟩ := isBt_int h3
        have := isBt_of h1
        exact ⟨.frm g l p, rfl, by omega, isBt_of h2, isBt_of h3⟩
      · cases h
    · by_cases e3 : x = "over"
      · subst e3
        replace h : isOver (.tup (.str "over" :: ds)) = true := h
        unfold isOver at h
        split at h
        · rename_i z
          cases z
          simp only [Bool.and_eq_true] at h
          obtain ⟨h1, h2⟩ := h
          obtain ⟨o, rfl⟩ := isBt_int h2
          have a1 := isBt_of h1
          have a2 := isBt_of h2
          refine ⟨.over _ o, rfl, a1, a2.1, ?_, ?_⟩ <;> (have := a2.2; split at this <;> omega)
        · cases h
      · by_cases e4 : x = "each"
        · subst e4
          replace h : isEach (.tup (.str "each" :: ds)) = true := h
          unfold isEach at h
          split at h
          · rename_i z
            cases z
            simp only [Bool.and_eq_true] at h
            obtain ⟨h1, h2, h3, h4⟩ := h
            obtain ⟨o, rfl, h5⟩ := most_of h3
            refine ⟨.each _ _ o, rfl, isBt_of h1, isBt_of h2, h5, fun z => ?_⟩
            subst z
            simpa [isNon, oD] using h4
          · cases h
        · have q1 : (x == "pack") = false := by simpa using e1
          have q2 : (x == "from") = false := by simpa using e2
          have q3 : (x == "over") = false := by simpa using e3
          have q4 : (x == "each") = false := by simpa using e4
          simp [isRule, q1, q2, q3, q4] at h
theorem rules_ru {n : Int} : ∀ {rs : List D}, (∀ r ∈ rs, isRule r n = true) → ∃ us : List Ru, rs = us.map Ru.d ∧ ∀ u ∈ us, u.ok n
  | [], _ => ⟨[], rfl, fun u z => by cases z⟩
  | r :: rs, h => by
    obtain ⟨u, rfl, q⟩ := rule_ru (h r List.mem_cons_self)
    obtain ⟨us, rfl, qs⟩ := rules_ru fun x z => h x (List.mem_cons_of_mem _ z)
    exact ⟨u :: us, rfl, fun x z => (List.mem_cons.mp z).elim (fun z => z ▸ q) (qs x)⟩
def Ru.fits : Ru → Int → Int → Bool
  | .pack g s _ _, k, x => g == k && decide (s ≤ x)
  | .frm g l _, k, x => g == k && decide (l ≤ x)
  | _, _, _ => false
@[simp] theorem w1 : (("over" : Str) == "pack") = false := by decide +kernel
@[simp] theorem w2 : (("over" : Str) == "from") = false := by decide +kernel
@[simp] theorem w3 : (("over" : Str) == "each") = false := by decide +kernel
@[simp] theorem w4 : (("each" : Str) == "pack") = false := by decide +kernel
@[simp] theorem w5 : (("each" : Str) == "from") = false := by decide +kernel
@[simp] theorem w6 : (("each" : Str) == "over") = false := by decide +kernel
@[simp] theorem w7 : (("pack" : Str) == "over") = false := by decide +kernel
@[simp] theorem w8 : (("pack" : Str) == "each") = false := by decide +kernel
@[simp] theorem w9' : (("pack" : Str) == "from") = false := by decide +kernel
@[simp] theorem w10' : (("from" : Str) == "over") = false := by decide +kernel
@[simp] theorem w11' : (("from" : Str) == "each") = false := by decide +kernel
@[simp] theorem w12' : (("from" : Str) == "pack") = false := by decide +kernel
theorem loop_find {g : FG} {f : FS} {I : Nat → En → Prop} {p : Nat → Bool} {t : Nat → T} {ds : List D} {env : En} (h0 : I 0 env)
    (step : ∀ (i : Nat) (d : D) e, ds[i]? = some d → I i e → ∃ e1, g (.im d) e = .nx e1 ∧ ((p i = true ∧ ∃ e2, f e1 = .rt (t i) e2 ∧ I (i + 1) e2) ∨ (p i = false ∧ ∃ e2, f e1 = .nx e2 ∧ I (i + 1) e2))) :
    (∃ i e j, i < ds.length ∧ p i = true ∧ (∀ m, m < i → p m = false) ∧ loopF g f ds env = .rt (t i) e ∧ I j e) ∨ ((∀ m, m < ds.length → p m = false) ∧ ∃ e, loopF g f ds env = .nx e ∧ I ds.length e) := by
  have key : ∀ (rs : List D) (i : Nat) (e : En), ds.drop i = rs → I i e → (∃ k e' j, k < rs.length ∧ p (i + k) = true ∧ (∀ m, m < k → p (i + m) = false) ∧ loopF g f rs e = .rt (t (i + k)) e' ∧ I j e') ∨ ((∀ m, m < rs.length → p (i + m) = false) ∧ ∃ e', loopF g f rs e = .nx e' ∧ I (i + rs.length) e') := by
    intro rs
    induction rs with
    | nil => exact fun i e _ h => .inr ⟨fun m z => absurd z (Nat.not_lt_zero _), e, rfl, h⟩
    | cons d rs ih =>
      intro i e hd h
      have hi : ds[i]? = some d := by
        have := List.getElem?_drop (xs := ds) (i := i) (j := 0)
        rw [hd] at this
        simpa using this.symm
      obtain ⟨e1, q1, q2⟩ := step i d e hi h
      rcases q2 with ⟨hp, e2, q2, q3⟩ | ⟨hp, e2, q2, q3⟩
      · refine .inl ⟨0, e2, i + 1, by simp, hp, fun m z => absurd z (Nat.not_lt_zero _), ?_, q3⟩
        unfold loopF
        simp only [q1, q2]
        rfl
      · have hd' : ds.drop (i + 1) = rs := by
          rw [← List.drop_drop, hd]
          rfl
        have ex : ∀ m, i + 1 + m = i + (m + 1) := fun m => by omega
        rcases ih (i + 1) e2 hd' q3 with ⟨k, e', j, r1, r2, r3, r4, r5⟩ | ⟨r1, e', r2, r3⟩
        · refine .inl ⟨k + 1, e', j, by simp; exact r1, by rw [← ex]; exact r2, fun m z => ?_, ?_, r5⟩
          · cases m with
            | zero => exact hp
            | succ m => rw [← ex]; exact r3 m (by omega)
          · unfold loopF
            simp only [q1, q2]
            rw [r4, ex]
        · refine .inr ⟨fun m z => ?_, e', ?_, by rw [List.length_cons, show i + (rs.length + 1) = i + 1 + rs.length by omega]; exact r3⟩
          · cases m with
            | zero => exact hp
            | succ m => rw [← ex]; exact r1 m (by simpa using z)
          · unfold loopF
            simp only [q1, q2]
            exact r2
  rcases key ds 0 env (by simp) h0 with ⟨k, e, j, r1, r2, r3, r4, r5⟩ | ⟨r1, e, r2, r3⟩
  · exact .inl ⟨k, e, j, r1, by simpa using r2, fun m z => by simpa using r3 m z, by simpa using r4, r5⟩
  · exact .inr ⟨fun m z => by simpa using r1 m z, e, r2, by simpa using r3⟩
theorem first_ix {α : Type} {q : α → Bool} {us : List α} {p : Nat → Bool} (hp : ∀ i u, us[i]? = some u → p i = q u) :
    (∀ i, i < us.length → p i = true → (∀ m, m < i → p m = false) → us.findIdx? q = some i) ∧ ((∀ m, m < us.length → p m = false) → us.findIdx? q = none) := by
  constructor
  · intro i hi h1 h2
    rw [List.findIdx?_eq_some_iff_getElem]
    refine ⟨hi, ?_, fun j hj => ?_⟩
    · rw [← hp i us[i] (List.getElem?_eq_getElem hi)]
      exact h1
    · have hjl : j < us.length := by omega
      rw [← hp j us[j] (List.getElem?_eq_getElem hjl), h2 j hj]
      decide
  · intro h
    rw [List.findIdx?_eq_none_iff]
    intro x hx
    obtain ⟨i, hi⟩ := List.getElem?_of_mem hx
    rw [← hp i x hi]
    exact h i (List.getElem?_eq_some_iff.mp hi).1
theorem find_ix {α : Type} {q : α → Bool} : ∀ {us : List α}, us.find? q = (us.findIdx? q).bind fun i => us[i]?
  | [] => rfl
  | u :: us => by
    rw [List.find?_cons, List.findIdx?_cons]
    cases q u with
    | true => rfl
    | false =>
      simp only [find_ix (us := us)]
      cases us.findIdx? q <;> simp

end DL
namespace DL
open PySem PySem.Spec L2
def full (w p : Int) : Option Int → Int
  | none => w / p
  | some k => if k < w / p then k else w / p
def oN : Option Nat → D
  | none => .non
  | some i => .int (i : Int)
theorem r_full {w p : Int} {m : Option Int} (hp : 0 < p ∧ p < 1073741824) : d_full_times [.im (.int w), .im (.int p), .im (oD m)] = .ok (.im (.int (full w p m))) [.no, .no, .no] := by
  cases m with
  | none => simp [d_full_times, f_full_times, hp, full, oD, sEr, op2, op1, T.val, R.opt, toB, opL, vals, consT, disp, mvs, mkTup, callT, callI, argE, others, isAl, isAli, finT, outE, padE, runD, cpsOf, cpT, toI, slT, T.weak, metT, kApp, kExt, elemD, iT, iL, iR1, iR2, iE, iZ, onI]
  | some k => simp [d_full_times, f_full_times, hp, full, oD, dMin2, sEr, op2, op1, T.val, R.opt, toB, opL, vals, consT, disp, mvs, mkTup, callT, callI, argE, others, isAl, isAli, finT, outE, padE, runD, cpsOf, cpT, toI, slT, T.weak, metT, kApp, kExt, elemD, iT, iL, iR1, iR2, iE, iZ, onI]
theorem enum_get {us : List Ru} {i : Nat} {d : D} (h : (enumD (us.map Ru.d))[i]? = some d) : ∃ u, us[i]? = some u ∧ d = .tup [.int (i : Int), u.d] := by
  obtain ⟨d', e1, e2⟩ := enumD_get h
  rw [List.getElem?_map] at e1
  obtain ⟨u, e3, rfl⟩ := Option.map_eq_some_iff.mp e1
  exact ⟨u, e3, e2⟩
def fitsAt (us : List Ru) (k x : Int) (i : Nat) : Bool := match us[i]? with
  | some u => u.fits k x
  | none => false
theorem fitsAt_is {us : List Ru} {k x : Int} : ∀ i u, us[i]? = some u → fitsAt us k x i = u.fits k x := fun i u h => by
  unfold fitsAt
  rw [h]
def fitIx (us : List Ru) (k x : Int) : Option Nat := us.findIdx? fun u => u.fits k x
def fit (us : List Ru) (k x : Int) : Option Ru := us.find? fun u => u.fits k x
theorem r_fitting (us : List Ru) (k x : Int) : d_fitting_rule [.im (.tup (us.map Ru.d)), .im (.int k), .im (.int x)] = .ok (.im (oN (fitIx us k x))) [.no, .no, .no] := by
  have hl : (enumD (us.map Ru.d)).length = us.length := by rw [enumD_len, List.length_map]
  obtain ⟨f1, f2⟩ := first_ix (q := fun u : Ru => u.fits k x) (us := us) (p := fitsAt us k x) fitsAt_is
  have sf : ∀ {x' : Fl}, loopF (gT 2 (gsCons (gN 3) (gsCons (gN 4) gsNil))) (sIf (tAn (tV (eOp (dIn true) (eOp dIx (eVar 4) (eC (.int 0))) (eC g_SUM_WORDS))) (tAn (tV (eOp dEqA (eOp dIx (eVar 4) (eC (.int 1))) (eVar 1))) (tV (eOp dGe (eVar 2) (eOp dIx (eVar 4) (eC (.int 2))))))) (sRet (eVar 3)) sNx) (enumD (us.map Ru.d)) [.im (.tup (us.map Ru.d)), .im (.int k), .im (.int x), .no, .no] = x' →
      f_fitting_rule [.im (.tup (us.map Ru.d)), .im (.int k), .im (.int x), .no, .no] = x'.seq (sRet (eC .non)) := fun {x'} h => by
    unfold f_fitting_rule
    rw [sSeq_s, sFor_of (its := enumD (us.map Ru.d)) (e := [.im (.tup (us.map Ru.d)), .im (.int k), .im (.int x), .no, .no]) (by simp [sEr, op2, op1, T.val, R.opt, toB, opL, vals, consT, disp, mvs, mkTup, callT, callI, argE, others, isAl, isAli, finT, outE, padE, runD, cpsOf, cpT, toI, slT, T.weak, metT, kApp, kExt, elemD, iT, iL, iR1, iR2, iE, iZ, onI]) h]
  rcases loop_find (g := gT 2 (gsCons (gN 3) (gsCons (gN 4) gsNil))) (f := sIf (tAn (tV (eOp (dIn true) (eOp dIx (eVar 4) (eC (.int 0))) (eC g_SUM_WORDS))) (tAn (tV (eOp dEqA (eOp dIx (eVar 4) (eC (.int 1))) (eVar 1))) (tV (eOp dGe (eVar 2) (eOp dIx (eVar 4) (eC (.int 2))))))) (sRet (eVar 3)) sNx) (I := fun _ e => ∃ a b, e = [.im (.tup (us.map Ru.d)), .im (.int k), .im (.int x), a, b]) (p := fitsAt us k x) (t := fun i => .im (.int (i : Int))) (ds := enumD (us.map Ru.d)) (env := [.im (.tup (us.map Ru.d)), .im (.int k), .im (.int x), .no, .no]) ⟨.no, .no, rfl⟩ (by
    rintro i d _ hd ⟨a, b, rfl⟩
    obtain ⟨u, hu, rfl⟩ := enum_get hd
    refine ⟨[.im (.tup (us.map Ru.d)), .im (.int k), .im (.int x), .im (.int i), .im u.d], rfl, ?_⟩
    rw [fitsAt_is i u hu]
    cases u with
    | pack g s p m =>
      cases hf : (Ru.pack g s p m).fits k x with
      | true =>
        simp [Ru.fits] at hf
        exact .inl ⟨rfl, [.im (.tup (us.map Ru.d)), .im (.int k), .im (.int x), .im (.int i), .im (Ru.pack g s p m).d], by simp [Ru.d, dIx, dIn, g_SUM_WORDS, sc, hf, sEr, op2, op1, T.val, R.opt, toB, opL, vals, consT, disp, mvs, mkTup, callT, callI, argE, others, isAl, isAli, finT, outE, padE, runD, cpsOf, cpT, toI, slT, T.weak, metT, kApp, kExt, elemD, iT, iL, iR1, iR2, iE, iZ, onI], _, _, rfl⟩
      | false =>
        refine .inr ⟨rfl, [.im (.tup (us.map Ru.d)), .im (.int k), .im (.int x), .im (.int i), .im (Ru.pack g s p m).d], ?_, _, _, rfl⟩
        by_cases hg : g = k
        · simp [Ru.fits, hg] at hf
          simp [Ru.d, dIx, dIn, g_SUM_WORDS, sc, hg, Int.not_le.mpr hf, sEr, op2, op1, T.val, R.opt, toB, opL, vals, consT, disp, mvs, mkTup, callT, callI, argE, others, isAl, isAli, finT, outE, padE, runD, cpsOf, cpT, toI, slT, T.weak, metT, kApp, kExt, elemD, iT, iL, iR1, iR2, iE, iZ, onI]
        · have hg' : (g == k) = false := by simpa using hg
          simp [Ru.d, dIx, dIn, g_SUM_WORDS, sc, hg', sEr, op2, op1, T.val, R.opt, toB, opL, vals, consT, disp, mvs, mkTup, callT, callI, argE, others, isAl, isAli, finT, outE, padE, runD, cpsOf, cpT, toI, slT, T.weak, metT, kApp, kExt, elemD, iT, iL, iR1, iR2, iE, iZ, onI]
    | frm g s p =>
      cases hf : (Ru.frm g s p).fits k x with
      | true =>
        simp [Ru.fits] at hf
        exact .inl ⟨rfl, [.im (.tup (us.map Ru.d)), .im (.int k), .im (.int x), .im (.int i), .im (Ru.frm g s p).d], by simp [Ru.d, dIx, dIn, g_SUM_WORDS, sc, hf, sEr, op2, op1, T.val, R.opt, toB, opL, vals, consT, disp, mvs, mkTup, callT, callI, argE, others, isAl, isAli, finT, outE, padE, runD, cpsOf, cpT, toI, slT, T.weak, metT, kApp, kExt, elemD, iT, iL, iR1, iR2, iE, iZ, onI], _, _, rfl⟩
      | false =>
        refine .inr ⟨rfl, [.im (.tup (us.map Ru.d)), .im (.int k), .im (.int x), .im (.int i), .im (Ru.frm g s p).d], ?_, _, _, rfl⟩
        by_cases hg : g = k
        · simp [Ru.fits, hg] at hf
          simp [Ru.d, dIx, dIn, g_SUM_WORDS, sc, hg, Int.not_le.mpr hf, sEr, op2, op1, T.val, R.opt, toB, opL, vals, consT, disp, mvs, mkTup, callT, callI, argE, others, isAl, isAli, finT, outE, padE, runD, cpsOf, cpT, toI, slT, T.weak, metT, kApp, kExt, elemD, iT, iL, iR1, iR2, iE, iZ, onI]
        · have hg' : (g == k) = false := by simpa using hg
          simp [Ru.d, dIx, dIn, g_SUM_WORDS, sc, hg', sEr, op2, op1, T.val, R.opt, toB, opL, vals, consT, disp, mvs, mkTup, callT, callI, argE, others, isAl, isAli, finT, outE, padE, runD, cpsOf, cpT, toI, slT, T.weak, metT, kApp, kExt, elemD, iT, iL, iR1, iR2, iE, iZ, onI]
    | over f o => exact .inr ⟨rfl, [.im (.tup (us.map Ru.d)), .im (.int k), .im (.int x), .im (.int i), .im (Ru.over f o).d], by simp [Ru.d, dIx, dIn, g_SUM_WORDS, sc, sEr, op2, op1, T.val, R.opt, toB, opL, vals, consT, disp, mvs, mkTup, callT, callI, argE, others, isAl, isAli, finT, outE, padE, runD, cpsOf, cpT, toI, slT, T.weak, metT, kApp, kExt, elemD, iT, iL, iR1, iR2, iE, iZ, onI], _, _, rfl⟩
    | each f o m => exact .inr ⟨rfl, [.im (.tup (us.map Ru.d)), .im (.int k), .im (.int x), .im (.int i), .im (Ru.each f o m).d], by simp [Ru.d, dIx, dIn, g_SUM_WORDS, sc, sEr, op2, op1, T.val, R.opt, toB, opL, vals, consT, disp, mvs, mkTup, callT, callI, argE, others, isAl, isAli, finT, outE, padE, runD, cpsOf, cpT, toI, slT, T.weak, metT, kApp, kExt, elemD, iT, iL, iR1, iR2, iE, iZ, onI], _, _, rfl⟩) with ⟨i, e, j, h1, h2, h3, h4, a, b, rfl⟩ | ⟨h1, e, h4, a, b, rfl⟩
  · have := f1 i (by rw [← hl]; exact h1) h2 h3
    exact fin4 (rest := [.im (.tup (us.map Ru.d)), .im (.int k), .im (.int x), a, b]) (m := 0) rfl (by rw [show padE 5 [Sl.im (.tup (us.map Ru.d)), .im (.int k), .im (.int x)] = [.im (.tup (us.map Ru.d)), .im (.int k), .im (.int x), .no, .no] from rfl, sf h4]; unfold fitIx; rw [this]; rfl) _ rfl
  · have := f2 (fun m hm => h1 m (by rw [hl]; exact hm))
    exact fin4 (rest := [.im (.tup (us.map Ru.d)), .im (.int k), .im (.int x), a, b]) (m := 0) rfl (by rw [show padE 5 [Sl.im (.tup (us.map Ru.d)), .im (.int k), .im (.int x)] = [.im (.tup (us.map Ru.d)), .im (.int k), .im (.int x), .no, .no] from rfl, sf h4]; unfold fitIx; rw [this]; rfl) _ rfl

theorem r_pack_times {g s p x : Int} {m : Option Int} (hs : 2 ≤ s ∧ s ≤ 3) : d_pack_times [.im (Ru.pack g s p m).d, .im (.int x)] = .ok (.im (.int (full x s m))) [.no, .no] := by
  have h := r_full (w := x) (p := s) (m := m) (by omega)
  simp [d_pack_times, f_pack_times, Ru.d, h, sEr, op2, op1, T.val, R.opt, toB, opL, vals, consT, disp, mvs, mkTup, callT, callI, argE, others, isAl, isAli, finT, outE, padE, runD, cpsOf, cpT, toI, slT, T.weak, metT, kApp, kExt, elemD, iT, iL, iR1, iR2, iE, iZ, onI]
def packAmt (s p price x : Int) (m : Option Int) : Int := full x s m * p + (x - full x s m * s) * price
theorem r_pack_amount {g s p x price : Int} {m : Option Int} (hs : 2 ≤ s ∧ s ≤ 3) (hp : 0 ≤ p ∧ p ≤ 30) (hr : 0 ≤ price ∧ price ≤ 9) : d_pack_amount [.im (Ru.pack g s p m).d, .im (.int price), .im (.int x)] = .ok (.im (.int (packAmt s p price x m))) [.no, .no, .no] := by
  have h := r_pack_times (g := g) (s := s) (p := p) (x := x) (m := m) hs
  have b1 : -18446744073709551616 < s ∧ s < 18446744073709551616 := by omega
  have b2 : -18446744073709551616 < p ∧ p < 18446744073709551616 := by omega
  have b3 : -18446744073709551616 < price ∧ price < 18446744073709551616 := by omega
  simp [Ru.d] at h
  simp [d_pack_amount, f_pack_amount, Ru.d, h, packAmt, dMulA, b1, b2, b3, sEr, op2, op1, T.val, R.opt, toB, opL, vals, consT, disp, mvs, mkTup, callT, callI, argE, others, isAl, isAli, finT, outE, padE, runD, cpsOf, cpT, toI, slT, T.weak, metT, kApp, kExt, elemD, iT, iL, iR1, iR2, iE, iZ, onI]
def amtBy (price x : Int) : Option Ru → Int
  | none => x * price
  | some (.pack _ s p m) => packAmt s p price x m
  | some (.frm _ _ p) => x * p
  | some _ => 0
theorem fit_some {us : List Ru} {k x : Int} {i : Nat} (h : fitIx us k x = some i) : ∃ u, us[i]? = some u ∧ u.fits k x = true ∧ fit us k x = some u := by
  have h' := h
  unfold fitIx at h'
  rw [List.findIdx?_eq_some_iff_getElem] at h'
  obtain ⟨hi, h1, _⟩ := h'
  refine ⟨us[i], List.getElem?_eq_getElem hi, h1, ?_⟩
  unfold fit
  rw [find_ix]
  unfold fitIx at h
  rw [h]
  exact List.getElem?_eq_getElem hi
theorem fit_none {us : List Ru} {k x : Int} (h : fitIx us k x = none) : fit us k x = none := by
  unfold fit
  rw [find_ix]
  unfold fitIx at h
  rw [h]
  rfl
theorem at_map {α : Type} {us : List α} {f : α → D} {i : Nat} {u : α} (h : us[i]? = some u) : atI (us.map f) (i : Int) = some (f u) := by
  have hi : i < us.length := (List.getElem?_eq_some_iff.mp h).1
  obtain ⟨d, e1, e2⟩ := atI_ok (ds := us.map f) (i := (i : Int)) (by omega) (by simpa using hi)
  rw [e1]
  rw [Int.toNat_natCast, List.getElem?_map, h] at e2
  exact e2.symm
def gd (g : Int × Int) : D := .tup [.int g.1, .int g.2]
theorem r_good_amount {gs : List (Int × Int)} {us : List Ru} {k : Nat} {g : Int × Int} {x n : Int} (hu : ∀ u ∈ us, u.ok n) (hk : gs[k]? = some g) (hg : 0 ≤ g.1 ∧ g.1 ≤ 9) :
    d_good_amount [.im (.tup [.tup (gs.map gd), .tup (us.map Ru.d)]), .im (.int k), .im (.int x)] = .ok (.im (.int (amtBy g.1 x (fit us k x)))) [.no, .no, .no] := by
  have a1 := at_map (f := gd) hk
  have f := r_fitting us k x
  have b3 : -18446744073709551616 < g.1 ∧ g.1 < 18446744073709551616 := by omega
  cases hx : fitIx us k x with
  | none =>
    rw [hx] at f
    simp [oN] at f
    simp [d_good_amount, f_good_amount, dIx, a1, gd, f, fit_none hx, amtBy, dMulA, b3, sEr, op2, op1, T.val, R.opt, toB, opL, vals, consT, disp, mvs, mkTup, callT, callI, argE, others, isAl, isAli, finT, outE, padE, runD, cpsOf, cpT, toI, slT, T.weak, metT, kApp, kExt, elemD, iT, iL, iR1, iR2, iE, iZ, onI]
  | some i =>
    rw [hx] at f
    obtain ⟨u, e1, e2, e3⟩ := fit_some hx
    have a2 := at_map (f := Ru.d) e1
    have ok := hu u (List.mem_of_getElem? e1)
    simp [oN] at f
    cases u with
    | pack g' s p m =>
      obtain ⟨_, h2, h3, _⟩ := ok
      have q := r_pack_amount (g := g') (x := x) (m := m) h2 (p := p) (by omega) hg
      simp [Ru.d] at q a2
      simp [d_good_amount, f_good_amount, dIx, a1, gd, f, a2, e3, amtBy, q, Ru.d, sEr, op2, op1, T.val, R.opt, toB, opL, vals, consT, disp, mvs, mkTup, callT, callI, argE, others, isAl, isAli, finT, outE, padE, runD, cpsOf, cpT, toI, slT, T.weak, metT, kApp, kExt, elemD, iT, iL, iR1, iR2, iE, iZ, onI]
    | frm g' l p =>
      obtain ⟨_, h2, h3⟩ := ok
      have b4 : -18446744073709551616 < p ∧ p < 18446744073709551616 := by omega
      simp [Ru.d] at a2
      simp [d_good_amount, f_good_amount, dIx, a1, gd, f, a2, e3, amtBy, dMulA, b4, Ru.d, sEr, op2, op1, T.val, R.opt, toB, opL, vals, consT, disp, mvs, mkTup, callT, callI, argE, others, isAl, isAli, finT, outE, padE, runD, cpsOf, cpT, toI, slT, T.weak, metT, kApp, kExt, elemD, iT, iL, iR1, iR2, iE, iZ, onI]
    | over f' o => simp [Ru.fits] at e2
    | each f' o m => simp [Ru.fits] at e2

end DL
namespace DL
open PySem PySem.Spec L2
def wr (u : Ru) (x : Int) : Int := match u with
  | .pack _ s _ m => full x s m
  | _ => 1
end DL
namespace DL
open PySem PySem.Spec L2
theorem r_check_shop {v : D} (h : isShop v = true) : d_check_shop [.im v] = .ok (.im .non) [.no] := by
  simp [d_check_shop, f_check_shop, r_is_shop, h, sEr, op2, op1, T.val, R.opt, toB, opL, vals, consT, disp, mvs, mkTup, callT, callI, argE, others, isAl, isAli, finT, outE, padE, runD, cpsOf, cpT, toI, slT, T.weak, metT, kApp, kExt, elemD, iT, iL, iR1, iR2, iE, iZ, onI]
end DL
namespace DL
open PySem PySem.Spec L2
def Ru.endless : Ru → Bool
  | .each _ _ none => true
  | _ => false
theorem endless_is (u : Ru) : isEndless u.d = u.endless := by
  cases u with
  | pack g s p m => rfl
  | frm g l p => simp [Ru.d, isEndless, Ru.endless]
  | over f o => rfl
  | each f o m => cases m <;> rfl
structure Shp (gi : List (Int × Int)) (us : List Ru) : Prop where
  len : 1 ≤ gi.length ∧ gi.length ≤ 2
  pr : ∀ g ∈ gi, (1 ≤ g.1 ∧ g.1 ≤ 9) ∧ (0 ≤ g.2 ∧ g.2 ≤ 9)
  few : us.length ≤ 4
  ru : ∀ u ∈ us, u.ok gi.length ∧ isRule u.d gi.length = true
  one : (us.filter Ru.endless).length ≤ 1
abbrev shopD (gi : List (Int × Int)) (us : List Ru) : D := .tup [.tup (gi.map gd), .tup (us.map Ru.d)]
theorem Shp.is {gi : List (Int × Int)} {us : List Ru} (h : Shp gi us) : isShop (shopD gi us) = true := by
  have e1 : (gi.map gd).all isGood = true := by
    rw [List.all_eq_true]
    intro d hd
    obtain ⟨g, hg, rfl⟩ := List.mem_map.mp hd
    obtain ⟨h1, h2⟩ := h.pr g hg
    simp [gd, isGood, isBetween, h1, h2]
  have e2 : rulesOk (us.map Ru.d) gi.length = true := by
    unfold rulesOk
    rw [List.all_eq_true]
    intro d hd
    obtain ⟨u, hu, rfl⟩ := List.mem_map.mp hd
    exact (h.ru u hu).2
  have e3 : ((us.map Ru.d).filter isEndless).length = (us.filter Ru.endless).length := by
    rw [List.filter_map, List.length_map]
    congr 2
    funext u
    exact endless_is u
  show (areGoods (.tup (gi.map gd)) && areRules (.tup (us.map Ru.d)) (gi.map gd).length) = true
  rw [List.length_map]
  have h1 := h.one
  simp [areGoods, areRules, h.len, h.few, e1, e2, e3, h1]
theorem Shp.less {gi : List (Int × Int)} {us : List Ru} (h : Shp gi us) (p : Ru → Bool) : Shp gi (us.filter p) := by
  refine ⟨h.len, h.pr, Nat.le_trans (List.length_filter_le _ _) h.few, fun u z => h.ru u (List.mem_filter.mp z).1, ?_⟩
  rw [List.filter_filter]
  refine Nat.le_trans ?_ h.one
  rw [show (fun a => Ru.endless a && p a) = fun a => p a && Ru.endless a from funext fun a => Bool.and_comm _ _, ← List.filter_filter]
  exact List.length_filter_le _ _
theorem goods_gi {gs : List D} (h : ∀ g ∈ gs, ∃ p c : Int, g = .tup [.int p, .int c] ∧ (3 ≤ p ∧ p ≤ 9) ∧ (0 ≤ c ∧ c ≤ 7)) : ∃ gi : List (Int × Int), gs = gi.map gd ∧ ∀ g ∈ gi, (3 ≤ g.1 ∧ g.1 ≤ 9) ∧ (0 ≤ g.2 ∧ g.2 ≤ 7) := by
  induction gs with
  | nil => exact ⟨[], rfl, fun g z => by cases z⟩
  | cons g gs ih =>
    obtain ⟨p, c, rfl, h1, h2⟩ := h g List.mem_cons_self
    obtain ⟨gi, rfl, q⟩ := ih fun x z => h x (List.mem_cons_of_mem _ z)
    exact ⟨(p, c) :: gi, rfl, fun x z => (List.mem_cons.mp z).elim (fun z => by subst z; exact ⟨h1, h2⟩) (q x)⟩
theorem draw_shop2 (ns : List Int) (n : Nat) (hl : ns.length ≤ 63) (hn : n < 800000) : ∃ gi us m, d__law_some_shop [scr ns, .own true (rep0 n)] = .ok (.im (shopD gi us)) [.no, .own true (rep0 m)] ∧ n ≤ m ∧ m ≤ n + 40 ∧ Shp gi us ∧ (∀ g ∈ gi, (3 ≤ g.1 ∧ g.1 ≤ 9) ∧ (0 ≤ g.2 ∧ g.2 ≤ 7)) ∧ D.flats (us.map Ru.d) = true ∧ ∀ u ∈ us, drawnR (gi.map gd) u.d := by
  obtain ⟨gs, rs, m, e, h1, h2, hg, hr, hdr⟩ := r_some_shop2 ns n hl hn
  obtain ⟨gi, rfl, q⟩ := goods_gi hg.all
  have hlen := hg.len
  rw [List.length_map] at hlen
  have ha := hr.all
  rw [List.length_map] at ha
  obtain ⟨us, rfl, qu⟩ := rules_ru ha
  refine ⟨gi, us, m, e, h1, h2, ⟨hlen, fun g z => ?_, ?_, fun u z => ⟨qu u z, ha _ (List.mem_map_of_mem z)⟩, ?_⟩, q, hr.flat, fun u z => hdr _ (List.mem_map_of_mem z)⟩
  · have := q g z
    omega
  · have := hr.len
    rwa [List.length_map] at this
  · have := hr.one
    rw [List.filter_map, List.length_map] at this
    rw [show (isEndless ∘ Ru.d) = Ru.endless from funext endless_is] at this
    exact this
abbrev basD (bs : List Int) : D := .tup (bs.map D.int)
def amtAt (gi : List (Int × Int)) (us : List Ru) (k x : Int) : Int := amtBy ((gi[k.toNat]?).getD (0, 0)).1 x (fit us k x)
def amtD (gi : List (Int × Int)) (us : List Ru) : D → D
  | .tup [.int k, .int x] => .int (amtAt gi us k x)
  | d => d
def amtsD (gi : List (Int × Int)) (us : List Ru) (bs : List Int) : List D := (enumD (bs.map D.int)).map (amtD gi us)
theorem enum_int {bs : List Int} {d : D} (h : d ∈ enumD (bs.map D.int)) : ∃ (k : Nat) (x : Int), d = .tup [.int k, .int x] ∧ bs[k]? = some x := by
  obtain ⟨i, hi⟩ := List.getElem?_of_mem h
  obtain ⟨d', e1, rfl⟩ := enumD_get hi
  rw [List.getElem?_map] at e1
  obtain ⟨x, e2, rfl⟩ := Option.map_eq_some_iff.mp e1
  exact ⟨i, x, rfl, e2⟩
theorem amt_good {gi : List (Int × Int)} {us : List Ru} (h : Shp gi us) {k : Nat} {x : Int} (hk : k < gi.length) : d_good_amount [.im (shopD gi us), .im (.int k), .im (.int x)] = .ok (.im (.int (amtAt gi us k x))) [.no, .no, .no] := by
  have e := List.getElem?_eq_getElem hk
  have := r_good_amount (x := x) (us := us) (n := gi.length) (fun u z => (h.ru u z).1) e (by have := (h.pr _ (List.getElem_mem hk)).1; omega)
  rw [this]
  simp [amtAt, e]
theorem r_amounts_of {gi : List (Int × Int)} {us : List Ru} {bs : List Int} (h : Shp gi us) (hl : bs.length = gi.length) : d_amounts_of [.im (shopD gi us), .im (basD bs)] = .ok (.im (.tup (amtsD gi us bs))) [.no, .no] := by
  have h2 := h.len.2
  have q := eLc_of (fi := fiE false (aCons (eVar 1) aNil)) (vs := [2, 3]) (t := .tup [2, 3]) (ft := tT) (fe := eCall d_good_amount (aCons (eVar 0) (aCons (eVar 2) (aCons (eVar 3) aNil)))) (env := [.im (shopD gi us), .im (basD bs), .no, .no]) (k := ⟨enumD (bs.map D.int), none⟩) (e := [.im (shopD gi us), .im (basD bs), .no, .no]) (by simp [sEr, op2, op1, T.val, R.opt, toB, opL, vals, consT, disp, mvs, mkTup, callT, callI, argE, others, isAl, isAli, finT, outE, padE, runD, cpsOf, cpT, toI, slT, T.weak, metT, kApp, kExt, elemD, iT, iL, iR1, iR2, iE, iZ, onI])
    (lc_map (k := ⟨enumD (bs.map D.int), none⟩) (vs := [2, 3]) (t := .tup [2, 3]) (h := amtD gi us) (env := [.im (shopD gi us), .im (basD bs), .no, .no]) trivial (enumD (bs.map D.int)) [] (small_size (by rw [enumD_len, List.length_map]; show 0 + bs.length ≤ 1000; omega)) fun d z => by
      obtain ⟨k, x, rfl, e⟩ := enum_int z
      have hk : k < gi.length := by rw [← hl]; exact (List.getElem?_eq_some_iff.mp e).1
      refine ⟨[.im (shopD gi us), .im (basD bs), .im (.int k), .im (.int x)], .im (.int (amtAt gi us k x)), [.im (shopD gi us), .im (basD bs), .im (.int k), .im (.int x)], rfl, ?_, rfl, rfl⟩
      have := amt_good (x := x) h hk
      simp [this, sEr, op2, op1, T.val, R.opt, toB, opL, vals, consT, disp, mvs, mkTup, callT, callI, argE, others, isAl, isAli, finT, outE, padE, runD, cpsOf, cpT, toI, slT, T.weak, metT, kApp, kExt, elemD, iT, iL, iR1, iR2, iE, iZ, onI])
  refine fin4 (rest := [.im (shopD gi us), .im (basD bs), .no, .no]) (m := 0) rfl ?_ _ rfl
  show f_amounts_of [.im (shopD gi us), .im (basD bs), .no, .no] = _
  unfold f_amounts_of
  simp [q, amtsD, sEr, op2, op1, T.val, R.opt, toB, opL, vals, consT, disp, mvs, mkTup, callT, callI, argE, others, isAl, isAli, finT, outE, padE, runD, cpsOf, cpT, toI, slT, T.weak, metT, kApp, kExt, elemD, iT, iL, iR1, iR2, iE, iZ, onI]

end DL
namespace DL
open PySem PySem.Spec L2
theorem eqvs_ints : ∀ (a b : List Int), eqvs (a.map D.int) (b.map D.int) = decide (a = b)
  | [], [] => rfl
  | [], _ :: _ => rfl
  | _ :: _, [] => rfl
  | x :: a, y :: b => by
    rw [List.map_cons, List.map_cons, eqvs_cc, eqv_ii, eqvs_ints a b]
    rw [Bool.eq_iff_iff]
    simp
theorem shp_tup (a : List Int) : shp (.tup (a.map D.int)) = true := by
  rw [shp_eq, lay, dep, lays_ints, deps_ints]
  rfl
theorem eq_tups (a b : List Int) : dEqA (.tup (a.map D.int)) (.tup (b.map D.int)) = some (.im (.bl (decide (a = b)))) := by
  unfold dEqA dEqS dEq
  simp [shp_tup, eqvs_ints]
theorem ne_tups (a b : List Int) : dNeA (.tup (a.map D.int)) (.tup (b.map D.int)) = some (.im (.bl (!decide (a = b)))) := by
  unfold dNeA dNeS dNe
  simp [shp_tup, eqvs_ints]
def amts (gi : List (Int × Int)) (us : List Ru) (bs : List Int) : List Int := bs.mapIdx fun (i : Nat) x => amtAt gi us i x
theorem amtsD_is (gi : List (Int × Int)) (us : List Ru) (bs : List Int) : amtsD gi us bs = (amts gi us bs).map D.int := by
  apply List.ext_getElem?
  intro i
  unfold amtsD amts enumD
  simp only [List.getElem?_map, List.getElem?_mapIdx]
  cases bs[i]? <;> rfl
theorem zeros {n : Nat} (h : 1 ≤ n ∧ n ≤ 2) : dMulT (.tup [.int 0]) (.int n) = some (.im (basD (List.replicate n 0))) := by
  rcases (by omega : n = 1 ∨ n = 2) with rfl | rfl <;> rfl
end DL
namespace DL
open PySem PySem.Spec L2
theorem fin5 {p0 : En} {t : T} {rest : En} {n p : Nat} {f : FS} (hp : p0.length = p) (h : f (padE n p0) = .rt t rest) (ht : isAl t = false) (o : En) (ho : outE p0 rest = some o) : runD n p f p0 = .ok t o := by
  show (if p0.length = p then finF p0 (f (padE n p0)) else .er) = _
  rw [if_pos hp, h]
  cases t with
  | al i => cases ht
  | im d =>
    show (match outE p0 rest with
      | some o => R.ok (T.im d) o
      | none => .er) = _
    rw [ho]
  | fr d =>
    show (match outE p0 rest with
      | some o => R.ok (T.fr d) o
      | none => .er) = _
    rw [ho]
  | ft d =>
    show (match outE p0 rest with
      | some o => R.ok (T.ft d) o
      | none => .er) = _
    rw [ho]
def Ru.off : Ru → Int → Int
  | .over f _, t => if f ≤ t then 1 else 0
  | .each f _ m, t => full t f m
  | _, _ => 0
def Ru.cut : Ru → Int
  | .pack _ s _ _ => s
  | .frm _ l _ => l
  | .over _ o => o
  | .each _ o _ => o
theorem Ru.at2 (u : Ru) : ∃ a b c, u.d = .tup (a :: b :: .int u.cut :: c) := by
  cases u <;> exact ⟨_, _, _, rfl⟩
theorem Ru.cut_ok {u : Ru} {n : Int} (h : u.ok n) : 1 ≤ u.cut ∧ u.cut ≤ 6 := by
  cases u with
  | pack g s p m => have := h.2.1; simp [Ru.cut]; omega
  | frm g l p => have := h.2.1; simp [Ru.cut]; omega
  | over f o => have := h.2; simp [Ru.cut]; omega
  | each f o m => have := h.1; have := h.2.1; simp [Ru.cut]; omega
theorem r_off {u : Ru} {n t : Int} (h : u.ok n) : d_off_times [.im u.d, .im (.int t)] = .ok (.im (.int (u.off t))) [.no, .no] := by
  cases u with
  | pack g s p m => simp [d_off_times, f_off_times, Ru.d, dIx, Ru.off, sEr, op2, op1, T.val, R.opt, toB, opL, vals, consT, disp, mvs, mkTup, callT, callI, argE, others, isAl, isAli, finT, outE, padE, runD, cpsOf, cpT, toI, slT, T.weak, metT, kApp, kExt, elemD, iT, iL, iR1, iR2, iE, iZ, onI]
  | frm g l p => simp [d_off_times, f_off_times, Ru.d, dIx, Ru.off, sEr, op2, op1, T.val, R.opt, toB, opL, vals, consT, disp, mvs, mkTup, callT, callI, argE, others, isAl, isAli, finT, outE, padE, runD, cpsOf, cpT, toI, slT, T.weak, metT, kApp, kExt, elemD, iT, iL, iR1, iR2, iE, iZ, onI]
  | over f o =>
    by_cases hf : f ≤ t
    · simp [d_off_times, f_off_times, Ru.d, dIx, Ru.off, hf, sEr, op2, op1, T.val, R.opt, toB, opL, vals, consT, disp, mvs, mkTup, callT, callI, argE, others, isAl, isAli, finT, outE, padE, runD, cpsOf, cpT, toI, slT, T.weak, metT, kApp, kExt, elemD, iT, iL, iR1, iR2, iE, iZ, onI]
    · simp [d_off_times, f_off_times, Ru.d, dIx, Ru.off, hf, sEr, op2, op1, T.val, R.opt, toB, opL, vals, consT, disp, mvs, mkTup, callT, callI, argE, others, isAl, isAli, finT, outE, padE, runD, cpsOf, cpT, toI, slT, T.weak, metT, kApp, kExt, elemD, iT, iL, iR1, iR2, iE, iZ, onI]
  | each f o m =>
    have q := r_full (w := t) (p := f) (m := m) (by have := h.1; omega)
    simp [d_off_times, f_off_times, Ru.d, dIx, Ru.off, q, sEr, op2, op1, T.val, R.opt, toB, opL, vals, consT, disp, mvs, mkTup, callT, callI, argE, others, isAl, isAli, finT, outE, padE, runD, cpsOf, cpT, toI, slT, T.weak, metT, kApp, kExt, elemD, iT, iL, iR1, iR2, iE, iZ, onI]
def stp (s : Int × List Int) (u : Ru) : Int × List Int := (s.1 - u.off s.1 * u.cut, s.2 ++ [u.off s.1])
def sums (us : List Ru) (t : Int) : Int × List Int := us.foldl stp (t, [])
theorem sums_len (us : List Ru) : ∀ s : Int × List Int, (us.foldl stp s).2.length = s.2.length + us.length := by
  induction us with
  | nil => exact fun s => rfl
  | cons u us ih => exact fun s => by rw [List.foldl_cons, ih]; simp [stp]; omega
theorem take_more {α : Type} {us : List α} {i : Nat} {u : α} (h : us[i]? = some u) : us.take (i + 1) = us.take i ++ [u] := by
  rw [List.take_add_one, h]
  rfl
theorem map_get {us : List Ru} {i : Nat} {d : D} (h : (us.map Ru.d)[i]? = some d) : ∃ u, us[i]? = some u ∧ d = u.d := by
  rw [List.getElem?_map] at h
  obtain ⟨u, e, rfl⟩ := Option.map_eq_some_iff.mp h
  exact ⟨u, e, rfl⟩
theorem r_apply {us : List Ru} {n t : Int} (h : ∀ u ∈ us, u.ok n) (hl : us.length ≤ 1000) : d_apply_sums [.im (.tup (us.map Ru.d)), .im (.int t)] = .ok (.ft [⟨false, .int (sums us t).1⟩, ⟨true, .lst ((sums us t).2.map D.int)⟩]) [.no, .no] := by
  obtain ⟨e, q, a, b, rfl⟩ := loop_all (g := gN 4) (f := b_apply_sums_1) (ds := us.map Ru.d) (env := [.im (.tup (us.map Ru.d)), .im (.int t), .im (.int t), .own false [], .no, .no])
    (I := fun i e => ∃ a b, e = [.im (.tup (us.map Ru.d)), .im (.int t), .im (.int (sums (us.take i) t).1), .own false ((sums (us.take i) t).2.map D.int), a, b]) ⟨.no, .no, rfl⟩ (by
    rintro i d _ hd ⟨a, b, rfl⟩
    obtain ⟨u, hu, rfl⟩ := map_get hd
    have ok := h u (List.mem_of_getElem? hu)
    have q := r_off (t := (sums (us.take i) t).1) ok
    obtain ⟨x, y, z, hx⟩ := u.at2
    have bc := Ru.cut_ok ok
    have b1 : -18446744073709551616 < u.cut ∧ u.cut < 18446744073709551616 := by omega
    have hi : i < us.length := (List.getElem?_eq_some_iff.mp hu).1
    have l1 : ((sums (us.take i) t).2).length < 1000000 := by
      unfold sums
      rw [sums_len]
      simp
      omega
    have e1 : sums (us.take (i + 1)) t = ((sums (us.take i) t).1 - u.off (sums (us.take i) t).1 * u.cut, (sums (us.take i) t).2 ++ [u.off (sums (us.take i) t).1]) := by
      rw [take_more hu]
      unfold sums
      rw [List.foldl_append]
      rfl
    refine ⟨[.im (.tup (us.map Ru.d)), .im (.int t), .im (.int (sums (us.take i) t).1), .own false ((sums (us.take i) t).2.map D.int), .im u.d, b], [.im (.tup (us.map Ru.d)), .im (.int t), .im (.int (sums (us.take (i + 1)) t).1), .own false ((sums (us.take (i + 1)) t).2.map D.int), .im u.d, .im (.int (u.off (sums (us.take i) t).1))], rfl, .inl ?_, _, _, rfl⟩
    rw [hx] at q
    rw [e1, hx]
    simp [b_apply_sums_1, b_apply_sums_1_1, b_apply_sums_1_2, b_apply_sums_1_3, q, dIx, dMulA, b1, l1, sEr, op2, op1, T.val, R.opt, toB, opL, vals, consT, disp, mvs, mkTup, callT, callI, argE, others, isAl, isAli, finT, outE, padE, runD, cpsOf, cpT, toI, slT, T.weak, metT, kApp, kExt, elemD, iT, iL, iR1, iR2, iE, iZ, onI])
  have s3 := sFor_of (fi := fiT (eVar 0)) (env := [.im (.tup (us.map Ru.d)), .im (.int t), .im (.int t), .own false [], .no, .no]) (e := [.im (.tup (us.map Ru.d)), .im (.int t), .im (.int t), .own false [], .no, .no]) (by simp [sEr, op2, op1, T.val, R.opt, toB, opL, vals, consT, disp, mvs, mkTup, callT, callI, argE, others, isAl, isAli, finT, outE, padE, runD, cpsOf, cpT, toI, slT, T.weak, metT, kApp, kExt, elemD, iT, iL, iR1, iR2, iE, iZ, onI]) q
  have ht : us.take (us.map Ru.d).length = us := by rw [List.length_map, List.take_length]
  rw [ht] at s3
  refine fin5 (rest := [.im (.tup (us.map Ru.d)), .im (.int t), .im (.int (sums us t).1), .no, a, b]) rfl ?_ rfl _ rfl
  show f_apply_sums [.im (.tup (us.map Ru.d)), .im (.int t), .no, .no, .no, .no] = _
  simp [f_apply_sums, f_apply_sums_1, f_apply_sums_2, f_apply_sums_3, f_apply_sums_4, s3, sEr, op2, op1, T.val, R.opt, toB, opL, vals, consT, disp, mvs, mkTup, callT, callI, argE, others, isAl, isAli, finT, outE, padE, runD, cpsOf, cpT, toI, slT, T.weak, metT, kApp, kExt, elemD, iT, iL, iR1, iR2, iE, iZ, onI]
theorem intsOf_amts (gi : List (Int × Int)) (us : List Ru) (bs : List Int) : dSum [.tup (amtsD gi us bs)] = some (.im (.int (amts gi us bs).sum)) := by
  rw [amtsD_is, dSum_tup, intsOf_map]
  rfl
def chg (gi : List (Int × Int)) (us : List Ru) (bs : List Int) : Int := (sums us (amts gi us bs).sum).1
theorem r_left_of {us : List Ru} {n t : Int} (h : ∀ u ∈ us, u.ok n) (hl : us.length ≤ 1000) : d_left_of [.im (.tup (us.map Ru.d)), .im (.int t)] = .ok (.im (.int (sums us t).1)) [.no, .no] := by
  have e3 := r_apply (t := t) h hl
  refine fin5 (rest := [.im (.tup (us.map Ru.d)), .im (.int t), .im (.int (sums us t).1), .own false ((sums us t).2.map D.int)]) rfl ?_ rfl _ rfl
  show f_left_of [.im (.tup (us.map Ru.d)), .im (.int t), .no, .no] = _
  simp [f_left_of, f_left_of_1, f_left_of_2, e3, sEr, op2, op1, T.val, R.opt, toB, opL, vals, consT, disp, mvs, mkTup, callT, callI, argE, others, isAl, isAli, finT, outE, padE, runD, cpsOf, cpT, toI, slT, T.weak, metT, kApp, kExt, elemD, iT, iL, iR1, iR2, iE, iZ, onI]
theorem r_charge_of {gi : List (Int × Int)} {us : List Ru} {bs : List Int} (h : Shp gi us) (hl : bs.length = gi.length) : d_charge_of [.im (shopD gi us), .im (basD bs)] = .ok (.im (.int (chg gi us bs))) [.no, .no] := by
  have e1 := r_amounts_of (us := us) h hl
  have e2 := intsOf_amts gi us bs
  have e3 := r_left_of (t := (amts gi us bs).sum) (fun u z => (h.ru u z).1) (by have := h.few; omega)
  simp [d_charge_of, f_charge_of, e1, e2, e3, dIx, chg, sEr, op2, op1, T.val, R.opt, toB, opL, vals, consT, disp, mvs, mkTup, callT, callI, argE, others, isAl, isAli, finT, outE, padE, runD, cpsOf, cpT, toI, slT, T.weak, metT, kApp, kExt, elemD, iT, iL, iR1, iR2, iE, iZ, onI]
end DL
namespace DL
open PySem PySem.Spec L2
def bmore (bs : List Int) (k : Nat) (p : Int) : List Int := bs.set k ((bs[k]?).getD 0 + p)
theorem bmore_len (bs : List Int) (k : Nat) (p : Int) : (bmore bs k p).length = bs.length := by unfold bmore; rw [List.length_set]
theorem bmore_mem {bs : List Int} {k : Nat} {p lo hi : Int} (h : ∀ b ∈ bs, lo ≤ b ∧ b ≤ hi) (hk : k < bs.length) (hp : 0 ≤ p) : ∀ b ∈ bmore bs k p, lo ≤ b ∧ b ≤ hi + p := by
  intro b hb
  unfold bmore at hb
  rcases List.mem_or_eq_of_mem_set hb with z | z
  · have := h b z; omega
  · rw [List.getElem?_eq_getElem hk] at z
    have := h _ (List.getElem_mem hk)
    simp at z
    omega
theorem r_with_more {bs : List Int} {k : Nat} (h2 : bs.length ≤ 2) (hk : k < bs.length) (p : Int) : d_with_more [.im (basD bs), .im (.int k), .im (.int p)] = .ok (.im (basD (bmore bs k p))) [.no, .no, .no] := by
  rcases bs with _ | ⟨a, _ | ⟨b, _ | ⟨c, bs⟩⟩⟩
  · simp at hk
  · have : k = 0 := by simpa using hk
    subst this
    simp [d_with_more, f_with_more, cutD, HT.sIx, dIx, atI, ixN, bmore, sEr, op2, op1, T.val, R.opt, toB, opL, vals, consT, disp, mvs, mkTup, callT, callI, argE, others, isAl, isAli, finT, outE, padE, runD, cpsOf, cpT, toI, slT, T.weak, metT, kApp, kExt, elemD, iT, iL, iR1, iR2, iE, iZ, onI]
  · have hk' : k = 0 ∨ k = 1 := by simp at hk; omega
    rcases hk' with rfl | rfl
    · simp [d_with_more, f_with_more, cutD, HT.sIx, dIx, atI, ixN, bmore, sEr, op2, op1, T.val, R.opt, toB, opL, vals, consT, disp, mvs, mkTup, callT, callI, argE, others, isAl, isAli, finT, outE, padE, runD, cpsOf, cpT, toI, slT, T.weak, metT, kApp, kExt, elemD, iT, iL, iR1, iR2, iE, iZ, onI]
    · simp [d_with_more, f_with_more, cutD, HT.sIx, dIx, atI, ixN, bmore, sEr, op2, op1, T.val, R.opt, toB, opL, vals, consT, disp, mvs, mkTup, callT, callI, argE, others, isAl, isAli, finT, outE, padE, runD, cpsOf, cpT, toI, slT, T.weak, metT, kApp, kExt, elemD, iT, iL, iR1, iR2, iE, iZ, onI]
  · simp at h2
end DL
namespace DL
open PySem PySem.Spec L2
end DL
namespace DL
open PySem PySem.Spec L2
inductive Ac where
  | off (n : Nat) | most (n : Nat) (m : Int)
deriving DecidableEq
def Ac.d : Ac → D
  | .off n => .tup [.str "off", .int n]
  | .most n m => .tup [.str "most", .int n, .int m]
def Ru.lessM : Ru → Int → Bool
  | .pack _ _ _ none, _ => true
  | .pack _ _ _ (some k), m => decide (m < k)
  | .each _ _ none, _ => true
  | .each _ _ (some k), m => decide (m < k)
  | _, _ => false
@[simp] theorem at_m3 (a b c : D) : atI [a, b, c] (-1) = some c := rfl
@[simp] theorem at_m4 (a b c d : D) : atI [a, b, c, d] (-1) = some d := rfl
@[simp] theorem at_m5 (a b c d e : D) : atI [a, b, c, d, e] (-1) = some e := rfl
end DL
namespace DL
open PySem PySem.Spec L2
def keep (as : List Ac) (n : Nat) : Bool := !as.any fun a => decide (a = Ac.off n)
def Ac.ok (us : List Ru) : Ac → Prop
  | .off n => n < us.length
  | .most n m => (1 ≤ m ∧ m ≤ 2) ∧ ∃ u, us[n]? = some u ∧ u.lessM m = true
theorem ok_off : PyData.strOk ("off" : Str) = true := by decide +kernel
theorem ok_most : PyData.strOk ("most" : Str) = true := by decide +kernel
@[simp] theorem v1 : (("off" : Str) == "most") = false := by decide +kernel
@[simp] theorem v2 : (("most" : Str) == "off") = false := by decide +kernel
theorem shp_off (k : Int) : shp (.tup [.str "off", .int k]) = true := by
  rw [shp_eq]
  simp [lay, lays, dep, deps, ok_off]
theorem shp_most (k m : Int) : shp (.tup [.str "most", .int k, .int m]) = true := by
  rw [shp_eq]
  simp [lay, lays, dep, deps, ok_most]
theorem Ac.shp (a : Ac) : DL.shp a.d = true := by
  cases a with
  | off n => exact shp_off n
  | most n m => exact shp_most n m
def keepD (as : List Ac) : D → Bool
  | .int i => keep as i.toNat
  | _ => false
end DL
namespace DL
open PySem PySem.Spec L2
def Ac.lt : Ac → Ac → Bool
  | .most _ _, .off _ => true
  | .off _, .most _ _ => false
  | .off n, .off k => decide (n < k)
  | .most n m, .most k l => decide (n < k) || (decide (n = k) && decide (m < l))
end DL
namespace DL
open PySem PySem.Spec L2
end DL
namespace DL
open PySem PySem.Spec L2
abbrev rsd (k : Int) : D := .tup [.str "raised", .int k]
theorem so_raised : PyData.strOk ("raised" : Str) = true := by decide +kernel
theorem shp_rsd (k : Int) : shp (rsd k) = true := by
  rw [shp_eq]
  simp [lay, lays, dep, deps, so_raised]
theorem eqv_rsd (j k : Int) : eqv (rsd j) (rsd k) = decide (j = k) := by
  rw [Bool.eq_iff_iff]; simp
theorem ne_rsd (k : Int) : dNeA (rsd k) (rsd k) = some (.im (.bl false)) := by
  unfold dNeA dNeS dNe
  dsimp only
  rw [if_pos ⟨shp_rsd k, shp_rsd k⟩, eqv_rsd]
  simp
end DL
namespace DL
open PySem PySem.Spec L2
mutual
theorem eqv_self : ∀ d : D, (toP d).plain = true → eqv d d = true
  | .non, _ => rfl
  | .bl _, _ => by simp
  | .int _, _ => by simp
  | .str _, _ => by simp
  | .tup ds, h => eqvs_self ds h
  | .lst ds, h => eqvs_self ds h
  | .fz ds, h => eqvs_self ds h
  | .dct _ _, h => nomatch h
theorem eqvs_self : ∀ ds : List D, PyData.plainAll (toPs ds) = true → eqvs ds ds = true
  | [], _ => rfl
  | d :: ds, h => by
    have h : ((toP d).plain && PyData.plainAll (toPs ds)) = true := h
    rw [Bool.and_eq_true] at h
    show (eqv d d && eqvs ds ds) = true
    rw [eqv_self d h.1, eqvs_self ds h.2]
    rfl
end
theorem eq_self {xs : List D} (h : shp (.tup xs) = true) : dEqA (.tup xs) (.tup xs) = some (.im (.bl true)) := by
  unfold dEqA dEqS dEq
  dsimp only
  rw [if_pos ⟨h, h⟩, eqv_self _ (plain_of_shp h)]
theorem so1 : PyData.strOk ("pack" : Str) = true := by decide +kernel
theorem so2 : PyData.strOk ("from" : Str) = true := by decide +kernel
theorem so3 : PyData.strOk ("over" : Str) = true := by decide +kernel
theorem so4 : PyData.strOk ("each" : Str) = true := by decide +kernel
theorem ru_lay (u : Ru) : lay u.d = true ∧ dep u.d = 1 := by
  cases u with
  | pack g s p m => cases m <;> simp [Ru.d, oD, lay, lays, dep, deps, so1]
  | frm g l p => simp [Ru.d, oD, lay, lays, dep, deps, so2]
  | over f o => simp [Ru.d, oD, lay, lays, dep, deps, so3]
  | each f o m => cases m <;> simp [Ru.d, oD, lay, lays, dep, deps, so4]
theorem lays_rus : ∀ us : List Ru, lays (us.map Ru.d) = true
  | [] => rfl
  | u :: us => by rw [List.map_cons]; unfold lays; rw [(ru_lay u).1, lays_rus us]; rfl
theorem deps_rus : ∀ us : List Ru, deps (us.map Ru.d) ≤ 1
  | [] => by simp [deps]
  | u :: us => by
    rw [List.map_cons]
    unfold deps
    have := deps_rus us
    have := (ru_lay u).2
    omega
theorem gd_lays : ∀ gi : List (Int × Int), lays (gi.map gd) = true ∧ deps (gi.map gd) ≤ 1
  | [] => ⟨rfl, by simp [deps]⟩
  | g :: gi => by
    obtain ⟨h1, h2⟩ := gd_lays gi
    rw [List.map_cons]
    unfold lays deps
    have e1 : lay (gd g) = true := by simp [gd, lay, lays]
    have e2 : dep (gd g) = 1 := by simp [gd, dep, deps]
    rw [e1, e2, h1]
    exact ⟨rfl, by omega⟩
theorem shp_shop (gi : List (Int × Int)) (us : List Ru) : shp (shopD gi us) = true := by
  obtain ⟨h1, h2⟩ := gd_lays gi
  have h3 := deps_rus us
  rw [shp_eq]
  simp only [lay, lays, dep, deps, h1, lays_rus]
  simp
  omega
theorem eq_shop (gi : List (Int × Int)) (us : List Ru) : dEqA (shopD gi us) (shopD gi us) = some (.im (.bl true)) := eq_self (shp_shop gi us)
end DL
namespace DL
open PySem PySem.Spec L2
variable [Wd]
def topS (i : Nat) : Stmt := PySem.Challenge.pw_sureprices_k40_whole_tills_undone.main.body.getD i (.Pass ⟨0, 0, 0, 0⟩)
structure Bl (K : PySem.W.Frag) (mg : Str → Option Value) : Prop where
  b_ValueError : mg "ValueError" = none
  b_all : mg "all" = none
  b_any : mg "any" = none
  b_bool : mg "bool" = none
  b_enumerate : mg "enumerate" = none
  b_int : mg "int" = none
  b_isinstance : mg "isinstance" = none
  b_len : mg "len" = none
  b_max : mg "max" = none
  b_min : mg "min" = none
  b_range : mg "range" = none
  b_str : mg "str" = none
  b_sum : mg "sum" = none
  b_tuple : mg "tuple" = none
  g_MOST_GOODS : ∃ u, mg "MOST_GOODS" = some u ∧ RelV (.int 2) u
  g_MOST_RULES : ∃ u, mg "MOST_RULES" = some u ∧ RelV (.int 4) u
  g_SUM_WORDS : GlT K mg "SUM_WORDS" g_SUM_WORDS
  k_InvalidNumber : ExcK K mg "InvalidNumber"
  k_InvalidShop : ExcK K mg "InvalidShop"
  k_NotThere : ExcK K mg "NotThere"
  k_NothingToUndo : ExcK K mg "NothingToUndo"
abbrev s_is_integer : Stmt := topS 17
theorem sc_is_integer : FnScope ["value"] ["value"] (defScope s_is_integer) := ⟨rfl, rfl, rfl, by decide +kernel, rfl, by decide +kernel, by decide +kernel⟩
abbrev s_is_between : Stmt := topS 18
theorem sc_is_between : FnScope ["value", "low", "high"] ["value", "low", "high"] (defScope s_is_between) := ⟨rfl, rfl, rfl, by decide +kernel, rfl, by decide +kernel, by decide +kernel⟩
abbrev s_is_tuple_of : Stmt := topS 19
theorem sc_is_tuple_of : FnScope ["value", "length"] ["value", "length"] (defScope s_is_tuple_of) := ⟨rfl, rfl, rfl, by decide +kernel, rfl, by decide +kernel, by decide +kernel⟩
abbrev s_is_most : Stmt := topS 20
theorem sc_is_most : FnScope ["value"] ["value"] (defScope s_is_most) := ⟨rfl, rfl, rfl, by decide +kernel, rfl, by decide +kernel, by decide +kernel⟩
abbrev s_is_good : Stmt := topS 21
theorem sc_is_good : FnScope ["value", "price", "cost"] ["value"] (defScope s_is_good) := ⟨rfl, rfl, rfl, by decide +kernel, rfl, by decide +kernel, by decide +kernel⟩
abbrev s_is_pack : Stmt := topS 22
theorem sc_is_pack : FnScope ["value", "many_goods", "_", "good", "size", "price", "most"] ["value", "many_goods"] (defScope s_is_pack) := ⟨rfl, rfl, rfl, by decide +kernel, rfl, by decide +kernel, by decide +kernel⟩
abbrev s_is_from : Stmt := topS 23
theorem sc_is_from : FnScope ["value", "many_goods", "_", "good", "least", "price"] ["value", "many_goods"] (defScope s_is_from) := ⟨rfl, rfl, rfl, by decide +kernel, rfl, by decide +kernel, by decide +kernel⟩
abbrev s_is_over : Stmt := topS 24
theorem sc_is_over : FnScope ["value", "_", "full", "off"] ["value"] (defScope s_is_over) := ⟨rfl, rfl, rfl, by decide +kernel, rfl, by decide +kernel, by decide +kernel⟩
abbrev s_is_each : Stmt := topS 25
theorem sc_is_each : FnScope ["value", "_", "full", "off", "most"] ["value"] (defScope s_is_each) := ⟨rfl, rfl, rfl, by decide +kernel, rfl, by decide +kernel, by decide +kernel⟩
abbrev s_is_rule : Stmt := topS 26
theorem sc_is_rule : FnScope ["value", "many_goods", "word"] ["value", "many_goods"] (defScope s_is_rule) := ⟨rfl, rfl, rfl, by decide +kernel, rfl, by decide +kernel, by decide +kernel⟩
abbrev s_is_endless_each : Stmt := topS 27
theorem sc_is_endless_each : FnScope ["rule"] ["rule"] (defScope s_is_endless_each) := ⟨rfl, rfl, rfl, by decide +kernel, rfl, by decide +kernel, by decide +kernel⟩
abbrev s_are_goods : Stmt := topS 28
theorem sc_are_goods : FnScope ["value", "good"] ["value"] (defScope s_are_goods) := ⟨rfl, rfl, rfl, by decide +kernel, rfl, by decide +kernel, by decide +kernel⟩
abbrev s_are_rules : Stmt := topS 29
theorem sc_are_rules : FnScope ["value", "many_goods", "rule"] ["value", "many_goods"] (defScope s_are_rules) := ⟨rfl, rfl, rfl, by decide +kernel, rfl, by decide +kernel, by decide +kernel⟩
abbrev s_is_shop : Stmt := topS 30
theorem sc_is_shop : FnScope ["value", "goods", "rules"] ["value"] (defScope s_is_shop) := ⟨rfl, rfl, rfl, by decide +kernel, rfl, by decide +kernel, by decide +kernel⟩
abbrev s_check_shop : Stmt := topS 31
theorem sc_check_shop : FnScope ["shop"] ["shop"] (defScope s_check_shop) := ⟨rfl, rfl, rfl, by decide +kernel, rfl, by decide +kernel, by decide +kernel⟩
abbrev s_full_times : Stmt := topS 34
theorem sc_full_times : FnScope ["whole", "part", "most", "times"] ["whole", "part", "most"] (defScope s_full_times) := ⟨rfl, rfl, rfl, by decide +kernel, rfl, by decide +kernel, by decide +kernel⟩
abbrev s_fitting_rule : Stmt := topS 35
theorem sc_fitting_rule : FnScope ["rules", "good", "pieces", "number", "rule"] ["rules", "good", "pieces"] (defScope s_fitting_rule) := ⟨rfl, rfl, rfl, by decide +kernel, rfl, by decide +kernel, by decide +kernel⟩
abbrev s_pack_times : Stmt := topS 36
theorem sc_pack_times : FnScope ["rule", "pieces", "_", "size", "most"] ["rule", "pieces"] (defScope s_pack_times) := ⟨rfl, rfl, rfl, by decide +kernel, rfl, by decide +kernel, by decide +kernel⟩
abbrev s_pack_amount : Stmt := topS 37
theorem sc_pack_amount : FnScope ["rule", "price", "pieces", "times", "_", "size", "pack_price"] ["rule", "price", "pieces"] (defScope s_pack_amount) := ⟨rfl, rfl, rfl, by decide +kernel, rfl, by decide +kernel, by decide +kernel⟩
abbrev s_good_amount : Stmt := topS 38
theorem sc_good_amount : FnScope ["shop", "good", "pieces", "number", "rule", "goods", "rules", "price", "_"] ["shop", "good", "pieces"] (defScope s_good_amount) := ⟨rfl, rfl, rfl, by decide +kernel, rfl, by decide +kernel, by decide +kernel⟩
abbrev s_off_times : Stmt := topS 39
theorem sc_off_times : FnScope ["rule", "left"] ["rule", "left"] (defScope s_off_times) := ⟨rfl, rfl, rfl, by decide +kernel, rfl, by decide +kernel, by decide +kernel⟩
abbrev s_apply_sums : Stmt := topS 40
theorem sc_apply_sums : FnScope ["rules", "total", "left", "taken", "rule", "times"] ["rules", "total"] (defScope s_apply_sums) := ⟨rfl, rfl, rfl, by decide +kernel, rfl, by decide +kernel, by decide +kernel⟩
abbrev s_amounts_of : Stmt := topS 41
theorem sc_amounts_of : FnScope ["shop", "basket", "good", "pieces"] ["shop", "basket"] (defScope s_amounts_of) := ⟨rfl, rfl, rfl, by decide +kernel, rfl, by decide +kernel, by decide +kernel⟩
abbrev s_left_of : Stmt := topS 42
theorem sc_left_of : FnScope ["rules", "total", "left", "_"] ["rules", "total"] (defScope s_left_of) := ⟨rfl, rfl, rfl, by decide +kernel, rfl, by decide +kernel, by decide +kernel⟩
abbrev s_charge_of : Stmt := topS 43
theorem sc_charge_of : FnScope ["shop", "basket"] ["shop", "basket"] (defScope s_charge_of) := ⟨rfl, rfl, rfl, by decide +kernel, rfl, by decide +kernel, by decide +kernel⟩
abbrev s_with_more : Stmt := topS 45
theorem sc_with_more : FnScope ["basket", "good", "pieces"] ["basket", "good", "pieces"] (defScope s_with_more) := ⟨rfl, rfl, rfl, by decide +kernel, rfl, by decide +kernel, by decide +kernel⟩
abbrev s_Till___init__ : Stmt := inClass (topS 47) 0
theorem sc_Till___init__ : FnScope ["self", "shop"] ["self", "shop"] (defScope s_Till___init__) := ⟨rfl, rfl, rfl, by decide +kernel, rfl, by decide +kernel, by decide +kernel⟩
noncomputable def k_Till : D → Option D := okOf (sDrop (eCall d_check_shop (aCons (eVar 1) aNil))) (eVar 1) (eOp dMulT (eTup (aCons (eC (.int 0)) aNil)) (eB dLen (aCons (eOp dIx (eVar 1) (eC (.int 0))) aNil)))
abbrev s_Till___eq__ : Stmt := inClass (topS 47) 1
theorem sc_Till___eq__ : FnScope ["self", "other"] ["self", "other"] (defScope s_Till___eq__) := ⟨rfl, rfl, rfl, by decide +kernel, rfl, by decide +kernel, by decide +kernel⟩
noncomputable def h_Till___eq___1 : FSw := (hRet (gAV (gIsT (gVr 1)) (gAV (gOp2 dEqA (hFld 0 "_shop") (hFld 1 "_shop")) (gOp2 dEqA (hFld 0 "_now") (hFld 1 "_now")))))
noncomputable def h_Till___eq__ : FSw := h_Till___eq___1
noncomputable def g_Till___eq__ : FDT := runT 2 2 h_Till___eq__
abbrev s_Till__check_good : Stmt := inClass (topS 47) 4
theorem sc_Till__check_good : FnScope ["self", "good"] ["self", "good"] (defScope s_Till__check_good) := ⟨rfl, rfl, rfl, by decide +kernel, rfl, by decide +kernel, by decide +kernel⟩
noncomputable def h_Till__check_good_1 : FSw := (hIf (gNo (gVb (wB (gCons' (gLe (eVar 1)) (gCons' (gLe (eC (.int 0))) (gCons' (gOp2 dSub (gBi dLen (gCons' (hFld 0 "_now") gNil')) (gLe (eC (.int 1)))) gNil'))) (gCd d_is_between)))) (gLs (sRz "InvalidNumber")) (gLs sNx))
noncomputable def h_Till__check_good : FSw := h_Till__check_good_1
noncomputable def g_Till__check_good : FDT := runT 2 2 h_Till__check_good
abbrev s_Till__step : Stmt := inClass (topS 47) 5
theorem sc_Till__step : FnScope ["self", "basket", "before"] ["self", "basket"] (defScope s_Till__step) := ⟨rfl, rfl, rfl, by decide +kernel, rfl, by decide +kernel, by decide +kernel⟩
noncomputable def h_Till__step_1 : FSw := (hSet 2 (hFld 0 "_now"))
noncomputable def h_Till__step_2 : FSw := (hDrop (hApp 0 2))
noncomputable def h_Till__step_3 : FSw := (hPut 0 "_now" (gLe (eVar 1)))
noncomputable def h_Till__step_4 : FSw := (hRet (gOp2 dSub (wB (gCons' (hFld 0 "_shop") (gCons' (gLe (eVar 1)) gNil')) (gCd d_charge_of)) (wB (gCons' (hFld 0 "_shop") (gCons' (gLe (eVar 2)) gNil')) (gCd d_charge_of))))
noncomputable def h_Till__step : FSw := hSeq h_Till__step_1 (hSeq h_Till__step_2 (hSeq h_Till__step_3 (h_Till__step_4)))
noncomputable def g_Till__step : FDT := runT 2 3 h_Till__step
abbrev s_Till_put : Stmt := inClass (topS 47) 6
theorem sc_Till_put : FnScope ["self", "good"] ["self", "good"] (defScope s_Till_put) := ⟨rfl, rfl, rfl, by decide +kernel, rfl, by decide +kernel, by decide +kernel⟩
noncomputable def h_Till_put_1 : FSw := (hDrop (gMe 0 (gCons' (gLe (eVar 1)) gNil') g_Till__check_good))
noncomputable def h_Till_put_2 : FSw := (hRet (gMe 0 (gCons' (wB (gCons' (hFld 0 "_now") (gCons' (gLe (eVar 1)) (gCons' (gLe (eC (.int 1))) gNil'))) (gCd d_with_more)) gNil') g_Till__step))
noncomputable def h_Till_put : FSw := hSeq h_Till_put_1 (h_Till_put_2)
noncomputable def g_Till_put : FDT := runT 2 2 h_Till_put
abbrev s_Till_take : Stmt := inClass (topS 47) 7
theorem sc_Till_take : FnScope ["self", "good"] ["self", "good"] (defScope s_Till_take) := ⟨rfl, rfl, rfl, by decide +kernel, rfl, by decide +kernel, by decide +kernel⟩
noncomputable def h_Till_take_1 : FSw := (hDrop (gMe 0 (gCons' (gLe (eVar 1)) gNil') g_Till__check_good))
noncomputable def h_Till_take_2 : FSw := (hIf (gCm dEqA (gOp2 dIx (hFld 0 "_now") (gLe (eVar 1))) (gLe (eC (.int 0)))) (gLs (sRz "NotThere")) (gLs sNx))
noncomputable def h_Till_take_3 : FSw := (hRet (gMe 0 (gCons' (wB (gCons' (hFld 0 "_now") (gCons' (gLe (eVar 1)) (gCons' (gLe (eUn dNeg (eC (.int 1)))) gNil'))) (gCd d_with_more)) gNil') g_Till__step))
noncomputable def h_Till_take : FSw := hSeq h_Till_take_1 (hSeq h_Till_take_2 (h_Till_take_3))
noncomputable def g_Till_take : FDT := runT 2 2 h_Till_take
abbrev s_Till_basket : Stmt := inClass (topS 47) 8
theorem sc_Till_basket : FnScope ["self"] ["self"] (defScope s_Till_basket) := ⟨rfl, rfl, rfl, by decide +kernel, rfl, by decide +kernel, by decide +kernel⟩
noncomputable def h_Till_basket_1 : FSw := (hRet (hFld 0 "_now"))
noncomputable def h_Till_basket : FSw := h_Till_basket_1
noncomputable def g_Till_basket : FDT := runT 1 1 h_Till_basket
abbrev s_Till_undo : Stmt := inClass (topS 47) 9
theorem sc_Till_undo : FnScope ["self"] ["self"] (defScope s_Till_undo) := ⟨rfl, rfl, rfl, by decide +kernel, rfl, by decide +kernel, by decide +kernel⟩
noncomputable def h_Till_undo_1 : FSw := (hIf (gCm dEqA (hLen 0) (gLe (eC (.int 0)))) (gLs (sRz "NothingToUndo")) (gLs sNx))
noncomputable def h_Till_undo_2 : FSw := (hPut 0 "_now" (hPop 0))
noncomputable def h_Till_undo_3 : FSw := (hRet (hFld 0 "_now"))
noncomputable def h_Till_undo : FSw := hSeq h_Till_undo_1 (hSeq h_Till_undo_2 (h_Till_undo_3))
noncomputable def g_Till_undo : FDT := runT 1 1 h_Till_undo
abbrev s_Till_duplicate : Stmt := inClass (topS 47) 10
theorem sc_Till_duplicate : FnScope ["self", "other"] ["self"] (defScope s_Till_duplicate) := ⟨rfl, rfl, rfl, by decide +kernel, rfl, by decide +kernel, by decide +kernel⟩
noncomputable def h_Till_duplicate_1 : FSw := (hSet 1 (gMk k_Till (gCons' (hFld 0 "_shop") gNil')))
noncomputable def h_Till_duplicate_2 : FSw := (hPut 1 "_now" (hFld 0 "_now"))
noncomputable def h_Till_duplicate_3 : FSw := (hRet (gHd 1))
noncomputable def h_Till_duplicate : FSw := hSeq h_Till_duplicate_1 (hSeq h_Till_duplicate_2 (h_Till_duplicate_3))
noncomputable def g_Till_duplicate : FDT := runT 1 2 h_Till_duplicate
abbrev s__law_cell_at : Stmt := topS 49
theorem sc__law_cell_at : FnScope ["_law_script", "_law_k", "_law_spare", "_law_again"] ["_law_script", "_law_k"] (defScope s__law_cell_at) := ⟨rfl, rfl, rfl, by decide +kernel, rfl, by decide +kernel, by decide +kernel⟩
abbrev s__law_mixed : Stmt := topS 50
theorem sc__law_mixed : FnScope ["_law_script", "_law_k", "_law_many", "_law_spun"] ["_law_script", "_law_k", "_law_many"] (defScope s__law_mixed) := ⟨rfl, rfl, rfl, by decide +kernel, rfl, by decide +kernel, by decide +kernel⟩
abbrev s__law_draw : Stmt := topS 51
theorem sc__law_draw : FnScope ["_law_script", "_law_state", "_law_many"] ["_law_script", "_law_state", "_law_many"] (defScope s__law_draw) := ⟨rfl, rfl, rfl, by decide +kernel, rfl, by decide +kernel, by decide +kernel⟩
abbrev s__law_which : Stmt := topS 52
theorem sc__law_which : FnScope ["_law_e", "_law_own"] ["_law_e"] (defScope s__law_which) := ⟨rfl, rfl, rfl, by decide +kernel, rfl, by decide +kernel, by decide +kernel⟩
abbrev s__law_pick : Stmt := topS 53
theorem sc__law_pick : FnScope ["_law_script", "_law_state", "_law_some"] ["_law_script", "_law_state", "_law_some"] (defScope s__law_pick) := ⟨rfl, rfl, rfl, by decide +kernel, rfl, by decide +kernel, by decide +kernel⟩
abbrev s__law_some_rule : Stmt := topS 54
theorem sc__law_some_rule : FnScope ["_law_script", "_law_state", "_law_goods", "_law_capped", "_law_kind", "_law_good", "_law_single", "_law_whole", "_law_most", "_law_size", "_law_price"] ["_law_script", "_law_state", "_law_goods", "_law_capped"] (defScope s__law_some_rule) := ⟨rfl, rfl, rfl, by decide +kernel, rfl, by decide +kernel, by decide +kernel⟩
abbrev s__law_some_goods : Stmt := topS 55
theorem sc__law_some_goods : FnScope ["_law_script", "_law_state", "_law_count", "_law_again"] ["_law_script", "_law_state"] (defScope s__law_some_goods) := ⟨rfl, rfl, rfl, by decide +kernel, rfl, by decide +kernel, by decide +kernel⟩
abbrev s__law_some_shop : Stmt := topS 56
theorem sc__law_some_shop : FnScope ["_law_script", "_law_state", "_law_again", "_law_goods", "_law_rules", "_law_capped", "_law_rule"] ["_law_script", "_law_state"] (defScope s__law_some_shop) := ⟨rfl, rfl, rfl, by decide +kernel, rfl, by decide +kernel, by decide +kernel⟩
abbrev s__law_undo : Stmt := topS 57
theorem sc__law_undo : FnScope ["_law_till", "_law_e"] ["_law_till"] (defScope s__law_undo) := ⟨rfl, rfl, rfl, by decide +kernel, rfl, by decide +kernel, by decide +kernel⟩
noncomputable def h__law_undo_1 : FSw := (hTry 1 (hRet (gMe 0 gNil' g_Till_undo)))
noncomputable def h__law_undo : FSw := h__law_undo_1
noncomputable def g__law_undo : FDT := runT 1 2 h__law_undo
abbrev s_law : Stmt := topS 58
theorem sc_law : FnScope ["_law_script", "_law_state", "_law_shop", "_law_again", "_law_before", "_law_till", "_law_kept", "_law_good", "_law_twin", "_law_held"] ["_law_script"] (defScope s_law) := ⟨rfl, rfl, rfl, by decide +kernel, rfl, by decide +kernel, by decide +kernel⟩
noncomputable def hb_law_1_1 : FSw := (gLs (sAsg (eCallI 1 d__law_draw (aCons (eVar 0) (aCons (eVar 1) (aCons (eB dLen (aCons (eOp dIx (eVar 2) (eC (.int 0))) aNil)) aNil)))) (gN 7)))
noncomputable def hb_law_1_2 : FSw := (hDrop (hAppO 6 (gMe 5 gNil' g_Till_basket)))
noncomputable def hb_law_1_3 : FSw := (hIf (gAn (gCm dGt (gOp2 dIx (gMe 5 gNil' g_Till_basket) (gLe (eVar 7))) (gLe (eC (.int 0)))) (gLt (tV (eOp dEqA (eCallI 1 d__law_draw (aCons (eVar 0) (aCons (eVar 1) (aCons (eC (.int 3)) aNil)))) (eC (.int 0)))))) (hDrop (gMe 5 (gCons' (gLe (eVar 7)) gNil') g_Till_take)) (hDrop (gMe 5 (gCons' (gLe (eVar 7)) gNil') g_Till_put)))
noncomputable def hb_law_1 : FSw := hSeq hb_law_1_1 (hSeq hb_law_1_2 (hb_law_1_3))
noncomputable def hb_law_2_1 : FSw := (hIf (gOr (gCm dNeA (wB (gCons' (gHd 5) gNil') (gCl g__law_undo)) (gLe (eVar 4))) (gCm dNeA (gMe 5 gNil' g_Till_basket) (gLe (eVar 4)))) (gLs (sRet (eC (.bl false)))) (gLs sNx))
noncomputable def hb_law_2 : FSw := hb_law_2_1
noncomputable def h_law_1 : FSw := (gLs (sAsg (eLst aNil) (gN 1)))
noncomputable def h_law_2 : FSw := (gLs (sAsg (eCallI 1 d__law_some_shop (aCons (eVar 0) (aCons (eVar 1) aNil))) (gN 2)))
noncomputable def h_law_3 : FSw := (hParL 5 6 (gMk k_Till (gCons' (gLe (eVar 2)) gNil')))
noncomputable def h_law_4 : FSw := (hFor 3 (hR1 (gCons' (gLe (eCallI 1 d__law_draw (aCons (eVar 0) (aCons (eVar 1) (aCons (eC (.int 7)) aNil))))) gNil')) hb_law_1)
noncomputable def h_law_5 : FSw := (hPar 8 9 (gCons' (gMe 5 gNil' g_Till_duplicate) (gCons' (gMe 5 gNil' g_Till_basket) gNil')))
noncomputable def h_law_6 : FSw := (hIf (gOr (gNo (gEqT g_Till___eq__ (gHd 8) (gHd 5))) (gOr (gCm dNeA (gMe 8 gNil' g_Till_basket) (gLe (eVar 9))) (gOr (gCm dNeA (wB (gCons' (gHd 8) gNil') (gCl g__law_undo)) (gLe (eTup (aCons (eC (.str "raised")) (aCons (eC (.int 10)) aNil))))) (gOr (gEqT g_Till___eq__ (gHd 5) (gLe (eVar 9))) (gEqT g_Till___eq__ (gHd 5) (gLe (eC .non))))))) (gLs (sRet (eC (.bl false)))) (gLs sNx))
noncomputable def h_law_7 : FSw := (hDrop (gMe 8 (gCons' (gLe (eC (.int 0))) gNil') g_Till_put))
noncomputable def h_law_8 : FSw := (hIf (gOr (gEqT g_Till___eq__ (gHd 8) (gHd 5)) (gOr (gCm dNeA (gMe 5 gNil' g_Till_basket) (gLe (eVar 9))) (gOr (gCm dNeA (wB (gCons' (gHd 8) gNil') (gCl g__law_undo)) (gLe (eVar 9))) (gCm dNeA (wB (gCons' (gHd 8) gNil') (gCl g__law_undo)) (gLe (eTup (aCons (eC (.str "raised")) (aCons (eC (.int 10)) aNil)))))))) (gLs (sRet (eC (.bl false)))) (gLs sNx))
noncomputable def h_law_9 : FSw := (hForL 4 (eRv (eVar 6) tNp) hb_law_2)
noncomputable def h_law_10 : FSw := (hIf (gOr (gCm dNeA (wB (gCons' (gHd 5) gNil') (gCl g__law_undo)) (gLe (eTup (aCons (eC (.str "raised")) (aCons (eC (.int 10)) aNil))))) (gCm dNeA (gMe 8 gNil' g_Till_basket) (gLe (eVar 9)))) (gLs (sRet (eC (.bl false)))) (gLs sNx))
noncomputable def h_law_11 : FSw := (hIf (gEqT g_Till___eq__ (gMk k_Till (gCons' (gLe (eTup (aCons (eOp dIx (eVar 2) (eC (.int 0))) (aCons (eTup aNil) aNil)))) gNil')) (gMk k_Till (gCons' (gLe (eTup (aCons (eOp dIx (eVar 2) (eC (.int 0))) (aCons (eTup (aCons (eTup (aCons (eC (.str "over")) (aCons (eC (.int 5)) (aCons (eC (.int 1)) aNil)))) aNil)) aNil)))) gNil'))) (gLs (sRet (eC (.bl false)))) (gLs sNx))
noncomputable def h_law_12 : FSw := (hRet (gEqV g_Till___eq__ (gMk k_Till (gCons' (gLe (eVar 2)) gNil')) (gHd 5)))
noncomputable def h_law : FSw := hSeq h_law_1 (hSeq h_law_2 (hSeq h_law_3 (hSeq h_law_4 (hSeq h_law_5 (hSeq h_law_6 (hSeq h_law_7 (hSeq h_law_8 (hSeq h_law_9 (hSeq h_law_10 (hSeq h_law_11 (h_law_12)))))))))))
noncomputable def g_law : FDT := runT 1 10 h_law
section
variable {P : Program} {K : PySem.W.Frag} {mg : Str → Option Value} {base : Heap}
theorem ok_is_integer {f : Addr} {fd : FuncData} (B : Bl K mg) (F : Fun K "is_integer" "is_integer" s_is_integer f fd) :
    FnOk P Wd.w K mg base (L2.CX P Wd.w) 1 f fd ["value"] (spD K mg d_is_integer) :=
  fn_ok F sc_is_integer rfl rfl fun cdv A outer s H vs E env0 hr => by
    exact (dss_one (ds_ret (de_and (de_isi (by rfl) B.b_isinstance (de_var 0 (pv 0)) (pe_bltn (by rfl) B.b_int bo_int rfl)) (de_one (de_not (de_isi (by rfl) B.b_isinstance (de_var 0 (pv 0)) (pe_bltn (by rfl) B.b_bool bo_bool rfl)))))))
theorem ok_is_between {f : Addr} {fd : FuncData} (B : Bl K mg) (F : Fun K "is_between" "is_between" s_is_between f fd)
    {a_is_integer : Addr} {e_is_integer : FuncData} (C_is_integer : Cd K mg "is_integer" s_is_integer ["value"] a_is_integer e_is_integer) (G_is_integer : FnOk P Wd.w K mg base (L2.CX P Wd.w) 1 a_is_integer e_is_integer ["value"] (spD K mg d_is_integer)) :
    FnOk P Wd.w K mg base (L2.CX P Wd.w) 2 f fd ["value", "low", "high"] (spD K mg d_is_between) :=
  fn_ok F sc_is_between rfl rfl fun cdv A outer s H vs E env0 hr => by
    exact (dss_one (ds_ret (de_and (de_call G_is_integer (hr.mono (by decide)) (by rfl) C_is_integer.g C_is_integer.F.kp C_is_integer.b (takes_of rfl rfl rfl rfl) (da_cons (de_var 0 (pv 0)) da_nil)) (de_one (de_chain op_le d_le op_le d_le (de_var 1 (pv 1)) (de_var 0 (pv 0)) (de_var 2 (pv 2)) (by rfl))))))
theorem ok_is_tuple_of {f : Addr} {fd : FuncData} (B : Bl K mg) (F : Fun K "is_tuple_of" "is_tuple_of" s_is_tuple_of f fd) :
    FnOk P Wd.w K mg base (L2.CX P Wd.w) 1 f fd ["value", "length"] (spD K mg d_is_tuple_of) :=
  fn_ok F sc_is_tuple_of rfl rfl fun cdv A outer s H vs E env0 hr => by
    exact (dss_one (ds_ret (de_and (de_isi (by rfl) B.b_isinstance (de_var 0 (pv 0)) (pe_bltn (by rfl) B.b_tuple bo_tuple rfl)) (de_one (de_cmp (op_eqA hr.units) d_eqA (de_b d_len call_lenA (by rfl) B.b_len bo_len (da_cons (de_var 0 (pv 0)) da_nil)) (de_var 1 (pv 1)) (nomark _))))))
theorem ok_is_most {f : Addr} {fd : FuncData} (B : Bl K mg) (F : Fun K "is_most" "is_most" s_is_most f fd)
    {a_is_between : Addr} {e_is_between : FuncData} (C_is_between : Cd K mg "is_between" s_is_between ["value", "low", "high"] a_is_between e_is_between) (G_is_between : FnOk P Wd.w K mg base (L2.CX P Wd.w) 2 a_is_between e_is_between ["value", "low", "high"] (spD K mg d_is_between)) :
    FnOk P Wd.w K mg base (L2.CX P Wd.w) 3 f fd ["value"] (spD K mg d_is_most) :=
  fn_ok F sc_is_most rfl rfl fun cdv A outer s H vs E env0 hr => by
    exact (dss_one (ds_ret (de_or (de_cmp op_is d_is (de_var 0 (pv 0)) de_non (nomark _)) (de_one (de_call G_is_between (hr.mono (by decide)) (by rfl) C_is_between.g C_is_between.F.kp C_is_between.b (takes_of rfl rfl rfl rfl) (da_cons (de_var 0 (pv 0)) (da_cons de_int (da_cons de_int da_nil))))))))
theorem ok_is_good {f : Addr} {fd : FuncData} (B : Bl K mg) (F : Fun K "is_good" "is_good" s_is_good f fd)
    {a_is_tuple_of : Addr} {e_is_tuple_of : FuncData} (C_is_tuple_of : Cd K mg "is_tuple_of" s_is_tuple_of ["value", "length"] a_is_tuple_of e_is_tuple_of) (G_is_tuple_of : FnOk P Wd.w K mg base (L2.CX P Wd.w) 1 a_is_tuple_of e_is_tuple_of ["value", "length"] (spD K mg d_is_tuple_of))
    {a_is_between : Addr} {e_is_between : FuncData} (C_is_between : Cd K mg "is_between" s_is_between ["value", "low", "high"] a_is_between e_is_between) (G_is_between : FnOk P Wd.w K mg base (L2.CX P Wd.w) 2 a_is_between e_is_between ["value", "low", "high"] (spD K mg d_is_between)) :
    FnOk P Wd.w K mg base (L2.CX P Wd.w) 3 f fd ["value"] (spD K mg d_is_good) :=
  fn_ok F sc_is_good rfl rfl fun cdv A outer s H vs E env0 hr => by
    exact (dss_cons (ds_if (dt_not (dt_val (de_call G_is_tuple_of (hr.mono (by decide)) (by rfl) C_is_tuple_of.g C_is_tuple_of.F.kp C_is_tuple_of.b (takes_of rfl rfl rfl rfl) (da_cons (de_var 0 (pv 0)) (da_cons de_int da_nil))))) (dss_one (ds_ret de_bl)) dss_nil)
    (dss_cons (ds_asg (de_var 0 (pv 0)) (dg_tup rfl (dgs_cons (dg_name (pg_name (i := 1) sc_is_good.nd rfl (by first | exact .inl rfl | exact .inr rfl))) (dgs_cons (dg_name (pg_name (i := 2) sc_is_good.nd rfl (by first | exact .inl rfl | exact .inr rfl))) dgs_nil))))
    (dss_one (ds_ret (de_and (de_call G_is_between (hr.mono (by decide)) (by rfl) C_is_between.g C_is_between.F.kp C_is_between.b (takes_of rfl rfl rfl rfl) (da_cons (de_var 1 (pv 1)) (da_cons de_int (da_cons de_int da_nil)))) (de_one (de_call G_is_between (hr.mono (by decide)) (by rfl) C_is_between.g C_is_between.F.kp C_is_between.b (takes_of rfl rfl rfl rfl) (da_cons (de_var 2 (pv 2)) (da_cons de_int (da_cons de_int da_nil))))))))))
theorem ok_is_pack {f : Addr} {fd : FuncData} (B : Bl K mg) (F : Fun K "is_pack" "is_pack" s_is_pack f fd)
    {a_is_tuple_of : Addr} {e_is_tuple_of : FuncData} (C_is_tuple_of : Cd K mg "is_tuple_of" s_is_tuple_of ["value", "length"] a_is_tuple_of e_is_tuple_of) (G_is_tuple_of : FnOk P Wd.w K mg base (L2.CX P Wd.w) 1 a_is_tuple_of e_is_tuple_of ["value", "length"] (spD K mg d_is_tuple_of))
    {a_is_between : Addr} {e_is_between : FuncData} (C_is_between : Cd K mg "is_between" s_is_between ["value", "low", "high"] a_is_between e_is_between) (G_is_between : FnOk P Wd.w K mg base (L2.CX P Wd.w) 2 a_is_between e_is_between ["value", "low", "high"] (spD K mg d_is_between))
    {a_is_most : Addr} {e_is_most : FuncData} (C_is_most : Cd K mg "is_most" s_is_most ["value"] a_is_most e_is_most) (G_is_most : FnOk P Wd.w K mg base (L2.CX P Wd.w) 3 a_is_most e_is_most ["value"] (spD K mg d_is_most)) :
    FnOk P Wd.w K mg base (L2.CX P Wd.w) 4 f fd ["value", "many_goods"] (spD K mg d_is_pack) :=
  fn_ok F sc_is_pack rfl rfl fun cdv A outer s H vs E env0 hr => by
    exact (dss_cons (ds_if (dt_not (dt_val (de_call G_is_tuple_of (hr.mono (by decide)) (by rfl) C_is_tuple_of.g C_is_tuple_of.F.kp C_is_tuple_of.b (takes_of rfl rfl rfl rfl) (da_cons (de_var 0 (pv 0)) (da_cons de_int da_nil))))) (dss_one (ds_ret de_bl)) dss_nil)
    (dss_cons (ds_asg (de_var 0 (pv 0)) (dg_tup rfl (dgs_cons (dg_name (pg_name (i := 2) sc_is_pack.nd rfl (by first | exact .inl rfl | exact .inr rfl))) (dgs_cons (dg_name (pg_name (i := 3) sc_is_pack.nd rfl (by first | exact .inl rfl | exact .inr rfl))) (dgs_cons (dg_name (pg_name (i := 4) sc_is_pack.nd rfl (by first | exact .inl rfl | exact .inr rfl))) (dgs_cons (dg_name (pg_name (i := 5) sc_is_pack.nd rfl (by first | exact .inl rfl | exact .inr rfl))) (dgs_cons (dg_name (pg_name (i := 6) sc_is_pack.nd rfl (by first | exact .inl rfl | exact .inr rfl))) dgs_nil)))))))
    (dss_one (ds_ret (de_and (de_call G_is_between (hr.mono (by decide)) (by rfl) C_is_between.g C_is_between.F.kp C_is_between.b (takes_of rfl rfl rfl rfl) (da_cons (de_var 3 (pv 3)) (da_cons de_int (da_cons (de_op op_sub d_sub (de_var 1 (pv 1)) de_int) da_nil)))) (de_and (de_call G_is_between (hr.mono (by decide)) (by rfl) C_is_between.g C_is_between.F.kp C_is_between.b (takes_of rfl rfl rfl rfl) (da_cons (de_var 4 (pv 4)) (da_cons de_int (da_cons de_int da_nil)))) (de_and (de_call G_is_between (hr.mono (by decide)) (by rfl) C_is_between.g C_is_between.F.kp C_is_between.b (takes_of rfl rfl rfl rfl) (da_cons (de_var 5 (pv 5)) (da_cons (de_var 4 (pv 4)) (da_cons de_int da_nil)))) (de_one (de_call G_is_most (hr.mono (by decide)) (by rfl) C_is_most.g C_is_most.F.kp C_is_most.b (takes_of rfl rfl rfl rfl) (da_cons (de_var 6 (pv 6)) da_nil))))))))))
theorem ok_is_from {f : Addr} {fd : FuncData} (B : Bl K mg) (F : Fun K "is_from" "is_from" s_is_from f fd)
    {a_is_tuple_of : Addr} {e_is_tuple_of : FuncData} (C_is_tuple_of : Cd K mg "is_tuple_of" s_is_tuple_of ["value", "length"] a_is_tuple_of e_is_tuple_of) (G_is_tuple_of : FnOk P Wd.w K mg base (L2.CX P Wd.w) 1 a_is_tuple_of e_is_tuple_of ["value", "length"] (spD K mg d_is_tuple_of))
    {a_is_between : Addr} {e_is_between : FuncData} (C_is_between : Cd K mg "is_between" s_is_between ["value", "low", "high"] a_is_between e_is_between) (G_is_between : FnOk P Wd.w K mg base (L2.CX P Wd.w) 2 a_is_between e_is_between ["value", "low", "high"] (spD K mg d_is_between)) :
    FnOk P Wd.w K mg base (L2.CX P Wd.w) 3 f fd ["value", "many_goods"] (spD K mg d_is_from) :=
  fn_ok F sc_is_from rfl rfl fun cdv A outer s H vs E env0 hr => by
    exact (dss_cons (ds_if (dt_not (dt_val (de_call G_is_tuple_of (hr.mono (by decide)) (by rfl) C_is_tuple_of.g C_is_tuple_of.F.kp C_is_tuple_of.b (takes_of rfl rfl rfl rfl) (da_cons (de_var 0 (pv 0)) (da_cons de_int da_nil))))) (dss_one (ds_ret de_bl)) dss_nil)
    (dss_cons (ds_asg (de_var 0 (pv 0)) (dg_tup rfl (dgs_cons (dg_name (pg_name (i := 2) sc_is_from.nd rfl (by first | exact .inl rfl | exact .inr rfl))) (dgs_cons (dg_name (pg_name (i := 3) sc_is_from.nd rfl (by first | exact .inl rfl | exact .inr rfl))) (dgs_cons (dg_name (pg_name (i := 4) sc_is_from.nd rfl (by first | exact .inl rfl | exact .inr rfl))) (dgs_cons (dg_name (pg_name (i := 5) sc_is_from.nd rfl (by first | exact .inl rfl | exact .inr rfl))) dgs_nil))))))
    (dss_one (ds_ret (de_and (de_call G_is_between (hr.mono (by decide)) (by rfl) C_is_between.g C_is_between.F.kp C_is_between.b (takes_of rfl rfl rfl rfl) (da_cons (de_var 3 (pv 3)) (da_cons de_int (da_cons (de_op op_sub d_sub (de_var 1 (pv 1)) de_int) da_nil)))) (de_and (de_call G_is_between (hr.mono (by decide)) (by rfl) C_is_between.g C_is_between.F.kp C_is_between.b (takes_of rfl rfl rfl rfl) (da_cons (de_var 4 (pv 4)) (da_cons de_int (da_cons de_int da_nil)))) (de_one (de_call G_is_between (hr.mono (by decide)) (by rfl) C_is_between.g C_is_between.F.kp C_is_between.b (takes_of rfl rfl rfl rfl) (da_cons (de_var 5 (pv 5)) (da_cons de_int (da_cons de_int da_nil)))))))))))
theorem ok_is_over {f : Addr} {fd : FuncData} (B : Bl K mg) (F : Fun K "is_over" "is_over" s_is_over f fd)
    {a_is_tuple_of : Addr} {e_is_tuple_of : FuncData} (C_is_tuple_of : Cd K mg "is_tuple_of" s_is_tuple_of ["value", "length"] a_is_tuple_of e_is_tuple_of) (G_is_tuple_of : FnOk P Wd.w K mg base (L2.CX P Wd.w) 1 a_is_tuple_of e_is_tuple_of ["value", "length"] (spD K mg d_is_tuple_of))
    {a_is_between : Addr} {e_is_between : FuncData} (C_is_between : Cd K mg "is_between" s_is_between ["value", "low", "high"] a_is_between e_is_between) (G_is_between : FnOk P Wd.w K mg base (L2.CX P Wd.w) 2 a_is_between e_is_between ["value", "low", "high"] (spD K mg d_is_between)) :
    FnOk P Wd.w K mg base (L2.CX P Wd.w) 3 f fd ["value"] (spD K mg d_is_over) :=
  fn_ok F sc_is_over rfl rfl fun cdv A outer s H vs E env0 hr => by
    exact (dss_cons (ds_if (dt_not (dt_val (de_call G_is_tuple_of (hr.mono (by decide)) (by rfl) C_is_tuple_of.g C_is_tuple_of.F.kp C_is_tuple_of.b (takes_of rfl rfl rfl rfl) (da_cons (de_var 0 (pv 0)) (da_cons de_int da_nil))))) (dss_one (ds_ret de_bl)) dss_nil)
    (dss_cons (ds_asg (de_var 0 (pv 0)) (dg_tup rfl (dgs_cons (dg_name (pg_name (i := 1) sc_is_over.nd rfl (by first | exact .inl rfl | exact .inr rfl))) (dgs_cons (dg_name (pg_name (i := 2) sc_is_over.nd rfl (by first | exact .inl rfl | exact .inr rfl))) (dgs_cons (dg_name (pg_name (i := 3) sc_is_over.nd rfl (by first | exact .inl rfl | exact .inr rfl))) dgs_nil)))))
    (dss_one (ds_ret (de_and (de_call G_is_between (hr.mono (by decide)) (by rfl) C_is_between.g C_is_between.F.kp C_is_between.b (takes_of rfl rfl rfl rfl) (da_cons (de_var 2 (pv 2)) (da_cons de_int (da_cons de_int da_nil)))) (de_one (de_call G_is_between (hr.mono (by decide)) (by rfl) C_is_between.g C_is_between.F.kp C_is_between.b (takes_of rfl rfl rfl rfl) (da_cons (de_var 3 (pv 3)) (da_cons de_int (da_cons (de_b d_min2 (call_min2 rfl) (by rfl) B.b_min bo_min (da_cons de_int (da_cons (de_var 2 (pv 2)) da_nil))) da_nil))))))))))
theorem ok_is_each {f : Addr} {fd : FuncData} (B : Bl K mg) (F : Fun K "is_each" "is_each" s_is_each f fd)
    {a_is_tuple_of : Addr} {e_is_tuple_of : FuncData} (C_is_tuple_of : Cd K mg "is_tuple_of" s_is_tuple_of ["value", "length"] a_is_tuple_of e_is_tuple_of) (G_is_tuple_of : FnOk P Wd.w K mg base (L2.CX P Wd.w) 1 a_is_tuple_of e_is_tuple_of ["value", "length"] (spD K mg d_is_tuple_of))
    {a_is_most : Addr} {e_is_most : FuncData} (C_is_most : Cd K mg "is_most" s_is_most ["value"] a_is_most e_is_most) (G_is_most : FnOk P Wd.w K mg base (L2.CX P Wd.w) 3 a_is_most e_is_most ["value"] (spD K mg d_is_most))
    {a_is_between : Addr} {e_is_between : FuncData} (C_is_between : Cd K mg "is_between" s_is_between ["value", "low", "high"] a_is_between e_is_between) (G_is_between : FnOk P Wd.w K mg base (L2.CX P Wd.w) 2 a_is_between e_is_between ["value", "low", "high"] (spD K mg d_is_between)) :
    FnOk P Wd.w K mg base (L2.CX P Wd.w) 4 f fd ["value"] (spD K mg d_is_each) :=
  fn_ok F sc_is_each rfl rfl fun cdv A outer s H vs E env0 hr => by
    exact (dss_cons (ds_if (dt_not (dt_val (de_call G_is_tuple_of (hr.mono (by decide)) (by rfl) C_is_tuple_of.g C_is_tuple_of.F.kp C_is_tuple_of.b (takes_of rfl rfl rfl rfl) (da_cons (de_var 0 (pv 0)) (da_cons de_int da_nil))))) (dss_one (ds_ret de_bl)) dss_nil)
    (dss_cons (ds_asg (de_var 0 (pv 0)) (dg_tup rfl (dgs_cons (dg_name (pg_name (i := 1) sc_is_each.nd rfl (by first | exact .inl rfl | exact .inr rfl))) (dgs_cons (dg_name (pg_name (i := 2) sc_is_each.nd rfl (by first | exact .inl rfl | exact .inr rfl))) (dgs_cons (dg_name (pg_name (i := 3) sc_is_each.nd rfl (by first | exact .inl rfl | exact .inr rfl))) (dgs_cons (dg_name (pg_name (i := 4) sc_is_each.nd rfl (by first | exact .inl rfl | exact .inr rfl))) dgs_nil))))))
    (dss_cons (ds_if (PW.pt (dt_or (dt_not (dt_val (de_call G_is_between (hr.mono (by decide)) (by rfl) C_is_between.g C_is_between.F.kp C_is_between.b (takes_of rfl rfl rfl rfl) (da_cons (de_var 2 (pv 2)) (da_cons de_int (da_cons de_int da_nil)))))) (dt_or1 (dt_not (dt_val (de_call G_is_between (hr.mono (by decide)) (by rfl) C_is_between.g C_is_between.F.kp C_is_between.b (takes_of rfl rfl rfl rfl) (da_cons (de_var 3 (pv 3)) (da_cons de_int (da_cons (de_var 2 (pv 2)) da_nil))))))))) (dss_one (ds_ret de_bl)) dss_nil)
    (dss_one (ds_ret (de_and (de_call G_is_most (hr.mono (by decide)) (by rfl) C_is_most.g C_is_most.F.kp C_is_most.b (takes_of rfl rfl rfl rfl) (da_cons (de_var 4 (pv 4)) da_nil)) (de_one (de_or (de_cmp op_nis d_nis (de_var 4 (pv 4)) de_non (nomark _)) (de_one (de_cmp op_le d_le (de_op op_mulA d_mulA de_int (de_var 3 (pv 3))) (de_var 2 (pv 2)) (nomark _)))))))))))
theorem ok_is_rule {f : Addr} {fd : FuncData} (B : Bl K mg) (F : Fun K "is_rule" "is_rule" s_is_rule f fd)
    {a_is_pack : Addr} {e_is_pack : FuncData} (C_is_pack : Cd K mg "is_pack" s_is_pack ["value", "many_goods"] a_is_pack e_is_pack) (G_is_pack : FnOk P Wd.w K mg base (L2.CX P Wd.w) 4 a_is_pack e_is_pack ["value", "many_goods"] (spD K mg d_is_pack))
    {a_is_from : Addr} {e_is_from : FuncData} (C_is_from : Cd K mg "is_from" s_is_from ["value", "many_goods"] a_is_from e_is_from) (G_is_from : FnOk P Wd.w K mg base (L2.CX P Wd.w) 3 a_is_from e_is_from ["value", "many_goods"] (spD K mg d_is_from))
    {a_is_over : Addr} {e_is_over : FuncData} (C_is_over : Cd K mg "is_over" s_is_over ["value"] a_is_over e_is_over) (G_is_over : FnOk P Wd.w K mg base (L2.CX P Wd.w) 3 a_is_over e_is_over ["value"] (spD K mg d_is_over))
    {a_is_each : Addr} {e_is_each : FuncData} (C_is_each : Cd K mg "is_each" s_is_each ["value"] a_is_each e_is_each) (G_is_each : FnOk P Wd.w K mg base (L2.CX P Wd.w) 4 a_is_each e_is_each ["value"] (spD K mg d_is_each)) :
    FnOk P Wd.w K mg base (L2.CX P Wd.w) 5 f fd ["value", "many_goods"] (spD K mg d_is_rule) :=
  fn_ok F sc_is_rule rfl rfl fun cdv A outer s H vs E env0 hr => by
    exact (dss_cons (ds_if (PW.pt (dt_or (dt_not (dt_val (de_isi (by rfl) B.b_isinstance (de_var 0 (pv 0)) (pe_bltn (by rfl) B.b_tuple bo_tuple rfl)))) (dt_or1 (dt_cmp (op_eqA hr.units) d_eqA (de_b d_len call_lenA (by rfl) B.b_len bo_len (da_cons (de_var 0 (pv 0)) da_nil)) de_int (nomark _))))) (dss_one (ds_ret de_bl)) dss_nil)
    (dss_cons (ds_set (i := 2) sc_is_rule.nd rfl (by first | exact .inl rfl | exact .inr rfl) (de_ix (de_var 0 (pv 0)) de_int (fun _ _ => rfl)))
    (dss_cons (ds_if (dt_not (dt_val (de_isi (by rfl) B.b_isinstance (de_var 2 (pv 2)) (pe_bltn (by rfl) B.b_str bo_str rfl)))) (dss_one (ds_ret de_bl)) dss_nil)
    (dss_cons (ds_if (dt_cmp (op_eqA hr.units) d_eqA (de_var 2 (pv 2)) de_str (nomark _)) (dss_one (ds_ret (de_call G_is_pack (hr.mono (by decide)) (by rfl) C_is_pack.g C_is_pack.F.kp C_is_pack.b (takes_of rfl rfl rfl rfl) (da_cons (de_var 0 (pv 0)) (da_cons (de_var 1 (pv 1)) da_nil))))) dss_nil)
    (dss_cons (ds_if (dt_cmp (op_eqA hr.units) d_eqA (de_var 2 (pv 2)) de_str (nomark _)) (dss_one (ds_ret (de_call G_is_from (hr.mono (by decide)) (by rfl) C_is_from.g C_is_from.F.kp C_is_from.b (takes_of rfl rfl rfl rfl) (da_cons (de_var 0 (pv 0)) (da_cons (de_var 1 (pv 1)) da_nil))))) dss_nil)
    (dss_cons (ds_if (dt_cmp (op_eqA hr.units) d_eqA (de_var 2 (pv 2)) de_str (nomark _)) (dss_one (ds_ret (de_call G_is_over (hr.mono (by decide)) (by rfl) C_is_over.g C_is_over.F.kp C_is_over.b (takes_of rfl rfl rfl rfl) (da_cons (de_var 0 (pv 0)) da_nil)))) dss_nil)
    (dss_one (ds_ret (de_and (de_cmp (op_eqA hr.units) d_eqA (de_var 2 (pv 2)) de_str (nomark _)) (de_one (de_call G_is_each (hr.mono (by decide)) (by rfl) C_is_each.g C_is_each.F.kp C_is_each.b (takes_of rfl rfl rfl rfl) (da_cons (de_var 0 (pv 0)) da_nil))))))))))))
theorem ok_is_endless_each {f : Addr} {fd : FuncData} (B : Bl K mg) (F : Fun K "is_endless_each" "is_endless_each" s_is_endless_each f fd) :
    FnOk P Wd.w K mg base (L2.CX P Wd.w) 1 f fd ["rule"] (spD K mg d_is_endless_each) :=
  fn_ok F sc_is_endless_each rfl rfl fun cdv A outer s H vs E env0 hr => by
    exact (dss_one (ds_ret (de_and (de_cmp (op_eqA hr.units) d_eqA (de_ix (de_var 0 (pv 0)) de_int (fun _ _ => rfl)) de_str (nomark _)) (de_one (de_cmp op_is d_is (de_ix (de_var 0 (pv 0)) de_int (fun _ _ => rfl)) de_non (nomark _))))))
theorem ok_are_goods {f : Addr} {fd : FuncData} (B : Bl K mg) (F : Fun K "are_goods" "are_goods" s_are_goods f fd)
    {a_is_good : Addr} {e_is_good : FuncData} (C_is_good : Cd K mg "is_good" s_is_good ["value"] a_is_good e_is_good) (G_is_good : FnOk P Wd.w K mg base (L2.CX P Wd.w) 3 a_is_good e_is_good ["value"] (spD K mg d_is_good)) :
    FnOk P Wd.w K mg base (L2.CX P Wd.w) 4 f fd ["value"] (spD K mg d_are_goods) :=
  fn_ok F sc_are_goods rfl rfl fun cdv A outer s H vs E env0 hr => by
    exact (dss_cons (ds_if (PW.pt (dt_or (dt_not (dt_val (de_isi (by rfl) B.b_isinstance (de_var 0 (pv 0)) (pe_bltn (by rfl) B.b_tuple bo_tuple rfl)))) (dt_or1 (dt_not (dt_chain op_le d_le op_le d_le de_int (de_b d_len call_lenA (by rfl) B.b_len bo_len (da_cons (de_var 0 (pv 0)) da_nil)) (de_gc (by rfl) B.g_MOST_GOODS fun _ _ => .int _) (by rfl)))))) (dss_one (ds_ret de_bl)) dss_nil)
    (dss_one (ds_ret (de_b d_all (cr_all rfl) (by rfl) B.b_all bo_all (da_cons (de_lc (own := [("good", 1)]) (t := (.one 1)) rfl sc_are_goods.nd (di_tup (de_var 0 (pv 0))) (blkOk_by (own := [("good", 1)]) (N := ["value", "good"]) (sc := defScope s_are_goods) (by first | decide +kernel | (dsimp only [Cx.blk, compEnvC]; rw [relabel_is]; dsimp only [cxOf, PyProof.Rows.envOfC]; decide +kernel))) (fun _ _ _ _ _ => (pg_name (i := 1) sc_are_goods.nd rfl (by first | exact .inl rfl | exact .inr rfl))) (fun _ _ _ _ _ => dts_nil) (fun _ _ _ _ _ => (de_call G_is_good (hr.mono (by decide)) (by rfl) C_is_good.g C_is_good.F.kp C_is_good.b takes0 (da_cons (de_var 1 (pv 1)) da_nil))) (by simp [CT.ins])) da_nil)))))
theorem ok_are_rules {f : Addr} {fd : FuncData} (B : Bl K mg) (F : Fun K "are_rules" "are_rules" s_are_rules f fd)
    {a_is_rule : Addr} {e_is_rule : FuncData} (C_is_rule : Cd K mg "is_rule" s_is_rule ["value", "many_goods"] a_is_rule e_is_rule) (G_is_rule : FnOk P Wd.w K mg base (L2.CX P Wd.w) 5 a_is_rule e_is_rule ["value", "many_goods"] (spD K mg d_is_rule))
    {a_is_endless_each : Addr} {e_is_endless_each : FuncData} (C_is_endless_each : Cd K mg "is_endless_each" s_is_endless_each ["rule"] a_is_endless_each e_is_endless_each) (G_is_endless_each : FnOk P Wd.w K mg base (L2.CX P Wd.w) 1 a_is_endless_each e_is_endless_each ["rule"] (spD K mg d_is_endless_each)) :
    FnOk P Wd.w K mg base (L2.CX P Wd.w) 6 f fd ["value", "many_goods"] (spD K mg d_are_rules) :=
  fn_ok F sc_are_rules rfl rfl fun cdv A outer s H vs E env0 hr => by
    exact (dss_cons (ds_if (PW.pt (dt_or (dt_not (dt_val (de_isi (by rfl) B.b_isinstance (de_var 0 (pv 0)) (pe_bltn (by rfl) B.b_tuple bo_tuple rfl)))) (dt_or1 (dt_cmp op_gt d_gt (de_b d_len call_lenA (by rfl) B.b_len bo_len (da_cons (de_var 0 (pv 0)) da_nil)) (de_gc (by rfl) B.g_MOST_RULES fun _ _ => .int _) (nomark _))))) (dss_one (ds_ret de_bl)) dss_nil)
    (dss_cons (ds_if (dt_not (dt_val (de_b d_all (cr_all rfl) (by rfl) B.b_all bo_all (da_cons (de_lc (own := [("rule", 2)]) (t := (.one 2)) rfl sc_are_rules.nd (di_tup (de_var 0 (pv 0))) (blkOk_by (own := [("rule", 2)]) (N := ["value", "many_goods", "rule"]) (sc := defScope s_are_rules) (by first | decide +kernel | (dsimp only [Cx.blk, compEnvC]; rw [relabel_is]; dsimp only [cxOf, PyProof.Rows.envOfC]; decide +kernel))) (fun _ _ _ _ _ => (pg_name (i := 2) sc_are_rules.nd rfl (by first | exact .inl rfl | exact .inr rfl))) (fun _ _ _ _ _ => dts_nil) (fun _ _ _ _ _ => (de_call G_is_rule (hr.mono (by decide)) (by rfl) C_is_rule.g C_is_rule.F.kp C_is_rule.b takes0 (da_cons (de_var 2 (pv 2)) (da_cons (de_var 1 (pv 1)) da_nil)))) (by simp [CT.ins])) da_nil)))) (dss_one (ds_ret de_bl)) dss_nil)
    (dss_one (ds_ret (de_cmp op_le d_le (de_b d_len call_lenA (by rfl) B.b_len bo_len (da_cons (de_lc (own := [("rule", 2)]) (t := (.one 2)) rfl sc_are_rules.nd (di_tup (de_var 0 (pv 0))) (blkOk_by (own := [("rule", 2)]) (N := ["value", "many_goods", "rule"]) (sc := defScope s_are_rules) (by first | decide +kernel | (dsimp only [Cx.blk, compEnvC]; rw [relabel_is]; dsimp only [cxOf, PyProof.Rows.envOfC]; decide +kernel))) (fun _ _ _ _ _ => (pg_name (i := 2) sc_are_rules.nd rfl (by first | exact .inl rfl | exact .inr rfl))) (fun _ _ _ _ _ => (dts_one (dt_val (de_call G_is_endless_each (hr.mono (by decide)) (by rfl) C_is_endless_each.g C_is_endless_each.F.kp C_is_endless_each.b takes0 (da_cons (de_var 2 (pv 2)) da_nil))))) (fun _ _ _ _ _ => (de_var 2 (pv 2))) (by simp [CT.ins])) da_nil)) de_int (nomark _))))))
theorem ok_is_shop {f : Addr} {fd : FuncData} (B : Bl K mg) (F : Fun K "is_shop" "is_shop" s_is_shop f fd)
    {a_is_tuple_of : Addr} {e_is_tuple_of : FuncData} (C_is_tuple_of : Cd K mg "is_tuple_of" s_is_tuple_of ["value", "length"] a_is_tuple_of e_is_tuple_of) (G_is_tuple_of : FnOk P Wd.w K mg base (L2.CX P Wd.w) 1 a_is_tuple_of e_is_tuple_of ["value", "length"] (spD K mg d_is_tuple_of))
    {a_are_goods : Addr} {e_are_goods : FuncData} (C_are_goods : Cd K mg "are_goods" s_are_goods ["value"] a_are_goods e_are_goods) (G_are_goods : FnOk P Wd.w K mg base (L2.CX P Wd.w) 4 a_are_goods e_are_goods ["value"] (spD K mg d_are_goods))
    {a_are_rules : Addr} {e_are_rules : FuncData} (C_are_rules : Cd K mg "are_rules" s_are_rules ["value", "many_goods"] a_are_rules e_are_rules) (G_are_rules : FnOk P Wd.w K mg base (L2.CX P Wd.w) 6 a_are_rules e_are_rules ["value", "many_goods"] (spD K mg d_are_rules)) :
    FnOk P Wd.w K mg base (L2.CX P Wd.w) 7 f fd ["value"] (spD K mg d_is_shop) :=
  fn_ok F sc_is_shop rfl rfl fun cdv A outer s H vs E env0 hr => by
    exact (dss_cons (ds_if (dt_not (dt_val (de_call G_is_tuple_of (hr.mono (by decide)) (by rfl) C_is_tuple_of.g C_is_tuple_of.F.kp C_is_tuple_of.b (takes_of rfl rfl rfl rfl) (da_cons (de_var 0 (pv 0)) (da_cons de_int da_nil))))) (dss_one (ds_ret de_bl)) dss_nil)
    (dss_cons (ds_asg (de_var 0 (pv 0)) (dg_tup rfl (dgs_cons (dg_name (pg_name (i := 1) sc_is_shop.nd rfl (by first | exact .inl rfl | exact .inr rfl))) (dgs_cons (dg_name (pg_name (i := 2) sc_is_shop.nd rfl (by first | exact .inl rfl | exact .inr rfl))) dgs_nil))))
    (dss_one (ds_ret (de_and (de_call G_are_goods (hr.mono (by decide)) (by rfl) C_are_goods.g C_are_goods.F.kp C_are_goods.b (takes_of rfl rfl rfl rfl) (da_cons (de_var 1 (pv 1)) da_nil)) (de_one (de_call G_are_rules (hr.mono (by decide)) (by rfl) C_are_rules.g C_are_rules.F.kp C_are_rules.b (takes_of rfl rfl rfl rfl) (da_cons (de_var 2 (pv 2)) (da_cons (de_b d_len call_lenA (by rfl) B.b_len bo_len (da_cons (de_var 1 (pv 1)) da_nil)) da_nil)))))))))
theorem ok_check_shop {f : Addr} {fd : FuncData} (B : Bl K mg) (F : Fun K "check_shop" "check_shop" s_check_shop f fd)
    {a_is_shop : Addr} {e_is_shop : FuncData} (C_is_shop : Cd K mg "is_shop" s_is_shop ["value"] a_is_shop e_is_shop) (G_is_shop : FnOk P Wd.w K mg base (L2.CX P Wd.w) 7 a_is_shop e_is_shop ["value"] (spD K mg d_is_shop)) :
    FnOk P Wd.w K mg base (L2.CX P Wd.w) 8 f fd ["shop"] (spD K mg d_check_shop) :=
  fn_ok F sc_check_shop rfl rfl fun cdv A outer s H vs E env0 hr => by
    exact (dss_one (ds_if (dt_not (dt_val (de_call G_is_shop (hr.mono (by decide)) (by rfl) C_is_shop.g C_is_shop.F.kp C_is_shop.b (takes_of rfl rfl rfl rfl) (da_cons (de_var 0 (pv 0)) da_nil)))) (dss_one (ds_raise rfl (takes_of rfl rfl rfl rfl) B.k_InvalidShop (by rfl))) dss_nil))
theorem ok_full_times {f : Addr} {fd : FuncData} (B : Bl K mg) (F : Fun K "full_times" "full_times" s_full_times f fd) :
    FnOk P Wd.w K mg base (L2.CX P Wd.w) 1 f fd ["whole", "part", "most"] (spD K mg d_full_times) :=
  fn_ok F sc_full_times rfl rfl fun cdv A outer s H vs E env0 hr => by
    exact (dss_cons (ds_set (i := 3) sc_full_times.nd rfl (by first | exact .inl rfl | exact .inr rfl) (de_op op_fdiv d_fdiv (de_var 0 (pv 0)) (de_var 1 (pv 1))))
    (dss_one (ds_ret (de_if (dt_cmp op_is d_is (de_var 2 (pv 2)) de_non (nomark _)) (de_var 3 (pv 3)) (de_b d_min2 (call_min2 rfl) (by rfl) B.b_min bo_min (da_cons (de_var 3 (pv 3)) (da_cons (de_var 2 (pv 2)) da_nil)))))))
theorem ok_fitting_rule {f : Addr} {fd : FuncData} (B : Bl K mg) (F : Fun K "fitting_rule" "fitting_rule" s_fitting_rule f fd) :
    FnOk P Wd.w K mg base (L2.CX P Wd.w) 1 f fd ["rules", "good", "pieces"] (spD K mg d_fitting_rule) :=
  fn_ok F sc_fitting_rule rfl rfl fun cdv A outer s H vs E env0 hr => by
    exact (dss_cons (ds_for (passes_of rfl) rfl (di_enum true (by rfl) B.b_enumerate (da_cons (de_var 0 (pv 0)) da_nil)) (dg_tup rfl (dgs_cons (dg_name (pg_name (i := 3) sc_fitting_rule.nd rfl (by first | exact .inl rfl | exact .inr rfl))) (dgs_cons (dg_name (pg_name (i := 4) sc_fitting_rule.nd rfl (by first | exact .inl rfl | exact .inr rfl))) dgs_nil))) (dss_one (ds_if (PW.pt (dt_and (dt_cmp op_notIn_seq (d_in true) (de_ix (de_var 4 (pv 4)) de_int (fun _ _ => rfl)) (de_gt (by rfl) B.g_SUM_WORDS) (by with_unfolding_all rfl)) (dt_and (dt_cmp (op_eqA hr.units) d_eqA (de_ix (de_var 4 (pv 4)) de_int (fun _ _ => rfl)) (de_var 1 (pv 1)) (nomark _)) (dt_and1 (dt_cmp op_ge d_ge (de_var 2 (pv 2)) (de_ix (de_var 4 (pv 4)) de_int (fun _ _ => rfl)) (nomark _)))))) (dss_one (ds_ret (de_var 3 (pv 3)))) dss_nil)))
    (dss_one (ds_ret de_non)))
theorem ok_pack_times {f : Addr} {fd : FuncData} (B : Bl K mg) (F : Fun K "pack_times" "pack_times" s_pack_times f fd)
    {a_full_times : Addr} {e_full_times : FuncData} (C_full_times : Cd K mg "full_times" s_full_times ["whole", "part", "most"] a_full_times e_full_times) (G_full_times : FnOk P Wd.w K mg base (L2.CX P Wd.w) 1 a_full_times e_full_times ["whole", "part", "most"] (spD K mg d_full_times)) :
    FnOk P Wd.w K mg base (L2.CX P Wd.w) 2 f fd ["rule", "pieces"] (spD K mg d_pack_times) :=
  fn_ok F sc_pack_times rfl rfl fun cdv A outer s H vs E env0 hr => by
    exact (dss_cons (ds_asg (de_var 0 (pv 0)) (dg_tup rfl (dgs_cons (dg_name (pg_name (i := 2) sc_pack_times.nd rfl (by first | exact .inl rfl | exact .inr rfl))) (dgs_cons (dg_name (pg_name (i := 2) sc_pack_times.nd rfl (by first | exact .inl rfl | exact .inr rfl))) (dgs_cons (dg_name (pg_name (i := 3) sc_pack_times.nd rfl (by first | exact .inl rfl | exact .inr rfl))) (dgs_cons (dg_name (pg_name (i := 2) sc_pack_times.nd rfl (by first | exact .inl rfl | exact .inr rfl))) (dgs_cons (dg_name (pg_name (i := 4) sc_pack_times.nd rfl (by first | exact .inl rfl | exact .inr rfl))) dgs_nil)))))))
    (dss_one (ds_ret (de_call G_full_times (hr.mono (by decide)) (by rfl) C_full_times.g C_full_times.F.kp C_full_times.b (takes_of rfl rfl rfl rfl) (da_cons (de_var 1 (pv 1)) (da_cons (de_var 3 (pv 3)) (da_cons (de_var 4 (pv 4)) da_nil)))))))
theorem ok_pack_amount {f : Addr} {fd : FuncData} (B : Bl K mg) (F : Fun K "pack_amount" "pack_amount" s_pack_amount f fd)
    {a_pack_times : Addr} {e_pack_times : FuncData} (C_pack_times : Cd K mg "pack_times" s_pack_times ["rule", "pieces"] a_pack_times e_pack_times) (G_pack_times : FnOk P Wd.w K mg base (L2.CX P Wd.w) 2 a_pack_times e_pack_times ["rule", "pieces"] (spD K mg d_pack_times)) :
    FnOk P Wd.w K mg base (L2.CX P Wd.w) 3 f fd ["rule", "price", "pieces"] (spD K mg d_pack_amount) :=
  fn_ok F sc_pack_amount rfl rfl fun cdv A outer s H vs E env0 hr => by
    exact (dss_cons (ds_asg (de_var 0 (pv 0)) (dg_tup rfl (dgs_cons (dg_name (pg_name (i := 4) sc_pack_amount.nd rfl (by first | exact .inl rfl | exact .inr rfl))) (dgs_cons (dg_name (pg_name (i := 4) sc_pack_amount.nd rfl (by first | exact .inl rfl | exact .inr rfl))) (dgs_cons (dg_name (pg_name (i := 5) sc_pack_amount.nd rfl (by first | exact .inl rfl | exact .inr rfl))) (dgs_cons (dg_name (pg_name (i := 6) sc_pack_amount.nd rfl (by first | exact .inl rfl | exact .inr rfl))) (dgs_cons (dg_name (pg_name (i := 4) sc_pack_amount.nd rfl (by first | exact .inl rfl | exact .inr rfl))) dgs_nil)))))))
    (dss_cons (ds_set (i := 3) sc_pack_amount.nd rfl (by first | exact .inl rfl | exact .inr rfl) (de_call G_pack_times (hr.mono (by decide)) (by rfl) C_pack_times.g C_pack_times.F.kp C_pack_times.b (takes_of rfl rfl rfl rfl) (da_cons (de_var 0 (pv 0)) (da_cons (de_var 2 (pv 2)) da_nil))))
    (dss_one (ds_ret (de_op op_addA d_add (de_op op_mulA d_mulA (de_var 3 (pv 3)) (de_var 6 (pv 6))) (de_op op_mulA d_mulA (de_op op_sub d_sub (de_var 2 (pv 2)) (de_op op_mulA d_mulA (de_var 3 (pv 3)) (de_var 5 (pv 5)))) (de_var 1 (pv 1))))))))
theorem ok_good_amount {f : Addr} {fd : FuncData} (B : Bl K mg) (F : Fun K "good_amount" "good_amount" s_good_amount f fd)
    {a_fitting_rule : Addr} {e_fitting_rule : FuncData} (C_fitting_rule : Cd K mg "fitting_rule" s_fitting_rule ["rules", "good", "pieces"] a_fitting_rule e_fitting_rule) (G_fitting_rule : FnOk P Wd.w K mg base (L2.CX P Wd.w) 1 a_fitting_rule e_fitting_rule ["rules", "good", "pieces"] (spD K mg d_fitting_rule))
    {a_pack_amount : Addr} {e_pack_amount : FuncData} (C_pack_amount : Cd K mg "pack_amount" s_pack_amount ["rule", "price", "pieces"] a_pack_amount e_pack_amount) (G_pack_amount : FnOk P Wd.w K mg base (L2.CX P Wd.w) 3 a_pack_amount e_pack_amount ["rule", "price", "pieces"] (spD K mg d_pack_amount)) :
    FnOk P Wd.w K mg base (L2.CX P Wd.w) 4 f fd ["shop", "good", "pieces"] (spD K mg d_good_amount) :=
  fn_ok F sc_good_amount rfl rfl fun cdv A outer s H vs E env0 hr => by
    exact (dss_cons (ds_asg (de_var 0 (pv 0)) (dg_tup rfl (dgs_cons (dg_name (pg_name (i := 5) sc_good_amount.nd rfl (by first | exact .inl rfl | exact .inr rfl))) (dgs_cons (dg_name (pg_name (i := 6) sc_good_amount.nd rfl (by first | exact .inl rfl | exact .inr rfl))) dgs_nil))))
    (dss_cons (ds_asg (de_ix (de_var 5 (pv 5)) (de_var 1 (pv 1)) (fun _ _ => rfl)) (dg_tup rfl (dgs_cons (dg_name (pg_name (i := 7) sc_good_amount.nd rfl (by first | exact .inl rfl | exact .inr rfl))) (dgs_cons (dg_name (pg_name (i := 8) sc_good_amount.nd rfl (by first | exact .inl rfl | exact .inr rfl))) dgs_nil))))
    (dss_cons (ds_set (i := 3) sc_good_amount.nd rfl (by first | exact .inl rfl | exact .inr rfl) (de_call G_fitting_rule (hr.mono (by decide)) (by rfl) C_fitting_rule.g C_fitting_rule.F.kp C_fitting_rule.b (takes_of rfl rfl rfl rfl) (da_cons (de_var 6 (pv 6)) (da_cons (de_var 1 (pv 1)) (da_cons (de_var 2 (pv 2)) da_nil)))))
    (dss_cons (ds_if (dt_cmp op_is d_is (de_var 3 (pv 3)) de_non (nomark _)) (dss_one (ds_ret (de_op op_mulA d_mulA (de_var 2 (pv 2)) (de_var 7 (pv 7))))) dss_nil)
    (dss_cons (ds_set (i := 4) sc_good_amount.nd rfl (by first | exact .inl rfl | exact .inr rfl) (de_ix (de_var 6 (pv 6)) (de_var 3 (pv 3)) (fun _ _ => rfl)))
    (dss_cons (ds_if (dt_cmp (op_eqA hr.units) d_eqA (de_ix (de_var 4 (pv 4)) de_int (fun _ _ => rfl)) de_str (nomark _)) (dss_one (ds_ret (de_call G_pack_amount (hr.mono (by decide)) (by rfl) C_pack_amount.g C_pack_amount.F.kp C_pack_amount.b (takes_of rfl rfl rfl rfl) (da_cons (de_var 4 (pv 4)) (da_cons (de_var 7 (pv 7)) (da_cons (de_var 2 (pv 2)) da_nil)))))) dss_nil)
    (dss_one (ds_ret (de_op op_mulA d_mulA (de_var 2 (pv 2)) (de_ix (de_var 4 (pv 4)) de_int (fun _ _ => rfl)))))))))))
theorem ok_off_times {f : Addr} {fd : FuncData} (B : Bl K mg) (F : Fun K "off_times" "off_times" s_off_times f fd)
    {a_full_times : Addr} {e_full_times : FuncData} (C_full_times : Cd K mg "full_times" s_full_times ["whole", "part", "most"] a_full_times e_full_times) (G_full_times : FnOk P Wd.w K mg base (L2.CX P Wd.w) 1 a_full_times e_full_times ["whole", "part", "most"] (spD K mg d_full_times)) :
    FnOk P Wd.w K mg base (L2.CX P Wd.w) 2 f fd ["rule", "left"] (spD K mg d_off_times) :=
  fn_ok F sc_off_times rfl rfl fun cdv A outer s H vs E env0 hr => by
    exact (dss_cons (ds_if (dt_cmp (op_eqA hr.units) d_eqA (de_ix (de_var 0 (pv 0)) de_int (fun _ _ => rfl)) de_str (nomark _)) (dss_one (ds_ret (de_if (dt_cmp op_ge d_ge (de_var 1 (pv 1)) (de_ix (de_var 0 (pv 0)) de_int (fun _ _ => rfl)) (nomark _)) de_int de_int))) dss_nil)
    (dss_cons (ds_if (dt_cmp (op_eqA hr.units) d_eqA (de_ix (de_var 0 (pv 0)) de_int (fun _ _ => rfl)) de_str (nomark _)) (dss_one (ds_ret (de_call G_full_times (hr.mono (by decide)) (by rfl) C_full_times.g C_full_times.F.kp C_full_times.b (takes_of rfl rfl rfl rfl) (da_cons (de_var 1 (pv 1)) (da_cons (de_ix (de_var 0 (pv 0)) de_int (fun _ _ => rfl)) (da_cons (de_ix (de_var 0 (pv 0)) de_int (fun _ _ => rfl)) da_nil)))))) dss_nil)
    (dss_one (ds_ret de_int))))
theorem ok_apply_sums {f : Addr} {fd : FuncData} (B : Bl K mg) (F : Fun K "apply_sums" "apply_sums" s_apply_sums f fd)
    {a_off_times : Addr} {e_off_times : FuncData} (C_off_times : Cd K mg "off_times" s_off_times ["rule", "left"] a_off_times e_off_times) (G_off_times : FnOk P Wd.w K mg base (L2.CX P Wd.w) 2 a_off_times e_off_times ["rule", "left"] (spD K mg d_off_times)) :
    FnOk P Wd.w K mg base (L2.CX P Wd.w) 3 f fd ["rules", "total"] (spD K mg d_apply_sums) :=
  fn_ok F sc_apply_sums rfl rfl fun cdv A outer s H vs E env0 hr => by
    exact (dss_cons (ds_set (i := 2) sc_apply_sums.nd rfl (by first | exact .inl rfl | exact .inr rfl) (de_var 1 (pv 1)))
    (dss_cons (ds_set (i := 3) sc_apply_sums.nd rfl (by first | exact .inl rfl | exact .inr rfl) (de_lst da_nil))
    (dss_cons (ds_for (passes_of rfl) rfl (di_tup (de_var 0 (pv 0))) (dg_name (pg_name (i := 4) sc_apply_sums.nd rfl (by first | exact .inl rfl | exact .inr rfl))) (dss_cons (ds_set (i := 5) sc_apply_sums.nd rfl (by first | exact .inl rfl | exact .inr rfl) (de_call G_off_times (hr.mono (by decide)) (by rfl) C_off_times.g C_off_times.F.kp C_off_times.b (takes_of rfl rfl rfl rfl) (da_cons (de_var 4 (pv 4)) (da_cons (de_var 2 (pv 2)) da_nil))))
    (dss_cons (ds_aug (i := 2) sc_apply_sums.nd rfl (by first | exact .inl rfl | exact .inr rfl) iop_sub d_sub (de_op op_mulA d_mulA (de_var 5 (pv 5)) (de_ix (de_var 4 (pv 4)) de_int (fun _ _ => rfl))))
    (dss_one (ds_expr (de_met m_app PySem.F.slot_list_append PySem.F.type_list_append mt_append (de_var 3 (pv 3)) (da_cons (de_var 5 (pv 5)) da_nil)))))))
    (dss_one (ds_ret (de_tup (da_cons (de_var 2 (pv 2)) (da_cons (de_var 3 (pv 3)) da_nil))))))))
theorem ok_amounts_of {f : Addr} {fd : FuncData} (B : Bl K mg) (F : Fun K "amounts_of" "amounts_of" s_amounts_of f fd)
    {a_good_amount : Addr} {e_good_amount : FuncData} (C_good_amount : Cd K mg "good_amount" s_good_amount ["shop", "good", "pieces"] a_good_amount e_good_amount) (G_good_amount : FnOk P Wd.w K mg base (L2.CX P Wd.w) 4 a_good_amount e_good_amount ["shop", "good", "pieces"] (spD K mg d_good_amount)) :
    FnOk P Wd.w K mg base (L2.CX P Wd.w) 5 f fd ["shop", "basket"] (spD K mg d_amounts_of) :=
  fn_ok F sc_amounts_of rfl rfl fun cdv A outer s H vs E env0 hr => by
    exact (dss_one (ds_ret (de_ty d_tuple call_tuple_of (by rfl) B.b_tuple bo_tuple (da_cons (de_lc (own := [("good", 2), ("pieces", 3)]) (t := (.tup [2, 3])) rfl sc_amounts_of.nd (di_enum false (by rfl) B.b_enumerate (da_cons (de_var 1 (pv 1)) da_nil)) (blkOk_by (own := [("good", 2), ("pieces", 3)]) (N := ["shop", "basket", "good", "pieces"]) (sc := defScope s_amounts_of) (by first | decide +kernel | (dsimp only [Cx.blk, compEnvC]; rw [relabel_is]; dsimp only [cxOf, PyProof.Rows.envOfC]; decide +kernel))) (fun _ _ _ _ _ => (pg_tup rfl (pgs_cons (pg_name (i := 2) sc_amounts_of.nd rfl (by first | exact .inl rfl | exact .inr rfl)) (pgs_cons (pg_name (i := 3) sc_amounts_of.nd rfl (by first | exact .inl rfl | exact .inr rfl)) pgs_nil)))) (fun _ _ _ _ _ => dts_nil) (fun _ _ _ _ _ => (de_call G_good_amount (hr.mono (by decide)) (by rfl) C_good_amount.g C_good_amount.F.kp C_good_amount.b takes0 (da_cons (de_var 0 (pv 0)) (da_cons (de_var 2 (pv 2)) (da_cons (de_var 3 (pv 3)) da_nil))))) (by simp [CT.ins])) da_nil))))
theorem ok_left_of {f : Addr} {fd : FuncData} (B : Bl K mg) (F : Fun K "left_of" "left_of" s_left_of f fd)
    {a_apply_sums : Addr} {e_apply_sums : FuncData} (C_apply_sums : Cd K mg "apply_sums" s_apply_sums ["rules", "total"] a_apply_sums e_apply_sums) (G_apply_sums : FnOk P Wd.w K mg base (L2.CX P Wd.w) 3 a_apply_sums e_apply_sums ["rules", "total"] (spD K mg d_apply_sums)) :
    FnOk P Wd.w K mg base (L2.CX P Wd.w) 4 f fd ["rules", "total"] (spD K mg d_left_of) :=
  fn_ok F sc_left_of rfl rfl fun cdv A outer s H vs E env0 hr => by
    exact (dss_cons (ds_asg (de_call G_apply_sums (hr.mono (by decide)) (by rfl) C_apply_sums.g C_apply_sums.F.kp C_apply_sums.b (takes_of rfl rfl rfl rfl) (da_cons (de_var 0 (pv 0)) (da_cons (de_var 1 (pv 1)) da_nil))) (dg_tup rfl (dgs_cons (dg_name (pg_name (i := 2) sc_left_of.nd rfl (by first | exact .inl rfl | exact .inr rfl))) (dgs_cons (dg_name (pg_name (i := 3) sc_left_of.nd rfl (by first | exact .inl rfl | exact .inr rfl))) dgs_nil))))
    (dss_one (ds_ret (de_var 2 (pv 2)))))
theorem ok_charge_of {f : Addr} {fd : FuncData} (B : Bl K mg) (F : Fun K "charge_of" "charge_of" s_charge_of f fd)
    {a_left_of : Addr} {e_left_of : FuncData} (C_left_of : Cd K mg "left_of" s_left_of ["rules", "total"] a_left_of e_left_of) (G_left_of : FnOk P Wd.w K mg base (L2.CX P Wd.w) 4 a_left_of e_left_of ["rules", "total"] (spD K mg d_left_of))
    {a_amounts_of : Addr} {e_amounts_of : FuncData} (C_amounts_of : Cd K mg "amounts_of" s_amounts_of ["shop", "basket"] a_amounts_of e_amounts_of) (G_amounts_of : FnOk P Wd.w K mg base (L2.CX P Wd.w) 5 a_amounts_of e_amounts_of ["shop", "basket"] (spD K mg d_amounts_of)) :
    FnOk P Wd.w K mg base (L2.CX P Wd.w) 6 f fd ["shop", "basket"] (spD K mg d_charge_of) :=
  fn_ok F sc_charge_of rfl rfl fun cdv A outer s H vs E env0 hr => by
    exact (dss_one (ds_ret (de_call G_left_of (hr.mono (by decide)) (by rfl) C_left_of.g C_left_of.F.kp C_left_of.b (takes_of rfl rfl rfl rfl) (da_cons (de_ix (de_var 0 (pv 0)) de_int (fun _ _ => rfl)) (da_cons (de_b d_sum (call_sumA rfl) (by rfl) B.b_sum bo_sum (da_cons (de_call G_amounts_of (hr.mono (by decide)) (by rfl) C_amounts_of.g C_amounts_of.F.kp C_amounts_of.b (takes_of rfl rfl rfl rfl) (da_cons (de_var 0 (pv 0)) (da_cons (de_var 1 (pv 1)) da_nil))) da_nil)) da_nil)))))
theorem ok_with_more {f : Addr} {fd : FuncData} (B : Bl K mg) (F : Fun K "with_more" "with_more" s_with_more f fd) :
    FnOk P Wd.w K mg base (L2.CX P Wd.w) 1 f fd ["basket", "good", "pieces"] (spD K mg d_with_more) :=
  fn_ok F sc_with_more rfl rfl fun cdv A outer s H vs E env0 hr => by
    exact (dss_one (ds_ret (de_op op_addA d_add (de_op op_addA d_add (de_slice (de_var 0 (pv 0)) do_none (do_some (de_var 1 (pv 1)))) (de_tup (da_cons (de_op op_addA d_add (de_ix (de_var 0 (pv 0)) (de_var 1 (pv 1)) (fun _ _ => rfl)) (de_var 2 (pv 2))) da_nil))) (de_slice (de_var 0 (pv 0)) (do_some (de_op op_addA d_add (de_var 1 (pv 1)) de_int)) do_none))))
theorem ok_Till___init__ {cT : Addr} (CT : ClsT K cT) (CE : ClsE K cT) (gT : mg "Till" = some (.ref cT)) {f : Addr} {fd : FuncData} (B : Bl K mg) (F : Fun K "__init__" "Till.__init__" s_Till___init__ f fd)
    {a_check_shop : Addr} {e_check_shop : FuncData} (C_check_shop : Cd K mg "check_shop" s_check_shop ["shop"] a_check_shop e_check_shop) (G_check_shop : FnOk P Wd.w K mg base (L2.CX P Wd.w) 8 a_check_shop e_check_shop ["shop"] (spD K mg d_check_shop)) :
    FnOk P Wd.w K mg base (L2.CX P Wd.w) 9 f fd ["self", "shop"] (spInit K cT k_Till) :=
  fn_okI CT F sc_Till___init__ rfl rfl (fun a d d2 h => okOf_is a d d2 h) rfl fun cdv A outer s H m vs E hr => ⟨(ds_expr (de_call G_check_shop (hr.mono (by decide)) (by rfl) C_check_shop.g C_check_shop.F.kp C_check_shop.b (takes_of rfl rfl rfl rfl) (da_cons (de_var 1 (pv 1)) da_nil))), pv 0, (de_var 1 (pv 1)), pv 0, (de_op op_mulT d_mulT (de_tup (da_cons de_int da_nil)) (de_b d_len call_lenA (by rfl) B.b_len bo_len (da_cons (de_ix (de_var 1 (pv 1)) de_int (fun _ _ => rfl)) da_nil))), pv 0, rfl, rfl, rfl⟩
theorem ok_Till___eq__ {cT : Addr} (CT : ClsT K cT) (CE : ClsE K cT) (gT : mg "Till" = some (.ref cT)) {f : Addr} {fd : FuncData} (B : Bl K mg) (F : Fun K "__eq__" "Till.__eq__" s_Till___eq__ f fd) :
    FnOk P Wd.w K mg base (L2.CX P Wd.w) 1 f fd ["self", "other"] (spT K mg cT g_Till___eq__) :=
  fn_okT F sc_Till___eq__ rfl rfl fun cdv A outer s H m vs E hr => by
    exact (gss_one' (gs_ret (ge_and (he_isT CE (ge_vr (pv 1)) (by rfl) B.b_isinstance bo_isinstance (by rfl) gT) (ge_and (ge_cmp (op_eqA hr.units) d_eqA (he_fld CT (pv 0)) (he_fld CT (pv 1)) (nomark _)) (ge_one' (ge_cmp (op_eqA hr.units) d_eqA (he_fld CT (pv 0)) (he_fld CT (pv 1)) (nomark _)))))))
theorem ok_Till__check_good {cT : Addr} (CT : ClsT K cT) (CE : ClsE K cT) (gT : mg "Till" = some (.ref cT)) {f : Addr} {fd : FuncData} (B : Bl K mg) (F : Fun K "_check_good" "Till._check_good" s_Till__check_good f fd)
    {a_is_between : Addr} {e_is_between : FuncData} (C_is_between : Cd K mg "is_between" s_is_between ["value", "low", "high"] a_is_between e_is_between) (G_is_between : FnOk P Wd.w K mg base (L2.CX P Wd.w) 2 a_is_between e_is_between ["value", "low", "high"] (spD K mg d_is_between)) :
    FnOk P Wd.w K mg base (L2.CX P Wd.w) 3 f fd ["self", "good"] (spT K mg cT g_Till__check_good) :=
  fn_okT F sc_Till__check_good rfl rfl fun cdv A outer s H m vs E hr => by
    exact (gss_one' (gs_if (gt_not (gt_val (he_callD G_is_between (hr.mono (by decide)) (by rfl) C_is_between.g C_is_between.F.kp C_is_between.b (takes_of rfl rfl rfl rfl) (ga_cons (ge_lift (de_var 1 (pv 1))) (ga_cons (ge_lift de_int) (ga_cons (ge_op op_sub d_sub (ge_bi d_len call_lenA (by rfl) B.b_len bo_len (ga_cons (he_fld CT (pv 0)) ga_nil)) (ge_lift de_int)) ga_nil)))))) (gss_one' (gs_lift (ds_raise rfl (takes_of rfl rfl rfl rfl) B.k_InvalidNumber (by rfl)))) gss_nil'))
theorem ok_Till__step {cT : Addr} (CT : ClsT K cT) (CE : ClsE K cT) (gT : mg "Till" = some (.ref cT)) {f : Addr} {fd : FuncData} (B : Bl K mg) (F : Fun K "_step" "Till._step" s_Till__step f fd)
    {a_charge_of : Addr} {e_charge_of : FuncData} (C_charge_of : Cd K mg "charge_of" s_charge_of ["shop", "basket"] a_charge_of e_charge_of) (G_charge_of : FnOk P Wd.w K mg base (L2.CX P Wd.w) 6 a_charge_of e_charge_of ["shop", "basket"] (spD K mg d_charge_of)) :
    FnOk P Wd.w K mg base (L2.CX P Wd.w) 7 f fd ["self", "basket"] (spT K mg cT g_Till__step) :=
  fn_okT F sc_Till__step rfl rfl fun cdv A outer s H m vs E hr => by
    exact (gss_cons' (gs_set (i := 2) sc_Till__step.nd rfl (by first | exact .inl rfl | exact .inr rfl) (he_fld CT (pv 0)))
    (gss_cons' (gs_expr (he_app CT (pv 0) (pv 2)))
    (gss_cons' (gs_put CT (pv 0) (ge_lift (de_var 1 (pv 1))) (.inl rfl))
    (gss_one' (gs_ret (ge_op op_sub d_sub (he_callD G_charge_of (hr.mono (by decide)) (by rfl) C_charge_of.g C_charge_of.F.kp C_charge_of.b (takes_of rfl rfl rfl rfl) (ga_cons (he_fld CT (pv 0)) (ga_cons (ge_lift (de_var 1 (pv 1))) ga_nil))) (he_callD G_charge_of (hr.mono (by decide)) (by rfl) C_charge_of.g C_charge_of.F.kp C_charge_of.b (takes_of rfl rfl rfl rfl) (ga_cons (he_fld CT (pv 0)) (ga_cons (ge_lift (de_var 2 (pv 2))) ga_nil)))))))))
theorem ok_Till_put {cT : Addr} (CT : ClsT K cT) (CE : ClsE K cT) (gT : mg "Till" = some (.ref cT)) {f : Addr} {fd : FuncData} (B : Bl K mg) (F : Fun K "put" "Till.put" s_Till_put f fd)
    {a_with_more : Addr} {e_with_more : FuncData} (C_with_more : Cd K mg "with_more" s_with_more ["basket", "good", "pieces"] a_with_more e_with_more) (G_with_more : FnOk P Wd.w K mg base (L2.CX P Wd.w) 1 a_with_more e_with_more ["basket", "good", "pieces"] (spD K mg d_with_more))
    {a_Till__check_good : Addr} {e_Till__check_good : FuncData} (C_Till__check_good : CdG K cT "_check_good" "Till._check_good" s_Till__check_good ["self", "good"] a_Till__check_good e_Till__check_good) (G_Till__check_good : FnOk P Wd.w K mg base (L2.CX P Wd.w) 3 a_Till__check_good e_Till__check_good ["self", "good"] (spT K mg cT g_Till__check_good))
    {a_Till__step : Addr} {e_Till__step : FuncData} (C_Till__step : CdG K cT "_step" "Till._step" s_Till__step ["self", "basket"] a_Till__step e_Till__step) (G_Till__step : FnOk P Wd.w K mg base (L2.CX P Wd.w) 7 a_Till__step e_Till__step ["self", "basket"] (spT K mg cT g_Till__step)) :
    FnOk P Wd.w K mg base (L2.CX P Wd.w) 8 f fd ["self", "good"] (spT K mg cT g_Till_put) :=
  fn_okT F sc_Till_put rfl rfl fun cdv A outer s H m vs E hr => by
    exact (gss_cons' (gs_expr (he_meth (pv 0) CT C_Till__check_good.m G_Till__check_good (hr.mono (by decide)) C_Till__check_good.b (takes_of rfl rfl rfl rfl) (ga_cons (ge_lift (de_var 1 (pv 1))) ga_nil) (by decide +kernel)))
    (gss_one' (gs_ret (he_meth (pv 0) CT C_Till__step.m G_Till__step (hr.mono (by decide)) C_Till__step.b (takes_of rfl rfl rfl rfl) (ga_cons (he_callD G_with_more (hr.mono (by decide)) (by rfl) C_with_more.g C_with_more.F.kp C_with_more.b (takes_of rfl rfl rfl rfl) (ga_cons (he_fld CT (pv 0)) (ga_cons (ge_lift (de_var 1 (pv 1))) (ga_cons (ge_lift de_int) ga_nil)))) ga_nil) (by decide +kernel)))))
theorem ok_Till_take {cT : Addr} (CT : ClsT K cT) (CE : ClsE K cT) (gT : mg "Till" = some (.ref cT)) {f : Addr} {fd : FuncData} (B : Bl K mg) (F : Fun K "take" "Till.take" s_Till_take f fd)
    {a_with_more : Addr} {e_with_more : FuncData} (C_with_more : Cd K mg "with_more" s_with_more ["basket", "good", "pieces"] a_with_more e_with_more) (G_with_more : FnOk P Wd.w K mg base (L2.CX P Wd.w) 1 a_with_more e_with_more ["basket", "good", "pieces"] (spD K mg d_with_more))
    {a_Till__check_good : Addr} {e_Till__check_good : FuncData} (C_Till__check_good : CdG K cT "_check_good" "Till._check_good" s_Till__check_good ["self", "good"] a_Till__check_good e_Till__check_good) (G_Till__check_good : FnOk P Wd.w K mg base (L2.CX P Wd.w) 3 a_Till__check_good e_Till__check_good ["self", "good"] (spT K mg cT g_Till__check_good))
    {a_Till__step : Addr} {e_Till__step : FuncData} (C_Till__step : CdG K cT "_step" "Till._step" s_Till__step ["self", "basket"] a_Till__step e_Till__step) (G_Till__step : FnOk P Wd.w K mg base (L2.CX P Wd.w) 7 a_Till__step e_Till__step ["self", "basket"] (spT K mg cT g_Till__step)) :
    FnOk P Wd.w K mg base (L2.CX P Wd.w) 8 f fd ["self", "good"] (spT K mg cT g_Till_take) :=
  fn_okT F sc_Till_take rfl rfl fun cdv A outer s H m vs E hr => by
    exact (gss_cons' (gs_expr (he_meth (pv 0) CT C_Till__check_good.m G_Till__check_good (hr.mono (by decide)) C_Till__check_good.b (takes_of rfl rfl rfl rfl) (ga_cons (ge_lift (de_var 1 (pv 1))) ga_nil) (by decide +kernel)))
    (gss_cons' (gs_if (gt_cmp (op_eqA hr.units) d_eqA (ge_ix (he_fld CT (pv 0)) (ge_lift (de_var 1 (pv 1))) (fun _ _ => rfl)) (ge_lift de_int) (nomark _)) (gss_one' (gs_lift (ds_raise rfl (takes_of rfl rfl rfl rfl) B.k_NotThere (by rfl)))) gss_nil')
    (gss_one' (gs_ret (he_meth (pv 0) CT C_Till__step.m G_Till__step (hr.mono (by decide)) C_Till__step.b (takes_of rfl rfl rfl rfl) (ga_cons (he_callD G_with_more (hr.mono (by decide)) (by rfl) C_with_more.g C_with_more.F.kp C_with_more.b (takes_of rfl rfl rfl rfl) (ga_cons (he_fld CT (pv 0)) (ga_cons (ge_lift (de_var 1 (pv 1))) (ga_cons (ge_lift (de_un un_neg d_neg de_int)) ga_nil)))) ga_nil) (by decide +kernel))))))
theorem ok_Till_basket {cT : Addr} (CT : ClsT K cT) (CE : ClsE K cT) (gT : mg "Till" = some (.ref cT)) {f : Addr} {fd : FuncData} (B : Bl K mg) (F : Fun K "basket" "Till.basket" s_Till_basket f fd) :
    FnOk P Wd.w K mg base (L2.CX P Wd.w) 1 f fd ["self"] (spT K mg cT g_Till_basket) :=
  fn_okT F sc_Till_basket rfl rfl fun cdv A outer s H m vs E hr => by
    exact (gss_one' (gs_ret (he_fld CT (pv 0))))
theorem ok_Till_undo {cT : Addr} (CT : ClsT K cT) (CE : ClsE K cT) (gT : mg "Till" = some (.ref cT)) {f : Addr} {fd : FuncData} (B : Bl K mg) (F : Fun K "undo" "Till.undo" s_Till_undo f fd) :
    FnOk P Wd.w K mg base (L2.CX P Wd.w) 1 f fd ["self"] (spT K mg cT g_Till_undo) :=
  fn_okT F sc_Till_undo rfl rfl fun cdv A outer s H m vs E hr => by
    exact (gss_cons' (gs_if (gt_cmp (op_eqA hr.units) d_eqA (he_len CT (pv 0) (by rfl) B.b_len bo_len) (ge_lift de_int) (nomark _)) (gss_one' (gs_lift (ds_raise rfl (takes_of rfl rfl rfl rfl) B.k_NothingToUndo (by rfl)))) gss_nil')
    (gss_cons' (gs_put CT (pv 0) (he_pop CT (pv 0)) (.inl rfl))
    (gss_one' (gs_ret (he_fld CT (pv 0))))))
theorem ok_Till_duplicate {cT : Addr} (CT : ClsT K cT) (CE : ClsE K cT) (gT : mg "Till" = some (.ref cT)) {f : Addr} {fd : FuncData} (B : Bl K mg) (F : Fun K "duplicate" "Till.duplicate" s_Till_duplicate f fd)
    {a_Till___init__ : Addr} {e_Till___init__ : FuncData} (C_Till___init__ : CdM K mg "Till" "__init__" "Till.__init__" s_Till___init__ ["self", "shop"] cT a_Till___init__ e_Till___init__) (G_Till___init__ : FnOk P Wd.w K mg base (L2.CX P Wd.w) 9 a_Till___init__ e_Till___init__ ["self", "shop"] (spInit K cT k_Till)) :
    FnOk P Wd.w K mg base (L2.CX P Wd.w) 11 f fd ["self"] (spT K mg cT g_Till_duplicate) :=
  fn_okT F sc_Till_duplicate rfl rfl fun cdv A outer s H m vs E hr => by
    exact (gss_cons' (gs_set (i := 1) sc_Till_duplicate.nd rfl (by first | exact .inl rfl | exact .inr rfl) (he_make C_Till___init__.made G_Till___init__ (hr.mono (by decide)) (by rfl) C_Till___init__.g C_Till___init__.b (takes_of rfl rfl rfl rfl) (ga_cons (he_fld CT (pv 0)) ga_nil)))
    (gss_cons' (gs_put CT (pv 1) (he_fld CT (pv 0)) (.inl rfl))
    (gss_one' (gs_ret (ge_hd (pv 1))))))
theorem ok__law_cell_at {f : Addr} {fd : FuncData} (B : Bl K mg) (F : Fun K "_law_cell_at" "_law_cell_at" s__law_cell_at f fd) :
    FnOk P Wd.w K mg base (L2.CX P Wd.w) 1 f fd ["_law_script", "_law_k"] (spD K mg d__law_cell_at) :=
  fn_ok F sc__law_cell_at rfl rfl fun cdv A outer s H vs E env0 hr => by
    exact (dss_cons (ds_if (dt_cmp op_lt d_lt (de_var 1 (pv 1)) (de_b d_len call_lenA (by rfl) B.b_len bo_len (da_cons (de_var 0 (pv 0)) da_nil)) (nomark _)) (dss_one (ds_ret (de_ix (de_var 0 (pv 0)) (de_var 1 (pv 1)) (fun _ _ => rfl)))) dss_nil)
    (dss_cons (ds_if (dt_cmp (op_eqA hr.units) d_eqA (de_var 0 (pv 0)) (de_lst da_nil) (nomark _)) (dss_one (ds_ret de_int)) dss_nil)
    (dss_cons (ds_set (i := 2) sc__law_cell_at.nd rfl (by first | exact .inl rfl | exact .inr rfl) (de_ix (de_var 0 (pv 0)) (de_op op_mod d_mod (de_var 1 (pv 1)) (de_b d_len call_lenA (by rfl) B.b_len bo_len (da_cons (de_var 0 (pv 0)) da_nil))) (fun _ _ => rfl)))
    (dss_cons (ds_for (passes_of rfl) rfl (di_range1 (by rfl) B.b_range (da_cons (de_b d_min2 (call_min2 rfl) (by rfl) B.b_min bo_min (da_cons (de_op op_fdiv d_fdiv (de_var 1 (pv 1)) (de_b d_len call_lenA (by rfl) B.b_len bo_len (da_cons (de_var 0 (pv 0)) da_nil))) (da_cons de_int da_nil))) da_nil)) (dg_name (pg_name (i := 3) sc__law_cell_at.nd rfl (by first | exact .inl rfl | exact .inr rfl))) (dss_one (ds_set (i := 2) sc__law_cell_at.nd rfl (by first | exact .inl rfl | exact .inr rfl) (de_op op_fdiv d_fdiv (de_var 2 (pv 2)) de_int))))
    (dss_one (ds_ret (de_op op_addA d_add (de_op op_addA d_add (de_op op_mulA d_mulA (de_ix (de_var 0 (pv 0)) (de_op op_mod d_mod (de_var 1 (pv 1)) (de_b d_len call_lenA (by rfl) B.b_len bo_len (da_cons (de_var 0 (pv 0)) da_nil))) (fun _ _ => rfl)) de_int) (de_var 1 (pv 1))) (de_op op_mulA d_mulA (de_var 2 (pv 2)) de_int))))))))
theorem ok__law_mixed {f : Addr} {fd : FuncData} (B : Bl K mg) (F : Fun K "_law_mixed" "_law_mixed" s__law_mixed f fd)
    {a__law_cell_at : Addr} {e__law_cell_at : FuncData} (C__law_cell_at : Cd K mg "_law_cell_at" s__law_cell_at ["_law_script", "_law_k"] a__law_cell_at e__law_cell_at) (G__law_cell_at : FnOk P Wd.w K mg base (L2.CX P Wd.w) 1 a__law_cell_at e__law_cell_at ["_law_script", "_law_k"] (spD K mg d__law_cell_at)) :
    FnOk P Wd.w K mg base (L2.CX P Wd.w) 2 f fd ["_law_script", "_law_k", "_law_many"] (spD K mg d__law_mixed) :=
  fn_ok F sc__law_mixed rfl rfl fun cdv A outer s H vs E env0 hr => by
    exact (dss_cons (ds_set (i := 3) sc__law_mixed.nd rfl (by first | exact .inl rfl | exact .inr rfl) (de_op op_mod d_mod (de_op op_addA d_add (de_op op_addA d_add (de_op op_mulA d_mulA (de_call G__law_cell_at (hr.mono (by decide)) (by rfl) C__law_cell_at.g C__law_cell_at.F.kp C__law_cell_at.b (takes_of rfl rfl rfl rfl) (da_cons (de_var 0 (pv 0)) (da_cons (de_var 1 (pv 1)) da_nil))) de_int) (de_op op_mulA d_mulA de_int (de_var 1 (pv 1)))) de_int) de_int))
    (dss_one (ds_ret (de_op op_mod d_mod (de_op op_mod d_mod (de_op op_mod d_mod (de_op op_pow d_pow (de_var 3 (pv 3)) de_int) de_int) de_int) (de_var 2 (pv 2))))))
theorem ok__law_draw {f : Addr} {fd : FuncData} (B : Bl K mg) (F : Fun K "_law_draw" "_law_draw" s__law_draw f fd)
    {a__law_mixed : Addr} {e__law_mixed : FuncData} (C__law_mixed : Cd K mg "_law_mixed" s__law_mixed ["_law_script", "_law_k", "_law_many"] a__law_mixed e__law_mixed) (G__law_mixed : FnOk P Wd.w K mg base (L2.CX P Wd.w) 2 a__law_mixed e__law_mixed ["_law_script", "_law_k", "_law_many"] (spD K mg d__law_mixed)) :
    FnOk P Wd.w K mg base (L2.CX P Wd.w) 3 f fd ["_law_script", "_law_state", "_law_many"] (spD K mg d__law_draw) :=
  fn_ok F sc__law_draw rfl rfl fun cdv A outer s H vs E env0 hr => by
    exact (dss_cons (ds_expr (de_met m_app PySem.F.slot_list_append PySem.F.type_list_append mt_append (de_var 1 (pv 1)) (da_cons de_int da_nil)))
    (dss_one (ds_ret (de_call G__law_mixed (hr.mono (by decide)) (by rfl) C__law_mixed.g C__law_mixed.F.kp C__law_mixed.b (takes_of rfl rfl rfl rfl) (da_cons (de_var 0 (pv 0)) (da_cons (de_b d_len call_lenA (by rfl) B.b_len bo_len (da_cons (de_var 1 (pv 1)) da_nil)) (da_cons (de_var 2 (pv 2)) da_nil)))))))
theorem ok__law_which {P0 : Addr} {cs : List Addr} (XS : Exn K mg P0 cs) {f : Addr} {fd : FuncData} (B : Bl K mg) (F : Fun K "_law_which" "_law_which" s__law_which f fd) :
    FnX P Wd.w K mg base (L2.CX P Wd.w) 1 f fd ["_law_e"] (spWhich cs) := by
  obtain ⟨oc, od, kV, doc, pm, an, cdv, ct, osl, rfl, lk, hcd⟩ := F.ex
  refine fn_ofX lk hcd sc__law_which spWhich_len fun A outer s H vs Q E p hr hsp => ?_
  obtain ⟨rfl, C, j, hj, hz, hfd, q⟩ := hsp
  have hu : (A.deeper (PyProof.Rows.envOfC "_law_which" (defScope s__law_which) s.heap.objs.size f cdv)).units + 65 < cLine := by have := hr.un; omega
  obtain ⟨c0, h0, g0, f0⟩ := XS.xs.get (j := 0) (x := "InvalidShop") rfl
  obtain ⟨c1, h1, g1, f1⟩ := XS.xs.get (j := 1) (x := "InvalidBasket") rfl
  obtain ⟨c2, h2, g2, f2⟩ := XS.xs.get (j := 2) (x := "InvalidActs") rfl
  obtain ⟨c3, h3, g3, f3⟩ := XS.xs.get (j := 3) (x := "InvalidAct") rfl
  obtain ⟨c4, h4, g4, f4⟩ := XS.xs.get (j := 4) (x := "InvalidOffers") rfl
  obtain ⟨c5, h5, g5, f5⟩ := XS.xs.get (j := 5) (x := "InvalidKinds") rfl
  obtain ⟨c6, h6, g6, f6⟩ := XS.xs.get (j := 6) (x := "InvalidNumber") rfl
  obtain ⟨c7, h7, g7, f7⟩ := XS.xs.get (j := 7) (x := "Different") rfl
  obtain ⟨c8, h8, g8, f8⟩ := XS.xs.get (j := 8) (x := "NoFault") rfl
  obtain ⟨c9, h9, g9, f9⟩ := XS.xs.get (j := 9) (x := "NotThere") rfl
  obtain ⟨c10, h10, g10, f10⟩ := XS.xs.get (j := 10) (x := "NothingToUndo") rfl
  obtain ⟨c11, h11, g11, f11⟩ := XS.xs.get (j := 11) (x := "ParseError") rfl
  have fC : XF K P0 C := XS.at hj
  have k0 := XS.kit hj h0 fC f0
  have k1 := XS.kit hj h1 fC f1
  have k2 := XS.kit hj h2 fC f2
  have k3 := XS.kit hj h3 fC f3
  have k4 := XS.kit hj h4 fC f4
  have k5 := XS.kit hj h5 fC f5
  have k6 := XS.kit hj h6 fC f6
  have k7 := XS.kit hj h7 fC f7
  have k8 := XS.kit hj h8 fC f8
  have k9 := XS.kit hj h9 fC f9
  have k10 := XS.kit hj h10 fC f10
  have k11 := XS.kit hj h11 fC f11
  have hcall := call_isX (X := L2H.cxH (L2.CX P Wd.w) P Wd.w K mg base ["_law_e", "_law_own"] "_law_which" (defScope s__law_which) f cdv A outer s H E p) (a := p.1) (oe := p.2) (List.mem_singleton.mpr rfl) (XS.excC fC) hz hfd
  refine ⟨_, pss_cons (ps_set (i := 1) sc__law_which.nd rfl (.inl rfl) (pe_lst (pa_cons (pe_callB hcall (by rfl) B.b_isinstance bo_isinstance (pa_cons (pv 0) (pa_cons (pe_glob (by rfl) g0 rel_me) pa_nil))) (pa_cons (pe_callB hcall (by rfl) B.b_isinstance bo_isinstance (pa_cons (pv 0) (pa_cons (pe_glob (by rfl) g1 rel_me) pa_nil))) (pa_cons (pe_callB hcall (by rfl) B.b_isinstance bo_isinstance (pa_cons (pv 0) (pa_cons (pe_glob (by rfl) g2 rel_me) pa_nil))) pa_nil)))))
    (pss_cons (ps_expr (pe_bm PySem.F.plainAttrs_list PySem.F.slot_list_extend PySem.F.type_list_extend mt_extend (pv 1) (pa_cons (pe_lst (pa_cons (pe_callB hcall (by rfl) B.b_isinstance bo_isinstance (pa_cons (pv 0) (pa_cons (pe_glob (by rfl) g3 rel_me) pa_nil))) (pa_cons (pe_callB hcall (by rfl) B.b_isinstance bo_isinstance (pa_cons (pv 0) (pa_cons (pe_glob (by rfl) g4 rel_me) pa_nil))) (pa_cons (pe_callB hcall (by rfl) B.b_isinstance bo_isinstance (pa_cons (pv 0) (pa_cons (pe_glob (by rfl) g5 rel_me) pa_nil))) pa_nil)))) pa_nil)))
    (pss_cons (ps_expr (pe_bm PySem.F.plainAttrs_list PySem.F.slot_list_extend PySem.F.type_list_extend mt_extend (pv 1) (pa_cons (pe_lst (pa_cons (pe_callB hcall (by rfl) B.b_isinstance bo_isinstance (pa_cons (pv 0) (pa_cons (pe_glob (by rfl) g6 rel_me) pa_nil))) (pa_cons (pe_callB hcall (by rfl) B.b_isinstance bo_isinstance (pa_cons (pv 0) (pa_cons (pe_glob (by rfl) g7 rel_me) pa_nil))) (pa_cons (pe_callB hcall (by rfl) B.b_isinstance bo_isinstance (pa_cons (pv 0) (pa_cons (pe_glob (by rfl) g8 rel_me) pa_nil))) pa_nil)))) pa_nil)))
    (pss_cons (ps_expr (pe_bm PySem.F.plainAttrs_list PySem.F.slot_list_extend PySem.F.type_list_extend mt_extend (pv 1) (pa_cons (pe_lst (pa_cons (pe_callB hcall (by rfl) B.b_isinstance bo_isinstance (pa_cons (pv 0) (pa_cons (pe_glob (by rfl) g9 rel_me) pa_nil))) (pa_cons (pe_callB hcall (by rfl) B.b_isinstance bo_isinstance (pa_cons (pv 0) (pa_cons (pe_glob (by rfl) g10 rel_me) pa_nil))) (pa_cons (pe_callB hcall (by rfl) B.b_isinstance bo_isinstance (pa_cons (pv 0) (pa_cons (pe_glob (by rfl) g11 rel_me) pa_nil))) pa_nil)))) pa_nil)))
    (pss_cons (ps_if (PW.pt (pw_or (pt_cmpR op_ne (pe_bm PySem.F.plainAttrs_list PySem.F.slot_list_count PySem.F.type_list_count (mt_countD hu) (pv 1) (pa_cons pe_bl pa_nil)) pe_int (nomark _)) (pw_or1 (pt_not (pt_val (pe_callB hcall (by rfl) B.b_isinstance bo_isinstance (pa_cons (pv 0) (pa_cons (pe_bltn (v := .ty "ValueError") (by rfl) B.b_ValueError bo_ValueError rfl) pa_nil)))))))) (pss_one (ps_ret (pe_tup (pa_cons pe_str (pa_cons (pe_un un_neg pe_int) pa_nil))))) pss_nil)
    (pss_one (ps_ret (pe_tup (pa_cons pe_str (pa_cons (pe_bm PySem.F.plainAttrs_list PySem.F.slot_list_index PySem.F.type_list_index (mt_indexD hu) (pv 1) (pa_cons pe_bl pa_nil)) pa_nil))))))))), ?_⟩
  exact which_reading (XS.len ▸ (List.getElem?_eq_some_iff.mp hj).1) k0 k1 k2 k3 k4 k5 k6 k7 k8 k9 k10 k11 (XS.kitV fC) q
theorem ok__law_pick {f : Addr} {fd : FuncData} (B : Bl K mg) (F : Fun K "_law_pick" "_law_pick" s__law_pick f fd)
    {a__law_draw : Addr} {e__law_draw : FuncData} (C__law_draw : Cd K mg "_law_draw" s__law_draw ["_law_script", "_law_state", "_law_many"] a__law_draw e__law_draw) (G__law_draw : FnOk P Wd.w K mg base (L2.CX P Wd.w) 3 a__law_draw e__law_draw ["_law_script", "_law_state", "_law_many"] (spD K mg d__law_draw)) :
    FnOk P Wd.w K mg base (L2.CX P Wd.w) 4 f fd ["_law_script", "_law_state", "_law_some"] (spD K mg d__law_pick) :=
  fn_ok F sc__law_pick rfl rfl fun cdv A outer s H vs E env0 hr => by
    exact (dss_one (ds_ret (de_ix (de_var 2 (pv 2)) (de_callI 1 G__law_draw (hr.mono (by decide)) (by rfl) C__law_draw.g C__law_draw.F.kp C__law_draw.b (takes_of rfl rfl rfl rfl) (da_cons (de_var 0 (pv 0)) (da_cons (de_var 1 (pv 1)) (da_cons (de_b d_len call_lenA (by rfl) B.b_len bo_len (da_cons (de_var 2 (pv 2)) da_nil)) da_nil)))) (fun _ _ => rfl))))
theorem ok__law_some_rule {f : Addr} {fd : FuncData} (B : Bl K mg) (F : Fun K "_law_some_rule" "_law_some_rule" s__law_some_rule f fd)
    {a__law_draw : Addr} {e__law_draw : FuncData} (C__law_draw : Cd K mg "_law_draw" s__law_draw ["_law_script", "_law_state", "_law_many"] a__law_draw e__law_draw) (G__law_draw : FnOk P Wd.w K mg base (L2.CX P Wd.w) 3 a__law_draw e__law_draw ["_law_script", "_law_state", "_law_many"] (spD K mg d__law_draw))
    {a__law_pick : Addr} {e__law_pick : FuncData} (C__law_pick : Cd K mg "_law_pick" s__law_pick ["_law_script", "_law_state", "_law_some"] a__law_pick e__law_pick) (G__law_pick : FnOk P Wd.w K mg base (L2.CX P Wd.w) 4 a__law_pick e__law_pick ["_law_script", "_law_state", "_law_some"] (spD K mg d__law_pick)) :
    FnOk P Wd.w K mg base (L2.CX P Wd.w) 5 f fd ["_law_script", "_law_state", "_law_goods", "_law_capped"] (spD K mg d__law_some_rule) :=
  fn_ok F sc__law_some_rule rfl rfl fun cdv A outer s H vs E env0 hr => by
    exact (dss_cons (ds_set (i := 4) sc__law_some_rule.nd rfl (by first | exact .inl rfl | exact .inr rfl) (de_callI 1 G__law_draw (hr.mono (by decide)) (by rfl) C__law_draw.g C__law_draw.F.kp C__law_draw.b (takes_of rfl rfl rfl rfl) (da_cons (de_var 0 (pv 0)) (da_cons (de_var 1 (pv 1)) (da_cons de_int da_nil)))))
    (dss_cons (ds_set (i := 5) sc__law_some_rule.nd rfl (by first | exact .inl rfl | exact .inr rfl) (de_callI 1 G__law_draw (hr.mono (by decide)) (by rfl) C__law_draw.g C__law_draw.F.kp C__law_draw.b (takes_of rfl rfl rfl rfl) (da_cons (de_var 0 (pv 0)) (da_cons (de_var 1 (pv 1)) (da_cons (de_b d_len call_lenA (by rfl) B.b_len bo_len (da_cons (de_var 2 (pv 2)) da_nil)) da_nil)))))
    (dss_cons (ds_set (i := 6) sc__law_some_rule.nd rfl (by first | exact .inl rfl | exact .inr rfl) (de_ix (de_ix (de_var 2 (pv 2)) (de_var 5 (pv 5)) (fun _ _ => rfl)) de_int (fun _ _ => rfl)))
    (dss_cons (ds_if (dt_cmp op_lt d_lt (de_var 4 (pv 4)) de_int (nomark _)) (dss_cons (ds_set (i := 9) sc__law_some_rule.nd rfl (by first | exact .inl rfl | exact .inr rfl) (de_op op_addA d_add de_int (de_callI 1 G__law_draw (hr.mono (by decide)) (by rfl) C__law_draw.g C__law_draw.F.kp C__law_draw.b (takes_of rfl rfl rfl rfl) (da_cons (de_var 0 (pv 0)) (da_cons (de_var 1 (pv 1)) (da_cons de_int da_nil))))))
    (dss_cons (ds_set (i := 10) sc__law_some_rule.nd rfl (by first | exact .inl rfl | exact .inr rfl) (de_b d_max2 (call_max2 rfl) (by rfl) B.b_max bo_max (da_cons (de_var 9 (pv 9)) (da_cons (de_op op_sub d_sub (de_op op_mulA d_mulA (de_var 9 (pv 9)) (de_var 6 (pv 6))) (de_callI 1 G__law_draw (hr.mono (by decide)) (by rfl) C__law_draw.g C__law_draw.F.kp C__law_draw.b (takes_of rfl rfl rfl rfl) (da_cons (de_var 0 (pv 0)) (da_cons (de_var 1 (pv 1)) (da_cons (de_op op_addA d_add (de_op op_mulA d_mulA de_int (de_var 9 (pv 9))) de_int) da_nil))))) da_nil))))
    (dss_one (ds_ret (de_tup (da_cons de_str (da_cons (de_var 5 (pv 5)) (da_cons (de_var 9 (pv 9)) (da_cons (de_var 10 (pv 10)) (da_cons (de_callI 1 G__law_pick (hr.mono (by decide)) (by rfl) C__law_pick.g C__law_pick.F.kp C__law_pick.b (takes_of rfl rfl rfl rfl) (da_cons (de_var 0 (pv 0)) (da_cons (de_var 1 (pv 1)) (da_cons (de_tup (da_cons de_non (da_cons de_non (da_cons de_int (da_cons de_int da_nil))))) da_nil)))) da_nil)))))))))) dss_nil)
    (dss_cons (ds_if (dt_cmp (op_eqA hr.units) d_eqA (de_var 4 (pv 4)) de_int (nomark _)) (dss_one (ds_ret (de_tup (da_cons de_str (da_cons (de_var 5 (pv 5)) (da_cons (de_op op_addA d_add de_int (de_callI 1 G__law_draw (hr.mono (by decide)) (by rfl) C__law_draw.g C__law_draw.F.kp C__law_draw.b (takes_of rfl rfl rfl rfl) (da_cons (de_var 0 (pv 0)) (da_cons (de_var 1 (pv 1)) (da_cons de_int da_nil))))) (da_cons (de_b d_max2 (call_max2 rfl) (by rfl) B.b_max bo_max (da_cons de_int (da_cons (de_op op_sub d_sub (de_var 6 (pv 6)) (de_callI 1 G__law_draw (hr.mono (by decide)) (by rfl) C__law_draw.g C__law_draw.F.kp C__law_draw.b (takes_of rfl rfl rfl rfl) (da_cons (de_var 0 (pv 0)) (da_cons (de_var 1 (pv 1)) (da_cons de_int da_nil))))) da_nil))) da_nil))))))) dss_nil)
    (dss_cons (ds_if (dt_cmp (op_eqA hr.units) d_eqA (de_var 4 (pv 4)) de_int (nomark _)) (dss_cons (ds_set (i := 7) sc__law_some_rule.nd rfl (by first | exact .inl rfl | exact .inr rfl) (de_op op_addA d_add de_int (de_callI 1 G__law_draw (hr.mono (by decide)) (by rfl) C__law_draw.g C__law_draw.F.kp C__law_draw.b (takes_of rfl rfl rfl rfl) (da_cons (de_var 0 (pv 0)) (da_cons (de_var 1 (pv 1)) (da_cons de_int da_nil))))))
    (dss_one (ds_ret (de_tup (da_cons de_str (da_cons (de_var 7 (pv 7)) (da_cons (de_op op_addA d_add de_int (de_callI 1 G__law_draw (hr.mono (by decide)) (by rfl) C__law_draw.g C__law_draw.F.kp C__law_draw.b (takes_of rfl rfl rfl rfl) (da_cons (de_var 0 (pv 0)) (da_cons (de_var 1 (pv 1)) (da_cons de_int da_nil))))) da_nil))))))) dss_nil)
    (dss_cons (ds_set (i := 7) sc__law_some_rule.nd rfl (by first | exact .inl rfl | exact .inr rfl) (de_op op_addA d_add de_int (de_callI 1 G__law_draw (hr.mono (by decide)) (by rfl) C__law_draw.g C__law_draw.F.kp C__law_draw.b (takes_of rfl rfl rfl rfl) (da_cons (de_var 0 (pv 0)) (da_cons (de_var 1 (pv 1)) (da_cons de_int da_nil))))))
    (dss_cons (ds_set (i := 8) sc__law_some_rule.nd rfl (by first | exact .inl rfl | exact .inr rfl) (de_callI 1 G__law_pick (hr.mono (by decide)) (by rfl) C__law_pick.g C__law_pick.F.kp C__law_pick.b (takes_of rfl rfl rfl rfl) (da_cons (de_var 0 (pv 0)) (da_cons (de_var 1 (pv 1)) (da_cons (de_if (dt_val (de_var 3 (pv 3))) (de_tup (da_cons de_int (da_cons de_int da_nil))) (de_tup (da_cons de_non (da_cons de_non (da_cons de_int (da_cons de_int da_nil)))))) da_nil)))))
    (dss_one (ds_ret (de_tup (da_cons de_str (da_cons (de_var 7 (pv 7)) (da_cons (de_op op_addA d_add de_int (de_callI 1 G__law_draw (hr.mono (by decide)) (by rfl) C__law_draw.g C__law_draw.F.kp C__law_draw.b (takes_of rfl rfl rfl rfl) (da_cons (de_var 0 (pv 0)) (da_cons (de_var 1 (pv 1)) (da_cons (de_op op_fdiv d_fdiv (de_var 7 (pv 7)) de_int) da_nil))))) (da_cons (de_var 8 (pv 8)) da_nil)))))))))))))))
theorem ok__law_some_goods {f : Addr} {fd : FuncData} (B : Bl K mg) (F : Fun K "_law_some_goods" "_law_some_goods" s__law_some_goods f fd)
    {a__law_draw : Addr} {e__law_draw : FuncData} (C__law_draw : Cd K mg "_law_draw" s__law_draw ["_law_script", "_law_state", "_law_many"] a__law_draw e__law_draw) (G__law_draw : FnOk P Wd.w K mg base (L2.CX P Wd.w) 3 a__law_draw e__law_draw ["_law_script", "_law_state", "_law_many"] (spD K mg d__law_draw)) :
    FnOk P Wd.w K mg base (L2.CX P Wd.w) 4 f fd ["_law_script", "_law_state"] (spD K mg d__law_some_goods) :=
  fn_ok F sc__law_some_goods rfl rfl fun cdv A outer s H vs E env0 hr => by
    exact (dss_cons (ds_set (i := 2) sc__law_some_goods.nd rfl (by first | exact .inl rfl | exact .inr rfl) (de_if (dt_cmp (op_eqA hr.units) d_eqA (de_callI 1 G__law_draw (hr.mono (by decide)) (by rfl) C__law_draw.g C__law_draw.F.kp C__law_draw.b (takes_of rfl rfl rfl rfl) (da_cons (de_var 0 (pv 0)) (da_cons (de_var 1 (pv 1)) (da_cons de_int da_nil)))) de_int (nomark _)) de_int de_int))
    (dss_one (ds_ret (de_ty d_tuple call_tuple_of (by rfl) B.b_tuple bo_tuple (da_cons (de_lc (own := [("_law_again", 3)]) (t := (.one 3)) rfl sc__law_some_goods.nd (di_range1 (by rfl) B.b_range (da_cons (de_var 2 (pv 2)) da_nil)) (blkOk_by (own := [("_law_again", 3)]) (N := ["_law_script", "_law_state", "_law_count", "_law_again"]) (sc := defScope s__law_some_goods) (by first | decide +kernel | (dsimp only [Cx.blk, compEnvC]; rw [relabel_is]; dsimp only [cxOf, PyProof.Rows.envOfC]; decide +kernel))) (fun _ _ _ _ _ => (pg_name (i := 3) sc__law_some_goods.nd rfl (by first | exact .inl rfl | exact .inr rfl))) (fun _ _ _ _ _ => dts_nil) (fun _ _ _ _ _ => (de_tup (da_cons (de_op op_addA d_add de_int (de_callI 1 G__law_draw (hr.mono (by decide)) (by rfl) C__law_draw.g C__law_draw.F.kp C__law_draw.b takes0 (da_cons (de_var 0 (pv 0)) (da_cons (de_var 1 (pv 1)) (da_cons de_int da_nil))))) (da_cons (de_callI 1 G__law_draw (hr.mono (by decide)) (by rfl) C__law_draw.g C__law_draw.F.kp C__law_draw.b takes0 (da_cons (de_var 0 (pv 0)) (da_cons (de_var 1 (pv 1)) (da_cons de_int da_nil)))) da_nil)))) (by simp [CT.ins])) da_nil)))))
theorem ok__law_some_shop {f : Addr} {fd : FuncData} (B : Bl K mg) (F : Fun K "_law_some_shop" "_law_some_shop" s__law_some_shop f fd)
    {a__law_some_goods : Addr} {e__law_some_goods : FuncData} (C__law_some_goods : Cd K mg "_law_some_goods" s__law_some_goods ["_law_script", "_law_state"] a__law_some_goods e__law_some_goods) (G__law_some_goods : FnOk P Wd.w K mg base (L2.CX P Wd.w) 4 a__law_some_goods e__law_some_goods ["_law_script", "_law_state"] (spD K mg d__law_some_goods))
    {a__law_draw : Addr} {e__law_draw : FuncData} (C__law_draw : Cd K mg "_law_draw" s__law_draw ["_law_script", "_law_state", "_law_many"] a__law_draw e__law_draw) (G__law_draw : FnOk P Wd.w K mg base (L2.CX P Wd.w) 3 a__law_draw e__law_draw ["_law_script", "_law_state", "_law_many"] (spD K mg d__law_draw))
    {a__law_some_rule : Addr} {e__law_some_rule : FuncData} (C__law_some_rule : Cd K mg "_law_some_rule" s__law_some_rule ["_law_script", "_law_state", "_law_goods", "_law_capped"] a__law_some_rule e__law_some_rule) (G__law_some_rule : FnOk P Wd.w K mg base (L2.CX P Wd.w) 5 a__law_some_rule e__law_some_rule ["_law_script", "_law_state", "_law_goods", "_law_capped"] (spD K mg d__law_some_rule)) :
    FnOk P Wd.w K mg base (L2.CX P Wd.w) 6 f fd ["_law_script", "_law_state"] (spD K mg d__law_some_shop) :=
  fn_ok F sc__law_some_shop rfl rfl fun cdv A outer s H vs E env0 hr => by
    exact (dss_cons (ds_par (i := 3) (j := 4) rfl sc__law_some_shop.nd rfl rfl (by decide) rfl rfl (da_cons (de_callI 1 G__law_some_goods (hr.mono (by decide)) (by rfl) C__law_some_goods.g C__law_some_goods.F.kp C__law_some_goods.b (takes_of rfl rfl rfl rfl) (da_cons (de_var 0 (pv 0)) (da_cons (de_var 1 (pv 1)) da_nil))) (da_cons (de_lst da_nil) da_nil)))
    (dss_cons (ds_for (passes_of rfl) rfl (di_range1 (by rfl) B.b_range (da_cons (de_callI 1 G__law_draw (hr.mono (by decide)) (by rfl) C__law_draw.g C__law_draw.F.kp C__law_draw.b (takes_of rfl rfl rfl rfl) (da_cons (de_var 0 (pv 0)) (da_cons (de_var 1 (pv 1)) (da_cons de_int da_nil)))) da_nil)) (dg_name (pg_name (i := 2) sc__law_some_shop.nd rfl (by first | exact .inl rfl | exact .inr rfl))) (dss_cons (ds_set (i := 5) sc__law_some_shop.nd rfl (by first | exact .inl rfl | exact .inr rfl) (de_b d_any (cr_any rfl) (by rfl) B.b_any bo_any (da_cons (de_lc (own := [("_law_rule", 6)]) (t := (.one 6)) rfl sc__law_some_shop.nd (di_list false (de_var 4 (pv 4))) (blkOk_by (own := [("_law_rule", 6)]) (N := ["_law_script", "_law_state", "_law_again", "_law_goods", "_law_rules", "_law_capped", "_law_rule"]) (sc := defScope s__law_some_shop) (by first | decide +kernel | (dsimp only [Cx.blk, compEnvC]; rw [relabel_is]; dsimp only [cxOf, PyProof.Rows.envOfC]; decide +kernel))) (fun _ _ _ _ _ => (pg_name (i := 6) sc__law_some_shop.nd rfl (by first | exact .inl rfl | exact .inr rfl))) (fun _ _ _ _ _ => dts_nil) (fun _ _ _ _ _ => (de_and (de_cmp (op_eqA hr.units) d_eqA (de_ix (de_var 6 (pv 6)) de_int (fun _ _ => rfl)) de_str (nomark _)) (de_one (de_cmp op_is d_is (de_ix (de_var 6 (pv 6)) de_int (fun _ _ => rfl)) de_non (nomark _))))) (by simp [CT.ins])) da_nil)))
    (dss_one (ds_expr (de_met m_app PySem.F.slot_list_append PySem.F.type_list_append mt_append (de_var 4 (pv 4)) (da_cons (de_callI 1 G__law_some_rule (hr.mono (by decide)) (by rfl) C__law_some_rule.g C__law_some_rule.F.kp C__law_some_rule.b (takes_of rfl rfl rfl rfl) (da_cons (de_var 0 (pv 0)) (da_cons (de_var 1 (pv 1)) (da_cons (de_var 3 (pv 3)) (da_cons (de_var 5 (pv 5)) da_nil))))) da_nil))))))
    (dss_one (ds_ret (de_tup (da_cons (de_var 3 (pv 3)) (da_cons (de_ty d_tuple call_tuple_of (by rfl) B.b_tuple bo_tuple (da_cons (de_var 4 (pv 4)) da_nil)) da_nil)))))))
theorem ok__law_undo {P0 : Addr} {cs : List Addr} (XS : Exn K mg P0 cs) {cT : Addr} (CT : ClsT K cT) (CE : ClsE K cT) (gT : mg "Till" = some (.ref cT)) {f : Addr} {fd : FuncData} (B : Bl K mg) (F : Fun K "_law_undo" "_law_undo" s__law_undo f fd)
    {a__law_which : Addr} {e__law_which : FuncData} (C__law_which : Cd K mg "_law_which" s__law_which ["_law_e"] a__law_which e__law_which) (G__law_which : FnX P Wd.w K mg base (L2.CX P Wd.w) 1 a__law_which e__law_which ["_law_e"] (spWhich cs))
    {a_Till_undo : Addr} {e_Till_undo : FuncData} (C_Till_undo : CdG K cT "undo" "Till.undo" s_Till_undo ["self"] a_Till_undo e_Till_undo) (G_Till_undo : FnOk P Wd.w K mg base (L2.CX P Wd.w) 1 a_Till_undo e_Till_undo ["self"] (spT K mg cT g_Till_undo)) :
    FnOk P Wd.w K mg base (L2.CX P Wd.w) 2 f fd ["_law_till"] (spT K mg cT g__law_undo) :=
  fn_okT F sc__law_undo rfl rfl fun cdv A outer s H m vs E hr => by
    exact (gss_one' (gs_try (i := 1) G__law_which (L2H.roomH_of (hr.mono (by decide))) (by rfl) C__law_which.g C__law_which.F.kp C__law_which.b XS (by rfl) rfl rfl sc__law_undo.nd rfl rfl (by first | exact Or.inl rfl | exact Or.inr (Or.inl rfl)) (by decide) (by decide) (takes_of rfl rfl rfl rfl) rfl (fun W pn xe tk po => (gss_one' (gs_ret (he_meth0 (pv 0) CT C_Till_undo.m G_Till_undo (hr.mono (by decide)) C_Till_undo.b tk (by decide +kernel)))))))
theorem ok_law {cT : Addr} (CT : ClsT K cT) (CE : ClsE K cT) (gT : mg "Till" = some (.ref cT)) {f : Addr} {fd : FuncData} (B : Bl K mg) (F : Fun K "law" "law" s_law f fd)
    {a__law_some_shop : Addr} {e__law_some_shop : FuncData} (C__law_some_shop : Cd K mg "_law_some_shop" s__law_some_shop ["_law_script", "_law_state"] a__law_some_shop e__law_some_shop) (G__law_some_shop : FnOk P Wd.w K mg base (L2.CX P Wd.w) 6 a__law_some_shop e__law_some_shop ["_law_script", "_law_state"] (spD K mg d__law_some_shop))
    {a__law_draw : Addr} {e__law_draw : FuncData} (C__law_draw : Cd K mg "_law_draw" s__law_draw ["_law_script", "_law_state", "_law_many"] a__law_draw e__law_draw) (G__law_draw : FnOk P Wd.w K mg base (L2.CX P Wd.w) 3 a__law_draw e__law_draw ["_law_script", "_law_state", "_law_many"] (spD K mg d__law_draw))
    {a__law_undo : Addr} {e__law_undo : FuncData} (C__law_undo : Cd K mg "_law_undo" s__law_undo ["_law_till"] a__law_undo e__law_undo) (G__law_undo : FnOk P Wd.w K mg base (L2.CX P Wd.w) 2 a__law_undo e__law_undo ["_law_till"] (spT K mg cT g__law_undo))
    {a_Till_put : Addr} {e_Till_put : FuncData} (C_Till_put : CdG K cT "put" "Till.put" s_Till_put ["self", "good"] a_Till_put e_Till_put) (G_Till_put : FnOk P Wd.w K mg base (L2.CX P Wd.w) 8 a_Till_put e_Till_put ["self", "good"] (spT K mg cT g_Till_put))
    {a_Till___eq__ : Addr} {e_Till___eq__ : FuncData} (C_Till___eq__ : CdG K cT "__eq__" "Till.__eq__" s_Till___eq__ ["self", "other"] a_Till___eq__ e_Till___eq__) (G_Till___eq__ : FnOk P Wd.w K mg base (L2.CX P Wd.w) 1 a_Till___eq__ e_Till___eq__ ["self", "other"] (spT K mg cT g_Till___eq__))
    {a_Till___init__ : Addr} {e_Till___init__ : FuncData} (C_Till___init__ : CdM K mg "Till" "__init__" "Till.__init__" s_Till___init__ ["self", "shop"] cT a_Till___init__ e_Till___init__) (G_Till___init__ : FnOk P Wd.w K mg base (L2.CX P Wd.w) 9 a_Till___init__ e_Till___init__ ["self", "shop"] (spInit K cT k_Till))
    {a_Till_duplicate : Addr} {e_Till_duplicate : FuncData} (C_Till_duplicate : CdG K cT "duplicate" "Till.duplicate" s_Till_duplicate ["self"] a_Till_duplicate e_Till_duplicate) (G_Till_duplicate : FnOk P Wd.w K mg base (L2.CX P Wd.w) 11 a_Till_duplicate e_Till_duplicate ["self"] (spT K mg cT g_Till_duplicate))
    {a_Till_basket : Addr} {e_Till_basket : FuncData} (C_Till_basket : CdG K cT "basket" "Till.basket" s_Till_basket ["self"] a_Till_basket e_Till_basket) (G_Till_basket : FnOk P Wd.w K mg base (L2.CX P Wd.w) 1 a_Till_basket e_Till_basket ["self"] (spT K mg cT g_Till_basket))
    {a_Till_take : Addr} {e_Till_take : FuncData} (C_Till_take : CdG K cT "take" "Till.take" s_Till_take ["self", "good"] a_Till_take e_Till_take) (G_Till_take : FnOk P Wd.w K mg base (L2.CX P Wd.w) 8 a_Till_take e_Till_take ["self", "good"] (spT K mg cT g_Till_take)) :
    FnOk P Wd.w K mg base (L2.CX P Wd.w) 12 f fd ["_law_script"] (spT K mg cT g_law) :=
  fn_okT F sc_law rfl rfl fun cdv A outer s H m vs E hr => by
    exact (gss_cons' (gs_lift (ds_set (i := 1) sc_law.nd rfl (by first | exact .inl rfl | exact .inr rfl) (de_lst da_nil)))
    (gss_cons' (gs_lift (ds_set (i := 2) sc_law.nd rfl (by first | exact .inl rfl | exact .inr rfl) (de_callI 1 G__law_some_shop (hr.mono (by decide)) (by rfl) C__law_some_shop.g C__law_some_shop.F.kp C__law_some_shop.b (takes_of rfl rfl rfl rfl) (da_cons (de_var 0 (pv 0)) (da_cons (de_var 1 (pv 1)) da_nil)))))
    (gss_cons' (gs_parL (i := 5) (j := 6) rfl sc_law.nd rfl rfl (by decide) rfl rfl (he_make C_Till___init__.made G_Till___init__ (hr.mono (by decide)) (by rfl) C_Till___init__.g C_Till___init__.b (takes_of rfl rfl rfl rfl) (ga_cons (ge_lift (de_var 2 (pv 2))) ga_nil)))
    (gss_cons' (gs_for (j := 3) (passes_of rfl) rfl (gi_range1 (by rfl) B.b_range (ga_cons (ge_lift (de_callI 1 G__law_draw (hr.mono (by decide)) (by rfl) C__law_draw.g C__law_draw.F.kp C__law_draw.b (takes_of rfl rfl rfl rfl) (da_cons (de_var 0 (pv 0)) (da_cons (de_var 1 (pv 1)) (da_cons de_int da_nil))))) ga_nil)) (pg_name (i := 3) sc_law.nd rfl (by first | exact .inl rfl | exact .inr rfl)) (gss_cons' (gs_lift (ds_set (i := 7) sc_law.nd rfl (by first | exact .inl rfl | exact .inr rfl) (de_callI 1 G__law_draw (hr.mono (by decide)) (by rfl) C__law_draw.g C__law_draw.F.kp C__law_draw.b (takes_of rfl rfl rfl rfl) (da_cons (de_var 0 (pv 0)) (da_cons (de_var 1 (pv 1)) (da_cons (de_b d_len call_lenA (by rfl) B.b_len bo_len (da_cons (de_ix (de_var 2 (pv 2)) de_int (fun _ _ => rfl)) da_nil)) da_nil))))))
    (gss_cons' (gs_expr (he_appO (pv 6) (he_meth0 (pv 5) CT C_Till_basket.m G_Till_basket (hr.mono (by decide)) C_Till_basket.b (takes_of rfl rfl rfl rfl) (by decide +kernel))))
    (gss_one' (gs_if (PW.pt (gt_and (gt_cmp op_gt d_gt (ge_ix (he_meth0 (pv 5) CT C_Till_basket.m G_Till_basket (hr.mono (by decide)) C_Till_basket.b (takes_of rfl rfl rfl rfl) (by decide +kernel)) (ge_lift (de_var 7 (pv 7))) (fun _ _ => rfl)) (ge_lift de_int) (nomark _)) (gt_and1 (gt_lift (dt_cmp (op_eqA hr.units) d_eqA (de_callI 1 G__law_draw (hr.mono (by decide)) (by rfl) C__law_draw.g C__law_draw.F.kp C__law_draw.b (takes_of rfl rfl rfl rfl) (da_cons (de_var 0 (pv 0)) (da_cons (de_var 1 (pv 1)) (da_cons de_int da_nil)))) de_int (nomark _)))))) (gss_one' (gs_expr (he_meth (pv 5) CT C_Till_take.m G_Till_take (hr.mono (by decide)) C_Till_take.b (takes_of rfl rfl rfl rfl) (ga_cons (ge_lift (de_var 7 (pv 7))) ga_nil) (by decide +kernel)))) (gss_one' (gs_expr (he_meth (pv 5) CT C_Till_put.m G_Till_put (hr.mono (by decide)) C_Till_put.b (takes_of rfl rfl rfl rfl) (ga_cons (ge_lift (de_var 7 (pv 7))) ga_nil) (by decide +kernel)))))))))
    (gss_cons' (gs_par (i := 8) (j := 9) rfl sc_law.nd rfl rfl (by decide) rfl rfl (ga_cons (he_meth0 (pv 5) CT C_Till_duplicate.m G_Till_duplicate (hr.mono (by decide)) C_Till_duplicate.b (takes_of rfl rfl rfl rfl) (by decide +kernel)) (ga_cons (he_meth0 (pv 5) CT C_Till_basket.m G_Till_basket (hr.mono (by decide)) C_Till_basket.b (takes_of rfl rfl rfl rfl) (by decide +kernel)) ga_nil)))
    (gss_cons' (gs_if (PW.pt (gt_or (gt_not (gt_eqT CE C_Till___eq__.m.at_ C_Till___eq__.m.fn G_Till___eq__ (hr.mono (by decide)) C_Till___eq__.b (ge_hd (pv 8)) (ge_hd (pv 5)) (nomark _))) (gt_or (gt_cmp (op_neA hr.units) d_neA (he_meth0 (pv 8) CT C_Till_basket.m G_Till_basket (hr.mono (by decide)) C_Till_basket.b (takes_of rfl rfl rfl rfl) (by decide +kernel)) (ge_lift (de_var 9 (pv 9))) (nomark _)) (gt_or (gt_cmp (op_neA hr.units) d_neA (he_callT G__law_undo (hr.mono (by decide)) (by rfl) C__law_undo.g C__law_undo.F.kp C__law_undo.b (takes_of rfl rfl rfl rfl) (ga_cons (ge_hd (pv 8)) ga_nil)) (ge_lift (de_tup (da_cons de_str (da_cons de_int da_nil)))) (nomark _)) (gt_or (gt_eqT CE C_Till___eq__.m.at_ C_Till___eq__.m.fn G_Till___eq__ (hr.mono (by decide)) C_Till___eq__.b (ge_hd (pv 5)) (ge_lift (de_var 9 (pv 9))) (nomark _)) (gt_or1 (gt_eqT CE C_Till___eq__.m.at_ C_Till___eq__.m.fn G_Till___eq__ (hr.mono (by decide)) C_Till___eq__.b (ge_hd (pv 5)) (ge_lift de_non) (nomark _)))))))) (gss_one' (gs_lift (ds_ret de_bl))) gss_nil')
    (gss_cons' (gs_expr (he_meth (pv 8) CT C_Till_put.m G_Till_put (hr.mono (by decide)) C_Till_put.b (takes_of rfl rfl rfl rfl) (ga_cons (ge_lift de_int) ga_nil) (by decide +kernel)))
    (gss_cons' (gs_if (PW.pt (gt_or (gt_eqT CE C_Till___eq__.m.at_ C_Till___eq__.m.fn G_Till___eq__ (hr.mono (by decide)) C_Till___eq__.b (ge_hd (pv 8)) (ge_hd (pv 5)) (nomark _)) (gt_or (gt_cmp (op_neA hr.units) d_neA (he_meth0 (pv 5) CT C_Till_basket.m G_Till_basket (hr.mono (by decide)) C_Till_basket.b (takes_of rfl rfl rfl rfl) (by decide +kernel)) (ge_lift (de_var 9 (pv 9))) (nomark _)) (gt_or (gt_cmp (op_neA hr.units) d_neA (he_callT G__law_undo (hr.mono (by decide)) (by rfl) C__law_undo.g C__law_undo.F.kp C__law_undo.b (takes_of rfl rfl rfl rfl) (ga_cons (ge_hd (pv 8)) ga_nil)) (ge_lift (de_var 9 (pv 9))) (nomark _)) (gt_or1 (gt_cmp (op_neA hr.units) d_neA (he_callT G__law_undo (hr.mono (by decide)) (by rfl) C__law_undo.g C__law_undo.F.kp C__law_undo.b (takes_of rfl rfl rfl rfl) (ga_cons (ge_hd (pv 8)) ga_nil)) (ge_lift (de_tup (da_cons de_str (da_cons de_int da_nil)))) (nomark _))))))) (gss_one' (gs_lift (ds_ret de_bl))) gss_nil')
    (gss_cons' (gs_forL (j := 4) (passes_of rfl) rfl (de_rv (de_var 6 (pv 6)) do_none) (pg_name (i := 4) sc_law.nd rfl (by first | exact .inl rfl | exact .inr rfl)) (fun p o => (gss_one' (gs_if (PW.pt (gt_or (gt_cmp (op_neA hr.units) d_neA (he_callT G__law_undo (hr.mono (by decide)) (by rfl) C__law_undo.g C__law_undo.F.kp C__law_undo.b (takes_of rfl rfl rfl rfl) (ga_cons (ge_hd (pv 5)) ga_nil)) (ge_lift (de_var 4 (pv 4))) (nomark _)) (gt_or1 (gt_cmp (op_neA hr.units) d_neA (he_meth0 (pv 5) CT C_Till_basket.m G_Till_basket (hr.mono (by decide)) C_Till_basket.b (takes_of rfl rfl rfl rfl) (by decide +kernel)) (ge_lift (de_var 4 (pv 4))) (nomark _))))) (gss_one' (gs_lift (ds_ret de_bl))) gss_nil'))))
    (gss_cons' (gs_if (PW.pt (gt_or (gt_cmp (op_neA hr.units) d_neA (he_callT G__law_undo (hr.mono (by decide)) (by rfl) C__law_undo.g C__law_undo.F.kp C__law_undo.b (takes_of rfl rfl rfl rfl) (ga_cons (ge_hd (pv 5)) ga_nil)) (ge_lift (de_tup (da_cons de_str (da_cons de_int da_nil)))) (nomark _)) (gt_or1 (gt_cmp (op_neA hr.units) d_neA (he_meth0 (pv 8) CT C_Till_basket.m G_Till_basket (hr.mono (by decide)) C_Till_basket.b (takes_of rfl rfl rfl rfl) (by decide +kernel)) (ge_lift (de_var 9 (pv 9))) (nomark _))))) (gss_one' (gs_lift (ds_ret de_bl))) gss_nil')
    (gss_cons' (gs_if (gt_eqT CE C_Till___eq__.m.at_ C_Till___eq__.m.fn G_Till___eq__ (hr.mono (by decide)) C_Till___eq__.b (he_make C_Till___init__.made G_Till___init__ (hr.mono (by decide)) (by rfl) C_Till___init__.g C_Till___init__.b (takes_of rfl rfl rfl rfl) (ga_cons (ge_lift (de_tup (da_cons (de_ix (de_var 2 (pv 2)) de_int (fun _ _ => rfl)) (da_cons (de_tup da_nil) da_nil)))) ga_nil)) (he_make C_Till___init__.made G_Till___init__ (hr.mono (by decide)) (by rfl) C_Till___init__.g C_Till___init__.b (takes_of rfl rfl rfl rfl) (ga_cons (ge_lift (de_tup (da_cons (de_ix (de_var 2 (pv 2)) de_int (fun _ _ => rfl)) (da_cons (de_tup (da_cons (de_tup (da_cons de_str (da_cons de_int (da_cons de_int da_nil)))) da_nil)) da_nil)))) ga_nil)) (nomark _)) (gss_one' (gs_lift (ds_ret de_bl))) gss_nil')
    (gss_one' (gs_ret (ge_eqT CE C_Till___eq__.m.at_ C_Till___eq__.m.fn G_Till___eq__ (hr.mono (by decide)) C_Till___eq__.b (he_make C_Till___init__.made G_Till___init__ (hr.mono (by decide)) (by rfl) C_Till___init__.g C_Till___init__.b (takes_of rfl rfl rfl rfl) (ga_cons (ge_lift (de_var 2 (pv 2))) ga_nil)) (ge_hd (pv 5)) (nomark _)))))))))))))))
end
end DL
namespace DL
open PySem PySem.Spec L2
theorem all_mk {l : PySem.W.OpenLaw} {w : World} {K : PySem.W.Frag} {h : Heap} {mg : Str → Option Value} {fa : Addr} (X : K.In h) (G : h.Ns mainGlobals mg) (hfa : mg "law" = some (.ref fa))
    {f0 f1 f2 f3 f4 f5 f6 f7 f8 f9 f10 f11 f12 f13 f14 f15 f16 f17 f18 f19 f20 f21 f22 f23 f24 f25 f26 f27 f28 f29 f30 f31 f32 f33 f34 f35 f36 f37 f38 f39 f40 f41 f42 f43 f44 : Addr} {od0 an0 od1 an1 od2 an2 od3 an3 od4 an4 od5 an5 od6 an6 od7 an7 od8 an8 od9 an9 od10 an10 od11 an11 od12 an12 od13 an13 od14 an14 od15 an15 od16 an16 od17 an17 od18 an18 od19 an19 od20 an20 od21 an21 od22 an22 od23 an23 od24 an24 od25 an25 od26 an26 od27 an27 od28 an28 od29 an29 od30 an30 od31 an31 od32 an32 od33 an33 od34 an34 od35 an35 od36 an36 od37 an37 od38 an38 od39 an39 od40 an40 od41 an41 od42 an42 od43 an43 od44 an44 : Option Addr} {sl0 sl1 sl2 sl3 sl4 sl5 sl6 sl7 sl8 sl9 sl10 sl11 sl12 sl13 sl14 sl15 sl16 sl17 sl18 sl19 sl20 sl21 sl22 sl23 sl24 sl25 sl26 sl27 sl28 sl29 sl30 sl31 sl32 sl33 sl34 sl35 sl36 sl37 sl38 sl39 sl40 sl41 sl42 sl43 sl44 : Array (Option Value)}
    {oc0 kV0 dc0 pm0 cd0 ct0 oc1 kV1 dc1 pm1 cd1 ct1 oc2 kV2 dc2 pm2 cd2 ct2 oc3 kV3 dc3 pm3 cd3 ct3 oc4 kV4 dc4 pm4 cd4 ct4 oc5 kV5 dc5 pm5 cd5 ct5 oc6 kV6 dc6 pm6 cd6 ct6 oc7 kV7 dc7 pm7 cd7 ct7 oc8 kV8 dc8 pm8 cd8 ct8 oc9 kV9 dc9 pm9 cd9 ct9 oc10 kV10 dc10 pm10 cd10 ct10 oc11 kV11 dc11 pm11 cd11 ct11 oc12 kV12 dc12 pm12 cd12 ct12 oc13 kV13 dc13 pm13 cd13 ct13 oc14 kV14 dc14 pm14 cd14 ct14 oc15 kV15 dc15 pm15 cd15 ct15 oc16 kV16 dc16 pm16 cd16 ct16 oc17 kV17 dc17 pm17 cd17 ct17 oc18 kV18 dc18 pm18 cd18 ct18 oc19 kV19 dc19 pm19 cd19 ct19 oc20 kV20 dc20 pm20 cd20 ct20 oc21 kV21 dc21 pm21 cd21 ct21 oc22 kV22 dc22 pm22 cd22 ct22 oc23 kV23 dc23 pm23 cd23 ct23 oc24 kV24 dc24 pm24 cd24 ct24 oc25 kV25 dc25 pm25 cd25 ct25 oc26 kV26 dc26 pm26 cd26 ct26 oc27 kV27 dc27 pm27 cd27 ct27 oc28 kV28 dc28 pm28 cd28 ct28 oc29 kV29 dc29 pm29 cd29 ct29 oc30 kV30 dc30 pm30 cd30 ct30 oc31 kV31 dc31 pm31 cd31 ct31 oc32 kV32 dc32 pm32 cd32 ct32 oc33 kV33 dc33 pm33 cd33 ct33 oc34 kV34 dc34 pm34 cd34 ct34 oc35 kV35 dc35 pm35 cd35 ct35 oc36 kV36 dc36 pm36 cd36 ct36 oc37 kV37 dc37 pm37 cd37 ct37 oc38 kV38 dc38 pm38 cd38 ct38 oc39 kV39 dc39 pm39 cd39 ct39 oc40 kV40 dc40 pm40 cd40 ct40 oc41 kV41 dc41 pm41 cd41 ct41 oc42 kV42 dc42 pm42 cd42 ct42 oc43 kV43 dc43 pm43 cd43 ct43 oc44 kV44 dc44 pm44 cd44 ct44 : Value}
    (a0 : PySem.W.nsIn K mainGlobals "is_integer" = some (some (.ref f0)))
    (l0 : K.lookup f0 = some ⟨oc0, od0, .func (PySem.W.fnOf "is_integer" "is_integer" (defArgs s_is_integer) (defBody s_is_integer) (defScope s_is_integer) .none kV0 dc0 pm0 an0 cd0 ct0), sl0⟩) (c0 : PySem.W.codeIn K cd0 "is_integer" = true) (k0 : PySem.W.keepIn K (.ref f0) = true)
    (a1 : PySem.W.nsIn K mainGlobals "is_between" = some (some (.ref f1)))
    (l1 : K.lookup f1 = some ⟨oc1, od1, .func (PySem.W.fnOf "is_between" "is_between" (defArgs s_is_between) (defBody s_is_between) (defScope s_is_between) .none kV1 dc1 pm1 an1 cd1 ct1), sl1⟩) (c1 : PySem.W.codeIn K cd1 "is_between" = true) (k1 : PySem.W.keepIn K (.ref f1) = true)
    (a2 : PySem.W.nsIn K mainGlobals "is_tuple_of" = some (some (.ref f2)))
    (l2 : K.lookup f2 = some ⟨oc2, od2, .func (PySem.W.fnOf "is_tuple_of" "is_tuple_of" (defArgs s_is_tuple_of) (defBody s_is_tuple_of) (defScope s_is_tuple_of) .none kV2 dc2 pm2 an2 cd2 ct2), sl2⟩) (c2 : PySem.W.codeIn K cd2 "is_tuple_of" = true) (k2 : PySem.W.keepIn K (.ref f2) = true)
    (a3 : PySem.W.nsIn K mainGlobals "is_most" = some (some (.ref f3)))
    (l3 : K.lookup f3 = some ⟨oc3, od3, .func (PySem.W.fnOf "is_most" "is_most" (defArgs s_is_most) (defBody s_is_most) (defScope s_is_most) .none kV3 dc3 pm3 an3 cd3 ct3), sl3⟩) (c3 : PySem.W.codeIn K cd3 "is_most" = true) (k3 : PySem.W.keepIn K (.ref f3) = true)
    (a4 : PySem.W.nsIn K mainGlobals "is_good" = some (some (.ref f4)))
    (l4 : K.lookup f4 = some ⟨oc4, od4, .func (PySem.W.fnOf "is_good" "is_good" (defArgs s_is_good) (defBody s_is_good) (defScope s_is_good) .none kV4 dc4 pm4 an4 cd4 ct4), sl4⟩) (c4 : PySem.W.codeIn K cd4 "is_good" = true) (k4 : PySem.W.keepIn K (.ref f4) = true)
    (a5 : PySem.W.nsIn K mainGlobals "is_pack" = some (some (.ref f5)))
    (l5 : K.lookup f5 = some ⟨oc5, od5, .func (PySem.W.fnOf "is_pack" "is_pack" (defArgs s_is_pack) (defBody s_is_pack) (defScope s_is_pack) .none kV5 dc5 pm5 an5 cd5 ct5), sl5⟩) (c5 : PySem.W.codeIn K cd5 "is_pack" = true) (k5 : PySem.W.keepIn K (.ref f5) = true)
    (a6 : PySem.W.nsIn K mainGlobals "is_from" = some (some (.ref f6)))
    (l6 : K.lookup f6 = some ⟨oc6, od6, .func (PySem.W.fnOf "is_from" "is_from" (defArgs s_is_from) (defBody s_is_from) (defScope s_is_from) .none kV6 dc6 pm6 an6 cd6 ct6), sl6⟩) (c6 : PySem.W.codeIn K cd6 "is_from" = true) (k6 : PySem.W.keepIn K (.ref f6) = true)
    (a7 : PySem.W.nsIn K mainGlobals "is_over" = some (some (.ref f7)))
    (l7 : K.lookup f7 = some ⟨oc7, od7, .func (PySem.W.fnOf "is_over" "is_over" (defArgs s_is_over) (defBody s_is_over) (defScope s_is_over) .none kV7 dc7 pm7 an7 cd7 ct7), sl7⟩) (c7 : PySem.W.codeIn K cd7 "is_over" = true) (k7 : PySem.W.keepIn K (.ref f7) = true)
    (a8 : PySem.W.nsIn K mainGlobals "is_each" = some (some (.ref f8)))
    (l8 : K.lookup f8 = some ⟨oc8, od8, .func (PySem.W.fnOf "is_each" "is_each" (defArgs s_is_each) (defBody s_is_each) (defScope s_is_each) .none kV8 dc8 pm8 an8 cd8 ct8), sl8⟩) (c8 : PySem.W.codeIn K cd8 "is_each" = true) (k8 : PySem.W.keepIn K (.ref f8) = true)
    (a9 : PySem.W.nsIn K mainGlobals "is_rule" = some (some (.ref f9)))
    (l9 : K.lookup f9 = some ⟨oc9, od9, .func (PySem.W.fnOf "is_rule" "is_rule" (defArgs s_is_rule) (defBody s_is_rule) (defScope s_is_rule) .none kV9 dc9 pm9 an9 cd9 ct9), sl9⟩) (c9 : PySem.W.codeIn K cd9 "is_rule" = true) (k9 : PySem.W.keepIn K (.ref f9) = true)
    (a10 : PySem.W.nsIn K mainGlobals "is_endless_each" = some (some (.ref f10)))
    (l10 : K.lookup f10 = some ⟨oc10, od10, .func (PySem.W.fnOf "is_endless_each" "is_endless_each" (defArgs s_is_endless_each) (defBody s_is_endless_each) (defScope s_is_endless_each) .none kV10 dc10 pm10 an10 cd10 ct10), sl10⟩) (c10 : PySem.W.codeIn K cd10 "is_endless_each" = true) (k10 : PySem.W.keepIn K (.ref f10) = true)
    (a11 : PySem.W.nsIn K mainGlobals "are_goods" = some (some (.ref f11)))
    (l11 : K.lookup f11 = some ⟨oc11, od11, .func (PySem.W.fnOf "are_goods" "are_goods" (defArgs s_are_goods) (defBody s_are_goods) (defScope s_are_goods) .none kV11 dc11 pm11 an11 cd11 ct11), sl11⟩) (c11 : PySem.W.codeIn K cd11 "are_goods" = true) (k11 : PySem.W.keepIn K (.ref f11) = true)
    (a12 : PySem.W.nsIn K mainGlobals "are_rules" = some (some (.ref f12)))
    (l12 : K.lookup f12 = some ⟨oc12, od12, .func (PySem.W.fnOf "are_rules" "are_rules" (defArgs s_are_rules) (defBody s_are_rules) (defScope s_are_rules) .none kV12 dc12 pm12 an12 cd12 ct12), sl12⟩) (c12 : PySem.W.codeIn K cd12 "are_rules" = true) (k12 : PySem.W.keepIn K (.ref f12) = true)
    (a13 : PySem.W.nsIn K mainGlobals "is_shop" = some (some (.ref f13)))
    (l13 : K.lookup f13 = some ⟨oc13, od13, .func (PySem.W.fnOf "is_shop" "is_shop" (defArgs s_is_shop) (defBody s_is_shop) (defScope s_is_shop) .none kV13 dc13 pm13 an13 cd13 ct13), sl13⟩) (c13 : PySem.W.codeIn K cd13 "is_shop" = true) (k13 : PySem.W.keepIn K (.ref f13) = true)
    (a14 : PySem.W.nsIn K mainGlobals "check_shop" = some (some (.ref f14)))
    (l14 : K.lookup f14 = some ⟨oc14, od14, .func (PySem.W.fnOf "check_shop" "check_shop" (defArgs s_check_shop) (defBody s_check_shop) (defScope s_check_shop) .none kV14 dc14 pm14 an14 cd14 ct14), sl14⟩) (c14 : PySem.W.codeIn K cd14 "check_shop" = true) (k14 : PySem.W.keepIn K (.ref f14) = true)
    (a15 : PySem.W.nsIn K mainGlobals "full_times" = some (some (.ref f15)))
    (l15 : K.lookup f15 = some ⟨oc15, od15, .func (PySem.W.fnOf "full_times" "full_times" (defArgs s_full_times) (defBody s_full_times) (defScope s_full_times) .none kV15 dc15 pm15 an15 cd15 ct15), sl15⟩) (c15 : PySem.W.codeIn K cd15 "full_times" = true) (k15 : PySem.W.keepIn K (.ref f15) = true)
    (a16 : PySem.W.nsIn K mainGlobals "fitting_rule" = some (some (.ref f16)))
    (l16 : K.lookup f16 = some ⟨oc16, od16, .func (PySem.W.fnOf "fitting_rule" "fitting_rule" (defArgs s_fitting_rule) (defBody s_fitting_rule) (defScope s_fitting_rule) .none kV16 dc16 pm16 an16 cd16 ct16), sl16⟩) (c16 : PySem.W.codeIn K cd16 "fitting_rule" = true) (k16 : PySem.W.keepIn K (.ref f16) = true)
    (a17 : PySem.W.nsIn K mainGlobals "pack_times" = some (some (.ref f17)))
    (l17 : K.lookup f17 = some ⟨oc17, od17, .func (PySem.W.fnOf "pack_times" "pack_times" (defArgs s_pack_times) (defBody s_pack_times) (defScope s_pack_times) .none kV17 dc17 pm17 an17 cd17 ct17), sl17⟩) (c17 : PySem.W.codeIn K cd17 "pack_times" = true) (k17 : PySem.W.keepIn K (.ref f17) = true)
    (a18 : PySem.W.nsIn K mainGlobals "pack_amount" = some (some (.ref f18)))
    (l18 : K.lookup f18 = some ⟨oc18, od18, .func (PySem.W.fnOf "pack_amount" "pack_amount" (defArgs s_pack_amount) (defBody s_pack_amount) (defScope s_pack_amount) .none kV18 dc18 pm18 an18 cd18 ct18), sl18⟩) (c18 : PySem.W.codeIn K cd18 "pack_amount" = true) (k18 : PySem.W.keepIn K (.ref f18) = true)
    (a19 : PySem.W.nsIn K mainGlobals "good_amount" = some (some (.ref f19)))
    (l19 : K.lookup f19 = some ⟨oc19, od19, .func (PySem.W.fnOf "good_amount" "good_amount" (defArgs s_good_amount) (defBody s_good_amount) (defScope s_good_amount) .none kV19 dc19 pm19 an19 cd19 ct19), sl19⟩) (c19 : PySem.W.codeIn K cd19 "good_amount" = true) (k19 : PySem.W.keepIn K (.ref f19) = true)
    (a20 : PySem.W.nsIn K mainGlobals "off_times" = some (some (.ref f20)))
    (l20 : K.lookup f20 = some ⟨oc20, od20, .func (PySem.W.fnOf "off_times" "off_times" (defArgs s_off_times) (defBody s_off_times) (defScope s_off_times) .none kV20 dc20 pm20 an20 cd20 ct20), sl20⟩) (c20 : PySem.W.codeIn K cd20 "off_times" = true) (k20 : PySem.W.keepIn K (.ref f20) = true)
    (a21 : PySem.W.nsIn K mainGlobals "apply_sums" = some (some (.ref f21)))
    (l21 : K.lookup f21 = some ⟨oc21, od21, .func (PySem.W.fnOf "apply_sums" "apply_sums" (defArgs s_apply_sums) (defBody s_apply_sums) (defScope s_apply_sums) .none kV21 dc21 pm21 an21 cd21 ct21), sl21⟩) (c21 : PySem.W.codeIn K cd21 "apply_sums" = true) (k21 : PySem.W.keepIn K (.ref f21) = true)
    (a22 : PySem.W.nsIn K mainGlobals "amounts_of" = some (some (.ref f22)))
    (l22 : K.lookup f22 = some ⟨oc22, od22, .func (PySem.W.fnOf "amounts_of" "amounts_of" (defArgs s_amounts_of) (defBody s_amounts_of) (defScope s_amounts_of) .none kV22 dc22 pm22 an22 cd22 ct22), sl22⟩) (c22 : PySem.W.codeIn K cd22 "amounts_of" = true) (k22 : PySem.W.keepIn K (.ref f22) = true)
    (a23 : PySem.W.nsIn K mainGlobals "left_of" = some (some (.ref f23)))
    (l23 : K.lookup f23 = some ⟨oc23, od23, .func (PySem.W.fnOf "left_of" "left_of" (defArgs s_left_of) (defBody s_left_of) (defScope s_left_of) .none kV23 dc23 pm23 an23 cd23 ct23), sl23⟩) (c23 : PySem.W.codeIn K cd23 "left_of" = true) (k23 : PySem.W.keepIn K (.ref f23) = true)
    (a24 : PySem.W.nsIn K mainGlobals "charge_of" = some (some (.ref f24)))
    (l24 : K.lookup f24 = some ⟨oc24, od24, .func (PySem.W.fnOf "charge_of" "charge_of" (defArgs s_charge_of) (defBody s_charge_of) (defScope s_charge_of) .none kV24 dc24 pm24 an24 cd24 ct24), sl24⟩) (c24 : PySem.W.codeIn K cd24 "charge_of" = true) (k24 : PySem.W.keepIn K (.ref f24) = true)
    (a25 : PySem.W.nsIn K mainGlobals "with_more" = some (some (.ref f25)))
    (l25 : K.lookup f25 = some ⟨oc25, od25, .func (PySem.W.fnOf "with_more" "with_more" (defArgs s_with_more) (defBody s_with_more) (defScope s_with_more) .none kV25 dc25 pm25 an25 cd25 ct25), sl25⟩) (c25 : PySem.W.codeIn K cd25 "with_more" = true) (k25 : PySem.W.keepIn K (.ref f25) = true)
    {cT : Addr} (aT : PySem.W.nsIn K mainGlobals "Till" = some (some (.ref cT))) (tg : PySem.W.plainGet K cT Str.empty = true) (th : PySem.W.hasDictIn K cT = true) (tp : PySem.W.plainOver K cT = true) (ts : PySem.W.findIn K (.ref cT) "__setattr__" = some (some (.builtin "object.__setattr__")))
    (ta : PySem.W.findIn K (.ref cT) "_shop" = some none) (tb : PySem.W.findIn K (.ref cT) "_now" = some none) (tc : PySem.W.findIn K (.ref cT) "_before" = some none) (tm : PySem.W.makesIn K cT = true) (tk : PySem.W.keepIn K (.ref cT) = true)
    (e1 : PySem.W.findIn K (.ref cT) "__class__" = some (some (.builtin "object.__class__"))) (e2 : PySem.W.specialIn K (.builtin "object.__class__") "__get__" = some (some (.builtin "getset_descriptor.__get__"))) (e3 : PySem.W.takesIn K (.builtin "object.__class__") = some true) (e4 : PySem.W.mroIn K cT (.type "object") = some true)
    (e5 : PySem.W.kitOne K (.ref cT) (.ref cT) = some true) (e6 : PySem.W.kitOne K (.type "tuple") (.ref cT) = some false) (e7 : PySem.W.kitOne K (.type "NoneType") (.ref cT) = some false) (e8 : PySem.W.notFirst K cT (.type "tuple") = true) (e9 : PySem.W.notFirst K cT (.type "NoneType") = true)
    (mi26 : PySem.W.findIn K (.ref cT) "__init__" = some (some (.ref f26))) (mf26 : PySem.W.isFn K (.ref f26) = true)
    (l26 : K.lookup f26 = some ⟨oc26, od26, .func (PySem.W.fnOf "__init__" "Till.__init__" (defArgs s_Till___init__) (defBody s_Till___init__) (defScope s_Till___init__) .none kV26 dc26 pm26 an26 cd26 ct26), sl26⟩) (c26 : PySem.W.codeIn K cd26 "Till.__init__" = true) (k26 : PySem.W.keepIn K (.ref f26) = true)
    (mi27 : PySem.W.findIn K (.ref cT) "__eq__" = some (some (.ref f27))) (mf27 : PySem.W.isFn K (.ref f27) = true)
    (l27 : K.lookup f27 = some ⟨oc27, od27, .func (PySem.W.fnOf "__eq__" "Till.__eq__" (defArgs s_Till___eq__) (defBody s_Till___eq__) (defScope s_Till___eq__) .none kV27 dc27 pm27 an27 cd27 ct27), sl27⟩) (c27 : PySem.W.codeIn K cd27 "Till.__eq__" = true) (k27 : PySem.W.keepIn K (.ref f27) = true)
    (mi28 : PySem.W.findIn K (.ref cT) "_check_good" = some (some (.ref f28))) (mf28 : PySem.W.isFn K (.ref f28) = true)
    (l28 : K.lookup f28 = some ⟨oc28, od28, .func (PySem.W.fnOf "_check_good" "Till._check_good" (defArgs s_Till__check_good) (defBody s_Till__check_good) (defScope s_Till__check_good) .none kV28 dc28 pm28 an28 cd28 ct28), sl28⟩) (c28 : PySem.W.codeIn K cd28 "Till._check_good" = true) (k28 : PySem.W.keepIn K (.ref f28) = true)
    (mi29 : PySem.W.findIn K (.ref cT) "_step" = some (some (.ref f29))) (mf29 : PySem.W.isFn K (.ref f29) = true)
    (l29 : K.lookup f29 = some ⟨oc29, od29, .func (PySem.W.fnOf "_step" "Till._step" (defArgs s_Till__step) (defBody s_Till__step) (defScope s_Till__step) .none kV29 dc29 pm29 an29 cd29 ct29), sl29⟩) (c29 : PySem.W.codeIn K cd29 "Till._step" = true) (k29 : PySem.W.keepIn K (.ref f29) = true)
    (mi30 : PySem.W.findIn K (.ref cT) "put" = some (some (.ref f30))) (mf30 : PySem.W.isFn K (.ref f30) = true)
    (l30 : K.lookup f30 = some ⟨oc30, od30, .func (PySem.W.fnOf "put" "Till.put" (defArgs s_Till_put) (defBody s_Till_put) (defScope s_Till_put) .none kV30 dc30 pm30 an30 cd30 ct30), sl30⟩) (c30 : PySem.W.codeIn K cd30 "Till.put" = true) (k30 : PySem.W.keepIn K (.ref f30) = true)
    (mi31 : PySem.W.findIn K (.ref cT) "take" = some (some (.ref f31))) (mf31 : PySem.W.isFn K (.ref f31) = true)
    (l31 : K.lookup f31 = some ⟨oc31, od31, .func (PySem.W.fnOf "take" "Till.take" (defArgs s_Till_take) (defBody s_Till_take) (defScope s_Till_take) .none kV31 dc31 pm31 an31 cd31 ct31), sl31⟩) (c31 : PySem.W.codeIn K cd31 "Till.take" = true) (k31 : PySem.W.keepIn K (.ref f31) = true)
    (mi32 : PySem.W.findIn K (.ref cT) "basket" = some (some (.ref f32))) (mf32 : PySem.W.isFn K (.ref f32) = true)
    (l32 : K.lookup f32 = some ⟨oc32, od32, .func (PySem.W.fnOf "basket" "Till.basket" (defArgs s_Till_basket) (defBody s_Till_basket) (defScope s_Till_basket) .none kV32 dc32 pm32 an32 cd32 ct32), sl32⟩) (c32 : PySem.W.codeIn K cd32 "Till.basket" = true) (k32 : PySem.W.keepIn K (.ref f32) = true)
    (mi33 : PySem.W.findIn K (.ref cT) "undo" = some (some (.ref f33))) (mf33 : PySem.W.isFn K (.ref f33) = true)
    (l33 : K.lookup f33 = some ⟨oc33, od33, .func (PySem.W.fnOf "undo" "Till.undo" (defArgs s_Till_undo) (defBody s_Till_undo) (defScope s_Till_undo) .none kV33 dc33 pm33 an33 cd33 ct33), sl33⟩) (c33 : PySem.W.codeIn K cd33 "Till.undo" = true) (k33 : PySem.W.keepIn K (.ref f33) = true)
    (mi34 : PySem.W.findIn K (.ref cT) "duplicate" = some (some (.ref f34))) (mf34 : PySem.W.isFn K (.ref f34) = true)
    (l34 : K.lookup f34 = some ⟨oc34, od34, .func (PySem.W.fnOf "duplicate" "Till.duplicate" (defArgs s_Till_duplicate) (defBody s_Till_duplicate) (defScope s_Till_duplicate) .none kV34 dc34 pm34 an34 cd34 ct34), sl34⟩) (c34 : PySem.W.codeIn K cd34 "Till.duplicate" = true) (k34 : PySem.W.keepIn K (.ref f34) = true)
    (a35 : PySem.W.nsIn K mainGlobals "_law_cell_at" = some (some (.ref f35)))
    (l35 : K.lookup f35 = some ⟨oc35, od35, .func (PySem.W.fnOf "_law_cell_at" "_law_cell_at" (defArgs s__law_cell_at) (defBody s__law_cell_at) (defScope s__law_cell_at) .none kV35 dc35 pm35 an35 cd35 ct35), sl35⟩) (c35 : PySem.W.codeIn K cd35 "_law_cell_at" = true) (k35 : PySem.W.keepIn K (.ref f35) = true)
    (a36 : PySem.W.nsIn K mainGlobals "_law_mixed" = some (some (.ref f36)))
    (l36 : K.lookup f36 = some ⟨oc36, od36, .func (PySem.W.fnOf "_law_mixed" "_law_mixed" (defArgs s__law_mixed) (defBody s__law_mixed) (defScope s__law_mixed) .none kV36 dc36 pm36 an36 cd36 ct36), sl36⟩) (c36 : PySem.W.codeIn K cd36 "_law_mixed" = true) (k36 : PySem.W.keepIn K (.ref f36) = true)
    (a37 : PySem.W.nsIn K mainGlobals "_law_draw" = some (some (.ref f37)))
    (l37 : K.lookup f37 = some ⟨oc37, od37, .func (PySem.W.fnOf "_law_draw" "_law_draw" (defArgs s__law_draw) (defBody s__law_draw) (defScope s__law_draw) .none kV37 dc37 pm37 an37 cd37 ct37), sl37⟩) (c37 : PySem.W.codeIn K cd37 "_law_draw" = true) (k37 : PySem.W.keepIn K (.ref f37) = true)
    (a38 : PySem.W.nsIn K mainGlobals "_law_which" = some (some (.ref f38)))
    (l38 : K.lookup f38 = some ⟨oc38, od38, .func (PySem.W.fnOf "_law_which" "_law_which" (defArgs s__law_which) (defBody s__law_which) (defScope s__law_which) .none kV38 dc38 pm38 an38 cd38 ct38), sl38⟩) (c38 : PySem.W.codeIn K cd38 "_law_which" = true) (k38 : PySem.W.keepIn K (.ref f38) = true)
    (a39 : PySem.W.nsIn K mainGlobals "_law_pick" = some (some (.ref f39)))
    (l39 : K.lookup f39 = some ⟨oc39, od39, .func (PySem.W.fnOf "_law_pick" "_law_pick" (defArgs s__law_pick) (defBody s__law_pick) (defScope s__law_pick) .none kV39 dc39 pm39 an39 cd39 ct39), sl39⟩) (c39 : PySem.W.codeIn K cd39 "_law_pick" = true) (k39 : PySem.W.keepIn K (.ref f39) = true)
    (a40 : PySem.W.nsIn K mainGlobals "_law_some_rule" = some (some (.ref f40)))
    (l40 : K.lookup f40 = some ⟨oc40, od40, .func (PySem.W.fnOf "_law_some_rule" "_law_some_rule" (defArgs s__law_some_rule) (defBody s__law_some_rule) (defScope s__law_some_rule) .none kV40 dc40 pm40 an40 cd40 ct40), sl40⟩) (c40 : PySem.W.codeIn K cd40 "_law_some_rule" = true) (k40 : PySem.W.keepIn K (.ref f40) = true)
    (a41 : PySem.W.nsIn K mainGlobals "_law_some_goods" = some (some (.ref f41)))
    (l41 : K.lookup f41 = some ⟨oc41, od41, .func (PySem.W.fnOf "_law_some_goods" "_law_some_goods" (defArgs s__law_some_goods) (defBody s__law_some_goods) (defScope s__law_some_goods) .none kV41 dc41 pm41 an41 cd41 ct41), sl41⟩) (c41 : PySem.W.codeIn K cd41 "_law_some_goods" = true) (k41 : PySem.W.keepIn K (.ref f41) = true)
    (a42 : PySem.W.nsIn K mainGlobals "_law_some_shop" = some (some (.ref f42)))
    (l42 : K.lookup f42 = some ⟨oc42, od42, .func (PySem.W.fnOf "_law_some_shop" "_law_some_shop" (defArgs s__law_some_shop) (defBody s__law_some_shop) (defScope s__law_some_shop) .none kV42 dc42 pm42 an42 cd42 ct42), sl42⟩) (c42 : PySem.W.codeIn K cd42 "_law_some_shop" = true) (k42 : PySem.W.keepIn K (.ref f42) = true)
    (a43 : PySem.W.nsIn K mainGlobals "_law_undo" = some (some (.ref f43)))
    (l43 : K.lookup f43 = some ⟨oc43, od43, .func (PySem.W.fnOf "_law_undo" "_law_undo" (defArgs s__law_undo) (defBody s__law_undo) (defScope s__law_undo) .none kV43 dc43 pm43 an43 cd43 ct43), sl43⟩) (c43 : PySem.W.codeIn K cd43 "_law_undo" = true) (k43 : PySem.W.keepIn K (.ref f43) = true)
    (a44 : PySem.W.nsIn K mainGlobals "law" = some (some (.ref f44)))
    (l44 : K.lookup f44 = some ⟨oc44, od44, .func (PySem.W.fnOf "law" "law" (defArgs s_law) (defBody s_law) (defScope s_law) .none kV44 dc44 pm44 an44 cd44 ct44), sl44⟩) (c44 : PySem.W.codeIn K cd44 "law" = true) (k44 : PySem.W.keepIn K (.ref f44) = true)
    (z_ValueError : PySem.W.nsIn K mainGlobals "ValueError" = some none)
    (z_all : PySem.W.nsIn K mainGlobals "all" = some none)
    (z_any : PySem.W.nsIn K mainGlobals "any" = some none)
    (z_bool : PySem.W.nsIn K mainGlobals "bool" = some none)
    (z_enumerate : PySem.W.nsIn K mainGlobals "enumerate" = some none)
    (z_int : PySem.W.nsIn K mainGlobals "int" = some none)
    (z_isinstance : PySem.W.nsIn K mainGlobals "isinstance" = some none)
    (z_len : PySem.W.nsIn K mainGlobals "len" = some none)
    (z_max : PySem.W.nsIn K mainGlobals "max" = some none)
    (z_min : PySem.W.nsIn K mainGlobals "min" = some none)
    (z_range : PySem.W.nsIn K mainGlobals "range" = some none)
    (z_str : PySem.W.nsIn K mainGlobals "str" = some none)
    (z_sum : PySem.W.nsIn K mainGlobals "sum" = some none)
    (z_tuple : PySem.W.nsIn K mainGlobals "tuple" = some none)
    {t_MOST_GOODS : Tok} (y_MOST_GOODS : PySem.W.nsIn K mainGlobals "MOST_GOODS" = some (some (.int 2 t_MOST_GOODS)))
    {t_MOST_RULES : Tok} (y_MOST_RULES : PySem.W.nsIn K mainGlobals "MOST_RULES" = some (some (.int 4 t_MOST_RULES)))
    {u_SUM_WORDS : Addr} {o_SUM_WORDS : Option Addr} {n_SUM_WORDS : Nat} {v_SUM_WORDS : Array (Option Value)} {p_SUM_WORDS_0 : Tok} {p_SUM_WORDS_1 : Tok} (y_SUM_WORDS : PySem.W.nsIn K mainGlobals "SUM_WORDS" = some (some (.ref u_SUM_WORDS))) (x_SUM_WORDS : K.lookup u_SUM_WORDS = some ⟨.type "tuple", o_SUM_WORDS, .seq #[.str "over" p_SUM_WORDS_0, .str "each" p_SUM_WORDS_1] n_SUM_WORDS, v_SUM_WORDS⟩)
    {c_Different : Addr} (e_Different : PySem.W.nsIn K mainGlobals "Different" = some (some (.ref c_Different)))
    {c_InvalidAct : Addr} (e_InvalidAct : PySem.W.nsIn K mainGlobals "InvalidAct" = some (some (.ref c_InvalidAct)))
    {c_InvalidActs : Addr} (e_InvalidActs : PySem.W.nsIn K mainGlobals "InvalidActs" = some (some (.ref c_InvalidActs)))
    {c_InvalidBasket : Addr} (e_InvalidBasket : PySem.W.nsIn K mainGlobals "InvalidBasket" = some (some (.ref c_InvalidBasket)))
    {c_InvalidKinds : Addr} (e_InvalidKinds : PySem.W.nsIn K mainGlobals "InvalidKinds" = some (some (.ref c_InvalidKinds)))
    {c_InvalidNumber : Addr} (e_InvalidNumber : PySem.W.nsIn K mainGlobals "InvalidNumber" = some (some (.ref c_InvalidNumber)))
    {c_InvalidOffers : Addr} (e_InvalidOffers : PySem.W.nsIn K mainGlobals "InvalidOffers" = some (some (.ref c_InvalidOffers)))
    {c_InvalidShop : Addr} (e_InvalidShop : PySem.W.nsIn K mainGlobals "InvalidShop" = some (some (.ref c_InvalidShop)))
    {c_NoFault : Addr} (e_NoFault : PySem.W.nsIn K mainGlobals "NoFault" = some (some (.ref c_NoFault)))
    {c_NotThere : Addr} (e_NotThere : PySem.W.nsIn K mainGlobals "NotThere" = some (some (.ref c_NotThere)))
    {c_NothingToUndo : Addr} (e_NothingToUndo : PySem.W.nsIn K mainGlobals "NothingToUndo" = some (some (.ref c_NothingToUndo)))
    {c_ParseError : Addr} (e_ParseError : PySem.W.nsIn K mainGlobals "ParseError" = some (some (.ref c_ParseError)))
    {c_PriceError : Addr} (e_PriceError : PySem.W.nsIn K mainGlobals "PriceError" = some (some (.ref c_PriceError)))
    (q_InvalidNumber : PySem.W.excIn K c_InvalidNumber [.type "ValueError", .type "Exception", .type "BaseException", .type "object"] "ValueError.__new__" = true) (p_InvalidNumber : PySem.W.keepIn K (.ref c_InvalidNumber) = true) (r_InvalidNumber : PySem.W.subIn K (.ref c_InvalidNumber) (.type "BaseException") = some true)
    (q_InvalidShop : PySem.W.excIn K c_InvalidShop [.type "ValueError", .type "Exception", .type "BaseException", .type "object"] "ValueError.__new__" = true) (p_InvalidShop : PySem.W.keepIn K (.ref c_InvalidShop) = true) (r_InvalidShop : PySem.W.subIn K (.ref c_InvalidShop) (.type "BaseException") = some true)
    (q_NotThere : PySem.W.excIn K c_NotThere [.type "ValueError", .type "Exception", .type "BaseException", .type "object"] "ValueError.__new__" = true) (p_NotThere : PySem.W.keepIn K (.ref c_NotThere) = true) (r_NotThere : PySem.W.subIn K (.ref c_NotThere) (.type "BaseException") = some true)
    (q_NothingToUndo : PySem.W.excIn K c_NothingToUndo [.type "ValueError", .type "Exception", .type "BaseException", .type "object"] "ValueError.__new__" = true) (p_NothingToUndo : PySem.W.keepIn K (.ref c_NothingToUndo) = true) (r_NothingToUndo : PySem.W.subIn K (.ref c_NothingToUndo) (.type "BaseException") = some true)
    (w_Different : PySem.W.typeIn K (.ref c_Different) = some (.type "type"))
    (w_InvalidAct : PySem.W.typeIn K (.ref c_InvalidAct) = some (.type "type"))
    (w_InvalidActs : PySem.W.typeIn K (.ref c_InvalidActs) = some (.type "type"))
    (w_InvalidBasket : PySem.W.typeIn K (.ref c_InvalidBasket) = some (.type "type"))
    (w_InvalidKinds : PySem.W.typeIn K (.ref c_InvalidKinds) = some (.type "type"))
    (w_InvalidNumber : PySem.W.typeIn K (.ref c_InvalidNumber) = some (.type "type"))
    (w_InvalidOffers : PySem.W.typeIn K (.ref c_InvalidOffers) = some (.type "type"))
    (w_InvalidShop : PySem.W.typeIn K (.ref c_InvalidShop) = some (.type "type"))
    (w_NoFault : PySem.W.typeIn K (.ref c_NoFault) = some (.type "type"))
    (w_NotThere : PySem.W.typeIn K (.ref c_NotThere) = some (.type "type"))
    (w_NothingToUndo : PySem.W.typeIn K (.ref c_NothingToUndo) = some (.type "type"))
    (w_ParseError : PySem.W.typeIn K (.ref c_ParseError) = some (.type "type"))
    (w_PriceError : PySem.W.typeIn K (.ref c_PriceError) = some (.type "type"))
    {d_InvalidShop : ClassData} (m_InvalidShop : PySem.W.clsIn K c_InvalidShop = some d_InvalidShop) (n_InvalidShop : d_InvalidShop.mro = [.ref c_InvalidShop, .ref c_PriceError, .type "ValueError", .type "Exception", .type "BaseException", .type "object"])
    (v_InvalidShop : PySem.W.findIn K (.ref c_InvalidShop) "__getattribute__" = some (some (.builtin "BaseException.__getattribute__"))) (j_InvalidShop : PySem.W.findIn K (.ref c_InvalidShop) "__getattr__" = some none) (o_InvalidShop : PySem.W.hasDictIn K c_InvalidShop = true) (i_InvalidShop : PySem.W.findIn K (.ref c_InvalidShop) "__class__" = some (some (.builtin "object.__class__")))
    {d_InvalidBasket : ClassData} (m_InvalidBasket : PySem.W.clsIn K c_InvalidBasket = some d_InvalidBasket) (n_InvalidBasket : d_InvalidBasket.mro = [.ref c_InvalidBasket, .ref c_PriceError, .type "ValueError", .type "Exception", .type "BaseException", .type "object"])
    (v_InvalidBasket : PySem.W.findIn K (.ref c_InvalidBasket) "__getattribute__" = some (some (.builtin "BaseException.__getattribute__"))) (j_InvalidBasket : PySem.W.findIn K (.ref c_InvalidBasket) "__getattr__" = some none) (o_InvalidBasket : PySem.W.hasDictIn K c_InvalidBasket = true) (i_InvalidBasket : PySem.W.findIn K (.ref c_InvalidBasket) "__class__" = some (some (.builtin "object.__class__")))
    {d_InvalidActs : ClassData} (m_InvalidActs : PySem.W.clsIn K c_InvalidActs = some d_InvalidActs) (n_InvalidActs : d_InvalidActs.mro = [.ref c_InvalidActs, .ref c_PriceError, .type "ValueError", .type "Exception", .type "BaseException", .type "object"])
    (v_InvalidActs : PySem.W.findIn K (.ref c_InvalidActs) "__getattribute__" = some (some (.builtin "BaseException.__getattribute__"))) (j_InvalidActs : PySem.W.findIn K (.ref c_InvalidActs) "__getattr__" = some none) (o_InvalidActs : PySem.W.hasDictIn K c_InvalidActs = true) (i_InvalidActs : PySem.W.findIn K (.ref c_InvalidActs) "__class__" = some (some (.builtin "object.__class__")))
    {d_InvalidAct : ClassData} (m_InvalidAct : PySem.W.clsIn K c_InvalidAct = some d_InvalidAct) (n_InvalidAct : d_InvalidAct.mro = [.ref c_InvalidAct, .ref c_PriceError, .type "ValueError", .type "Exception", .type "BaseException", .type "object"])
    (v_InvalidAct : PySem.W.findIn K (.ref c_InvalidAct) "__getattribute__" = some (some (.builtin "BaseException.__getattribute__"))) (j_InvalidAct : PySem.W.findIn K (.ref c_InvalidAct) "__getattr__" = some none) (o_InvalidAct : PySem.W.hasDictIn K c_InvalidAct = true) (i_InvalidAct : PySem.W.findIn K (.ref c_InvalidAct) "__class__" = some (some (.builtin "object.__class__")))
    {d_InvalidOffers : ClassData} (m_InvalidOffers : PySem.W.clsIn K c_InvalidOffers = some d_InvalidOffers) (n_InvalidOffers : d_InvalidOffers.mro = [.ref c_InvalidOffers, .ref c_PriceError, .type "ValueError", .type "Exception", .type "BaseException", .type "object"])
    (v_InvalidOffers : PySem.W.findIn K (.ref c_InvalidOffers) "__getattribute__" = some (some (.builtin "BaseException.__getattribute__"))) (j_InvalidOffers : PySem.W.findIn K (.ref c_InvalidOffers) "__getattr__" = some none) (o_InvalidOffers : PySem.W.hasDictIn K c_InvalidOffers = true) (i_InvalidOffers : PySem.W.findIn K (.ref c_InvalidOffers) "__class__" = some (some (.builtin "object.__class__")))
    {d_InvalidKinds : ClassData} (m_InvalidKinds : PySem.W.clsIn K c_InvalidKinds = some d_InvalidKinds) (n_InvalidKinds : d_InvalidKinds.mro = [.ref c_InvalidKinds, .ref c_PriceError, .type "ValueError", .type "Exception", .type "BaseException", .type "object"])
    (v_InvalidKinds : PySem.W.findIn K (.ref c_InvalidKinds) "__getattribute__" = some (some (.builtin "BaseException.__getattribute__"))) (j_InvalidKinds : PySem.W.findIn K (.ref c_InvalidKinds) "__getattr__" = some none) (o_InvalidKinds : PySem.W.hasDictIn K c_InvalidKinds = true) (i_InvalidKinds : PySem.W.findIn K (.ref c_InvalidKinds) "__class__" = some (some (.builtin "object.__class__")))
    {d_InvalidNumber : ClassData} (m_InvalidNumber : PySem.W.clsIn K c_InvalidNumber = some d_InvalidNumber) (n_InvalidNumber : d_InvalidNumber.mro = [.ref c_InvalidNumber, .ref c_PriceError, .type "ValueError", .type "Exception", .type "BaseException", .type "object"])
    (v_InvalidNumber : PySem.W.findIn K (.ref c_InvalidNumber) "__getattribute__" = some (some (.builtin "BaseException.__getattribute__"))) (j_InvalidNumber : PySem.W.findIn K (.ref c_InvalidNumber) "__getattr__" = some none) (o_InvalidNumber : PySem.W.hasDictIn K c_InvalidNumber = true) (i_InvalidNumber : PySem.W.findIn K (.ref c_InvalidNumber) "__class__" = some (some (.builtin "object.__class__")))
    {d_Different : ClassData} (m_Different : PySem.W.clsIn K c_Different = some d_Different) (n_Different : d_Different.mro = [.ref c_Different, .ref c_PriceError, .type "ValueError", .type "Exception", .type "BaseException", .type "object"])
    (v_Different : PySem.W.findIn K (.ref c_Different) "__getattribute__" = some (some (.builtin "BaseException.__getattribute__"))) (j_Different : PySem.W.findIn K (.ref c_Different) "__getattr__" = some none) (o_Different : PySem.W.hasDictIn K c_Different = true) (i_Different : PySem.W.findIn K (.ref c_Different) "__class__" = some (some (.builtin "object.__class__")))
    {d_NoFault : ClassData} (m_NoFault : PySem.W.clsIn K c_NoFault = some d_NoFault) (n_NoFault : d_NoFault.mro = [.ref c_NoFault, .ref c_PriceError, .type "ValueError", .type "Exception", .type "BaseException", .type "object"])
    (v_NoFault : PySem.W.findIn K (.ref c_NoFault) "__getattribute__" = some (some (.builtin "BaseException.__getattribute__"))) (j_NoFault : PySem.W.findIn K (.ref c_NoFault) "__getattr__" = some none) (o_NoFault : PySem.W.hasDictIn K c_NoFault = true) (i_NoFault : PySem.W.findIn K (.ref c_NoFault) "__class__" = some (some (.builtin "object.__class__")))
    {d_NotThere : ClassData} (m_NotThere : PySem.W.clsIn K c_NotThere = some d_NotThere) (n_NotThere : d_NotThere.mro = [.ref c_NotThere, .ref c_PriceError, .type "ValueError", .type "Exception", .type "BaseException", .type "object"])
    (v_NotThere : PySem.W.findIn K (.ref c_NotThere) "__getattribute__" = some (some (.builtin "BaseException.__getattribute__"))) (j_NotThere : PySem.W.findIn K (.ref c_NotThere) "__getattr__" = some none) (o_NotThere : PySem.W.hasDictIn K c_NotThere = true) (i_NotThere : PySem.W.findIn K (.ref c_NotThere) "__class__" = some (some (.builtin "object.__class__")))
    {d_NothingToUndo : ClassData} (m_NothingToUndo : PySem.W.clsIn K c_NothingToUndo = some d_NothingToUndo) (n_NothingToUndo : d_NothingToUndo.mro = [.ref c_NothingToUndo, .ref c_PriceError, .type "ValueError", .type "Exception", .type "BaseException", .type "object"])
    (v_NothingToUndo : PySem.W.findIn K (.ref c_NothingToUndo) "__getattribute__" = some (some (.builtin "BaseException.__getattribute__"))) (j_NothingToUndo : PySem.W.findIn K (.ref c_NothingToUndo) "__getattr__" = some none) (o_NothingToUndo : PySem.W.hasDictIn K c_NothingToUndo = true) (i_NothingToUndo : PySem.W.findIn K (.ref c_NothingToUndo) "__class__" = some (some (.builtin "object.__class__")))
    {d_ParseError : ClassData} (m_ParseError : PySem.W.clsIn K c_ParseError = some d_ParseError) (n_ParseError : d_ParseError.mro = [.ref c_ParseError, .ref c_PriceError, .type "ValueError", .type "Exception", .type "BaseException", .type "object"])
    (v_ParseError : PySem.W.findIn K (.ref c_ParseError) "__getattribute__" = some (some (.builtin "BaseException.__getattribute__"))) (j_ParseError : PySem.W.findIn K (.ref c_ParseError) "__getattr__" = some none) (o_ParseError : PySem.W.hasDictIn K c_ParseError = true) (i_ParseError : PySem.W.findIn K (.ref c_ParseError) "__class__" = some (some (.builtin "object.__class__")))
    (bP : PySem.W.subIn K (.ref c_PriceError) (.type "BaseException") = some true) (iP : PySem.W.isClsIn K c_PriceError = true)
    (hn : PySem.W.specialIn K (.builtin "object.__class__") "__get__" = some (some (.builtin "getset_descriptor.__get__"))) (ht : PySem.W.takesIn K (.builtin "object.__class__") = some true)
    (nd : [c_PriceError, c_InvalidShop, c_InvalidBasket, c_InvalidActs, c_InvalidAct, c_InvalidOffers, c_InvalidKinds, c_InvalidNumber, c_Different, c_NoFault, c_NotThere, c_NothingToUndo, c_ParseError].Nodup)
    (D0 : ∀ ns : List Int, ns.length ≤ 63 → g_law [.d (.fz (ns.map D.int))] (fun _ => none) fun r _ => r = .ok (.d (.bl true))) :
    ∃ fd : FuncData, (∀ (s : Shared) (v : Value), BindsTo s fd ⟨[v], []⟩ [("_law_script", v)]) ∧ ∀ base : Heap, K.In base → base.Ns mainGlobals mg → FnOk l.prog w K mg base (L2.CX l.prog w) 12 fa fd ["_law_script"] (spLaw K) := by
  letI : Wd := ⟨w⟩
  have e := hfa.symm.trans (PySem.W.mg_of X G a44)
  cases e
  have B : Bl K mg := ⟨PySem.W.mg_none_of X G z_ValueError, PySem.W.mg_none_of X G z_all, PySem.W.mg_none_of X G z_any, PySem.W.mg_none_of X G z_bool, PySem.W.mg_none_of X G z_enumerate, PySem.W.mg_none_of X G z_int, PySem.W.mg_none_of X G z_isinstance, PySem.W.mg_none_of X G z_len, PySem.W.mg_none_of X G z_max, PySem.W.mg_none_of X G z_min, PySem.W.mg_none_of X G z_range, PySem.W.mg_none_of X G z_str, PySem.W.mg_none_of X G z_sum, PySem.W.mg_none_of X G z_tuple, ⟨_, PySem.W.mg_of X G y_MOST_GOODS, _, rfl⟩, ⟨_, PySem.W.mg_of X G y_MOST_RULES, _, rfl⟩, ⟨_, .ref u_SUM_WORDS, PySem.W.mg_of X G y_SUM_WORDS, rfl, fun _ _ => .tup (xs := [.str "over", .str "each"]) (.inr ⟨_, _, _, x_SUM_WORDS, rfl, rfl, by show (2 : Nat) ≤ sizeLine; decide, (.cons ⟨_, rfl⟩ (.cons ⟨_, rfl⟩ .nil))⟩) (.cons (.str _) (.cons (.str _) .nil))⟩, ⟨_, PySem.W.mg_of X G e_InvalidNumber, q_InvalidNumber, p_InvalidNumber, r_InvalidNumber, w_InvalidNumber⟩, ⟨_, PySem.W.mg_of X G e_InvalidShop, q_InvalidShop, p_InvalidShop, r_InvalidShop, w_InvalidShop⟩, ⟨_, PySem.W.mg_of X G e_NotThere, q_NotThere, p_NotThere, r_NotThere, w_NotThere⟩, ⟨_, PySem.W.mg_of X G e_NothingToUndo, q_NothingToUndo, p_NothingToUndo, r_NothingToUndo, w_NothingToUndo⟩⟩
  have F0 := fun_mk (st := s_is_integer) l0 c0 k0
  have C0 : Cd K mg "is_integer" s_is_integer ["value"] _ _ := ⟨F0, PySem.W.mg_of X G a0, F0.binds (ps := ["value"]) fun _ _ _ _ _ _ us hl => match us, hl with | [_], _ => rfl⟩
  have F1 := fun_mk (st := s_is_between) l1 c1 k1
  have C1 : Cd K mg "is_between" s_is_between ["value", "low", "high"] _ _ := ⟨F1, PySem.W.mg_of X G a1, F1.binds (ps := ["value", "low", "high"]) fun _ _ _ _ _ _ us hl => match us, hl with | [_, _, _], _ => rfl⟩
  have F2 := fun_mk (st := s_is_tuple_of) l2 c2 k2
  have C2 : Cd K mg "is_tuple_of" s_is_tuple_of ["value", "length"] _ _ := ⟨F2, PySem.W.mg_of X G a2, F2.binds (ps := ["value", "length"]) fun _ _ _ _ _ _ us hl => match us, hl with | [_, _], _ => rfl⟩
  have F3 := fun_mk (st := s_is_most) l3 c3 k3
  have C3 : Cd K mg "is_most" s_is_most ["value"] _ _ := ⟨F3, PySem.W.mg_of X G a3, F3.binds (ps := ["value"]) fun _ _ _ _ _ _ us hl => match us, hl with | [_], _ => rfl⟩
  have F4 := fun_mk (st := s_is_good) l4 c4 k4
  have C4 : Cd K mg "is_good" s_is_good ["value"] _ _ := ⟨F4, PySem.W.mg_of X G a4, F4.binds (ps := ["value"]) fun _ _ _ _ _ _ us hl => match us, hl with | [_], _ => rfl⟩
  have F5 := fun_mk (st := s_is_pack) l5 c5 k5
  have C5 : Cd K mg "is_pack" s_is_pack ["value", "many_goods"] _ _ := ⟨F5, PySem.W.mg_of X G a5, F5.binds (ps := ["value", "many_goods"]) fun _ _ _ _ _ _ us hl => match us, hl with | [_, _], _ => rfl⟩
  have F6 := fun_mk (st := s_is_from) l6 c6 k6
  have C6 : Cd K mg "is_from" s_is_from ["value", "many_goods"] _ _ := ⟨F6, PySem.W.mg_of X G a6, F6.binds (ps := ["value", "many_goods"]) fun _ _ _ _ _ _ us hl => match us, hl with | [_, _], _ => rfl⟩
  have F7 := fun_mk (st := s_is_over) l7 c7 k7
  have C7 : Cd K mg "is_over" s_is_over ["value"] _ _ := ⟨F7, PySem.W.mg_of X G a7, F7.binds (ps := ["value"]) fun _ _ _ _ _ _ us hl => match us, hl with | [_], _ => rfl⟩
  have F8 := fun_mk (st := s_is_each) l8 c8 k8
  have C8 : Cd K mg "is_each" s_is_each ["value"] _ _ := ⟨F8, PySem.W.mg_of X G a8, F8.binds (ps := ["value"]) fun _ _ _ _ _ _ us hl => match us, hl with | [_], _ => rfl⟩
  have F9 := fun_mk (st := s_is_rule) l9 c9 k9
  have C9 : Cd K mg "is_rule" s_is_rule ["value", "many_goods"] _ _ := ⟨F9, PySem.W.mg_of X G a9, F9.binds (ps := ["value", "many_goods"]) fun _ _ _ _ _ _ us hl => match us, hl with | [_, _], _ => rfl⟩
  have F10 := fun_mk (st := s_is_endless_each) l10 c10 k10
  have C10 : Cd K mg "is_endless_each" s_is_endless_each ["rule"] _ _ := ⟨F10, PySem.W.mg_of X G a10, F10.binds (ps := ["rule"]) fun _ _ _ _ _ _ us hl => match us, hl with | [_], _ => rfl⟩
  have F11 := fun_mk (st := s_are_goods) l11 c11 k11
  have C11 : Cd K mg "are_goods" s_are_goods ["value"] _ _ := ⟨F11, PySem.W.mg_of X G a11, F11.binds (ps := ["value"]) fun _ _ _ _ _ _ us hl => match us, hl with | [_], _ => rfl⟩
  have F12 := fun_mk (st := s_are_rules) l12 c12 k12
  have C12 : Cd K mg "are_rules" s_are_rules ["value", "many_goods"] _ _ := ⟨F12, PySem.W.mg_of X G a12, F12.binds (ps := ["value", "many_goods"]) fun _ _ _ _ _ _ us hl => match us, hl with | [_, _], _ => rfl⟩
  have F13 := fun_mk (st := s_is_shop) l13 c13 k13
  have C13 : Cd K mg "is_shop" s_is_shop ["value"] _ _ := ⟨F13, PySem.W.mg_of X G a13, F13.binds (ps := ["value"]) fun _ _ _ _ _ _ us hl => match us, hl with | [_], _ => rfl⟩
  have F14 := fun_mk (st := s_check_shop) l14 c14 k14
  have C14 : Cd K mg "check_shop" s_check_shop ["shop"] _ _ := ⟨F14, PySem.W.mg_of X G a14, F14.binds (ps := ["shop"]) fun _ _ _ _ _ _ us hl => match us, hl with | [_], _ => rfl⟩
  have F15 := fun_mk (st := s_full_times) l15 c15 k15
  have C15 : Cd K mg "full_times" s_full_times ["whole", "part", "most"] _ _ := ⟨F15, PySem.W.mg_of X G a15, F15.binds (ps := ["whole", "part", "most"]) fun _ _ _ _ _ _ us hl => match us, hl with | [_, _, _], _ => rfl⟩
  have F16 := fun_mk (st := s_fitting_rule) l16 c16 k16
  have C16 : Cd K mg "fitting_rule" s_fitting_rule ["rules", "good", "pieces"] _ _ := ⟨F16, PySem.W.mg_of X G a16, F16.binds (ps := ["rules", "good", "pieces"]) fun _ _ _ _ _ _ us hl => match us, hl with | [_, _, _], _ => rfl⟩
  have F17 := fun_mk (st := s_pack_times) l17 c17 k17
  have C17 : Cd K mg "pack_times" s_pack_times ["rule", "pieces"] _ _ := ⟨F17, PySem.W.mg_of X G a17, F17.binds (ps := ["rule", "pieces"]) fun _ _ _ _ _ _ us hl => match us, hl with | [_, _], _ => rfl⟩
  have F18 := fun_mk (st := s_pack_amount) l18 c18 k18
  have C18 : Cd K mg "pack_amount" s_pack_amount ["rule", "price", "pieces"] _ _ := ⟨F18, PySem.W.mg_of X G a18, F18.binds (ps := ["rule", "price", "pieces"]) fun _ _ _ _ _ _ us hl => match us, hl with | [_, _, _], _ => rfl⟩
  have F19 := fun_mk (st := s_good_amount) l19 c19 k19
  have C19 : Cd K mg "good_amount" s_good_amount ["shop", "good", "pieces"] _ _ := ⟨F19, PySem.W.mg_of X G a19, F19.binds (ps := ["shop", "good", "pieces"]) fun _ _ _ _ _ _ us hl => match us, hl with | [_, _, _], _ => rfl⟩
  have F20 := fun_mk (st := s_off_times) l20 c20 k20
  have C20 : Cd K mg "off_times" s_off_times ["rule", "left"] _ _ := ⟨F20, PySem.W.mg_of X G a20, F20.binds (ps := ["rule", "left"]) fun _ _ _ _ _ _ us hl => match us, hl with | [_, _], _ => rfl⟩
  have F21 := fun_mk (st := s_apply_sums) l21 c21 k21
  have C21 : Cd K mg "apply_sums" s_apply_sums ["rules", "total"] _ _ := ⟨F21, PySem.W.mg_of X G a21, F21.binds (ps := ["rules", "total"]) fun _ _ _ _ _ _ us hl => match us, hl with | [_, _], _ => rfl⟩
  have F22 := fun_mk (st := s_amounts_of) l22 c22 k22
  have C22 : Cd K mg "amounts_of" s_amounts_of ["shop", "basket"] _ _ := ⟨F22, PySem.W.mg_of X G a22, F22.binds (ps := ["shop", "basket"]) fun _ _ _ _ _ _ us hl => match us, hl with | [_, _], _ => rfl⟩
  have F23 := fun_mk (st := s_left_of) l23 c23 k23
  have C23 : Cd K mg "left_of" s_left_of ["rules", "total"] _ _ := ⟨F23, PySem.W.mg_of X G a23, F23.binds (ps := ["rules", "total"]) fun _ _ _ _ _ _ us hl => match us, hl with | [_, _], _ => rfl⟩
  have F24 := fun_mk (st := s_charge_of) l24 c24 k24
  have C24 : Cd K mg "charge_of" s_charge_of ["shop", "basket"] _ _ := ⟨F24, PySem.W.mg_of X G a24, F24.binds (ps := ["shop", "basket"]) fun _ _ _ _ _ _ us hl => match us, hl with | [_, _], _ => rfl⟩
  have F25 := fun_mk (st := s_with_more) l25 c25 k25
  have C25 : Cd K mg "with_more" s_with_more ["basket", "good", "pieces"] _ _ := ⟨F25, PySem.W.mg_of X G a25, F25.binds (ps := ["basket", "good", "pieces"]) fun _ _ _ _ _ _ us hl => match us, hl with | [_, _, _], _ => rfl⟩
  have F26 := fun_mk (st := s_Till___init__) l26 c26 k26
  have C26 : CdM K mg "Till" "__init__" "Till.__init__" s_Till___init__ ["self", "shop"] cT _ _ := ⟨F26, PySem.W.mg_of X G aT, F26.binds (ps := ["self", "shop"]) fun _ _ _ _ _ _ us hl => match us, hl with | [_, _], _ => rfl, ⟨tm, mi26, mf26, tk⟩⟩
  have F27 := fun_mk (st := s_Till___eq__) l27 c27 k27
  have C27 : CdG K cT "__eq__" "Till.__eq__" s_Till___eq__ ["self", "other"] _ _ := ⟨F27, F27.binds (ps := ["self", "other"]) fun _ _ _ _ _ _ us hl => match us, hl with | [_, _], _ => rfl, ⟨mi27, mf27, k27⟩⟩
  have F28 := fun_mk (st := s_Till__check_good) l28 c28 k28
  have C28 : CdG K cT "_check_good" "Till._check_good" s_Till__check_good ["self", "good"] _ _ := ⟨F28, F28.binds (ps := ["self", "good"]) fun _ _ _ _ _ _ us hl => match us, hl with | [_, _], _ => rfl, ⟨mi28, mf28, k28⟩⟩
  have F29 := fun_mk (st := s_Till__step) l29 c29 k29
  have C29 : CdG K cT "_step" "Till._step" s_Till__step ["self", "basket"] _ _ := ⟨F29, F29.binds (ps := ["self", "basket"]) fun _ _ _ _ _ _ us hl => match us, hl with | [_, _], _ => rfl, ⟨mi29, mf29, k29⟩⟩
  have F30 := fun_mk (st := s_Till_put) l30 c30 k30
  have C30 : CdG K cT "put" "Till.put" s_Till_put ["self", "good"] _ _ := ⟨F30, F30.binds (ps := ["self", "good"]) fun _ _ _ _ _ _ us hl => match us, hl with | [_, _], _ => rfl, ⟨mi30, mf30, k30⟩⟩
  have F31 := fun_mk (st := s_Till_take) l31 c31 k31
  have C31 : CdG K cT "take" "Till.take" s_Till_take ["self", "good"] _ _ := ⟨F31, F31.binds (ps := ["self", "good"]) fun _ _ _ _ _ _ us hl => match us, hl with | [_, _], _ => rfl, ⟨mi31, mf31, k31⟩⟩
  have F32 := fun_mk (st := s_Till_basket) l32 c32 k32
  have C32 : CdG K cT "basket" "Till.basket" s_Till_basket ["self"] _ _ := ⟨F32, F32.binds (ps := ["self"]) fun _ _ _ _ _ _ us hl => match us, hl with | [_], _ => rfl, ⟨mi32, mf32, k32⟩⟩
  have F33 := fun_mk (st := s_Till_undo) l33 c33 k33
  have C33 : CdG K cT "undo" "Till.undo" s_Till_undo ["self"] _ _ := ⟨F33, F33.binds (ps := ["self"]) fun _ _ _ _ _ _ us hl => match us, hl with | [_], _ => rfl, ⟨mi33, mf33, k33⟩⟩
  have F34 := fun_mk (st := s_Till_duplicate) l34 c34 k34
  have C34 : CdG K cT "duplicate" "Till.duplicate" s_Till_duplicate ["self"] _ _ := ⟨F34, F34.binds (ps := ["self"]) fun _ _ _ _ _ _ us hl => match us, hl with | [_], _ => rfl, ⟨mi34, mf34, k34⟩⟩
  have F35 := fun_mk (st := s__law_cell_at) l35 c35 k35
  have C35 : Cd K mg "_law_cell_at" s__law_cell_at ["_law_script", "_law_k"] _ _ := ⟨F35, PySem.W.mg_of X G a35, F35.binds (ps := ["_law_script", "_law_k"]) fun _ _ _ _ _ _ us hl => match us, hl with | [_, _], _ => rfl⟩
  have F36 := fun_mk (st := s__law_mixed) l36 c36 k36
  have C36 : Cd K mg "_law_mixed" s__law_mixed ["_law_script", "_law_k", "_law_many"] _ _ := ⟨F36, PySem.W.mg_of X G a36, F36.binds (ps := ["_law_script", "_law_k", "_law_many"]) fun _ _ _ _ _ _ us hl => match us, hl with | [_, _, _], _ => rfl⟩
  have F37 := fun_mk (st := s__law_draw) l37 c37 k37
  have C37 : Cd K mg "_law_draw" s__law_draw ["_law_script", "_law_state", "_law_many"] _ _ := ⟨F37, PySem.W.mg_of X G a37, F37.binds (ps := ["_law_script", "_law_state", "_law_many"]) fun _ _ _ _ _ _ us hl => match us, hl with | [_, _, _], _ => rfl⟩
  have F38 := fun_mk (st := s__law_which) l38 c38 k38
  have C38 : Cd K mg "_law_which" s__law_which ["_law_e"] _ _ := ⟨F38, PySem.W.mg_of X G a38, F38.binds (ps := ["_law_e"]) fun _ _ _ _ _ _ us hl => match us, hl with | [_], _ => rfl⟩
  have F39 := fun_mk (st := s__law_pick) l39 c39 k39
  have C39 : Cd K mg "_law_pick" s__law_pick ["_law_script", "_law_state", "_law_some"] _ _ := ⟨F39, PySem.W.mg_of X G a39, F39.binds (ps := ["_law_script", "_law_state", "_law_some"]) fun _ _ _ _ _ _ us hl => match us, hl with | [_, _, _], _ => rfl⟩
  have F40 := fun_mk (st := s__law_some_rule) l40 c40 k40
  have C40 : Cd K mg "_law_some_rule" s__law_some_rule ["_law_script", "_law_state", "_law_goods", "_law_capped"] _ _ := ⟨F40, PySem.W.mg_of X G a40, F40.binds (ps := ["_law_script", "_law_state", "_law_goods", "_law_capped"]) fun _ _ _ _ _ _ us hl => match us, hl with | [_, _, _, _], _ => rfl⟩
  have F41 := fun_mk (st := s__law_some_goods) l41 c41 k41
  have C41 : Cd K mg "_law_some_goods" s__law_some_goods ["_law_script", "_law_state"] _ _ := ⟨F41, PySem.W.mg_of X G a41, F41.binds (ps := ["_law_script", "_law_state"]) fun _ _ _ _ _ _ us hl => match us, hl with | [_, _], _ => rfl⟩
  have F42 := fun_mk (st := s__law_some_shop) l42 c42 k42
  have C42 : Cd K mg "_law_some_shop" s__law_some_shop ["_law_script", "_law_state"] _ _ := ⟨F42, PySem.W.mg_of X G a42, F42.binds (ps := ["_law_script", "_law_state"]) fun _ _ _ _ _ _ us hl => match us, hl with | [_, _], _ => rfl⟩
  have F43 := fun_mk (st := s__law_undo) l43 c43 k43
  have C43 : Cd K mg "_law_undo" s__law_undo ["_law_till"] _ _ := ⟨F43, PySem.W.mg_of X G a43, F43.binds (ps := ["_law_till"]) fun _ _ _ _ _ _ us hl => match us, hl with | [_], _ => rfl⟩
  have F44 := fun_mk (st := s_law) l44 c44 k44
  have C44 : Cd K mg "law" s_law ["_law_script"] _ _ := ⟨F44, PySem.W.mg_of X G a44, F44.binds (ps := ["_law_script"]) fun _ _ _ _ _ _ us hl => match us, hl with | [_], _ => rfl⟩
  refine ⟨PySem.W.fnOf "law" "law" (defArgs s_law) (defBody s_law) (defScope s_law) .none kV44 dc44 pm44 an44 cd44 ct44, fun s v => .of_eq rfl, fun base _ _ => ?_⟩
  have XS : Exn K mg c_PriceError [c_InvalidShop, c_InvalidBasket, c_InvalidActs, c_InvalidAct, c_InvalidOffers, c_InvalidKinds, c_InvalidNumber, c_Different, c_NoFault, c_NotThere, c_NothingToUndo, c_ParseError] := ⟨(.cons (PySem.W.mg_of X G e_InvalidShop) ⟨⟨_, m_InvalidShop, n_InvalidShop⟩, w_InvalidShop, v_InvalidShop, j_InvalidShop, o_InvalidShop, i_InvalidShop⟩ (.cons (PySem.W.mg_of X G e_InvalidBasket) ⟨⟨_, m_InvalidBasket, n_InvalidBasket⟩, w_InvalidBasket, v_InvalidBasket, j_InvalidBasket, o_InvalidBasket, i_InvalidBasket⟩ (.cons (PySem.W.mg_of X G e_InvalidActs) ⟨⟨_, m_InvalidActs, n_InvalidActs⟩, w_InvalidActs, v_InvalidActs, j_InvalidActs, o_InvalidActs, i_InvalidActs⟩ (.cons (PySem.W.mg_of X G e_InvalidAct) ⟨⟨_, m_InvalidAct, n_InvalidAct⟩, w_InvalidAct, v_InvalidAct, j_InvalidAct, o_InvalidAct, i_InvalidAct⟩ (.cons (PySem.W.mg_of X G e_InvalidOffers) ⟨⟨_, m_InvalidOffers, n_InvalidOffers⟩, w_InvalidOffers, v_InvalidOffers, j_InvalidOffers, o_InvalidOffers, i_InvalidOffers⟩ (.cons (PySem.W.mg_of X G e_InvalidKinds) ⟨⟨_, m_InvalidKinds, n_InvalidKinds⟩, w_InvalidKinds, v_InvalidKinds, j_InvalidKinds, o_InvalidKinds, i_InvalidKinds⟩ (.cons (PySem.W.mg_of X G e_InvalidNumber) ⟨⟨_, m_InvalidNumber, n_InvalidNumber⟩, w_InvalidNumber, v_InvalidNumber, j_InvalidNumber, o_InvalidNumber, i_InvalidNumber⟩ (.cons (PySem.W.mg_of X G e_Different) ⟨⟨_, m_Different, n_Different⟩, w_Different, v_Different, j_Different, o_Different, i_Different⟩ (.cons (PySem.W.mg_of X G e_NoFault) ⟨⟨_, m_NoFault, n_NoFault⟩, w_NoFault, v_NoFault, j_NoFault, o_NoFault, i_NoFault⟩ (.cons (PySem.W.mg_of X G e_NotThere) ⟨⟨_, m_NotThere, n_NotThere⟩, w_NotThere, v_NotThere, j_NotThere, o_NotThere, i_NotThere⟩ (.cons (PySem.W.mg_of X G e_NothingToUndo) ⟨⟨_, m_NothingToUndo, n_NothingToUndo⟩, w_NothingToUndo, v_NothingToUndo, j_NothingToUndo, o_NothingToUndo, i_NothingToUndo⟩ (.cons (PySem.W.mg_of X G e_ParseError) ⟨⟨_, m_ParseError, n_ParseError⟩, w_ParseError, v_ParseError, j_ParseError, o_ParseError, i_ParseError⟩ .nil)))))))))))), nd, PySem.W.mg_of X G e_PriceError, bP, iP, w_PriceError, hn, ht⟩
  have CT : ClsT K cT := ⟨⟨tg, th, tp, ts⟩, ta, tb, tc⟩
  have CE : ClsE K cT := ⟨⟨tg, th, tp, ts⟩, e1, e2, e3, e4, e5, e6, e7, e8, e9⟩
  have gT := PySem.W.mg_of X G aT
  have G0 := ok_is_integer (P := l.prog) (base := base) B F0 
  have G1 := ok_is_between (P := l.prog) (base := base) B F1 C0 G0
  have G2 := ok_is_tuple_of (P := l.prog) (base := base) B F2 
  have G3 := ok_is_most (P := l.prog) (base := base) B F3 C1 G1
  have G4 := ok_is_good (P := l.prog) (base := base) B F4 C2 G2 C1 G1
  have G5 := ok_is_pack (P := l.prog) (base := base) B F5 C2 G2 C1 G1 C3 G3
  have G6 := ok_is_from (P := l.prog) (base := base) B F6 C2 G2 C1 G1
  have G7 := ok_is_over (P := l.prog) (base := base) B F7 C2 G2 C1 G1
  have G8 := ok_is_each (P := l.prog) (base := base) B F8 C2 G2 C3 G3 C1 G1
  have G9 := ok_is_rule (P := l.prog) (base := base) B F9 C5 G5 C6 G6 C7 G7 C8 G8
  have G10 := ok_is_endless_each (P := l.prog) (base := base) B F10 
  have G11 := ok_are_goods (P := l.prog) (base := base) B F11 C4 G4
  have G12 := ok_are_rules (P := l.prog) (base := base) B F12 C9 G9 C10 G10
  have G13 := ok_is_shop (P := l.prog) (base := base) B F13 C2 G2 C11 G11 C12 G12
  have G14 := ok_check_shop (P := l.prog) (base := base) B F14 C13 G13
  have G15 := ok_full_times (P := l.prog) (base := base) B F15 
  have G16 := ok_fitting_rule (P := l.prog) (base := base) B F16 
  have G17 := ok_pack_times (P := l.prog) (base := base) B F17 C15 G15
  have G18 := ok_pack_amount (P := l.prog) (base := base) B F18 C17 G17
  have G19 := ok_good_amount (P := l.prog) (base := base) B F19 C16 G16 C18 G18
  have G20 := ok_off_times (P := l.prog) (base := base) B F20 C15 G15
  have G21 := ok_apply_sums (P := l.prog) (base := base) B F21 C20 G20
  have G22 := ok_amounts_of (P := l.prog) (base := base) B F22 C19 G19
  have G23 := ok_left_of (P := l.prog) (base := base) B F23 C21 G21
  have G24 := ok_charge_of (P := l.prog) (base := base) B F24 C23 G23 C22 G22
  have G25 := ok_with_more (P := l.prog) (base := base) B F25 
  have G26 := ok_Till___init__ (P := l.prog) (base := base) CT CE gT B F26 C14 G14
  have G27 := ok_Till___eq__ (P := l.prog) (base := base) CT CE gT B F27 
  have G28 := ok_Till__check_good (P := l.prog) (base := base) CT CE gT B F28 C1 G1
  have G29 := ok_Till__step (P := l.prog) (base := base) CT CE gT B F29 C24 G24
  have G30 := ok_Till_put (P := l.prog) (base := base) CT CE gT B F30 C25 G25 C28 G28 C29 G29
  have G31 := ok_Till_take (P := l.prog) (base := base) CT CE gT B F31 C25 G25 C28 G28 C29 G29
  have G32 := ok_Till_basket (P := l.prog) (base := base) CT CE gT B F32 
  have G33 := ok_Till_undo (P := l.prog) (base := base) CT CE gT B F33 
  have G34 := ok_Till_duplicate (P := l.prog) (base := base) CT CE gT B F34 C26 G26
  have G35 := ok__law_cell_at (P := l.prog) (base := base) B F35 
  have G36 := ok__law_mixed (P := l.prog) (base := base) B F36 C35 G35
  have G37 := ok__law_draw (P := l.prog) (base := base) B F37 C36 G36
  have G38 := ok__law_which (P := l.prog) (base := base) XS B F38
  have G39 := ok__law_pick (P := l.prog) (base := base) B F39 C37 G37
  have G40 := ok__law_some_rule (P := l.prog) (base := base) B F40 C37 G37 C39 G39
  have G41 := ok__law_some_goods (P := l.prog) (base := base) B F41 C37 G37
  have G42 := ok__law_some_shop (P := l.prog) (base := base) B F42 C41 G41 C37 G37 C40 G40
  have G43 := ok__law_undo (P := l.prog) (base := base) XS CT CE gT B F43 C38 G38 C33 G33
  have G44 := ok_law (P := l.prog) (base := base) CT CE gT B F44 C42 G42 C37 G37 C43 G43 C30 G30 C27 G27 C26 G26 C34 G34 C32 G32 C31 G31
  exact law_okT G44 D0
end DL
namespace DL
open PySem PySem.Spec L2
theorem weak_im (d : D) : (T.im d).weak = .im d := rfl
theorem fld_now (t : Tl) : fldG "_now" t = some t.now := by
  have n : ¬ ("_now" : Str) = "_shop" := by decide +kernel
  unfold fldG
  rw [if_neg n, if_pos rfl]
theorem fld_shop (t : Tl) : fldG "_shop" t = some t.sh := rfl
theorem len_bas (bs : List Int) : dLen [basD bs] = some (.im (.int bs.length)) := by simp [basD, dLen]
theorem fl_bas (bs : List Int) : D.flat (basD bs) = true := by
  show D.flats (bs.map D.int) = true
  induction bs with
  | nil => rfl
  | cons b bs ih => simpa [D.flats, D.flat] using ih
theorem c_check {a : Addr} {t : Tl} {m : Gt} {P : Go → Gt → Prop} {g : D} {bs : List Int} (e : m a = some t) (en : t.now = basD bs) (hg : D.flat g = true) (q : if isBetween g 0 (bs.length - 1) then P (.ok (.d .non)) m else P (.ex "InvalidNumber") m) : g_Till__check_good [.h a, .d g] m P := by
  refine ⟨rfl, ?_⟩
  have q1 := r_is_between g 0 (bs.length - 1)
  show h_Till__check_good_1 [.hd a, .im g] m _
  have fi : ∀ i : Int, D.flat (.int i) = true := fun _ => rfl
  have fb : ∀ i : Bool, D.flat (.bl i) = true := fun _ => rfl
  simp [h_Till__check_good_1, wB, gLe, gHd, gCons', gNil', hFld, hRet, hDrop, hSet, hPut, hIf, hSeq, gNo, gVb, gOp2, gCm, gRes, gBl, gBi, gDs, gCd, gMe, gCl, gLs, gLt, slG, weak_im, fld_now, fld_shop, e, en, hg, fi, fb, len_bas, q1, sEr, op2, op1, T.val, R.opt, toB, opL, vals, consT, disp, mvs, mkTup, callT, callI, argE, others, isAl, isAli, finT, outE, padE, runD, cpsOf, cpT, toI, slT, T.weak, metT, kApp, kExt, elemD, iT, iL, iR1, iR2, iE, iZ, onI]
  cases z : isBetween g 0 (bs.length - 1) with
  | true => rw [z] at q; simpa using q
  | false => rw [z] at q; simpa using q
theorem gput_put (m : Gt) (a : Addr) (t u : Tl) : gput (gput m a t) a u = gput m a u := by
  funext b
  unfold gput
  by_cases z : b = a <;> simp [z]
theorem put_now (d : D) (t : Tl) : putG "_now" d t = { t with now := d } := by
  unfold putG
  rw [if_pos rfl]
theorem fl_int (i : Int) : D.flat (.int i) = true := rfl
theorem c_step {a : Addr} {t : Tl} {m : Gt} {P : Go → Gt → Prop} {gi : List (Int × Int)} {us : List Ru} {bs cs : List Int} (hs : Shp gi us) (hf : D.flat (shopD gi us) = true) (e : m a = some t) (es : t.sh = shopD gi us) (en : t.now = basD bs) (hb : bs.length = gi.length) (hc : cs.length = gi.length) (hl : t.bef.length < 1000000)
    (q : P (.ok (.d (.int (chg gi us cs - chg gi us bs)))) (gput m a { t with bef := t.bef ++ [basD bs], now := basD cs })) : g_Till__step [.h a, .d (basD cs)] m P := by
  refine ⟨rfl, ?_⟩
  have q1 := r_charge_of hs hb
  have q2 := r_charge_of hs hc
  have f1 := fl_bas bs
  have f2 := fl_bas cs
  show h_Till__step [.hd a, .im (basD cs), .no] m _
  generalize basD bs = B at *
  generalize basD cs = C at *
  simp [h_Till__step, h_Till__step_1, h_Till__step_2, h_Till__step_3, h_Till__step_4, hApp, wB, gLe, gHd, gCons', gNil', hFld, hRet, hDrop, hSet, hPut, hIf, hSeq, gNo, gVb, gOp2, gCm, gRes, gBl, gBi, gDs, gCd, gMe, gCl, gLs, gLt, slG, weak_im, fld_now, fld_shop, e, en, es, f1, f2, hf, hl, fl_int, gput_eq, gput_put, put_now, q1, q2, sEr, op2, op1, T.val, R.opt, toB, opL, vals, consT, disp, mvs, mkTup, callT, callI, argE, others, isAl, isAli, finT, outE, padE, runD, cpsOf, cpT, toI, slT, T.weak, metT, kApp, kExt, elemD, iT, iL, iR1, iR2, iE, iZ, onI]
  rw [← es]
  exact q

abbrev Tq (l : Addr) (gi : List (Int × Int)) (us : List Ru) (bs : List Int) (bef : List D) : Tl := ⟨l, shopD gi us, basD bs, bef⟩
section
variable {a l : Addr} {m : Gt} {P : Go → Gt → Prop} {gi : List (Int × Int)} {us : List Ru} {bs : List Int} {bef : List D} {g : D} {k : Nat}
theorem bet_k (h : k < bs.length) : isBetween (.int k) 0 (bs.length - 1) = true := by
  simp [isBetween]
  omega
theorem c_put_ok (hs : Shp gi us) (hf : D.flat (shopD gi us) = true) (e : m a = some (Tq l gi us bs bef)) (hb : bs.length = gi.length) (hk : k < bs.length) (hl : bef.length < 1000000)
    (q : P (.ok (.d (.int (chg gi us (bmore bs k 1) - chg gi us bs)))) (gput m a (Tq l gi us (bmore bs k 1) (bef ++ [basD bs])))) : g_Till_put [.h a, .d (.int k)] m P := by
  refine ⟨rfl, ?_⟩
  have h2 := hs.len.2
  have q1 := r_with_more (bs := bs) (k := k) (by omega) hk 1
  have f1 := fl_bas (bmore bs k 1)
  show h_Till_put [.hd a, .im (.int k)] m _
  have st := fun (P : Go → Gt → Prop) q => c_step (P := P) (cs := bmore bs k 1) hs hf e rfl rfl hb ((bmore_len bs k 1).trans hb) hl q
  have ck := fun (P : Go → Gt → Prop) (q : P (.ok (.d .non)) m) => c_check (P := P) (bs := bs) (g := .int k) e rfl rfl (by rw [if_pos (bet_k hk)]; exact q)
  simp [h_Till_put, h_Till_put_1, wB, gLe, gHd, gCons', gNil', hFld, hRet, hDrop, hSet, hPut, hIf, hSeq, gNo, gVb, gOp2, gCm, gRes, gBl, gBi, gDs, gCd, gMe, gCl, gLs, gLt, slG, weak_im, fld_now, fld_shop, fl_int, e, sEr, op2, op1, T.val, R.opt, toB, opL, vals, consT, disp, mvs, mkTup, callT, callI, argE, others, isAl, isAli, finT, outE, padE, runD, cpsOf, cpT, toI, slT, T.weak, metT, kApp, kExt, elemD, iT, iL, iR1, iR2, iE, iZ, onI]
  refine ck _ ⟨.refl m, ?_⟩
  simp [h_Till_put_2, wB, gLe, gHd, gCons', gNil', hFld, hRet, hDrop, hSet, hPut, hIf, hSeq, gNo, gVb, gOp2, gCm, gRes, gBl, gBi, gDs, gCd, gMe, gCl, gLs, gLt, slG, weak_im, fld_now, fld_shop, fl_int, e, q1, f1, sEr, op2, op1, T.val, R.opt, toB, opL, vals, consT, disp, mvs, mkTup, callT, callI, argE, others, isAl, isAli, finT, outE, padE, runD, cpsOf, cpT, toI, slT, T.weak, metT, kApp, kExt, elemD, iT, iL, iR1, iR2, iE, iZ, onI]
  refine st _ ⟨.put e rfl, ?_⟩
  exact q
theorem at_bas {k : Nat} (hk : k < bs.length) : dIx (basD bs) (.int k) = some (.im (.int bs[k])) := by
  have : atI (bs.map D.int) (k : Int) = some (.int bs[k]) := at_map (List.getElem?_eq_getElem hk)
  simp [basD, dIx, this]
theorem c_take_ok (hs : Shp gi us) (hf : D.flat (shopD gi us) = true) (e : m a = some (Tq l gi us bs bef)) (hb : bs.length = gi.length) (hk : k < bs.length) (hl : bef.length < 1000000) (hp : bs[k] ≠ 0)
    (q : P (.ok (.d (.int (chg gi us (bmore bs k (-1)) - chg gi us bs)))) (gput m a (Tq l gi us (bmore bs k (-1)) (bef ++ [basD bs])))) : g_Till_take [.h a, .d (.int k)] m P := by
  refine ⟨rfl, ?_⟩
  have h2 := hs.len.2
  have q1 := r_with_more (bs := bs) (k := k) (by omega) hk (-1)
  have f1 := fl_bas (bmore bs k (-1))
  show h_Till_take [.hd a, .im (.int k)] m _
  have st := fun (P : Go → Gt → Prop) q => c_step (P := P) (cs := bmore bs k (-1)) hs hf e rfl rfl hb ((bmore_len bs k (-1)).trans hb) hl q
  have ck := fun (P : Go → Gt → Prop) (q : P (.ok (.d .non)) m) => c_check (P := P) (bs := bs) (g := .int k) e rfl rfl (by rw [if_pos (bet_k hk)]; exact q)
  have ax := at_bas hk
  generalize bs[k] = z at *
  simp [h_Till_take, h_Till_take_1, wB, gLe, gHd, gCons', gNil', hFld, hRet, hDrop, hSet, hPut, hIf, hSeq, gNo, gVb, gOp2, gCm, gRes, gBl, gBi, gDs, gCd, gMe, gCl, gLs, gLt, slG, weak_im, fld_now, fld_shop, fl_int, e, sEr, op2, op1, T.val, R.opt, toB, opL, vals, consT, disp, mvs, mkTup, callT, callI, argE, others, isAl, isAli, finT, outE, padE, runD, cpsOf, cpT, toI, slT, T.weak, metT, kApp, kExt, elemD, iT, iL, iR1, iR2, iE, iZ, onI]
  refine ck _ ⟨.refl m, ?_⟩
  have nz : dEqA (.int z) (.int 0) = some (.im (.bl false)) := by simp [hp, sEr, op2, op1, T.val, R.opt, toB, opL, vals, consT, disp, mvs, mkTup, callT, callI, argE, others, isAl, isAli, finT, outE, padE, runD, cpsOf, cpT, toI, slT, T.weak, metT, kApp, kExt, elemD, iT, iL, iR1, iR2, iE, iZ, onI]
  simp [h_Till_take_2, wB, gLe, gHd, gCons', gNil', hFld, hRet, hDrop, hSet, hPut, hIf, hSeq, gNo, gVb, gOp2, gCm, gRes, gBl, gBi, gDs, gCd, gMe, gCl, gLs, gLt, slG, weak_im, fld_now, fld_shop, fl_int, e, fl_bas, ax, nz, D.flat, sEr, op2, op1, T.val, R.opt, toB, opL, vals, consT, disp, mvs, mkTup, callT, callI, argE, others, isAl, isAli, finT, outE, padE, runD, cpsOf, cpT, toI, slT, T.weak, metT, kApp, kExt, elemD, iT, iL, iR1, iR2, iE, iZ, onI]
  simp [h_Till_take_3, wB, gLe, gHd, gCons', gNil', hFld, hRet, hDrop, hSet, hPut, hIf, hSeq, gNo, gVb, gOp2, gCm, gRes, gBl, gBi, gDs, gCd, gMe, gCl, gLs, gLt, slG, weak_im, fld_now, fld_shop, fl_int, e, q1, f1, sEr, op2, op1, T.val, R.opt, toB, opL, vals, consT, disp, mvs, mkTup, callT, callI, argE, others, isAl, isAli, finT, outE, padE, runD, cpsOf, cpT, toI, slT, T.weak, metT, kApp, kExt, elemD, iT, iL, iR1, iR2, iE, iZ, onI]
  refine st _ ⟨.put e rfl, ?_⟩
  exact q
theorem xi10 : xn.idxOf? ("NothingToUndo" : Str) = some 10 := by decide +kernel
variable {N B S Z : D} {b : Addr} {t u : Tl}
theorem c_undo_ok (e : m a = some ⟨l, S, N, bef ++ [B]⟩) (hf : D.flat B = true) (q : P (.ok (.d B)) (gput m a ⟨l, S, B, bef⟩)) : g_Till_undo [.h a] m P := by
  refine ⟨rfl, ?_⟩
  show h_Till_undo [.hd a] m _
  have ne : dEqA (.int ((bef.length : Int) + 1)) (.int 0) = some (.im (.bl false)) := by
    simp
    omega
  simp [h_Till_undo, h_Till_undo_1, hLen, wB, gLe, gHd, gCons', gNil', hFld, hRet, hDrop, hSet, hPut, hIf, hSeq, gNo, gVb, gOp2, gCm, gRes, gBl, gBi, gDs, gCd, gMe, gCl, gLs, gLt, slG, weak_im, fld_now, fld_shop, e, fl_int, ne, D.flat, sEr, op2, op1, T.val, R.opt, toB, opL, vals, consT, disp, mvs, mkTup, callT, callI, argE, others, isAl, isAli, finT, outE, padE, runD, cpsOf, cpT, toI, slT, T.weak, metT, kApp, kExt, elemD, iT, iL, iR1, iR2, iE, iZ, onI]
  simp [h_Till_undo_2, hPop, wB, gLe, gHd, gCons', gNil', hFld, hRet, hDrop, hSet, hPut, hIf, hSeq, gNo, gVb, gOp2, gCm, gRes, gBl, gBi, gDs, gCd, gMe, gCl, gLs, gLt, slG, weak_im, fld_now, fld_shop, e, gput_eq, gput_put, put_now, sEr, op2, op1, T.val, R.opt, toB, opL, vals, consT, disp, mvs, mkTup, callT, callI, argE, others, isAl, isAli, finT, outE, padE, runD, cpsOf, cpT, toI, slT, T.weak, metT, kApp, kExt, elemD, iT, iL, iR1, iR2, iE, iZ, onI]
  simp [h_Till_undo_3, wB, gLe, gHd, gCons', gNil', hFld, hRet, hDrop, hSet, hPut, hIf, hSeq, gNo, gVb, gOp2, gCm, gRes, gBl, gBi, gDs, gCd, gMe, gCl, gLs, gLt, slG, weak_im, fld_now, fld_shop, gput_eq, hf, sEr, op2, op1, T.val, R.opt, toB, opL, vals, consT, disp, mvs, mkTup, callT, callI, argE, others, isAl, isAli, finT, outE, padE, runD, cpsOf, cpT, toI, slT, T.weak, metT, kApp, kExt, elemD, iT, iL, iR1, iR2, iE, iZ, onI]
  exact q
theorem c_undo_no (e : m a = some ⟨l, S, N, []⟩) (q : P (.ex "NothingToUndo") m) : g_Till_undo [.h a] m P := by
  refine ⟨rfl, ?_⟩
  show h_Till_undo [.hd a] m _
  simp [h_Till_undo, h_Till_undo_1, hLen, wB, gLe, gHd, gCons', gNil', hFld, hRet, hDrop, hSet, hPut, hIf, hSeq, gNo, gVb, gOp2, gCm, gRes, gBl, gBi, gDs, gCd, gMe, gCl, gLs, gLt, slG, weak_im, fld_now, fld_shop, e, fl_int, D.flat, sEr, op2, op1, T.val, R.opt, toB, opL, vals, consT, disp, mvs, mkTup, callT, callI, argE, others, isAl, isAli, finT, outE, padE, runD, cpsOf, cpT, toI, slT, T.weak, metT, kApp, kExt, elemD, iT, iL, iR1, iR2, iE, iZ, onI]
  exact q
theorem c_dup (e : m a = some ⟨l, S, N, bef⟩) (hk : k_Till S = some Z) (hS : D.flat S = true) (hN : D.flat N = true) (q : ∀ b l', m b = none → (∀ c t, m c = some t → t.l ≠ l') → P (.ok (.h b)) (gput m b ⟨l', S, N, []⟩)) : g_Till_duplicate [.h a] m P := by
  refine ⟨rfl, ?_⟩
  show h_Till_duplicate [.hd a, .no] m _
  simp [h_Till_duplicate, h_Till_duplicate_1, gMk, wB, gLe, gHd, gCons', gNil', hFld, hRet, hDrop, hSet, hPut, hIf, hSeq, gNo, gVb, gOp2, gCm, gRes, gBl, gBi, gDs, gCd, gMe, gCl, gLs, gLt, slG, weak_im, fld_now, fld_shop, e, hk, sEr, op2, op1, T.val, R.opt, toB, opL, vals, consT, disp, mvs, mkTup, callT, callI, argE, others, isAl, isAli, finT, outE, padE, runD, cpsOf, cpT, toI, slT, T.weak, metT, kApp, kExt, elemD, iT, iL, iR1, iR2, iE, iZ, onI]
  intro b l' nb nl
  have ne : a ≠ b := fun z => by rw [z, nb] at e; cases e
  have e1 : gput m b ⟨l', S, Z, []⟩ a = some ⟨l, S, N, bef⟩ := (gput_ne _ _ ne).trans e
  simp [h_Till_duplicate_2, wB, gLe, gHd, gCons', gNil', hFld, hRet, hDrop, hSet, hPut, hIf, hSeq, gNo, gVb, gOp2, gCm, gRes, gBl, gBi, gDs, gCd, gMe, gCl, gLs, gLt, slG, weak_im, fld_now, fld_shop, e1, gput_eq, gput_put, put_now, sEr, op2, op1, T.val, R.opt, toB, opL, vals, consT, disp, mvs, mkTup, callT, callI, argE, others, isAl, isAli, finT, outE, padE, runD, cpsOf, cpT, toI, slT, T.weak, metT, kApp, kExt, elemD, iT, iL, iR1, iR2, iE, iZ, onI]
  simp [h_Till_duplicate_3, wB, gLe, gHd, gCons', gNil', hFld, hRet, hDrop, hSet, hPut, hIf, hSeq, gNo, gVb, gOp2, gCm, gRes, gBl, gBi, gDs, gCd, gMe, gCl, gLs, gLt, slG, weak_im, fld_now, fld_shop, sEr, op2, op1, T.val, R.opt, toB, opL, vals, consT, disp, mvs, mkTup, callT, callI, argE, others, isAl, isAli, finT, outE, padE, runD, cpsOf, cpT, toI, slT, T.weak, metT, kApp, kExt, elemD, iT, iL, iR1, iR2, iE, iZ, onI]
  exact q b l' nb nl
theorem c_eq {x y : Bool} (e : m a = some t) (e2 : m b = some u) (q1 : dEqA t.sh u.sh = some (.im (.bl x))) (q2 : dEqA t.now u.now = some (.im (.bl y))) (f1 : D.flat t.sh = true ∧ D.flat t.now = true) (q : P (.ok (.d (.bl (x && y)))) m) : g_Till___eq__ [.h a, .h b] m P := by
  refine ⟨rfl, ?_⟩
  show h_Till___eq__ [.hd a, .hd b] m _
  simp [h_Till___eq__, h_Till___eq___1, gAV, gIsT, gVr, knG, tbG, wB, gLe, gHd, gCons', gNil', hFld, hRet, hDrop, hSet, hPut, hIf, hSeq, gNo, gVb, gOp2, gCm, gRes, gBl, gBi, gDs, gCd, gMe, gCl, gLs, gLt, slG, weak_im, fld_now, fld_shop, e, e2, q1, D.flat, sEr, op2, op1, T.val, R.opt, toB, opL, vals, consT, disp, mvs, mkTup, callT, callI, argE, others, isAl, isAli, finT, outE, padE, runD, cpsOf, cpT, toI, slT, T.weak, metT, kApp, kExt, elemD, iT, iL, iR1, iR2, iE, iZ, onI]
  cases x with
  | false => simpa using q
  | true =>
    simp [wB, gLe, gHd, gCons', gNil', hFld, hRet, hDrop, hSet, hPut, hIf, hSeq, gNo, gVb, gOp2, gCm, gRes, gBl, gBi, gDs, gCd, gMe, gCl, gLs, gLt, slG, weak_im, fld_now, fld_shop, e, e2, q2, D.flat, sEr, op2, op1, T.val, R.opt, toB, opL, vals, consT, disp, mvs, mkTup, callT, callI, argE, others, isAl, isAli, finT, outE, padE, runD, cpsOf, cpT, toI, slT, T.weak, metT, kApp, kExt, elemD, iT, iL, iR1, iR2, iE, iZ, onI]
    simpa using q
theorem c_eqd {d : D} (e : m a = some t) (hd : tbG (.d d) = some false) (hf : D.flat d = true) (q : P (.ok (.d (.bl false))) m) : g_Till___eq__ [.h a, .d d] m P := by
  refine ⟨rfl, ?_⟩
  show h_Till___eq__ [.hd a, .im d] m _
  simp [h_Till___eq__, h_Till___eq___1, gAV, gIsT, gVr, knG, hd, hf, D.flat, wB, gLe, gHd, gCons', gNil', hFld, hRet, hDrop, hSet, hPut, hIf, hSeq, gNo, gVb, gOp2, gCm, gRes, gBl, gBi, gDs, gCd, gMe, gCl, gLs, gLt, slG, weak_im, fld_now, fld_shop, sEr, op2, op1, T.val, R.opt, toB, opL, vals, consT, disp, mvs, mkTup, callT, callI, argE, others, isAl, isAli, finT, outE, padE, runD, cpsOf, cpT, toI, slT, T.weak, metT, kApp, kExt, elemD, iT, iL, iR1, iR2, iE, iZ, onI]
  exact q
theorem l_undo (e : m a = some t) (q : g_Till_undo [.h a] m fun r m' => Ext m m' ∧ match r with
    | .ok v => P (.ok v) m'
    | .ex x => ∃ k : Nat, xn.idxOf? x = some k ∧ P (.ok (.d (.tup [.str "raised", .int (k : Nat)]))) m') : g__law_undo [.h a] m P := by
  refine ⟨rfl, ?_⟩
  show h__law_undo [.hd a, .no] m _
  simp only [h__law_undo, h__law_undo_1, hTry, hRet, gMe, wB]
  refine ⟨a, rfl, ⟨_, e⟩, ?_⟩
  simp [wB, gLe, gHd, gCons', gNil', hFld, hRet, hDrop, hSet, hPut, hIf, hSeq, gNo, gVb, gOp2, gCm, gRes, gBl, gBi, gDs, gCd, gMe, gCl, gLs, gLt, slG, weak_im, fld_now, fld_shop, sEr, op2, op1, T.val, R.opt, toB, opL, vals, consT, disp, mvs, mkTup, callT, callI, argE, others, isAl, isAli, finT, outE, padE, runD, cpsOf, cpT, toI, slT, T.weak, metT, kApp, kExt, elemD, iT, iL, iR1, iR2, iE, iZ, onI]
  exact q
theorem lu_ok (e : m a = some ⟨l, S, N, bef ++ [B]⟩) (hf : D.flat B = true) (q : P (.ok (.d B)) (gput m a ⟨l, S, B, bef⟩)) : g__law_undo [.h a] m P :=
  l_undo e (c_undo_ok e hf ⟨.put e rfl, q⟩)
theorem lu_no (e : m a = some ⟨l, S, N, []⟩) (q : P (.ok (.d (rsd 10))) m) : g__law_undo [.h a] m P :=
  l_undo e (c_undo_no e ⟨.refl m, 10, xi10, q⟩)
end
theorem gLs_of {f : FS} {env e : En} {m : Gt} {P : Fw → Gt → Prop} (h : f env = .nx e) (q : P (.nx e) m) : gLs f env m P := by
  unfold gLs
  rw [h]
  exact q
theorem loopH_inv {I : Nat → En → Gt → Prop} {j : Nat} {f : FSw} {its : List D} {P : Fw → Gt → Prop} (step : ∀ i d env m, its[i]? = some d → I i env m → ∀ P' : Fw → Gt → Prop, (∀ e m', I (i + 1) e m' → P' (.nx e) m') → f (env.set j (.im d)) m P')
    (fin : ∀ e m, I its.length e m → P (.nx e) m) {env : En} {m : Gt} (h : I 0 env m) : loopH j f its env m P := by
  have key : ∀ (ds : List D) (i : Nat) (env : En) (m : Gt), its.drop i = ds → i ≤ its.length → I i env m → loopH j f ds env m P := by
    intro ds
    induction ds with
    | nil =>
      intro i env m e hi h
      have : its.length ≤ i := List.drop_eq_nil_iff.mp e
      have : i = its.length := by omega
      subst this
      exact fin env m h
    | cons d ds ih =>
      intro i env m e hi h
      have hl : i < its.length := by
        rcases Nat.lt_or_ge i its.length with z | z
        · exact z
        · rw [List.drop_eq_nil_of_le z] at e; cases e
      rw [List.drop_eq_getElem_cons hl] at e
      injection e with e1 e2
      refine step i d env m (by rw [List.getElem?_eq_getElem hl, e1]) h _ fun e3 m' h' => ?_
      exact ih (i + 1) e3 m' e2 hl h'
  exact key its 0 env m rfl (Nat.zero_le _) h
theorem bmore_less {bs : List Int} {k : Nat} {c : Int} (hk : k < bs.length) (hp : 0 < bs[k]) (h : ∀ b ∈ bs, 0 ≤ b ∧ b ≤ c) : ∀ b ∈ bmore bs k (-1), 0 ≤ b ∧ b ≤ c := by
  intro b hb
  unfold bmore at hb
  rcases List.mem_or_eq_of_mem_set hb with z | z
  · exact h b z
  · rw [List.getElem?_eq_getElem hk] at z
    have := h _ (List.getElem_mem hk)
    simp at z
    omega
theorem ne_bas (bs : List Int) : dNeA (basD bs) (basD bs) = some (.im (.bl false)) := by rw [ne_tups]; simp
theorem zer_ok {gi : List (Int × Int)} {us : List Ru} (hs : Shp gi us) : k_Till (shopD gi us) = some (basD (List.replicate gi.length 0)) := by
  refine okOf_eq fun a => ⟨fl_bas _, ?_, ?_, ?_⟩
  · have q := r_check_shop hs.is
    simp [q, sEr, op2, op1, T.val, R.opt, toB, opL, vals, consT, disp, mvs, mkTup, callT, callI, argE, others, isAl, isAli, finT, outE, padE, runD, cpsOf, cpT, toI, slT, T.weak, metT, kApp, kExt, elemD, iT, iL, iR1, iR2, iE, iZ, onI]
  · simp [sEr, op2, op1, T.val, R.opt, toB, opL, vals, consT, disp, mvs, mkTup, callT, callI, argE, others, isAl, isAli, finT, outE, padE, runD, cpsOf, cpT, toI, slT, T.weak, metT, kApp, kExt, elemD, iT, iL, iR1, iR2, iE, iZ, onI]
  · have e : dLen [.tup (gi.map gd)] = some (.im (.int gi.length)) := by simp [dLen]
    have z := zeros hs.len
    have i0 : dIx (shopD gi us) (.int 0) = some (.im (.tup (gi.map gd))) := by simp [dIx, atI, ixN]
    simp [i0, e, z, sEr, op2, op1, T.val, R.opt, toB, opL, vals, consT, disp, mvs, mkTup, callT, callI, argE, others, isAl, isAli, finT, outE, padE, runD, cpsOf, cpT, toI, slT, T.weak, metT, kApp, kExt, elemD, iT, iL, iR1, iR2, iE, iZ, onI]
abbrev E40 (s0 st sh ag bf ti ke go tw he : Sl) : En := [s0, st, sh, ag, bf, ti, ke, go, tw, he]
section
variable {a b : Addr} {m m' : Gt} {P : Fw → Gt → Prop} {ns : List Int} {n : Nat} {sh B gs : D} {ag bf go tw he ke : Sl} {k v : Int} {zs : List D}
theorem b1 (i0 : dIx sh (.int 0) = some (.im gs)) (ql : dLen [gs] = some (.im (.int v))) (q1 : d__law_draw [scr ns, .own true (rep0 n), .im (.int v)] = .ok (.im (.int k)) [.no, .own true (rep0 (n + 1)), .no]) (q : P (.nx (E40 (scr ns) (.own false (rep0 (n + 1))) (.im sh) ag bf (.hd a) ke (.im (.int k)) tw he)) m) : hb_law_1_1 (E40 (scr ns) (.own false (rep0 n)) (.im sh) ag bf (.hd a) ke go tw he) m P := by
  refine gLs_of (e := E40 (scr ns) (.own false (rep0 (n + 1))) (.im sh) ag bf (.hd a) ke (.im (.int k)) tw he) ?_ q
  simp [scr] at q1
  simp [scr, i0, ql, q1, sEr, op2, op1, T.val, R.opt, toB, opL, vals, consT, disp, mvs, mkTup, callT, callI, argE, others, isAl, isAli, finT, outE, padE, runD, cpsOf, cpT, toI, slT, T.weak, metT, kApp, kExt, elemD, iT, iL, iR1, iR2, iE, iZ, onI]
theorem b2 {s0 st sh : Sl} (em : ∃ t, m a = some t) (hl : zs.length < 1000000) (hb : ∀ P : Go → Gt → Prop, P (.ok (.d B)) m → g_Till_basket [.h a] m P) (q : P (.nx (E40 s0 st sh ag bf (.hd a) (.own false (zs ++ [B])) go tw he)) m) : hb_law_1_2 (E40 s0 st sh ag bf (.hd a) (.own false zs) go tw he) m P := by
  simp [hb_law_1_2, hAppO, wB, gLe, gHd, gCons', gNil', hFld, hRet, hDrop, hSet, hPut, hIf, hSeq, gNo, gVb, gOp2, gCm, gRes, gBl, gBi, gDs, gCd, gMe, gCl, gLs, gLt, slG, weak_im, fld_now, fld_shop, em, sEr, op2, op1, T.val, R.opt, toB, opL, vals, consT, disp, mvs, mkTup, callT, callI, argE, others, isAl, isAli, finT, outE, padE, runD, cpsOf, cpT, toI, slT, T.weak, metT, kApp, kExt, elemD, iT, iL, iR1, iR2, iE, iZ, onI]
  refine hb _ ⟨.refl m, ?_⟩
  simp [hl]
  exact q
theorem b3_take {s0 : Sl} {z : Int} (em : ∃ t, m a = some t) (hb : ∀ P : Go → Gt → Prop, P (.ok (.d B)) m → g_Till_basket [.h a] m P) (qi : dIx B (.int k) = some (.im (.int z))) (hz : 0 < z) (dr : d__law_draw [scr ns, .own true (rep0 n), .im (.int 3)] = .ok (.im (.int 0)) [.no, .own true (rep0 (n + 1)), .no])
    (ht : ∀ P : Go → Gt → Prop, P (.ok (.d (.int v))) m' → g_Till_take [.h a, .d (.int k)] m P) (ex : Ext m m') (q : P (.nx (E40 (scr ns) (.own false (rep0 (n + 1))) (.im sh) ag bf (.hd a) ke (.im (.int k)) tw he)) m') : hb_law_1_3 (E40 (scr ns) (.own false (rep0 n)) (.im sh) ag bf (.hd a) ke (.im (.int k)) tw he) m P := by
  simp [scr] at dr
  simp [hb_law_1_3, gAn, scr, wB, gLe, gHd, gCons', gNil', hFld, hRet, hDrop, hSet, hPut, hIf, hSeq, gNo, gVb, gOp2, gCm, gRes, gBl, gBi, gDs, gCd, gMe, gCl, gLs, gLt, slG, weak_im, fld_now, fld_shop, em, sEr, op2, op1, T.val, R.opt, toB, opL, vals, consT, disp, mvs, mkTup, callT, callI, argE, others, isAl, isAli, finT, outE, padE, runD, cpsOf, cpT, toI, slT, T.weak, metT, kApp, kExt, elemD, iT, iL, iR1, iR2, iE, iZ, onI]
  refine hb _ ⟨.refl m, ?_⟩
  simp [wB, gLe, gHd, gCons', gNil', hFld, hRet, hDrop, hSet, hPut, hIf, hSeq, gNo, gVb, gOp2, gCm, gRes, gBl, gBi, gDs, gCd, gMe, gCl, gLs, gLt, slG, weak_im, fld_now, fld_shop, gAn, fl_int, D.flat, qi, hz, dr, em, sEr, op2, op1, T.val, R.opt, toB, opL, vals, consT, disp, mvs, mkTup, callT, callI, argE, others, isAl, isAli, finT, outE, padE, runD, cpsOf, cpT, toI, slT, T.weak, metT, kApp, kExt, elemD, iT, iL, iR1, iR2, iE, iZ, onI]
  refine ht _ ⟨ex, ?_⟩
  simp [scr] at q
  exact q
theorem b3_put {s0 : Sl} {z w : Int} {n' : Nat} (em : ∃ t, m a = some t) (hb : ∀ P : Go → Gt → Prop, P (.ok (.d B)) m → g_Till_basket [.h a] m P) (qi : dIx B (.int k) = some (.im (.int z))) (hn : (¬ 0 < z ∧ n' = n) ∨ (0 < z ∧ d__law_draw [scr ns, .own true (rep0 n), .im (.int 3)] = .ok (.im (.int w)) [.no, .own true (rep0 (n + 1)), .no] ∧ w ≠ 0 ∧ n' = n + 1))
    (ht : ∀ P : Go → Gt → Prop, P (.ok (.d (.int v))) m' → g_Till_put [.h a, .d (.int k)] m P) (ex : Ext m m') (q : P (.nx (E40 (scr ns) (.own false (rep0 n')) (.im sh) ag bf (.hd a) ke (.im (.int k)) tw he)) m') : hb_law_1_3 (E40 (scr ns) (.own false (rep0 n)) (.im sh) ag bf (.hd a) ke (.im (.int k)) tw he) m P := by
  rcases hn with ⟨hz, rfl⟩ | ⟨hz, dr, hw, rfl⟩
  · simp [hb_law_1_3, gAn, scr, wB, gLe, gHd, gCons', gNil', hFld, hRet, hDrop, hSet, hPut, hIf, hSeq, gNo, gVb, gOp2, gCm, gRes, gBl, gBi, gDs, gCd, gMe, gCl, gLs, gLt, slG, weak_im, fld_now, fld_shop, em, sEr, op2, op1, T.val, R.opt, toB, opL, vals, consT, disp, mvs, mkTup, callT, callI, argE, others, isAl, isAli, finT, outE, padE, runD, cpsOf, cpT, toI, slT, T.weak, metT, kApp, kExt, elemD, iT, iL, iR1, iR2, iE, iZ, onI]
    refine hb _ ⟨.refl m, ?_⟩
    simp [wB, gLe, gHd, gCons', gNil', hFld, hRet, hDrop, hSet, hPut, hIf, hSeq, gNo, gVb, gOp2, gCm, gRes, gBl, gBi, gDs, gCd, gMe, gCl, gLs, gLt, slG, weak_im, fld_now, fld_shop, gAn, fl_int, D.flat, qi, hz, em, sEr, op2, op1, T.val, R.opt, toB, opL, vals, consT, disp, mvs, mkTup, callT, callI, argE, others, isAl, isAli, finT, outE, padE, runD, cpsOf, cpT, toI, slT, T.weak, metT, kApp, kExt, elemD, iT, iL, iR1, iR2, iE, iZ, onI]
    refine ht _ ⟨ex, ?_⟩
    simp [scr] at q
    exact q
  · simp [scr] at dr
    simp [hb_law_1_3, gAn, scr, wB, gLe, gHd, gCons', gNil', hFld, hRet, hDrop, hSet, hPut, hIf, hSeq, gNo, gVb, gOp2, gCm, gRes, gBl, gBi, gDs, gCd, gMe, gCl, gLs, gLt, slG, weak_im, fld_now, fld_shop, em, sEr, op2, op1, T.val, R.opt, toB, opL, vals, consT, disp, mvs, mkTup, callT, callI, argE, others, isAl, isAli, finT, outE, padE, runD, cpsOf, cpT, toI, slT, T.weak, metT, kApp, kExt, elemD, iT, iL, iR1, iR2, iE, iZ, onI]
    refine hb _ ⟨.refl m, ?_⟩
    simp [wB, gLe, gHd, gCons', gNil', hFld, hRet, hDrop, hSet, hPut, hIf, hSeq, gNo, gVb, gOp2, gCm, gRes, gBl, gBi, gDs, gCd, gMe, gCl, gLs, gLt, slG, weak_im, fld_now, fld_shop, gAn, fl_int, D.flat, qi, hz, dr, hw, em, sEr, op2, op1, T.val, R.opt, toB, opL, vals, consT, disp, mvs, mkTup, callT, callI, argE, others, isAl, isAli, finT, outE, padE, runD, cpsOf, cpT, toI, slT, T.weak, metT, kApp, kExt, elemD, iT, iL, iR1, iR2, iE, iZ, onI]
    refine ht _ ⟨ex, ?_⟩
    simp [scr] at q
    exact q
end
theorem Ext.new {m : Gt} {b : Addr} {u : Tl} (h : m b = none) : Ext m (gput m b u) := fun a t e => ⟨t, (gput_ne _ _ fun z => by rw [z, h] at e; cases e).trans e, rfl⟩
theorem c_bk {a : Addr} {t : Tl} {m : Gt} {P : Go → Gt → Prop} (e : m a = some t) (hf : D.flat t.now = true) (q : P (.ok (.d t.now)) m) : g_Till_basket [.h a] m P := by
  refine ⟨rfl, ?_⟩
  show h_Till_basket [.hd a] m _
  simp [h_Till_basket, h_Till_basket_1, wB, gLe, gHd, gCons', gNil', hFld, hRet, hDrop, hSet, hPut, hIf, hSeq, gNo, gVb, gOp2, gCm, gRes, gBl, gBi, gDs, gCd, gMe, gCl, gLs, gLt, slG, weak_im, fld_now, fld_shop, e, hf, sEr, op2, op1, T.val, R.opt, toB, opL, vals, consT, disp, mvs, mkTup, callT, callI, argE, others, isAl, isAli, finT, outE, padE, runD, cpsOf, cpT, toI, slT, T.weak, metT, kApp, kExt, elemD, iT, iL, iR1, iR2, iE, iZ, onI]
  exact q
section
variable {a b l l' : Addr} {m m' : Gt} {P : Fw → Gt → Prop} {ns : List Int} {n : Nat} {S N N' Z : D} {bef : List D} {s0 st ag bf ti go tw he ke : Sl} {v : Int}
theorem t3 (hf : D.flat S = true) (hk : k_Till S = some Z) (q : ∀ a l, P (.nx (E40 s0 st (.im S) ag bf (.hd a) (.own false []) go tw he)) (gput (fun _ => none) a ⟨l, S, Z, []⟩)) : h_law_3 (E40 s0 st (.im S) ag bf ti ke go tw he) (fun _ => none) P := by
  simp [h_law_3, hParL, gMk, wB, gLe, gHd, gCons', gNil', hFld, hRet, hDrop, hSet, hPut, hIf, hSeq, gNo, gVb, gOp2, gCm, gRes, gBl, gBi, gDs, gCd, gMe, gCl, gLs, gLt, slG, weak_im, fld_now, fld_shop, hf, hk, sEr, op2, op1, T.val, R.opt, toB, opL, vals, consT, disp, mvs, mkTup, callT, callI, argE, others, isAl, isAli, finT, outE, padE, runD, cpsOf, cpT, toI, slT, T.weak, metT, kApp, kExt, elemD, iT, iL, iR1, iR2, iE, iZ, onI]
  exact q
theorem t4 (dr : d__law_draw [scr ns, .own true (rep0 n), .im (.int 7)] = .ok (.im (.int v)) [.no, .own true (rep0 (n + 1)), .no]) (h0 : 0 ≤ v ∧ v < 7) (q : loopH 3 hb_law_1 (rngD 0 v) (E40 (scr ns) (.own false (rep0 (n + 1))) (.im S) ag bf ti ke go tw he) m P) :
    h_law_4 (E40 (scr ns) (.own false (rep0 n)) (.im S) ag bf ti ke go tw he) m P := by
  simp [scr] at dr
  simp [h_law_4, hFor, hR1, scr, wB, gLe, gHd, gCons', gNil', hFld, hRet, hDrop, hSet, hPut, hIf, hSeq, gNo, gVb, gOp2, gCm, gRes, gBl, gBi, gDs, gCd, gMe, gCl, gLs, gLt, slG, weak_im, fld_now, fld_shop, dr, fl_int, sEr, op2, op1, T.val, R.opt, toB, opL, vals, consT, disp, mvs, mkTup, callT, callI, argE, others, isAl, isAli, finT, outE, padE, runD, cpsOf, cpT, toI, slT, T.weak, metT, kApp, kExt, elemD, iT, iL, iR1, iR2, iE, iZ, onI]
  refine ⟨by omega, by omega, ?_⟩
  simp [scr] at q
  exact q
theorem t5 (e : m a = some ⟨l, S, N, bef⟩) (hk : k_Till S = some Z) (hS : D.flat S = true) (hN : D.flat N = true) (q : ∀ b l', m b = none → P (.nx (E40 s0 st (.im S) ag bf (.hd a) ke go (.hd b) (.im N))) (gput m b ⟨l', S, N, []⟩)) : h_law_5 (E40 s0 st (.im S) ag bf (.hd a) ke go tw he) m P := by
  simp [h_law_5, hPar, wB, gLe, gHd, gCons', gNil', hFld, hRet, hDrop, hSet, hPut, hIf, hSeq, gNo, gVb, gOp2, gCm, gRes, gBl, gBi, gDs, gCd, gMe, gCl, gLs, gLt, slG, weak_im, fld_now, fld_shop, e, sEr, op2, op1, T.val, R.opt, toB, opL, vals, consT, disp, mvs, mkTup, callT, callI, argE, others, isAl, isAli, finT, outE, padE, runD, cpsOf, cpT, toI, slT, T.weak, metT, kApp, kExt, elemD, iT, iL, iR1, iR2, iE, iZ, onI]
  refine c_dup e hk hS hN fun b l' nb nl => ⟨.new nb, ?_⟩
  have ne : a ≠ b := fun z => by rw [z, nb] at e; cases e
  have e1 : gput m b ⟨l', S, N, []⟩ a = some ⟨l, S, N, bef⟩ := (gput_ne _ _ ne).trans e
  simp [wB, gLe, gHd, gCons', gNil', hFld, hRet, hDrop, hSet, hPut, hIf, hSeq, gNo, gVb, gOp2, gCm, gRes, gBl, gBi, gDs, gCd, gMe, gCl, gLs, gLt, slG, weak_im, fld_now, fld_shop, e1, sEr, op2, op1, T.val, R.opt, toB, opL, vals, consT, disp, mvs, mkTup, callT, callI, argE, others, isAl, isAli, finT, outE, padE, runD, cpsOf, cpT, toI, slT, T.weak, metT, kApp, kExt, elemD, iT, iL, iR1, iR2, iE, iZ, onI]
  exact c_bk e1 hN ⟨.refl _, by simpa [slG] using q b l' nb⟩
theorem tb_h (a : Addr) : tbG (.h a) = some true := rfl
theorem tb_non : tbG (.d .non) = some false := rfl
theorem t6 (e : m a = some ⟨l, S, N, bef⟩) (e2 : m b = some ⟨l', S, N, []⟩) (hS : D.flat S = true) (hN : D.flat N = true) (q1 : dEqA S S = some (.im (.bl true))) (q2 : dEqA N N = some (.im (.bl true))) (q3 : dNeA N N = some (.im (.bl false))) (q4 : tbG (.d N) = some false)
    (q : P (.nx (E40 s0 st (.im S) ag bf (.hd a) ke go (.hd b) (.im N))) m) : h_law_6 (E40 s0 st (.im S) ag bf (.hd a) ke go (.hd b) (.im N)) m P := by
  have nr := ne_rsd 10
  simp [h_law_6, gOr, gEqT, knG, tb_h, tb_non, wB, gLe, gHd, gCons', gNil', hFld, hRet, hDrop, hSet, hPut, hIf, hSeq, gNo, gVb, gOp2, gCm, gRes, gBl, gBi, gDs, gCd, gMe, gCl, gLs, gLt, slG, weak_im, fld_now, fld_shop, e, e2, sEr, op2, op1, T.val, R.opt, toB, opL, vals, consT, disp, mvs, mkTup, callT, callI, argE, others, isAl, isAli, finT, outE, padE, runD, cpsOf, cpT, toI, slT, T.weak, metT, kApp, kExt, elemD, iT, iL, iR1, iR2, iE, iZ, onI]
  refine c_eq e2 e q1 q2 ⟨hS, hN⟩ ⟨.refl m, ?_⟩
  simp [okBl, gOr, gEqT, knG, wB, gLe, gHd, gCons', gNil', hFld, hRet, hDrop, hSet, hPut, hIf, hSeq, gNo, gVb, gOp2, gCm, gRes, gBl, gBi, gDs, gCd, gMe, gCl, gLs, gLt, slG, weak_im, fld_now, fld_shop, e, e2, sEr, op2, op1, T.val, R.opt, toB, opL, vals, consT, disp, mvs, mkTup, callT, callI, argE, others, isAl, isAli, finT, outE, padE, runD, cpsOf, cpT, toI, slT, T.weak, metT, kApp, kExt, elemD, iT, iL, iR1, iR2, iE, iZ, onI]
  refine c_bk e2 hN ⟨.refl m, ?_⟩
  simp [okBl, gOr, gEqT, knG, wB, gLe, gHd, gCons', gNil', hFld, hRet, hDrop, hSet, hPut, hIf, hSeq, gNo, gVb, gOp2, gCm, gRes, gBl, gBi, gDs, gCd, gMe, gCl, gLs, gLt, slG, weak_im, fld_now, fld_shop, e, e2, hN, q3, sEr, op2, op1, T.val, R.opt, toB, opL, vals, consT, disp, mvs, mkTup, callT, callI, argE, others, isAl, isAli, finT, outE, padE, runD, cpsOf, cpT, toI, slT, T.weak, metT, kApp, kExt, elemD, iT, iL, iR1, iR2, iE, iZ, onI]
  refine lu_no e2 ⟨.refl m, ?_⟩
  simp [okBl, gOr, gEqT, knG, tb_h, tb_non, wB, gLe, gHd, gCons', gNil', hFld, hRet, hDrop, hSet, hPut, hIf, hSeq, gNo, gVb, gOp2, gCm, gRes, gBl, gBi, gDs, gCd, gMe, gCl, gLs, gLt, slG, weak_im, fld_now, fld_shop, e, e2, hN, nr, q4, D.flat, D.flats, sEr, op2, op1, T.val, R.opt, toB, opL, vals, consT, disp, mvs, mkTup, callT, callI, argE, others, isAl, isAli, finT, outE, padE, runD, cpsOf, cpT, toI, slT, T.weak, metT, kApp, kExt, elemD, iT, iL, iR1, iR2, iE, iZ, onI]
  refine c_eqd e q4 hN ⟨.refl m, ?_⟩
  simp [okBl, gOr, gEqT, knG, tb_h, tb_non, wB, gLe, gHd, gCons', gNil', hFld, hRet, hDrop, hSet, hPut, hIf, hSeq, gNo, gVb, gOp2, gCm, gRes, gBl, gBi, gDs, gCd, gMe, gCl, gLs, gLt, slG, weak_im, fld_now, fld_shop, e, e2, D.flat, D.flats, sEr, op2, op1, T.val, R.opt, toB, opL, vals, consT, disp, mvs, mkTup, callT, callI, argE, others, isAl, isAli, finT, outE, padE, runD, cpsOf, cpT, toI, slT, T.weak, metT, kApp, kExt, elemD, iT, iL, iR1, iR2, iE, iZ, onI]
  refine c_eqd e rfl rfl ⟨.refl m, ?_⟩
  simp [okBl, wB, gLe, gHd, gCons', gNil', hFld, hRet, hDrop, hSet, hPut, hIf, hSeq, gNo, gVb, gOp2, gCm, gRes, gBl, gBi, gDs, gCd, gMe, gCl, gLs, gLt, slG, weak_im, fld_now, fld_shop, sEr, op2, op1, T.val, R.opt, toB, opL, vals, consT, disp, mvs, mkTup, callT, callI, argE, others, isAl, isAli, finT, outE, padE, runD, cpsOf, cpT, toI, slT, T.weak, metT, kApp, kExt, elemD, iT, iL, iR1, iR2, iE, iZ, onI]
  exact q
theorem t7 (e : ∃ t, m b = some t) (hp : ∀ P : Go → Gt → Prop, P (.ok (.d (.int v))) m' → g_Till_put [.h b, .d (.int 0)] m P) (ex : Ext m m') (q : P (.nx (E40 s0 st (.im S) ag bf (.hd a) ke go (.hd b) (.im N))) m') : h_law_7 (E40 s0 st (.im S) ag bf (.hd a) ke go (.hd b) (.im N)) m P := by
  simp [h_law_7, wB, gLe, gHd, gCons', gNil', hFld, hRet, hDrop, hSet, hPut, hIf, hSeq, gNo, gVb, gOp2, gCm, gRes, gBl, gBi, gDs, gCd, gMe, gCl, gLs, gLt, slG, weak_im, fld_now, fld_shop, e, fl_int, sEr, op2, op1, T.val, R.opt, toB, opL, vals, consT, disp, mvs, mkTup, callT, callI, argE, others, isAl, isAli, finT, outE, padE, runD, cpsOf, cpT, toI, slT, T.weak, metT, kApp, kExt, elemD, iT, iL, iR1, iR2, iE, iZ, onI]
  refine hp _ ⟨ex, ?_⟩
  exact q
theorem t8 (ab : a ≠ b) (e : m a = some ⟨l, S, N, bef⟩) (e2 : m b = some ⟨l', S, N', [N]⟩) (hS : D.flat S = true) (hN : D.flat N = true) (hN' : D.flat N' = true) (q1 : dEqA S S = some (.im (.bl true))) (q2 : dEqA N' N = some (.im (.bl false))) (q3 : dNeA N N = some (.im (.bl false)))
    (q : P (.nx (E40 s0 st (.im S) ag bf (.hd a) ke go (.hd b) (.im N))) (gput m b ⟨l', S, N, []⟩)) : h_law_8 (E40 s0 st (.im S) ag bf (.hd a) ke go (.hd b) (.im N)) m P := by
  have nr := ne_rsd 10
  have e3 : gput m b ⟨l', S, N, []⟩ b = some ⟨l', S, N, []⟩ := gput_eq _ _ _
  simp [h_law_8, gOr, gEqT, knG, tb_h, wB, gLe, gHd, gCons', gNil', hFld, hRet, hDrop, hSet, hPut, hIf, hSeq, gNo, gVb, gOp2, gCm, gRes, gBl, gBi, gDs, gCd, gMe, gCl, gLs, gLt, slG, weak_im, fld_now, fld_shop, e, e2, sEr, op2, op1, T.val, R.opt, toB, opL, vals, consT, disp, mvs, mkTup, callT, callI, argE, others, isAl, isAli, finT, outE, padE, runD, cpsOf, cpT, toI, slT, T.weak, metT, kApp, kExt, elemD, iT, iL, iR1, iR2, iE, iZ, onI]
  refine c_eq e2 e q1 q2 ⟨hS, hN'⟩ ⟨.refl m, ?_⟩
  simp [okBl, gOr, gEqT, knG, wB, gLe, gHd, gCons', gNil', hFld, hRet, hDrop, hSet, hPut, hIf, hSeq, gNo, gVb, gOp2, gCm, gRes, gBl, gBi, gDs, gCd, gMe, gCl, gLs, gLt, slG, weak_im, fld_now, fld_shop, e, e2, sEr, op2, op1, T.val, R.opt, toB, opL, vals, consT, disp, mvs, mkTup, callT, callI, argE, others, isAl, isAli, finT, outE, padE, runD, cpsOf, cpT, toI, slT, T.weak, metT, kApp, kExt, elemD, iT, iL, iR1, iR2, iE, iZ, onI]
  refine c_bk e hN ⟨.refl m, ?_⟩
  simp [okBl, gOr, gEqT, knG, wB, gLe, gHd, gCons', gNil', hFld, hRet, hDrop, hSet, hPut, hIf, hSeq, gNo, gVb, gOp2, gCm, gRes, gBl, gBi, gDs, gCd, gMe, gCl, gLs, gLt, slG, weak_im, fld_now, fld_shop, e, e2, hN, q3, sEr, op2, op1, T.val, R.opt, toB, opL, vals, consT, disp, mvs, mkTup, callT, callI, argE, others, isAl, isAli, finT, outE, padE, runD, cpsOf, cpT, toI, slT, T.weak, metT, kApp, kExt, elemD, iT, iL, iR1, iR2, iE, iZ, onI]
  refine lu_ok (bef := []) e2 hN ⟨.put e2 rfl, ?_⟩
  simp [okBl, gOr, gEqT, knG, wB, gLe, gHd, gCons', gNil', hFld, hRet, hDrop, hSet, hPut, hIf, hSeq, gNo, gVb, gOp2, gCm, gRes, gBl, gBi, gDs, gCd, gMe, gCl, gLs, gLt, slG, weak_im, fld_now, fld_shop, e, e2, hN, q3, sEr, op2, op1, T.val, R.opt, toB, opL, vals, consT, disp, mvs, mkTup, callT, callI, argE, others, isAl, isAli, finT, outE, padE, runD, cpsOf, cpT, toI, slT, T.weak, metT, kApp, kExt, elemD, iT, iL, iR1, iR2, iE, iZ, onI]
  refine lu_no e3 ⟨.refl _, ?_⟩
  simp [okBl, gOr, gEqT, knG, wB, gLe, gHd, gCons', gNil', hFld, hRet, hDrop, hSet, hPut, hIf, hSeq, gNo, gVb, gOp2, gCm, gRes, gBl, gBi, gDs, gCd, gMe, gCl, gLs, gLt, slG, weak_im, fld_now, fld_shop, nr, D.flat, D.flats, sEr, op2, op1, T.val, R.opt, toB, opL, vals, consT, disp, mvs, mkTup, callT, callI, argE, others, isAl, isAli, finT, outE, padE, runD, cpsOf, cpT, toI, slT, T.weak, metT, kApp, kExt, elemD, iT, iL, iR1, iR2, iE, iZ, onI]
  exact q
end
section
variable {a b l l' : Addr} {m m' : Gt} {P : Fw → Gt → Prop} {ns : List Int} {n : Nat} {S N N0 B Z gs Z1 Z2 : D} {bef zs : List D} {s0 st sh ag bf ti go tw he ke : Sl} {v : Int}
theorem b9 (e : m a = some ⟨l, S, N, bef ++ [B]⟩) (hB : D.flat B = true) (q3 : dNeA B B = some (.im (.bl false))) (q : P (.nx (E40 s0 st sh ag (.im B) (.hd a) ke go tw he)) (gput m a ⟨l, S, B, bef⟩)) : hb_law_2 (E40 s0 st sh ag (.im B) (.hd a) ke go tw he) m P := by
  have e3 : gput m a ⟨l, S, B, bef⟩ a = some ⟨l, S, B, bef⟩ := gput_eq _ _ _
  simp [hb_law_2, hb_law_2_1, gOr, wB, gLe, gHd, gCons', gNil', hFld, hRet, hDrop, hSet, hPut, hIf, hSeq, gNo, gVb, gOp2, gCm, gRes, gBl, gBi, gDs, gCd, gMe, gCl, gLs, gLt, slG, weak_im, fld_now, fld_shop, e, sEr, op2, op1, T.val, R.opt, toB, opL, vals, consT, disp, mvs, mkTup, callT, callI, argE, others, isAl, isAli, finT, outE, padE, runD, cpsOf, cpT, toI, slT, T.weak, metT, kApp, kExt, elemD, iT, iL, iR1, iR2, iE, iZ, onI]
  refine lu_ok e hB ⟨.put e rfl, ?_⟩
  simp [gOr, wB, gLe, gHd, gCons', gNil', hFld, hRet, hDrop, hSet, hPut, hIf, hSeq, gNo, gVb, gOp2, gCm, gRes, gBl, gBi, gDs, gCd, gMe, gCl, gLs, gLt, slG, weak_im, fld_now, fld_shop, e3, hB, q3, sEr, op2, op1, T.val, R.opt, toB, opL, vals, consT, disp, mvs, mkTup, callT, callI, argE, others, isAl, isAli, finT, outE, padE, runD, cpsOf, cpT, toI, slT, T.weak, metT, kApp, kExt, elemD, iT, iL, iR1, iR2, iE, iZ, onI]
  refine c_bk e3 hB ⟨.refl _, ?_⟩
  simp [gOr, wB, gLe, gHd, gCons', gNil', hFld, hRet, hDrop, hSet, hPut, hIf, hSeq, gNo, gVb, gOp2, gCm, gRes, gBl, gBi, gDs, gCd, gMe, gCl, gLs, gLt, slG, weak_im, fld_now, fld_shop, hB, q3, sEr, op2, op1, T.val, R.opt, toB, opL, vals, consT, disp, mvs, mkTup, callT, callI, argE, others, isAl, isAli, finT, outE, padE, runD, cpsOf, cpT, toI, slT, T.weak, metT, kApp, kExt, elemD, iT, iL, iR1, iR2, iE, iZ, onI]
  exact q
theorem t9 (hf : D.flats zs.reverse = true) (q : loopH 4 hb_law_2 zs.reverse (E40 s0 st sh ag bf (.hd a) (.own false zs) go tw he) m P) : h_law_9 (E40 s0 st sh ag bf (.hd a) (.own false zs) go tw he) m P := by
  have e : eRv (eVar 6) tNp (E40 s0 st sh ag bf (.hd a) (.own false zs) go tw he) = .ok (.fr zs.reverse) (E40 s0 st sh ag bf (.hd a) (.own false zs) go tw he) := by
    simp [rvT, rvV, rvN, sEr, op2, op1, T.val, R.opt, toB, opL, vals, consT, disp, mvs, mkTup, callT, callI, argE, others, isAl, isAli, finT, outE, padE, runD, cpsOf, cpT, toI, slT, T.weak, metT, kApp, kExt, elemD, iT, iL, iR1, iR2, iE, iZ, onI]
  unfold h_law_9 hForL
  rw [e]
  exact ⟨hf, q⟩
theorem t10 (e : m a = some ⟨l, S, N0, []⟩) (e2 : m b = some ⟨l', S, N, []⟩) (hN : D.flat N = true) (q3 : dNeA N N = some (.im (.bl false))) (q : P (.nx (E40 s0 st sh ag bf (.hd a) ke go (.hd b) (.im N))) m) : h_law_10 (E40 s0 st sh ag bf (.hd a) ke go (.hd b) (.im N)) m P := by
  have nr := ne_rsd 10
  simp [h_law_10, gOr, wB, gLe, gHd, gCons', gNil', hFld, hRet, hDrop, hSet, hPut, hIf, hSeq, gNo, gVb, gOp2, gCm, gRes, gBl, gBi, gDs, gCd, gMe, gCl, gLs, gLt, slG, weak_im, fld_now, fld_shop, e, e2, sEr, op2, op1, T.val, R.opt, toB, opL, vals, consT, disp, mvs, mkTup, callT, callI, argE, others, isAl, isAli, finT, outE, padE, runD, cpsOf, cpT, toI, slT, T.weak, metT, kApp, kExt, elemD, iT, iL, iR1, iR2, iE, iZ, onI]
  refine lu_no e ⟨.refl m, ?_⟩
  simp [gOr, wB, gLe, gHd, gCons', gNil', hFld, hRet, hDrop, hSet, hPut, hIf, hSeq, gNo, gVb, gOp2, gCm, gRes, gBl, gBi, gDs, gCd, gMe, gCl, gLs, gLt, slG, weak_im, fld_now, fld_shop, e, e2, nr, D.flat, D.flats, sEr, op2, op1, T.val, R.opt, toB, opL, vals, consT, disp, mvs, mkTup, callT, callI, argE, others, isAl, isAli, finT, outE, padE, runD, cpsOf, cpT, toI, slT, T.weak, metT, kApp, kExt, elemD, iT, iL, iR1, iR2, iE, iZ, onI]
  refine c_bk e2 hN ⟨.refl m, ?_⟩
  simp [gOr, wB, gLe, gHd, gCons', gNil', hFld, hRet, hDrop, hSet, hPut, hIf, hSeq, gNo, gVb, gOp2, gCm, gRes, gBl, gBi, gDs, gCd, gMe, gCl, gLs, gLt, slG, weak_im, fld_now, fld_shop, hN, q3, sEr, op2, op1, T.val, R.opt, toB, opL, vals, consT, disp, mvs, mkTup, callT, callI, argE, others, isAl, isAli, finT, outE, padE, runD, cpsOf, cpT, toI, slT, T.weak, metT, kApp, kExt, elemD, iT, iL, iR1, iR2, iE, iZ, onI]
  exact q
theorem t11 {y : Bool} (i0 : dIx S (.int 0) = some (.im gs)) (hg : D.flat gs = true) (k1 : k_Till (.tup [gs, .tup []]) = some Z1) (k2 : k_Till (.tup [gs, .tup [.tup [.str "over", .int 5, .int 1]]]) = some Z2) (f1 : D.flat Z1 = true) (q1 : dEqA (.tup [gs, .tup []]) (.tup [gs, .tup [.tup [.str "over", .int 5, .int 1]]]) = some (.im (.bl false))) (q2 : dEqA Z1 Z2 = some (.im (.bl y)))
    (q : ∀ a1 t1 a2 t2, m a1 = none → gput m a1 t1 a2 = none → P (.nx (E40 s0 st (.im S) ag bf ti ke go tw he)) (gput (gput m a1 t1) a2 t2)) : h_law_11 (E40 s0 st (.im S) ag bf ti ke go tw he) m P := by
  simp [h_law_11, gEqT, gMk, wB, gLe, gHd, gCons', gNil', hFld, hRet, hDrop, hSet, hPut, hIf, hSeq, gNo, gVb, gOp2, gCm, gRes, gBl, gBi, gDs, gCd, gMe, gCl, gLs, gLt, slG, weak_im, fld_now, fld_shop, i0, hg, k1, D.flat, D.flats, sEr, op2, op1, T.val, R.opt, toB, opL, vals, consT, disp, mvs, mkTup, callT, callI, argE, others, isAl, isAli, finT, outE, padE, runD, cpsOf, cpT, toI, slT, T.weak, metT, kApp, kExt, elemD, iT, iL, iR1, iR2, iE, iZ, onI]
  intro a1 l1 n1 _
  simp [gEqT, gMk, wB, gLe, gHd, gCons', gNil', hFld, hRet, hDrop, hSet, hPut, hIf, hSeq, gNo, gVb, gOp2, gCm, gRes, gBl, gBi, gDs, gCd, gMe, gCl, gLs, gLt, slG, weak_im, fld_now, fld_shop, i0, hg, k2, D.flat, D.flats, sEr, op2, op1, T.val, R.opt, toB, opL, vals, consT, disp, mvs, mkTup, callT, callI, argE, others, isAl, isAli, finT, outE, padE, runD, cpsOf, cpT, toI, slT, T.weak, metT, kApp, kExt, elemD, iT, iL, iR1, iR2, iE, iZ, onI]
  intro a2 l2 n2 _
  have ne : a1 ≠ a2 := fun z => by rw [← z, gput_eq] at n2; cases n2
  have e1 : gput (gput m a1 ⟨l1, .tup [gs, .tup []], Z1, []⟩) a2 ⟨l2, .tup [gs, .tup [.tup [.str "over", .int 5, .int 1]]], Z2, []⟩ a1 = some ⟨l1, .tup [gs, .tup []], Z1, []⟩ := (gput_ne _ _ ne).trans (gput_eq _ _ _)
  simp [knG, tb_h, e1, gput_eq]
  refine c_eq e1 (gput_eq _ _ _) q1 q2 ⟨by simp [D.flat, D.flats, hg], f1⟩ ⟨.refl _, ?_⟩
  simp [okBl, wB, gLe, gHd, gCons', gNil', hFld, hRet, hDrop, hSet, hPut, hIf, hSeq, gNo, gVb, gOp2, gCm, gRes, gBl, gBi, gDs, gCd, gMe, gCl, gLs, gLt, slG, weak_im, fld_now, fld_shop, sEr, op2, op1, T.val, R.opt, toB, opL, vals, consT, disp, mvs, mkTup, callT, callI, argE, others, isAl, isAli, finT, outE, padE, runD, cpsOf, cpT, toI, slT, T.weak, metT, kApp, kExt, elemD, iT, iL, iR1, iR2, iE, iZ, onI]
  exact q a1 _ a2 _ n1 n2
theorem t12 (e : m a = some ⟨l, S, N0, bef⟩) (hk : k_Till S = some Z) (hS : D.flat S = true) (hZ : D.flat Z = true) (q1 : dEqA S S = some (.im (.bl true))) (q2 : dEqA Z N0 = some (.im (.bl true))) (q : ∀ a3 t3, P (.rt (.d (.bl true)) (E40 s0 st (.im S) ag bf (.hd a) ke go tw he)) (gput m a3 t3)) : h_law_12 (E40 s0 st (.im S) ag bf (.hd a) ke go tw he) m P := by
  simp [h_law_12, gEqV, gMk, wB, gLe, gHd, gCons', gNil', hFld, hRet, hDrop, hSet, hPut, hIf, hSeq, gNo, gVb, gOp2, gCm, gRes, gBl, gBi, gDs, gCd, gMe, gCl, gLs, gLt, slG, weak_im, fld_now, fld_shop, hS, hk, sEr, op2, op1, T.val, R.opt, toB, opL, vals, consT, disp, mvs, mkTup, callT, callI, argE, others, isAl, isAli, finT, outE, padE, runD, cpsOf, cpT, toI, slT, T.weak, metT, kApp, kExt, elemD, iT, iL, iR1, iR2, iE, iZ, onI]
  intro a3 l3 n3 _
  have ne : a ≠ a3 := fun z => by rw [← z, e] at n3; cases n3
  have e1 : gput m a3 ⟨l3, S, Z, []⟩ a = some ⟨l, S, N0, bef⟩ := (gput_ne _ _ ne).trans e
  simp [knG, tb_h, e1, gput_eq]
  refine c_eq (gput_eq _ _ _) e1 q1 q2 ⟨hS, hZ⟩ ⟨.refl _, ?_⟩
  simp [okBv, wB, gLe, gHd, gCons', gNil', hFld, hRet, hDrop, hSet, hPut, hIf, hSeq, gNo, gVb, gOp2, gCm, gRes, gBl, gBi, gDs, gCd, gMe, gCl, gLs, gLt, slG, weak_im, fld_now, fld_shop, sEr, op2, op1, T.val, R.opt, toB, opL, vals, consT, disp, mvs, mkTup, callT, callI, argE, others, isAl, isAli, finT, outE, padE, runD, cpsOf, cpT, toI, slT, T.weak, metT, kApp, kExt, elemD, iT, iL, iR1, iR2, iE, iZ, onI]
  exact q a3 _
end
theorem flats_bas : ∀ befs : List (List Int), D.flats (befs.map basD) = true
  | [] => rfl
  | b :: bs => by
    show (D.flat (basD b) && D.flats (bs.map basD)) = true
    rw [fl_bas, flats_bas bs]
    rfl
def I40 (ns : List Int) (gi : List (Int × Int)) (us : List Ru) (a l : Addr) (n0 i : Nat) (env : En) (m : Gt) : Prop :=
  ∃ (n : Nat) (bs : List Int) (befs : List (List Int)) (ag bf go tw he : Sl), env = E40 (scr ns) (.own false (rep0 n)) (.im (shopD gi us)) ag bf (.hd a) (.own false (befs.map basD)) go tw he ∧ m = gput (fun _ => none) a (Tq l gi us bs (befs.map basD)) ∧ bs.length = gi.length ∧ (∀ b ∈ bs, 0 ≤ b ∧ b ≤ (i : Int)) ∧ befs.length = i ∧ n ≤ n0 + 2 * i ∧ (befs ++ [bs]).head? = some (List.replicate gi.length 0)
theorem head_more {α : Type} (xs : List α) (x y : α) : (xs ++ [x] ++ [y]).head? = (xs ++ [x]).head? := by cases xs <;> rfl
theorem step40 {ns : List Int} {gi : List (Int × Int)} {us : List Ru} {a l : Addr} {n0 i : Nat} {d : D} {env : En} {m : Gt} (hl : ns.length ≤ 63) (hs : Shp gi us) (hf : D.flat (shopD gi us) = true) (hn : n0 < 800000) (hi : i < 100) (h : I40 ns gi us a l n0 i env m) {P : Fw → Gt → Prop} (k : ∀ e m', I40 ns gi us a l n0 (i + 1) e m' → P (.nx e) m') :
    hb_law_1 (env.set 3 (.im d)) m P := by
  obtain ⟨n, bs, befs, ag, bf, go, tw, he, rfl, rfl, hb, hB, hbef, hn2, hh⟩ := h
  have h2 := hs.len
  obtain ⟨g, eg, g0, g1⟩ := r_draw ns n gi.length hl (by omega) (by omega)
  obtain ⟨kk, rfl⟩ := Int.eq_ofNat_of_zero_le g0
  have hk : kk < bs.length := by omega
  have em : gput (fun _ => none) a (Tq l gi us bs (befs.map basD)) a = some (Tq l gi us bs (befs.map basD)) := gput_eq _ _ _
  have bk : ∀ P : Go → Gt → Prop, P (.ok (.d (basD bs))) (gput (fun _ => none) a (Tq l gi us bs (befs.map basD))) → g_Till_basket [.h a] (gput (fun _ => none) a (Tq l gi us bs (befs.map basD))) P := fun P q => c_bk em (fl_bas bs) q
  have fin : ∀ {n' : Nat} {cs : List Int} {ag bf go tw he : Sl}, cs.length = gi.length → (∀ b ∈ cs, 0 ≤ b ∧ b ≤ ((i + 1 : Nat) : Int)) → n' ≤ n0 + 2 * (i + 1) →
      P (.nx (E40 (scr ns) (.own false (rep0 n')) (.im (shopD gi us)) ag bf (.hd a) (.own false (befs.map basD ++ [basD bs])) go tw he)) (gput (gput (fun _ => none) a (Tq l gi us bs (befs.map basD))) a (Tq l gi us cs (befs.map basD ++ [basD bs]))) := by
    intro n' cs ag bf go tw he hc hC hn'
    refine k _ _ ⟨n', cs, befs ++ [bs], ag, bf, go, tw, he, by simp, by rw [gput_put]; simp, hc, hC, by simp [hbef], hn', ?_⟩
    rw [head_more]
    exact hh
  show hb_law_1 (E40 (scr ns) (.own false (rep0 n)) (.im (shopD gi us)) (.im d) bf (.hd a) (.own false (befs.map basD)) go tw he) _ P
  unfold hb_law_1 hSeq
  refine b1 (gs := .tup (gi.map gd)) (v := gi.length) (by simp [dIx, atI, ixN]) (by simp [dLen]) eg ?_
  dsimp only
  refine b2 ⟨_, em⟩ (by simp; omega) bk ?_
  dsimp only
  have c0 := bmore_mem hB hk (p := 1) (by decide)
  have hc : (bmore bs kk 1).length = gi.length := (bmore_len bs kk 1).trans hb
  have put : ∀ P : Go → Gt → Prop, P (.ok (.d (.int (chg gi us (bmore bs kk 1) - chg gi us bs)))) (gput (gput (fun _ => none) a (Tq l gi us bs (befs.map basD))) a (Tq l gi us (bmore bs kk 1) (befs.map basD ++ [basD bs]))) → g_Till_put [.h a, .d (.int kk)] (gput (fun _ => none) a (Tq l gi us bs (befs.map basD))) P := fun P q => c_put_ok hs hf em hb hk (by simp; omega) q
  by_cases hp : 0 < bs[kk]
  · obtain ⟨v, ev, v0, v1⟩ := r_draw ns (n + 1) 3 hl (by omega) (by decide)
    by_cases hv : v = 0
    · subst hv
      have c0 := bmore_less hk hp hB
      have hc : (bmore bs kk (-1)).length = gi.length := (bmore_len bs kk (-1)).trans hb
      exact b3_take (s0 := .no) ⟨_, em⟩ bk (at_bas hk) hp ev (fun P q => c_take_ok hs hf em hb hk (by simp; omega) (by omega) q) (.put em rfl) (fin hc (fun b z => ⟨(c0 b z).1, by have := (c0 b z).2; omega⟩) (by omega))
    · exact b3_put (s0 := .no) (w := v) ⟨_, em⟩ bk (at_bas hk) (.inr ⟨hp, ev, hv, rfl⟩) put (.put em rfl) (fin hc (fun b z => ⟨(c0 b z).1, by have := (c0 b z).2; omega⟩) (by omega))
  · exact b3_put (s0 := .no) (w := 0) ⟨_, em⟩ bk (at_bas hk) (.inl ⟨hp, rfl⟩) put (.put em rfl) (fin hc (fun b z => ⟨(c0 b z).1, by have := (c0 b z).2; omega⟩) (by omega))
theorem shop_nil {gi : List (Int × Int)} {us : List Ru} (h : Shp gi us) : Shp gi [] := by
  have := h.less fun _ => false
  rwa [show us.filter (fun _ => false) = [] from List.filter_eq_nil_iff.mpr fun _ _ z => by cases z] at this
theorem shop_over {gi : List (Int × Int)} {us : List Ru} (h : Shp gi us) : Shp gi [.over 5 1] := by
  refine ⟨h.len, h.pr, by decide, fun u z => ?_, by decide⟩
  cases List.mem_singleton.mp z
  exact ⟨by simp [Ru.ok], by simp [isRule, Ru.d, isOver, isBetween]⟩
theorem shops_ne (gi : List (Int × Int)) : dEqA (shopD gi []) (shopD gi [.over 5 1]) = some (.im (.bl false)) := by
  have e : eqv (shopD gi []) (shopD gi [.over 5 1]) = false := by
    rw [Bool.eq_false_iff]
    intro z
    simp [Ru.d] at z
  unfold dEqA dEqS dEq
  dsimp only
  rw [if_pos ⟨shp_shop gi [], shp_shop gi [.over 5 1]⟩, e]
theorem sh_nil (gi : List (Int × Int)) : shopD gi [] = .tup [.tup (gi.map gd), .tup []] := rfl
theorem sh_over (gi : List (Int × Int)) : shopD gi [.over 5 1] = .tup [.tup (gi.map gd), .tup [.tup [.str "over", .int 5, .int 1]]] := rfl
theorem z1_ok {gi : List (Int × Int)} {us : List Ru} (h : Shp gi us) : k_Till (.tup [.tup (gi.map gd), .tup []]) = some (basD (List.replicate gi.length 0)) := by
  rw [← sh_nil]
  exact zer_ok (shop_nil h)
theorem z2_ok {gi : List (Int × Int)} {us : List Ru} (h : Shp gi us) : k_Till (.tup [.tup (gi.map gd), .tup [.tup [.str "over", .int 5, .int 1]]]) = some (basD (List.replicate gi.length 0)) := by
  rw [← sh_over]
  exact zer_ok (shop_over h)
theorem n12 (gi : List (Int × Int)) : dEqA (.tup [.tup (gi.map gd), .tup []]) (.tup [.tup (gi.map gd), .tup [.tup [.str "over", .int 5, .int 1]]]) = some (.im (.bl false)) := by
  rw [← sh_nil, ← sh_over]
  exact shops_ne gi
theorem law_data : ∀ ns : List Int, ns.length ≤ 63 → g_law [.d (.fz (ns.map D.int))] (fun _ => none) fun r _ => r = .ok (.d (.bl true)) := by
  intro ns hl
  obtain ⟨gi, us, m0, es, hm0, hm1, hs, hg, hfu, hdr⟩ := draw_shop2 ns 0 hl (by decide)
  have hfg : D.flats (gi.map gd) = true := by
    clear hs hg es hdr
    induction gi with
    | nil => rfl
    | cons g gi ih => simpa [D.flats, D.flat, gd] using ih
  have hf : D.flat (shopD gi us) = true := by simp [shopD, D.flat, D.flats, hfg, hfu]
  have hfG : D.flat (.tup (gi.map gd)) = true := by simp [D.flat, hfg]
  have ix0 : dIx (shopD gi us) (.int 0) = some (.im (.tup (gi.map gd))) := by simp [dIx, atI, ixN]
  have kz1 := z1_ok hs
  have kz2 := z2_ok hs
  have kne := n12 gi
  have kzz : dEqA (basD (List.replicate gi.length 0)) (basD (List.replicate gi.length 0)) = some (.im (.bl true)) := by rw [eq_tups]; simp
  have l2 := hs.len
  refine ⟨rfl, ?_⟩
  show h_law (E40 (scr ns) .no .no .no .no .no .no .no .no .no) (fun _ => none) _
  unfold h_law hSeq
  refine gLs_of (e := E40 (scr ns) (.own false (rep0 0)) .no .no .no .no .no .no .no .no) (by simp [sEr, op2, op1, T.val, R.opt, toB, opL, vals, consT, disp, mvs, mkTup, callT, callI, argE, others, isAl, isAli, finT, outE, padE, runD, cpsOf, cpT, toI, slT, T.weak, metT, kApp, kExt, elemD, iT, iL, iR1, iR2, iE, iZ, onI]) ?_
  dsimp only
  refine gLs_of (e := E40 (scr ns) (.own false (rep0 m0)) (.im (shopD gi us)) .no .no .no .no .no .no .no) (by simp [scr] at es; simp [scr, es, sEr, op2, op1, T.val, R.opt, toB, opL, vals, consT, disp, mvs, mkTup, callT, callI, argE, others, isAl, isAli, finT, outE, padE, runD, cpsOf, cpT, toI, slT, T.weak, metT, kApp, kExt, elemD, iT, iL, iR1, iR2, iE, iZ, onI]) ?_
  dsimp only
  refine t3 hf (zer_ok hs) fun a l => ?_
  dsimp only
  obtain ⟨v, ev, v0, v1⟩ := r_draw ns m0 7 hl (by omega) (by decide)
  refine t4 ev ⟨v0, v1⟩ ?_
  have i0 : I40 ns gi us a l (m0 + 1) 0 (E40 (scr ns) (.own false (rep0 (m0 + 1))) (.im (shopD gi us)) .no .no (.hd a) (.own false []) .no .no .no) (gput (fun _ => none) a ⟨l, shopD gi us, basD (List.replicate gi.length 0), []⟩) :=
    ⟨m0 + 1, List.replicate gi.length 0, [], .no, .no, .no, .no, .no, rfl, rfl, List.length_replicate, fun b z => by have := List.eq_of_mem_replicate z; omega, rfl, by omega, rfl⟩
  have lr : (rngD 0 v).length = v.toNat := by simp [rngD]
  refine loopH_inv (I := I40 ns gi us a l (m0 + 1)) (fun i d env m hd h P' k => ?_) (fun e m h => ?_) i0
  · have hi : i < (rngD 0 v).length := (List.getElem?_eq_some_iff.mp hd).1
    exact step40 hl hs hf (by omega) (by omega) h k
  · obtain ⟨n, bs, befs, ag, bf, go, tw, he, rfl, rfl, hb, hB, hbef, hn2, hh⟩ := h
    dsimp only
    have fb := fl_bas bs
    have eqN : dEqA (basD bs) (basD bs) = some (.im (.bl true)) := by rw [eq_tups]; simp
    have neN := ne_bas bs
    have eqS := eq_shop gi us
    refine t5 (gput_eq _ _ _) (zer_ok hs) hf fb fun b l' nb => ?_
    dsimp only
    have ab : a ≠ b := fun z => by rw [z, gput_eq] at nb; cases nb
    have ea : gput (gput (fun _ => none) a (Tq l gi us bs (befs.map basD))) b ⟨l', shopD gi us, basD bs, []⟩ a = some (Tq l gi us bs (befs.map basD)) := (gput_ne _ _ ab).trans (gput_eq _ _ _)
    have eb : gput (gput (fun _ => none) a (Tq l gi us bs (befs.map basD))) b ⟨l', shopD gi us, basD bs, []⟩ b = some ⟨l', shopD gi us, basD bs, []⟩ := gput_eq _ _ _
    generalize gput (gput (fun _ => none) a (Tq l gi us bs (befs.map basD))) b ⟨l', shopD gi us, basD bs, []⟩ = m2 at *
    refine t6 ea eb hf fb eqS eqN neN rfl ?_
    dsimp only
    refine t7 ⟨_, eb⟩ (fun P q => c_put_ok (k := 0) hs hf eb hb (by omega) (by decide) q) (.put eb rfl) ?_
    dsimp only
    have ea3 : gput m2 b (Tq l' gi us (bmore bs 0 1) ([] ++ [basD bs])) a = some (Tq l gi us bs (befs.map basD)) := (gput_ne _ _ ab).trans ea
    have nN : dEqA (basD (bmore bs 0 1)) (basD bs) = some (.im (.bl false)) := by
      rw [eq_tups]
      have : bmore bs 0 1 ≠ bs := fun z => by
        have h0 : 0 < bs.length := by omega
        have e1 : (bmore bs 0 1)[0]? = some (bs[0] + 1) := by
          unfold bmore
          rw [List.getElem?_set_self h0, List.getElem?_eq_getElem h0]
          rfl
        rw [z, List.getElem?_eq_getElem h0] at e1
        have := Option.some.inj e1
        omega
      simp [this]
    refine t8 ab ea3 (gput_eq _ _ _) hf fb (fl_bas _) eqS nN neN ?_
    dsimp only
    have ea4 : gput (gput m2 b (Tq l' gi us (bmore bs 0 1) ([] ++ [basD bs]))) b ⟨l', shopD gi us, basD bs, []⟩ a = some (Tq l gi us bs (befs.map basD)) := (gput_ne _ _ ab).trans ea3
    have eb4 : gput (gput m2 b (Tq l' gi us (bmore bs 0 1) ([] ++ [basD bs]))) b ⟨l', shopD gi us, basD bs, []⟩ b = some ⟨l', shopD gi us, basD bs, []⟩ := gput_eq _ _ _
    generalize gput (gput m2 b (Tq l' gi us (bmore bs 0 1) ([] ++ [basD bs]))) b ⟨l', shopD gi us, basD bs, []⟩ = m4 at *
    have hz : ((befs.map basD) ++ [basD bs]).head? = some (basD (List.replicate gi.length 0)) := by
      have : ((befs ++ [bs]).map basD).head? = some (basD (List.replicate gi.length 0)) := by rw [List.head?_map, hh]; rfl
      simpa using this
    refine t9 (by rw [← List.map_reverse]; exact flats_bas _) ?_
    have mem : ∀ d ∈ befs.map basD, ∃ c, d = basD c := fun d z => by obtain ⟨c, _, rfl⟩ := List.mem_map.mp z; exact ⟨c, rfl⟩
    generalize befs.map basD = zs at *
    refine loopH_inv (I := fun i env m => ∃ bf N0, env = E40 (scr ns) (.own false (rep0 n)) (.im (shopD gi us)) ag bf (.hd a) (.own false zs) go (.hd b) (.im (basD bs)) ∧ m a = some ⟨l, shopD gi us, N0, zs.take (zs.length - i)⟩ ∧ m b = some ⟨l', shopD gi us, basD bs, []⟩ ∧ (zs.take (zs.length - i) ++ [N0]).head? = some (basD (List.replicate gi.length 0))) (fun i d env m hd h P' k => ?_) (fun e m h => ?_) ⟨bf, basD bs, rfl, by rw [Nat.sub_zero, List.take_length]; exact ea4, eb4, by rw [Nat.sub_zero, List.take_length]; exact hz⟩
    · obtain ⟨bf, N0, rfl, e1, e2, e3⟩ := h
      have hi : i < zs.length := by have := (List.getElem?_eq_some_iff.mp hd).1; rwa [List.length_reverse] at this
      rw [List.getElem?_reverse hi] at hd
      have tk : zs.take (zs.length - i) = zs.take (zs.length - (i + 1)) ++ [d] := by
        rw [show zs.length - i = zs.length - (i + 1) + 1 by omega, List.take_succ, show zs.length - (i + 1) = zs.length - 1 - i by omega, hd]
        rfl
      obtain ⟨c, rfl⟩ := mem d (List.mem_of_getElem? hd)
      rw [tk] at e1 e3
      refine b9 e1 (fl_bas c) (ne_bas c) (k _ _ ⟨_, basD c, rfl, gput_eq _ _ _, (gput_ne _ _ (Ne.symm ab)).trans e2, ?_⟩)
      rw [head_more] at e3
      exact e3
    · obtain ⟨bf, N0, rfl, e1, e2, e3⟩ := h
      rw [List.length_reverse, Nat.sub_self, List.take_zero] at e1 e3
      have eN : N0 = basD (List.replicate gi.length 0) := Option.some.inj e3
      subst eN
      dsimp only
      refine t10 e1 e2 fb neN ?_
      dsimp only
      refine t11 (gs := .tup (gi.map gd)) (y := true) ix0 hfG kz1 kz2 (fl_bas _) kne kzz fun a1 t1 a2 t2 n1 n2 => ?_
      dsimp only
      have ne1 : a ≠ a1 := fun z => by rw [← z, e1] at n1; cases n1
      have e5 := (gput_ne m t1 ne1).trans e1
      have ne2 : a ≠ a2 := fun z => by rw [← z, e5] at n2; cases n2
      have e6 := (gput_ne (gput m a1 t1) t2 ne2).trans e5
      have eqZ : dEqA (basD (List.replicate gi.length 0)) (basD (List.replicate gi.length 0)) = some (.im (.bl true)) := by rw [eq_tups]; simp
      refine t12 e6 (zer_ok hs) hf (fl_bas _) eqS eqZ fun a3 t3 => ?_
      rfl

end DL
set_option maxHeartbeats 0
namespace DLH
open PySem PySem.Spec PyProof.Rows L2
abbrev Ex : Type := List (PySem.W.Frag → Bool)
def look (ex : Ex) (fn : List He.FnD) (K : PySem.W.Frag) : He.Al := (ex.all (fun e => e K) && fn.all (fun d => (He.Fa.code d.at_ d.qual).ok K), fn.map (fun d => He.fnObs K d.at_))
structure Says (ex : Ex) (fn : List He.FnD) (K : PySem.W.Frag) : Prop where
  eq : look ex fn K = He.valE fn
def nextA (g : Addr → Option Obj) (a : Addr) : List Addr := (g a).elim [] He.refsO
def adr (g : Addr → Option Obj) : Nat → List Addr → List Addr
  | 0, l => l
  | n + 1, l => l ++ adr g n (l.flatMap (nextA g))
def seenG (ex : Ex) (fn : List He.FnD) (g : Addr → Option Obj) : He.Al := look ex fn (He.frG g (adr g 4 [mainGlobals]))
abbrev Gr : Type := Ex × List He.FnD
abbrev Gr.see (a : Gr) (g : Addr → Option Obj) : He.Al := seenG a.1 a.2 g
def AllG (gs : List Gr) (K : PySem.W.Frag) : Prop := ∀ a ∈ gs, Says a.1 a.2 K
theorem see_all {gs : List Gr} {g : Addr → Option Obj} (h : gs.map (fun a => a.see g) = gs.map fun a => He.valE a.2) : AllG gs (He.frG g (adr g 4 [mainGlobals])) :=
  fun a ha => ⟨List.map_inj_left.mp h a ha⟩
def hook (gs : List Gr) : PySem.W.Hook := { α := List He.Al, obs := fun s => gs.map fun a => a.see s.heap.get?, val := fun _ => gs.map fun a => He.valE a.2, says := fun _ h => ∃ K : PySem.W.Frag, K.In h ∧ AllG gs K, of := fun _ _ e => ⟨_, He.frG_in, see_all e⟩, keeps := fun _ _ _ z k => z.elim fun K y => ⟨K, PySem.W.Frag.In.keeps y.1 k, y.2⟩ }
def hook1 (a : Gr) : PySem.W.Hook := { α := He.Al, obs := fun s => a.see s.heap.get?, val := fun _ => He.valE a.2, says := fun _ _ => True, of := fun _ _ _ => trivial, keeps := fun _ _ _ _ _ => trivial }
theorem hook_eq (gs : List Gr) (s : PySem.W.SharedT) : (gs.map fun a => a.see (HandSHeadRun.getT s)) = (hook gs).obs s.abs := by
  rw [show HandSHeadRun.getT s = s.abs.heap.get? from funext (HandSHeadRun.getT_eq s)]
  rfl
/-- looks at one run, one by one -/
theorem joinG {X L S : Type} {o : Option X} {l : X → L} {z : X → S} {t : X → Addr → Option Obj} {l' : L} {z' : S} (gs : List Gr) (hl : o.map l = some l') (hz : o.map z = some z') (h : ∀ a ∈ gs, o.map (fun x => a.see (t x)) = some (He.valE a.2)) : o.map (fun x => (l x, z x, gs.map fun a => a.see (t x))) = some (l', z', gs.map fun a => He.valE a.2) := by
  cases o with
  | none => cases hl
  | some x =>
    have e1 : l x = l' := Option.some.inj hl
    have e2 : z x = z' := Option.some.inj hz
    have km : (gs.map fun a => a.see (t x)) = gs.map fun a => He.valE a.2 := List.map_congr_left fun a ha => Option.some.inj (h a ha)
    show some (l x, z x, gs.map fun a => a.see (t x)) = _
    rw [e1, e2, km]
theorem Says.two {ex : Ex} {fn : List He.FnD} {K : PySem.W.Frag} (c : Says ex fn K) : ex.all (fun e => e K) = true ∧ fn.all (fun d => (He.Fa.code d.at_ d.qual).ok K) = true :=
  Bool.and_eq_true_iff.mp (congrArg Prod.fst c.eq)
theorem Says.fact {ex : Ex} {fn : List He.FnD} {K : PySem.W.Frag} (c : Says ex fn K) (i : Nat) {e : PySem.W.Frag → Bool} (h : ex[i]? = some e) : e K = true :=
  List.all_eq_true.mp c.two.1 e (List.mem_of_getElem? h)
theorem Says.def_ {ex : Ex} {fn : List He.FnD} {K : PySem.W.Frag} (c : Says ex fn K) (i : Nat) {d : He.FnD} (h : fn[i]? = some d) : ∃ oc od osl kV doc pm an cdv ct, K.lookup (He.fAd K d.at_) = some ⟨oc, od, .func (PySem.W.fnOf d.name d.qual d.params d.body d.scope .none kV doc pm an cdv ct), osl⟩ ∧ PySem.W.codeIn K cdv d.qual = true := by
  have m : d ∈ fn := List.mem_of_getElem? h
  have e : He.fnObs K d.at_ = d.val := List.map_inj_left.mp (congrArg Prod.snd c.eq) d m
  exact He.fn_ok e (List.all_eq_true.mp c.two.2 d m)
def intB (K : PySem.W.Frag) (x : Str) (i : Int) : Bool := match PySem.W.nsIn K mainGlobals x with
  | some (some (.int j _)) => decide (j = i)
  | _ => false
def strB (K : PySem.W.Frag) (x z : Str) : Bool := match PySem.W.nsIn K mainGlobals x with
  | some (some (.str y _)) => decide (y = z)
  | _ => false
theorem int_ns {K : PySem.W.Frag} {x : Str} {i : Int} (c : intB K x i = true) : ∃ t, PySem.W.nsIn K mainGlobals x = some (some (.int i t)) := by
  unfold intB at c
  split at c
  · rename_i j t e
    have e2 : j = i := of_decide_eq_true c
    rw [← e2]
    exact ⟨t, e⟩
  · cases c
theorem str_ns {K : PySem.W.Frag} {x z : Str} (c : strB K x z = true) : ∃ t, PySem.W.nsIn K mainGlobals x = some (some (.str z t)) := by
  unfold strB at c
  split at c
  · rename_i j t e
    have e2 : j = z := of_decide_eq_true c
    rw [← e2]
    exact ⟨t, e⟩
  · cases c
theorem mro_of {K : PySem.W.Frag} {a : Addr} {l : List Value} (c : decide ((PySem.W.clsIn K a).map (fun d => d.mro) = some l) = true) : ∃ d, PySem.W.clsIn K a = some d ∧ d.mro = l := by
  have e := of_decide_eq_true c
  cases q : PySem.W.clsIn K a with
  | none => rw [q] at e; cases e
  | some d => rw [q] at e; exact ⟨d, rfl, Option.some.inj e⟩
def strsB : List Value → List Str → Bool
  | [], [] => true
  | .str y _ :: vs, z :: zs => decide (y = z) && strsB vs zs
  | _, _ => false
def tupB (K : PySem.W.Frag) (a : Addr) (zs : List Str) : Bool := match K.lookup a with
  | some ⟨c, _, .seq its _, _⟩ => decide (c = .type "tuple") && strsB its.toList zs
  | _ => false
theorem tup_of {K : PySem.W.Frag} {a : Addr} {zs : List Str} (h : tupB K a zs = true) : ∃ o its n v, K.lookup a = some ⟨.type "tuple", o, .seq its n, v⟩ ∧ strsB its.toList zs = true := by
  unfold tupB at h
  split at h
  · rename_i c o its n v e
    obtain ⟨h1, h2⟩ := Bool.and_eq_true_iff.mp h
    have := of_decide_eq_true h1
    subst this
    exact ⟨o, its, n, v, e, h2⟩
  · cases h
theorem strs_cons {vs : List Value} {z : Str} {zs : List Str} (h : strsB vs (z :: zs) = true) : ∃ t r, vs = .str z t :: r ∧ strsB r zs = true := by
  cases vs with
  | nil => cases h
  | cons v r =>
    cases v with
    | str y t =>
      obtain ⟨h3, h4⟩ := Bool.and_eq_true_iff.mp (show (decide (y = z) && strsB r zs) = true from h)
      have e : y = z := of_decide_eq_true h3
      exact ⟨t, r, by rw [e], h4⟩
    | _ => cases h
theorem strs_nil {vs : List Value} (h : strsB vs [] = true) : vs = [] := by
  cases vs with
  | nil => rfl
  | cons v vs => cases v <;> cases h
theorem tup1 {K : PySem.W.Frag} {a : Addr} {x : Str} (h : tupB K a [x] = true) : ∃ o p n v, K.lookup a = some ⟨.type "tuple", o, .seq #[.str x p] n, v⟩ := by
  obtain ⟨o, ⟨l⟩, n, v, e, s⟩ := tup_of h
  obtain ⟨p, r, e1, s1⟩ := strs_cons (vs := l) s
  have e2 := strs_nil s1
  subst e2
  subst e1
  exact ⟨o, p, n, v, e⟩
theorem tup2 {K : PySem.W.Frag} {a : Addr} {x y : Str} (h : tupB K a [x, y] = true) : ∃ o p q n v, K.lookup a = some ⟨.type "tuple", o, .seq #[.str x p, .str y q] n, v⟩ := by
  obtain ⟨o, ⟨l⟩, n, v, e, s⟩ := tup_of h
  obtain ⟨p, r, e1, s1⟩ := strs_cons (vs := l) s
  obtain ⟨q, r2, e2, s2⟩ := strs_cons s1
  have e3 := strs_nil s2
  subst e3
  subst e2
  subst e1
  exact ⟨o, p, q, n, v, e⟩
def itA (K : PySem.W.Frag) (a : Addr) (i : Nat) : Addr := match K.lookup a with
  | some ⟨_, _, .seq its _, _⟩ => (match its.toList[i]? with
    | some (.ref b) => b
    | _ => 0)
  | _ => 0
def refsB (K : PySem.W.Frag) (a : Addr) (bs : List Addr) : Bool := match K.lookup a with
  | some ⟨c, _, .seq its _, _⟩ => decide (c = .type "tuple") && decide (its.toList = bs.map Value.ref)
  | _ => false
theorem refs3 {K : PySem.W.Frag} {a b0 b1 b2 : Addr} (h : refsB K a [b0, b1, b2] = true) : ∃ o n v, K.lookup a = some ⟨.type "tuple", o, .seq #[.ref b0, .ref b1, .ref b2] n, v⟩ := by
  unfold refsB at h
  split at h
  · rename_i c o its n v e
    obtain ⟨h1, h2⟩ := Bool.and_eq_true_iff.mp h
    have h1 := of_decide_eq_true h1
    have h2 := of_decide_eq_true h2
    subst h1
    obtain ⟨l⟩ := its
    have h2 : l = [Value.ref b0, Value.ref b1, Value.ref b2] := h2
    subst h2
    exact ⟨o, n, v, e⟩
  · cases h
theorem walk {l : PySem.W.OpenLaw} {n k : Nat} {q : Program} {loose : List Str} {XP : (Str → Option Value) → Heap → Prop} {gs : List Gr} {d : DefRec} {x : Str} (hn : l.most = some n) (hn2 : n ≤ 63) (hdf : d.params.defaults = []) (hr : Room k callerA)
    (F : ∀ (w : World) (K : PySem.W.Frag) (mg : Str → Option Value) (fa : Addr) (h : Heap), AllG gs K → K.In h → h.Ns mainGlobals mg → mg d.name = some (.ref fa) → ∃ fd : FuncData, (∀ (s : Shared) (u : Value), BindsTo s fd ⟨[u], []⟩ [(x, u)]) ∧ ∀ base : Heap, K.In base → base.Ns mainGlobals mg → FnOk l.prog w K mg base (L2.CX l.prog w) k fa fd [x] (DL.spLaw K))
    (cx : ∀ (w : World) (H : Hp) (s : Shared) (e : Value) (s' : Shared), L2.CX l.prog w [] H s (fun _ _ _ => False) e s' → False) : PySem.W.WalkO q loose XP (hook gs).says l.row.toRowW d [] (fun f vs => PySem.call f vs) :=
  Att.attach_call hn hdf fun w s₀ s₁ mg mb fa o pm cd doc a vs ns G Y ho hd hcd hmg hobj hints hlen hg => by
    cases Y with
    | intro K Y =>
      cases F w K mg fa _ Y.2 Y.1 G.T.g hmg with
      | intro fd Z => exact law_call Y.1 G.T.g G.T.b G.T.builtins G.T.nolimit hg hobj hints (Nat.le_trans (Nat.le_trans hlen hn2) (by decide)) hr Z.2 Z.1 (fun H hO hS => DL.law_hsp (Nat.le_trans hlen hn2) hO hS) fun H e s' => cx w H s₁ e s'
end DLH
namespace DLH
open PySem PySem.Spec PyProof.Rows L2
def fn0 : List He.FnD := [⟨("is_integer", none), "is_integer", "is_integer", defArgs DL.s_is_integer, defBody DL.s_is_integer, defScope DL.s_is_integer⟩,
  ⟨("is_between", none), "is_between", "is_between", defArgs DL.s_is_between, defBody DL.s_is_between, defScope DL.s_is_between⟩,
  ⟨("is_tuple_of", none), "is_tuple_of", "is_tuple_of", defArgs DL.s_is_tuple_of, defBody DL.s_is_tuple_of, defScope DL.s_is_tuple_of⟩,
  ⟨("is_most", none), "is_most", "is_most", defArgs DL.s_is_most, defBody DL.s_is_most, defScope DL.s_is_most⟩,
  ⟨("is_good", none), "is_good", "is_good", defArgs DL.s_is_good, defBody DL.s_is_good, defScope DL.s_is_good⟩,
  ⟨("is_pack", none), "is_pack", "is_pack", defArgs DL.s_is_pack, defBody DL.s_is_pack, defScope DL.s_is_pack⟩,
  ⟨("is_from", none), "is_from", "is_from", defArgs DL.s_is_from, defBody DL.s_is_from, defScope DL.s_is_from⟩,
  ⟨("is_over", none), "is_over", "is_over", defArgs DL.s_is_over, defBody DL.s_is_over, defScope DL.s_is_over⟩,
  ⟨("is_each", none), "is_each", "is_each", defArgs DL.s_is_each, defBody DL.s_is_each, defScope DL.s_is_each⟩,
  ⟨("is_rule", none), "is_rule", "is_rule", defArgs DL.s_is_rule, defBody DL.s_is_rule, defScope DL.s_is_rule⟩,
  ⟨("is_endless_each", none), "is_endless_each", "is_endless_each", defArgs DL.s_is_endless_each, defBody DL.s_is_endless_each, defScope DL.s_is_endless_each⟩,
  ⟨("are_goods", none), "are_goods", "are_goods", defArgs DL.s_are_goods, defBody DL.s_are_goods, defScope DL.s_are_goods⟩,
  ⟨("are_rules", none), "are_rules", "are_rules", defArgs DL.s_are_rules, defBody DL.s_are_rules, defScope DL.s_are_rules⟩,
  ⟨("is_shop", none), "is_shop", "is_shop", defArgs DL.s_is_shop, defBody DL.s_is_shop, defScope DL.s_is_shop⟩,
  ⟨("check_shop", none), "check_shop", "check_shop", defArgs DL.s_check_shop, defBody DL.s_check_shop, defScope DL.s_check_shop⟩,
  ⟨("full_times", none), "full_times", "full_times", defArgs DL.s_full_times, defBody DL.s_full_times, defScope DL.s_full_times⟩,
  ⟨("fitting_rule", none), "fitting_rule", "fitting_rule", defArgs DL.s_fitting_rule, defBody DL.s_fitting_rule, defScope DL.s_fitting_rule⟩,
  ⟨("pack_times", none), "pack_times", "pack_times", defArgs DL.s_pack_times, defBody DL.s_pack_times, defScope DL.s_pack_times⟩,
  ⟨("pack_amount", none), "pack_amount", "pack_amount", defArgs DL.s_pack_amount, defBody DL.s_pack_amount, defScope DL.s_pack_amount⟩,
  ⟨("good_amount", none), "good_amount", "good_amount", defArgs DL.s_good_amount, defBody DL.s_good_amount, defScope DL.s_good_amount⟩,
  ⟨("off_times", none), "off_times", "off_times", defArgs DL.s_off_times, defBody DL.s_off_times, defScope DL.s_off_times⟩,
  ⟨("apply_sums", none), "apply_sums", "apply_sums", defArgs DL.s_apply_sums, defBody DL.s_apply_sums, defScope DL.s_apply_sums⟩,
  ⟨("amounts_of", none), "amounts_of", "amounts_of", defArgs DL.s_amounts_of, defBody DL.s_amounts_of, defScope DL.s_amounts_of⟩,
  ⟨("left_of", none), "left_of", "left_of", defArgs DL.s_left_of, defBody DL.s_left_of, defScope DL.s_left_of⟩,
  ⟨("charge_of", none), "charge_of", "charge_of", defArgs DL.s_charge_of, defBody DL.s_charge_of, defScope DL.s_charge_of⟩,
  ⟨("with_more", none), "with_more", "with_more", defArgs DL.s_with_more, defBody DL.s_with_more, defScope DL.s_with_more⟩,
  ⟨("Till", some "__init__"), "__init__", "Till.__init__", defArgs DL.s_Till___init__, defBody DL.s_Till___init__, defScope DL.s_Till___init__⟩,
  ⟨("Till", some "__eq__"), "__eq__", "Till.__eq__", defArgs DL.s_Till___eq__, defBody DL.s_Till___eq__, defScope DL.s_Till___eq__⟩,
  ⟨("Till", some "_check_good"), "_check_good", "Till._check_good", defArgs DL.s_Till__check_good, defBody DL.s_Till__check_good, defScope DL.s_Till__check_good⟩,
  ⟨("Till", some "_step"), "_step", "Till._step", defArgs DL.s_Till__step, defBody DL.s_Till__step, defScope DL.s_Till__step⟩,
  ⟨("Till", some "put"), "put", "Till.put", defArgs DL.s_Till_put, defBody DL.s_Till_put, defScope DL.s_Till_put⟩]
def fn1 : List He.FnD := [⟨("Till", some "take"), "take", "Till.take", defArgs DL.s_Till_take, defBody DL.s_Till_take, defScope DL.s_Till_take⟩,
  ⟨("Till", some "basket"), "basket", "Till.basket", defArgs DL.s_Till_basket, defBody DL.s_Till_basket, defScope DL.s_Till_basket⟩,
  ⟨("Till", some "undo"), "undo", "Till.undo", defArgs DL.s_Till_undo, defBody DL.s_Till_undo, defScope DL.s_Till_undo⟩,
  ⟨("Till", some "duplicate"), "duplicate", "Till.duplicate", defArgs DL.s_Till_duplicate, defBody DL.s_Till_duplicate, defScope DL.s_Till_duplicate⟩,
  ⟨("_law_cell_at", none), "_law_cell_at", "_law_cell_at", defArgs DL.s__law_cell_at, defBody DL.s__law_cell_at, defScope DL.s__law_cell_at⟩,
  ⟨("_law_mixed", none), "_law_mixed", "_law_mixed", defArgs DL.s__law_mixed, defBody DL.s__law_mixed, defScope DL.s__law_mixed⟩,
  ⟨("_law_draw", none), "_law_draw", "_law_draw", defArgs DL.s__law_draw, defBody DL.s__law_draw, defScope DL.s__law_draw⟩,
  ⟨("_law_which", none), "_law_which", "_law_which", defArgs DL.s__law_which, defBody DL.s__law_which, defScope DL.s__law_which⟩,
  ⟨("_law_pick", none), "_law_pick", "_law_pick", defArgs DL.s__law_pick, defBody DL.s__law_pick, defScope DL.s__law_pick⟩,
  ⟨("_law_some_rule", none), "_law_some_rule", "_law_some_rule", defArgs DL.s__law_some_rule, defBody DL.s__law_some_rule, defScope DL.s__law_some_rule⟩,
  ⟨("_law_some_goods", none), "_law_some_goods", "_law_some_goods", defArgs DL.s__law_some_goods, defBody DL.s__law_some_goods, defScope DL.s__law_some_goods⟩,
  ⟨("_law_some_shop", none), "_law_some_shop", "_law_some_shop", defArgs DL.s__law_some_shop, defBody DL.s__law_some_shop, defScope DL.s__law_some_shop⟩,
  ⟨("_law_undo", none), "_law_undo", "_law_undo", defArgs DL.s__law_undo, defBody DL.s__law_undo, defScope DL.s__law_undo⟩,
  ⟨("law", none), "law", "law", defArgs DL.s_law, defBody DL.s_law, defScope DL.s_law⟩]
def ex0 : Ex := [fun K => decide (PySem.W.nsIn K mainGlobals "is_integer" = some (some (.ref (He.ga K "is_integer")))),
  fun K => PySem.W.keepIn K (.ref (He.ga K "is_integer")),
  fun K => decide (PySem.W.nsIn K mainGlobals "is_between" = some (some (.ref (He.ga K "is_between")))),
  fun K => PySem.W.keepIn K (.ref (He.ga K "is_between")),
  fun K => decide (PySem.W.nsIn K mainGlobals "is_tuple_of" = some (some (.ref (He.ga K "is_tuple_of")))),
  fun K => PySem.W.keepIn K (.ref (He.ga K "is_tuple_of")),
  fun K => decide (PySem.W.nsIn K mainGlobals "is_most" = some (some (.ref (He.ga K "is_most")))),
  fun K => PySem.W.keepIn K (.ref (He.ga K "is_most")),
  fun K => decide (PySem.W.nsIn K mainGlobals "is_good" = some (some (.ref (He.ga K "is_good")))),
  fun K => PySem.W.keepIn K (.ref (He.ga K "is_good")),
  fun K => decide (PySem.W.nsIn K mainGlobals "is_pack" = some (some (.ref (He.ga K "is_pack")))),
  fun K => PySem.W.keepIn K (.ref (He.ga K "is_pack")),
  fun K => decide (PySem.W.nsIn K mainGlobals "is_from" = some (some (.ref (He.ga K "is_from")))),
  fun K => PySem.W.keepIn K (.ref (He.ga K "is_from")),
  fun K => decide (PySem.W.nsIn K mainGlobals "is_over" = some (some (.ref (He.ga K "is_over")))),
  fun K => PySem.W.keepIn K (.ref (He.ga K "is_over")),
  fun K => decide (PySem.W.nsIn K mainGlobals "is_each" = some (some (.ref (He.ga K "is_each")))),
  fun K => PySem.W.keepIn K (.ref (He.ga K "is_each")),
  fun K => decide (PySem.W.nsIn K mainGlobals "is_rule" = some (some (.ref (He.ga K "is_rule")))),
  fun K => PySem.W.keepIn K (.ref (He.ga K "is_rule")),
  fun K => decide (PySem.W.nsIn K mainGlobals "is_endless_each" = some (some (.ref (He.ga K "is_endless_each")))),
  fun K => PySem.W.keepIn K (.ref (He.ga K "is_endless_each")),
  fun K => decide (PySem.W.nsIn K mainGlobals "are_goods" = some (some (.ref (He.ga K "are_goods")))),
  fun K => PySem.W.keepIn K (.ref (He.ga K "are_goods")),
  fun K => decide (PySem.W.nsIn K mainGlobals "are_rules" = some (some (.ref (He.ga K "are_rules")))),
  fun K => PySem.W.keepIn K (.ref (He.ga K "are_rules")),
  fun K => decide (PySem.W.nsIn K mainGlobals "is_shop" = some (some (.ref (He.ga K "is_shop")))),
  fun K => PySem.W.keepIn K (.ref (He.ga K "is_shop")),
  fun K => decide (PySem.W.nsIn K mainGlobals "check_shop" = some (some (.ref (He.ga K "check_shop")))),
  fun K => PySem.W.keepIn K (.ref (He.ga K "check_shop")),
  fun K => decide (PySem.W.nsIn K mainGlobals "full_times" = some (some (.ref (He.ga K "full_times")))),
  fun K => PySem.W.keepIn K (.ref (He.ga K "full_times")),
  fun K => decide (PySem.W.nsIn K mainGlobals "fitting_rule" = some (some (.ref (He.ga K "fitting_rule")))),
  fun K => PySem.W.keepIn K (.ref (He.ga K "fitting_rule")),
  fun K => decide (PySem.W.nsIn K mainGlobals "pack_times" = some (some (.ref (He.ga K "pack_times")))),
  fun K => PySem.W.keepIn K (.ref (He.ga K "pack_times")),
  fun K => decide (PySem.W.nsIn K mainGlobals "pack_amount" = some (some (.ref (He.ga K "pack_amount")))),
  fun K => PySem.W.keepIn K (.ref (He.ga K "pack_amount")),
  fun K => decide (PySem.W.nsIn K mainGlobals "good_amount" = some (some (.ref (He.ga K "good_amount")))),
  fun K => PySem.W.keepIn K (.ref (He.ga K "good_amount")),
  fun K => decide (PySem.W.nsIn K mainGlobals "off_times" = some (some (.ref (He.ga K "off_times")))),
  fun K => PySem.W.keepIn K (.ref (He.ga K "off_times")),
  fun K => decide (PySem.W.nsIn K mainGlobals "apply_sums" = some (some (.ref (He.ga K "apply_sums")))),
  fun K => PySem.W.keepIn K (.ref (He.ga K "apply_sums")),
  fun K => decide (PySem.W.nsIn K mainGlobals "amounts_of" = some (some (.ref (He.ga K "amounts_of")))),
  fun K => PySem.W.keepIn K (.ref (He.ga K "amounts_of")),
  fun K => decide (PySem.W.nsIn K mainGlobals "left_of" = some (some (.ref (He.ga K "left_of")))),
  fun K => PySem.W.keepIn K (.ref (He.ga K "left_of")),
  fun K => decide (PySem.W.nsIn K mainGlobals "charge_of" = some (some (.ref (He.ga K "charge_of")))),
  fun K => PySem.W.keepIn K (.ref (He.ga K "charge_of")),
  fun K => decide (PySem.W.nsIn K mainGlobals "with_more" = some (some (.ref (He.ga K "with_more")))),
  fun K => PySem.W.keepIn K (.ref (He.ga K "with_more")),
  fun K => decide (PySem.W.nsIn K mainGlobals "Till" = some (some (.ref (He.ga K "Till")))),
  fun K => PySem.W.plainGet K (He.ga K "Till") Str.empty,
  fun K => PySem.W.hasDictIn K (He.ga K "Till"),
  fun K => PySem.W.plainOver K (He.ga K "Till"),
  fun K => decide (PySem.W.findIn K (.ref (He.ga K "Till")) "__setattr__" = some (some (.builtin "object.__setattr__"))),
  fun K => decide (PySem.W.findIn K (.ref (He.ga K "Till")) "_shop" = some none),
  fun K => decide (PySem.W.findIn K (.ref (He.ga K "Till")) "_now" = some none),
  fun K => decide (PySem.W.findIn K (.ref (He.ga K "Till")) "_before" = some none),
  fun K => PySem.W.makesIn K (He.ga K "Till"),
  fun K => PySem.W.keepIn K (.ref (He.ga K "Till")),
  fun K => decide (PySem.W.findIn K (.ref (He.ga K "Till")) "__class__" = some (some (.builtin "object.__class__"))),
  fun K => decide (PySem.W.specialIn K (.builtin "object.__class__") "__get__" = some (some (.builtin "getset_descriptor.__get__"))),
  fun K => decide (PySem.W.takesIn K (.builtin "object.__class__") = some true),
  fun K => decide (PySem.W.mroIn K (He.ga K "Till") (.type "object") = some true),
  fun K => decide (PySem.W.kitOne K (.ref (He.ga K "Till")) (.ref (He.ga K "Till")) = some true),
  fun K => decide (PySem.W.kitOne K (.type "tuple") (.ref (He.ga K "Till")) = some false),
  fun K => decide (PySem.W.kitOne K (.type "NoneType") (.ref (He.ga K "Till")) = some false),
  fun K => PySem.W.notFirst K (He.ga K "Till") (.type "tuple"),
  fun K => PySem.W.notFirst K (He.ga K "Till") (.type "NoneType"),
  fun K => decide (PySem.W.findIn K (.ref (He.ga K "Till")) "__init__" = some (some (.ref (He.ma K (He.ga K "Till") "__init__")))),
  fun K => PySem.W.isFn K (.ref (He.ma K (He.ga K "Till") "__init__")),
  fun K => PySem.W.keepIn K (.ref (He.ma K (He.ga K "Till") "__init__")),
  fun K => decide (PySem.W.findIn K (.ref (He.ga K "Till")) "__eq__" = some (some (.ref (He.ma K (He.ga K "Till") "__eq__")))),
  fun K => PySem.W.isFn K (.ref (He.ma K (He.ga K "Till") "__eq__")),
  fun K => PySem.W.keepIn K (.ref (He.ma K (He.ga K "Till") "__eq__")),
  fun K => decide (PySem.W.findIn K (.ref (He.ga K "Till")) "_check_good" = some (some (.ref (He.ma K (He.ga K "Till") "_check_good")))),
  fun K => PySem.W.isFn K (.ref (He.ma K (He.ga K "Till") "_check_good")),
  fun K => PySem.W.keepIn K (.ref (He.ma K (He.ga K "Till") "_check_good")),
  fun K => decide (PySem.W.findIn K (.ref (He.ga K "Till")) "_step" = some (some (.ref (He.ma K (He.ga K "Till") "_step")))),
  fun K => PySem.W.isFn K (.ref (He.ma K (He.ga K "Till") "_step")),
  fun K => PySem.W.keepIn K (.ref (He.ma K (He.ga K "Till") "_step")),
  fun K => decide (PySem.W.findIn K (.ref (He.ga K "Till")) "put" = some (some (.ref (He.ma K (He.ga K "Till") "put")))),
  fun K => PySem.W.isFn K (.ref (He.ma K (He.ga K "Till") "put")),
  fun K => PySem.W.keepIn K (.ref (He.ma K (He.ga K "Till") "put")),
  fun K => decide (PySem.W.findIn K (.ref (He.ga K "Till")) "take" = some (some (.ref (He.ma K (He.ga K "Till") "take")))),
  fun K => PySem.W.isFn K (.ref (He.ma K (He.ga K "Till") "take")),
  fun K => PySem.W.keepIn K (.ref (He.ma K (He.ga K "Till") "take")),
  fun K => decide (PySem.W.findIn K (.ref (He.ga K "Till")) "basket" = some (some (.ref (He.ma K (He.ga K "Till") "basket")))),
  fun K => PySem.W.isFn K (.ref (He.ma K (He.ga K "Till") "basket")),
  fun K => PySem.W.keepIn K (.ref (He.ma K (He.ga K "Till") "basket")),
  fun K => decide (PySem.W.findIn K (.ref (He.ga K "Till")) "undo" = some (some (.ref (He.ma K (He.ga K "Till") "undo")))),
  fun K => PySem.W.isFn K (.ref (He.ma K (He.ga K "Till") "undo")),
  fun K => PySem.W.keepIn K (.ref (He.ma K (He.ga K "Till") "undo")),
  fun K => decide (PySem.W.findIn K (.ref (He.ga K "Till")) "duplicate" = some (some (.ref (He.ma K (He.ga K "Till") "duplicate")))),
  fun K => PySem.W.isFn K (.ref (He.ma K (He.ga K "Till") "duplicate")),
  fun K => PySem.W.keepIn K (.ref (He.ma K (He.ga K "Till") "duplicate")),
  fun K => decide (PySem.W.nsIn K mainGlobals "_law_cell_at" = some (some (.ref (He.ga K "_law_cell_at")))),
  fun K => PySem.W.keepIn K (.ref (He.ga K "_law_cell_at")),
  fun K => decide (PySem.W.nsIn K mainGlobals "_law_mixed" = some (some (.ref (He.ga K "_law_mixed")))),
  fun K => PySem.W.keepIn K (.ref (He.ga K "_law_mixed")),
  fun K => decide (PySem.W.nsIn K mainGlobals "_law_draw" = some (some (.ref (He.ga K "_law_draw")))),
  fun K => PySem.W.keepIn K (.ref (He.ga K "_law_draw")),
  fun K => decide (PySem.W.nsIn K mainGlobals "_law_which" = some (some (.ref (He.ga K "_law_which")))),
  fun K => PySem.W.keepIn K (.ref (He.ga K "_law_which")),
  fun K => decide (PySem.W.nsIn K mainGlobals "_law_pick" = some (some (.ref (He.ga K "_law_pick")))),
  fun K => PySem.W.keepIn K (.ref (He.ga K "_law_pick")),
  fun K => decide (PySem.W.nsIn K mainGlobals "_law_some_rule" = some (some (.ref (He.ga K "_law_some_rule")))),
  fun K => PySem.W.keepIn K (.ref (He.ga K "_law_some_rule")),
  fun K => decide (PySem.W.nsIn K mainGlobals "_law_some_goods" = some (some (.ref (He.ga K "_law_some_goods")))),
  fun K => PySem.W.keepIn K (.ref (He.ga K "_law_some_goods")),
  fun K => decide (PySem.W.nsIn K mainGlobals "_law_some_shop" = some (some (.ref (He.ga K "_law_some_shop")))),
  fun K => PySem.W.keepIn K (.ref (He.ga K "_law_some_shop")),
  fun K => decide (PySem.W.nsIn K mainGlobals "_law_undo" = some (some (.ref (He.ga K "_law_undo")))),
  fun K => PySem.W.keepIn K (.ref (He.ga K "_law_undo")),
  fun K => decide (PySem.W.nsIn K mainGlobals "law" = some (some (.ref (He.ga K "law")))),
  fun K => PySem.W.keepIn K (.ref (He.ga K "law")),
  fun K => decide (PySem.W.nsIn K mainGlobals "ValueError" = some none),
  fun K => decide (PySem.W.nsIn K mainGlobals "all" = some none),
  fun K => decide (PySem.W.nsIn K mainGlobals "any" = some none),
  fun K => decide (PySem.W.nsIn K mainGlobals "bool" = some none),
  fun K => decide (PySem.W.nsIn K mainGlobals "enumerate" = some none),
  fun K => decide (PySem.W.nsIn K mainGlobals "int" = some none),
  fun K => decide (PySem.W.nsIn K mainGlobals "isinstance" = some none),
  fun K => decide (PySem.W.nsIn K mainGlobals "len" = some none),
  fun K => decide (PySem.W.nsIn K mainGlobals "max" = some none),
  fun K => decide (PySem.W.nsIn K mainGlobals "min" = some none),
  fun K => decide (PySem.W.nsIn K mainGlobals "range" = some none),
  fun K => decide (PySem.W.nsIn K mainGlobals "str" = some none),
  fun K => decide (PySem.W.nsIn K mainGlobals "sum" = some none),
  fun K => decide (PySem.W.nsIn K mainGlobals "tuple" = some none),
  fun K => DLH.intB K "MOST_GOODS" 2,
  fun K => DLH.intB K "MOST_RULES" 4,
  fun K => decide (PySem.W.nsIn K mainGlobals "SUM_WORDS" = some (some (.ref (He.ga K "SUM_WORDS")))),
  fun K => DLH.tupB K (He.ga K "SUM_WORDS") ["over", "each"],
  fun K => decide (PySem.W.nsIn K mainGlobals "Different" = some (some (.ref (He.ga K "Different")))),
  fun K => decide (PySem.W.nsIn K mainGlobals "InvalidAct" = some (some (.ref (He.ga K "InvalidAct")))),
  fun K => decide (PySem.W.nsIn K mainGlobals "InvalidActs" = some (some (.ref (He.ga K "InvalidActs")))),
  fun K => decide (PySem.W.nsIn K mainGlobals "InvalidBasket" = some (some (.ref (He.ga K "InvalidBasket")))),
  fun K => decide (PySem.W.nsIn K mainGlobals "InvalidKinds" = some (some (.ref (He.ga K "InvalidKinds")))),
  fun K => decide (PySem.W.nsIn K mainGlobals "InvalidNumber" = some (some (.ref (He.ga K "InvalidNumber")))),
  fun K => decide (PySem.W.nsIn K mainGlobals "InvalidOffers" = some (some (.ref (He.ga K "InvalidOffers")))),
  fun K => decide (PySem.W.nsIn K mainGlobals "InvalidShop" = some (some (.ref (He.ga K "InvalidShop")))),
  fun K => decide (PySem.W.nsIn K mainGlobals "NoFault" = some (some (.ref (He.ga K "NoFault")))),
  fun K => decide (PySem.W.nsIn K mainGlobals "NotThere" = some (some (.ref (He.ga K "NotThere")))),
  fun K => decide (PySem.W.nsIn K mainGlobals "NothingToUndo" = some (some (.ref (He.ga K "NothingToUndo")))),
  fun K => decide (PySem.W.nsIn K mainGlobals "ParseError" = some (some (.ref (He.ga K "ParseError")))),
  fun K => decide (PySem.W.nsIn K mainGlobals "PriceError" = some (some (.ref (He.ga K "PriceError")))),
  fun K => PySem.W.excIn K (He.ga K "InvalidNumber") [.type "ValueError", .type "Exception", .type "BaseException", .type "object"] "ValueError.__new__",
  fun K => PySem.W.keepIn K (.ref (He.ga K "InvalidNumber")),
  fun K => decide (PySem.W.subIn K (.ref (He.ga K "InvalidNumber")) (.type "BaseException") = some true),
  fun K => PySem.W.excIn K (He.ga K "InvalidShop") [.type "ValueError", .type "Exception", .type "BaseException", .type "object"] "ValueError.__new__",
  fun K => PySem.W.keepIn K (.ref (He.ga K "InvalidShop")),
  fun K => decide (PySem.W.subIn K (.ref (He.ga K "InvalidShop")) (.type "BaseException") = some true),
  fun K => PySem.W.excIn K (He.ga K "NotThere") [.type "ValueError", .type "Exception", .type "BaseException", .type "object"] "ValueError.__new__",
  fun K => PySem.W.keepIn K (.ref (He.ga K "NotThere")),
  fun K => decide (PySem.W.subIn K (.ref (He.ga K "NotThere")) (.type "BaseException") = some true),
  fun K => PySem.W.excIn K (He.ga K "NothingToUndo") [.type "ValueError", .type "Exception", .type "BaseException", .type "object"] "ValueError.__new__",
  fun K => PySem.W.keepIn K (.ref (He.ga K "NothingToUndo")),
  fun K => decide (PySem.W.subIn K (.ref (He.ga K "NothingToUndo")) (.type "BaseException") = some true),
  fun K => decide (PySem.W.typeIn K (.ref (He.ga K "Different")) = some (.type "type")),
  fun K => decide (PySem.W.typeIn K (.ref (He.ga K "InvalidAct")) = some (.type "type")),
  fun K => decide (PySem.W.typeIn K (.ref (He.ga K "InvalidActs")) = some (.type "type")),
  fun K => decide (PySem.W.typeIn K (.ref (He.ga K "InvalidBasket")) = some (.type "type")),
  fun K => decide (PySem.W.typeIn K (.ref (He.ga K "InvalidKinds")) = some (.type "type")),
  fun K => decide (PySem.W.typeIn K (.ref (He.ga K "InvalidNumber")) = some (.type "type")),
  fun K => decide (PySem.W.typeIn K (.ref (He.ga K "InvalidOffers")) = some (.type "type")),
  fun K => decide (PySem.W.typeIn K (.ref (He.ga K "InvalidShop")) = some (.type "type")),
  fun K => decide (PySem.W.typeIn K (.ref (He.ga K "NoFault")) = some (.type "type")),
  fun K => decide (PySem.W.typeIn K (.ref (He.ga K "NotThere")) = some (.type "type")),
  fun K => decide (PySem.W.typeIn K (.ref (He.ga K "NothingToUndo")) = some (.type "type")),
  fun K => decide (PySem.W.typeIn K (.ref (He.ga K "ParseError")) = some (.type "type")),
  fun K => decide (PySem.W.typeIn K (.ref (He.ga K "PriceError")) = some (.type "type")),
  fun K => decide ((PySem.W.clsIn K (He.ga K "InvalidShop")).map (fun d => d.mro) = some [.ref (He.ga K "InvalidShop"), .ref (He.ga K "PriceError"), .type "ValueError", .type "Exception", .type "BaseException", .type "object"]),
  fun K => decide (PySem.W.findIn K (.ref (He.ga K "InvalidShop")) "__getattribute__" = some (some (.builtin "BaseException.__getattribute__"))),
  fun K => decide (PySem.W.findIn K (.ref (He.ga K "InvalidShop")) "__getattr__" = some none),
  fun K => PySem.W.hasDictIn K (He.ga K "InvalidShop"),
  fun K => decide (PySem.W.findIn K (.ref (He.ga K "InvalidShop")) "__class__" = some (some (.builtin "object.__class__"))),
  fun K => decide ((PySem.W.clsIn K (He.ga K "InvalidBasket")).map (fun d => d.mro) = some [.ref (He.ga K "InvalidBasket"), .ref (He.ga K "PriceError"), .type "ValueError", .type "Exception", .type "BaseException", .type "object"]),
  fun K => decide (PySem.W.findIn K (.ref (He.ga K "InvalidBasket")) "__getattribute__" = some (some (.builtin "BaseException.__getattribute__"))),
  fun K => decide (PySem.W.findIn K (.ref (He.ga K "InvalidBasket")) "__getattr__" = some none),
  fun K => PySem.W.hasDictIn K (He.ga K "InvalidBasket"),
  fun K => decide (PySem.W.findIn K (.ref (He.ga K "InvalidBasket")) "__class__" = some (some (.builtin "object.__class__"))),
  fun K => decide ((PySem.W.clsIn K (He.ga K "InvalidActs")).map (fun d => d.mro) = some [.ref (He.ga K "InvalidActs"), .ref (He.ga K "PriceError"), .type "ValueError", .type "Exception", .type "BaseException", .type "object"]),
  fun K => decide (PySem.W.findIn K (.ref (He.ga K "InvalidActs")) "__getattribute__" = some (some (.builtin "BaseException.__getattribute__"))),
  fun K => decide (PySem.W.findIn K (.ref (He.ga K "InvalidActs")) "__getattr__" = some none),
  fun K => PySem.W.hasDictIn K (He.ga K "InvalidActs"),
  fun K => decide (PySem.W.findIn K (.ref (He.ga K "InvalidActs")) "__class__" = some (some (.builtin "object.__class__"))),
  fun K => decide ((PySem.W.clsIn K (He.ga K "InvalidAct")).map (fun d => d.mro) = some [.ref (He.ga K "InvalidAct"), .ref (He.ga K "PriceError"), .type "ValueError", .type "Exception", .type "BaseException", .type "object"]),
  fun K => decide (PySem.W.findIn K (.ref (He.ga K "InvalidAct")) "__getattribute__" = some (some (.builtin "BaseException.__getattribute__"))),
  fun K => decide (PySem.W.findIn K (.ref (He.ga K "InvalidAct")) "__getattr__" = some none),
  fun K => PySem.W.hasDictIn K (He.ga K "InvalidAct"),
  fun K => decide (PySem.W.findIn K (.ref (He.ga K "InvalidAct")) "__class__" = some (some (.builtin "object.__class__"))),
  fun K => decide ((PySem.W.clsIn K (He.ga K "InvalidOffers")).map (fun d => d.mro) = some [.ref (He.ga K "InvalidOffers"), .ref (He.ga K "PriceError"), .type "ValueError", .type "Exception", .type "BaseException", .type "object"]),
  fun K => decide (PySem.W.findIn K (.ref (He.ga K "InvalidOffers")) "__getattribute__" = some (some (.builtin "BaseException.__getattribute__"))),
  fun K => decide (PySem.W.findIn K (.ref (He.ga K "InvalidOffers")) "__getattr__" = some none),
  fun K => PySem.W.hasDictIn K (He.ga K "InvalidOffers"),
  fun K => decide (PySem.W.findIn K (.ref (He.ga K "InvalidOffers")) "__class__" = some (some (.builtin "object.__class__"))),
  fun K => decide ((PySem.W.clsIn K (He.ga K "InvalidKinds")).map (fun d => d.mro) = some [.ref (He.ga K "InvalidKinds"), .ref (He.ga K "PriceError"), .type "ValueError", .type "Exception", .type "BaseException", .type "object"]),
  fun K => decide (PySem.W.findIn K (.ref (He.ga K "InvalidKinds")) "__getattribute__" = some (some (.builtin "BaseException.__getattribute__"))),
  fun K => decide (PySem.W.findIn K (.ref (He.ga K "InvalidKinds")) "__getattr__" = some none),
  fun K => PySem.W.hasDictIn K (He.ga K "InvalidKinds"),
  fun K => decide (PySem.W.findIn K (.ref (He.ga K "InvalidKinds")) "__class__" = some (some (.builtin "object.__class__"))),
  fun K => decide ((PySem.W.clsIn K (He.ga K "InvalidNumber")).map (fun d => d.mro) = some [.ref (He.ga K "InvalidNumber"), .ref (He.ga K "PriceError"), .type "ValueError", .type "Exception", .type "BaseException", .type "object"]),
  fun K => decide (PySem.W.findIn K (.ref (He.ga K "InvalidNumber")) "__getattribute__" = some (some (.builtin "BaseException.__getattribute__"))),
  fun K => decide (PySem.W.findIn K (.ref (He.ga K "InvalidNumber")) "__getattr__" = some none),
  fun K => PySem.W.hasDictIn K (He.ga K "InvalidNumber"),
  fun K => decide (PySem.W.findIn K (.ref (He.ga K "InvalidNumber")) "__class__" = some (some (.builtin "object.__class__"))),
  fun K => decide ((PySem.W.clsIn K (He.ga K "Different")).map (fun d => d.mro) = some [.ref (He.ga K "Different"), .ref (He.ga K "PriceError"), .type "ValueError", .type "Exception", .type "BaseException", .type "object"]),
  fun K => decide (PySem.W.findIn K (.ref (He.ga K "Different")) "__getattribute__" = some (some (.builtin "BaseException.__getattribute__"))),
  fun K => decide (PySem.W.findIn K (.ref (He.ga K "Different")) "__getattr__" = some none),
  fun K => PySem.W.hasDictIn K (He.ga K "Different"),
  fun K => decide (PySem.W.findIn K (.ref (He.ga K "Different")) "__class__" = some (some (.builtin "object.__class__"))),
  fun K => decide ((PySem.W.clsIn K (He.ga K "NoFault")).map (fun d => d.mro) = some [.ref (He.ga K "NoFault"), .ref (He.ga K "PriceError"), .type "ValueError", .type "Exception", .type "BaseException", .type "object"]),
  fun K => decide (PySem.W.findIn K (.ref (He.ga K "NoFault")) "__getattribute__" = some (some (.builtin "BaseException.__getattribute__"))),
  fun K => decide (PySem.W.findIn K (.ref (He.ga K "NoFault")) "__getattr__" = some none),
  fun K => PySem.W.hasDictIn K (He.ga K "NoFault"),
  fun K => decide (PySem.W.findIn K (.ref (He.ga K "NoFault")) "__class__" = some (some (.builtin "object.__class__"))),
  fun K => decide ((PySem.W.clsIn K (He.ga K "NotThere")).map (fun d => d.mro) = some [.ref (He.ga K "NotThere"), .ref (He.ga K "PriceError"), .type "ValueError", .type "Exception", .type "BaseException", .type "object"]),
  fun K => decide (PySem.W.findIn K (.ref (He.ga K "NotThere")) "__getattribute__" = some (some (.builtin "BaseException.__getattribute__"))),
  fun K => decide (PySem.W.findIn K (.ref (He.ga K "NotThere")) "__getattr__" = some none),
  fun K => PySem.W.hasDictIn K (He.ga K "NotThere"),
  fun K => decide (PySem.W.findIn K (.ref (He.ga K "NotThere")) "__class__" = some (some (.builtin "object.__class__"))),
  fun K => decide ((PySem.W.clsIn K (He.ga K "NothingToUndo")).map (fun d => d.mro) = some [.ref (He.ga K "NothingToUndo"), .ref (He.ga K "PriceError"), .type "ValueError", .type "Exception", .type "BaseException", .type "object"]),
  fun K => decide (PySem.W.findIn K (.ref (He.ga K "NothingToUndo")) "__getattribute__" = some (some (.builtin "BaseException.__getattribute__"))),
  fun K => decide (PySem.W.findIn K (.ref (He.ga K "NothingToUndo")) "__getattr__" = some none),
  fun K => PySem.W.hasDictIn K (He.ga K "NothingToUndo"),
  fun K => decide (PySem.W.findIn K (.ref (He.ga K "NothingToUndo")) "__class__" = some (some (.builtin "object.__class__"))),
  fun K => decide ((PySem.W.clsIn K (He.ga K "ParseError")).map (fun d => d.mro) = some [.ref (He.ga K "ParseError"), .ref (He.ga K "PriceError"), .type "ValueError", .type "Exception", .type "BaseException", .type "object"]),
  fun K => decide (PySem.W.findIn K (.ref (He.ga K "ParseError")) "__getattribute__" = some (some (.builtin "BaseException.__getattribute__"))),
  fun K => decide (PySem.W.findIn K (.ref (He.ga K "ParseError")) "__getattr__" = some none),
  fun K => PySem.W.hasDictIn K (He.ga K "ParseError"),
  fun K => decide (PySem.W.findIn K (.ref (He.ga K "ParseError")) "__class__" = some (some (.builtin "object.__class__"))),
  fun K => decide (PySem.W.subIn K (.ref (He.ga K "PriceError")) (.type "BaseException") = some true),
  fun K => PySem.W.isClsIn K (He.ga K "PriceError"),
  fun K => decide (PySem.W.specialIn K (.builtin "object.__class__") "__get__" = some (some (.builtin "getset_descriptor.__get__"))),
  fun K => decide (PySem.W.takesIn K (.builtin "object.__class__") = some true),
  fun K => decide ([(He.ga K "PriceError"), (He.ga K "InvalidShop"), (He.ga K "InvalidBasket"), (He.ga K "InvalidActs"), (He.ga K "InvalidAct"), (He.ga K "InvalidOffers"), (He.ga K "InvalidKinds"), (He.ga K "InvalidNumber"), (He.ga K "Different"), (He.ga K "NoFault"), (He.ga K "NotThere"), (He.ga K "NothingToUndo"), (He.ga K "ParseError")].Nodup)]

def loo0 : List Str := [("__name__" : Str),
  ("PriceError" : Str),
  ("InvalidShop" : Str),
  ("InvalidBasket" : Str),
  ("InvalidActs" : Str),
  ("InvalidAct" : Str),
  ("InvalidOffers" : Str),
  ("InvalidKinds" : Str),
  ("InvalidNumber" : Str),
  ("Different" : Str),
  ("NoFault" : Str),
  ("NotThere" : Str),
  ("NothingToUndo" : Str),
  ("ParseError" : Str),
  ("MOST_GOODS" : Str),
  ("MOST_RULES" : Str),
  ("is_integer" : Str),
  ("is_between" : Str),
  ("is_tuple_of" : Str),
  ("is_most" : Str)]
def loo1 : List Str := [("is_good" : Str),
  ("is_pack" : Str),
  ("is_from" : Str),
  ("is_over" : Str),
  ("is_each" : Str),
  ("is_rule" : Str),
  ("is_endless_each" : Str),
  ("are_goods" : Str),
  ("are_rules" : Str),
  ("is_shop" : Str),
  ("check_shop" : Str),
  ("SUM_WORDS" : Str),
  ("full_times" : Str),
  ("fitting_rule" : Str),
  ("pack_times" : Str),
  ("pack_amount" : Str),
  ("good_amount" : Str),
  ("off_times" : Str),
  ("apply_sums" : Str),
  ("amounts_of" : Str)]
def loo2 : List Str := [("left_of" : Str),
  ("charge_of" : Str),
  ("with_more" : Str),
  ("Till" : Str),
  ("_law_cell_at" : Str),
  ("_law_mixed" : Str),
  ("_law_draw" : Str),
  ("_law_which" : Str),
  ("_law_pick" : Str),
  ("_law_some_rule" : Str),
  ("_law_some_goods" : Str),
  ("_law_some_shop" : Str),
  ("_law_undo" : Str)]
def loo : List Str := loo0 ++ loo1 ++ loo2
abbrev RR : PySem.W.OpenRow := PySem.W.OpenLaw.row PySem.Challenge.rw_sureprices_k40_whole_tills_undone
abbrev g0 : Gr := ([], fn0)
abbrev g1 : Gr := ([], fn1)
abbrev g2 : Gr := (ex0, [])
abbrev grs : List Gr := [g0, g1, g2]
def o1 (a : Gr) (s : PySem.W.SharedT) : He.Al := a.see (HandSHeadRun.getT s)
def ob (s : PySem.W.SharedT) : List He.Al := grs.map fun a => a.see (HandSHeadRun.getT s)
theorem runL (w : World) : (HandSHeadRun.wholeF (fun p => HandSHeadRun.stepQ (HandSHeadRun.denQ HandSHeadRun.tabQ) p w) HandSHeadRun.fenceQ 100000 RR.prog).map (fun x => HandSHeadRun.looksF RR.prog x.1.heap x.2.abs) = some true := by
  kernel_rfl
theorem runZ (w : World) : (HandSHeadRun.wholeF (fun p => HandSHeadRun.stepQ (HandSHeadRun.denQ HandSHeadRun.tabQ) p w) HandSHeadRun.fenceQ 100000 RR.prog).map (fun x => HandSHeadRun.seenQ (PySem.W.view RR.prog [58]) loo (importedModules RR.prog.main.body) (fun s => PySem.W.xlAt (PySem.W.view RR.prog [58]) [] s && PySem.W.recOk RR.toRowW.records s) x.2.abs) = some (PySem.W.openGood (PySem.W.view RR.prog [58]) loo) := by
  kernel_rfl
theorem run0 (w : World) : (HandSHeadRun.wholeF (fun p => HandSHeadRun.stepQ (HandSHeadRun.denQ HandSHeadRun.tabQ) p w) HandSHeadRun.fenceQ 100000 RR.prog).map (fun x => o1 g0 x.2) = some (He.valE g0.2) := by
  kernel_rfl
theorem run1 (w : World) : (HandSHeadRun.wholeF (fun p => HandSHeadRun.stepQ (HandSHeadRun.denQ HandSHeadRun.tabQ) p w) HandSHeadRun.fenceQ 100000 RR.prog).map (fun x => o1 g1 x.2) = some (He.valE g1.2) := by
  kernel_rfl
theorem run2 (w : World) : (HandSHeadRun.wholeF (fun p => HandSHeadRun.stepQ (HandSHeadRun.denQ HandSHeadRun.tabQ) p w) HandSHeadRun.fenceQ 100000 RR.prog).map (fun x => o1 g2 x.2) = some (He.valE g2.2) := by
  kernel_rfl
theorem run (w : World) : HandSHeadRun.RunEqI RR (PySem.W.view RR.prog [58]) (hook grs) ob 100000 loo w :=
  joinG grs (runL w) (runZ w) fun a ha => by
    simp only [List.mem_cons, List.not_mem_nil, or_false] at ha
    rcases ha with rfl | rfl | rfl
    · exact run0 w
    · exact run1 w
    · exact run2 w
theorem hyp {l : PySem.W.OpenLaw} {w : World} {K : PySem.W.Frag} {h : Heap} {mg : Str → Option Value} {fa : Addr} (X : K.In h) (G : h.Ns mainGlobals mg) (hfa : mg "law" = some (.ref fa)) (c : AllG grs K) (D0 : ∀ ns : List Int, ns.length ≤ 63 → DL.g_law [.d (.fz (ns.map DL.D.int))] (fun _ => none) fun r _ => r = .ok (.d (.bl true))) :
    ∃ fd : FuncData, (∀ (s : Shared) (v : Value), BindsTo s fd ⟨[v], []⟩ [("_law_script", v)]) ∧ ∀ base : Heap, K.In base → base.Ns mainGlobals mg → FnOk l.prog w K mg base (L2.CX l.prog w) 12 fa fd ["_law_script"] (DL.spLaw K) := by
  have cf0 := c g0 (List.mem_of_getElem? (i := 0) rfl)
  have cf1 := c g1 (List.mem_of_getElem? (i := 1) rfl)
  have ce0 := c g2 (List.mem_of_getElem? (i := 2) rfl)
  obtain ⟨_, _, _, _, _, _, _, _, _, L0, C0⟩ := cf0.def_ 0 rfl
  obtain ⟨_, _, _, _, _, _, _, _, _, L1, C1⟩ := cf0.def_ 1 rfl
  obtain ⟨_, _, _, _, _, _, _, _, _, L2, C2⟩ := cf0.def_ 2 rfl
  obtain ⟨_, _, _, _, _, _, _, _, _, L3, C3⟩ := cf0.def_ 3 rfl
  obtain ⟨_, _, _, _, _, _, _, _, _, L4, C4⟩ := cf0.def_ 4 rfl
  obtain ⟨_, _, _, _, _, _, _, _, _, L5, C5⟩ := cf0.def_ 5 rfl
  obtain ⟨_, _, _, _, _, _, _, _, _, L6, C6⟩ := cf0.def_ 6 rfl
  obtain ⟨_, _, _, _, _, _, _, _, _, L7, C7⟩ := cf0.def_ 7 rfl
  obtain ⟨_, _, _, _, _, _, _, _, _, L8, C8⟩ := cf0.def_ 8 rfl
  obtain ⟨_, _, _, _, _, _, _, _, _, L9, C9⟩ := cf0.def_ 9 rfl
  obtain ⟨_, _, _, _, _, _, _, _, _, L10, C10⟩ := cf0.def_ 10 rfl
  obtain ⟨_, _, _, _, _, _, _, _, _, L11, C11⟩ := cf0.def_ 11 rfl
  obtain ⟨_, _, _, _, _, _, _, _, _, L12, C12⟩ := cf0.def_ 12 rfl
  obtain ⟨_, _, _, _, _, _, _, _, _, L13, C13⟩ := cf0.def_ 13 rfl
  obtain ⟨_, _, _, _, _, _, _, _, _, L14, C14⟩ := cf0.def_ 14 rfl
  obtain ⟨_, _, _, _, _, _, _, _, _, L15, C15⟩ := cf0.def_ 15 rfl
  obtain ⟨_, _, _, _, _, _, _, _, _, L16, C16⟩ := cf0.def_ 16 rfl
  obtain ⟨_, _, _, _, _, _, _, _, _, L17, C17⟩ := cf0.def_ 17 rfl
  obtain ⟨_, _, _, _, _, _, _, _, _, L18, C18⟩ := cf0.def_ 18 rfl
  obtain ⟨_, _, _, _, _, _, _, _, _, L19, C19⟩ := cf0.def_ 19 rfl
  obtain ⟨_, _, _, _, _, _, _, _, _, L20, C20⟩ := cf0.def_ 20 rfl
  obtain ⟨_, _, _, _, _, _, _, _, _, L21, C21⟩ := cf0.def_ 21 rfl
  obtain ⟨_, _, _, _, _, _, _, _, _, L22, C22⟩ := cf0.def_ 22 rfl
  obtain ⟨_, _, _, _, _, _, _, _, _, L23, C23⟩ := cf0.def_ 23 rfl
  obtain ⟨_, _, _, _, _, _, _, _, _, L24, C24⟩ := cf0.def_ 24 rfl
  obtain ⟨_, _, _, _, _, _, _, _, _, L25, C25⟩ := cf0.def_ 25 rfl
  obtain ⟨_, _, _, _, _, _, _, _, _, L26, C26⟩ := cf0.def_ 26 rfl
  obtain ⟨_, _, _, _, _, _, _, _, _, L27, C27⟩ := cf0.def_ 27 rfl
  obtain ⟨_, _, _, _, _, _, _, _, _, L28, C28⟩ := cf0.def_ 28 rfl
  obtain ⟨_, _, _, _, _, _, _, _, _, L29, C29⟩ := cf0.def_ 29 rfl
  obtain ⟨_, _, _, _, _, _, _, _, _, L30, C30⟩ := cf0.def_ 30 rfl
  obtain ⟨_, _, _, _, _, _, _, _, _, L31, C31⟩ := cf1.def_ 0 rfl
  obtain ⟨_, _, _, _, _, _, _, _, _, L32, C32⟩ := cf1.def_ 1 rfl
  obtain ⟨_, _, _, _, _, _, _, _, _, L33, C33⟩ := cf1.def_ 2 rfl
  obtain ⟨_, _, _, _, _, _, _, _, _, L34, C34⟩ := cf1.def_ 3 rfl
  obtain ⟨_, _, _, _, _, _, _, _, _, L35, C35⟩ := cf1.def_ 4 rfl
  obtain ⟨_, _, _, _, _, _, _, _, _, L36, C36⟩ := cf1.def_ 5 rfl
  obtain ⟨_, _, _, _, _, _, _, _, _, L37, C37⟩ := cf1.def_ 6 rfl
  obtain ⟨_, _, _, _, _, _, _, _, _, L38, C38⟩ := cf1.def_ 7 rfl
  obtain ⟨_, _, _, _, _, _, _, _, _, L39, C39⟩ := cf1.def_ 8 rfl
  obtain ⟨_, _, _, _, _, _, _, _, _, L40, C40⟩ := cf1.def_ 9 rfl
  obtain ⟨_, _, _, _, _, _, _, _, _, L41, C41⟩ := cf1.def_ 10 rfl
  obtain ⟨_, _, _, _, _, _, _, _, _, L42, C42⟩ := cf1.def_ 11 rfl
  obtain ⟨_, _, _, _, _, _, _, _, _, L43, C43⟩ := cf1.def_ 12 rfl
  obtain ⟨_, _, _, _, _, _, _, _, _, L44, C44⟩ := cf1.def_ 13 rfl
  obtain ⟨_, Y132⟩ := DLH.int_ns (ce0.fact 132 rfl)
  obtain ⟨_, Y133⟩ := DLH.int_ns (ce0.fact 133 rfl)
  obtain ⟨_, _, _, _, _, X135⟩ := DLH.tup2 (ce0.fact 135 rfl)
  obtain ⟨_, M174, N174⟩ := DLH.mro_of (ce0.fact 174 rfl)
  obtain ⟨_, M179, N179⟩ := DLH.mro_of (ce0.fact 179 rfl)
  obtain ⟨_, M184, N184⟩ := DLH.mro_of (ce0.fact 184 rfl)
  obtain ⟨_, M189, N189⟩ := DLH.mro_of (ce0.fact 189 rfl)
  obtain ⟨_, M194, N194⟩ := DLH.mro_of (ce0.fact 194 rfl)
  obtain ⟨_, M199, N199⟩ := DLH.mro_of (ce0.fact 199 rfl)
  obtain ⟨_, M204, N204⟩ := DLH.mro_of (ce0.fact 204 rfl)
  obtain ⟨_, M209, N209⟩ := DLH.mro_of (ce0.fact 209 rfl)
  obtain ⟨_, M214, N214⟩ := DLH.mro_of (ce0.fact 214 rfl)
  obtain ⟨_, M219, N219⟩ := DLH.mro_of (ce0.fact 219 rfl)
  obtain ⟨_, M224, N224⟩ := DLH.mro_of (ce0.fact 224 rfl)
  obtain ⟨_, M229, N229⟩ := DLH.mro_of (ce0.fact 229 rfl)
  exact DL.all_mk X G hfa (of_decide_eq_true (ce0.fact 0 rfl)) L0 C0 (ce0.fact 1 rfl) (of_decide_eq_true (ce0.fact 2 rfl)) L1 C1 (ce0.fact 3 rfl) (of_decide_eq_true (ce0.fact 4 rfl)) L2 C2 (ce0.fact 5 rfl) (of_decide_eq_true (ce0.fact 6 rfl)) L3 C3 (ce0.fact 7 rfl) (of_decide_eq_true (ce0.fact 8 rfl)) L4 C4 (ce0.fact 9 rfl) (of_decide_eq_true (ce0.fact 10 rfl)) L5 C5 (ce0.fact 11 rfl) (of_decide_eq_true (ce0.fact 12 rfl)) L6 C6 (ce0.fact 13 rfl) (of_decide_eq_true (ce0.fact 14 rfl)) L7 C7 (ce0.fact 15 rfl) (of_decide_eq_true (ce0.fact 16 rfl)) L8 C8 (ce0.fact 17 rfl) (of_decide_eq_true (ce0.fact 18 rfl)) L9 C9 (ce0.fact 19 rfl) (of_decide_eq_true (ce0.fact 20 rfl)) L10 C10 (ce0.fact 21 rfl) (of_decide_eq_true (ce0.fact 22 rfl)) L11 C11 (ce0.fact 23 rfl) (of_decide_eq_true (ce0.fact 24 rfl)) L12 C12 (ce0.fact 25 rfl) (of_decide_eq_true (ce0.fact 26 rfl)) L13 C13 (ce0.fact 27 rfl) (of_decide_eq_true (ce0.fact 28 rfl)) L14 C14 (ce0.fact 29 rfl) (of_decide_eq_true (ce0.fact 30 rfl)) L15 C15 (ce0.fact 31 rfl) (of_decide_eq_true (ce0.fact 32 rfl)) L16 C16 (ce0.fact 33 rfl) (of_decide_eq_true (ce0.fact 34 rfl)) L17 C17 (ce0.fact 35 rfl) (of_decide_eq_true (ce0.fact 36 rfl)) L18 C18 (ce0.fact 37 rfl) (of_decide_eq_true (ce0.fact 38 rfl)) L19 C19 (ce0.fact 39 rfl) (of_decide_eq_true (ce0.fact 40 rfl)) L20 C20 (ce0.fact 41 rfl) (of_decide_eq_true (ce0.fact 42 rfl)) L21 C21 (ce0.fact 43 rfl) (of_decide_eq_true (ce0.fact 44 rfl)) L22 C22 (ce0.fact 45 rfl) (of_decide_eq_true (ce0.fact 46 rfl)) L23 C23 (ce0.fact 47 rfl) (of_decide_eq_true (ce0.fact 48 rfl)) L24 C24 (ce0.fact 49 rfl) (of_decide_eq_true (ce0.fact 50 rfl)) L25 C25 (ce0.fact 51 rfl) (of_decide_eq_true (ce0.fact 52 rfl)) (ce0.fact 53 rfl) (ce0.fact 54 rfl) (ce0.fact 55 rfl) (of_decide_eq_true (ce0.fact 56 rfl)) (of_decide_eq_true (ce0.fact 57 rfl)) (of_decide_eq_true (ce0.fact 58 rfl)) (of_decide_eq_true (ce0.fact 59 rfl)) (ce0.fact 60 rfl) (ce0.fact 61 rfl) (of_decide_eq_true (ce0.fact 62 rfl)) (of_decide_eq_true (ce0.fact 63 rfl)) (of_decide_eq_true (ce0.fact 64 rfl)) (of_decide_eq_true (ce0.fact 65 rfl)) (of_decide_eq_true (ce0.fact 66 rfl)) (of_decide_eq_true (ce0.fact 67 rfl)) (of_decide_eq_true (ce0.fact 68 rfl)) (ce0.fact 69 rfl) (ce0.fact 70 rfl) (of_decide_eq_true (ce0.fact 71 rfl)) (ce0.fact 72 rfl) L26 C26 (ce0.fact 73 rfl) (of_decide_eq_true (ce0.fact 74 rfl)) (ce0.fact 75 rfl) L27 C27 (ce0.fact 76 rfl) (of_decide_eq_true (ce0.fact 77 rfl)) (ce0.fact 78 rfl) L28 C28 (ce0.fact 79 rfl) (of_decide_eq_true (ce0.fact 80 rfl)) (ce0.fact 81 rfl) L29 C29 (ce0.fact 82 rfl) (of_decide_eq_true (ce0.fact 83 rfl)) (ce0.fact 84 rfl) L30 C30 (ce0.fact 85 rfl) (of_decide_eq_true (ce0.fact 86 rfl)) (ce0.fact 87 rfl) L31 C31 (ce0.fact 88 rfl) (of_decide_eq_true (ce0.fact 89 rfl)) (ce0.fact 90 rfl) L32 C32 (ce0.fact 91 rfl) (of_decide_eq_true (ce0.fact 92 rfl)) (ce0.fact 93 rfl) L33 C33 (ce0.fact 94 rfl) (of_decide_eq_true (ce0.fact 95 rfl)) (ce0.fact 96 rfl) L34 C34 (ce0.fact 97 rfl) (of_decide_eq_true (ce0.fact 98 rfl)) L35 C35 (ce0.fact 99 rfl) (of_decide_eq_true (ce0.fact 100 rfl)) L36 C36 (ce0.fact 101 rfl) (of_decide_eq_true (ce0.fact 102 rfl)) L37 C37 (ce0.fact 103 rfl) (of_decide_eq_true (ce0.fact 104 rfl)) L38 C38 (ce0.fact 105 rfl) (of_decide_eq_true (ce0.fact 106 rfl)) L39 C39 (ce0.fact 107 rfl) (of_decide_eq_true (ce0.fact 108 rfl)) L40 C40 (ce0.fact 109 rfl) (of_decide_eq_true (ce0.fact 110 rfl)) L41 C41 (ce0.fact 111 rfl) (of_decide_eq_true (ce0.fact 112 rfl)) L42 C42 (ce0.fact 113 rfl) (of_decide_eq_true (ce0.fact 114 rfl)) L43 C43 (ce0.fact 115 rfl) (of_decide_eq_true (ce0.fact 116 rfl)) L44 C44 (ce0.fact 117 rfl) (of_decide_eq_true (ce0.fact 118 rfl)) (of_decide_eq_true (ce0.fact 119 rfl)) (of_decide_eq_true (ce0.fact 120 rfl)) (of_decide_eq_true (ce0.fact 121 rfl)) (of_decide_eq_true (ce0.fact 122 rfl)) (of_decide_eq_true (ce0.fact 123 rfl)) (of_decide_eq_true (ce0.fact 124 rfl)) (of_decide_eq_true (ce0.fact 125 rfl)) (of_decide_eq_true (ce0.fact 126 rfl)) (of_decide_eq_true (ce0.fact 127 rfl)) (of_decide_eq_true (ce0.fact 128 rfl)) (of_decide_eq_true (ce0.fact 129 rfl)) (of_decide_eq_true (ce0.fact 130 rfl)) (of_decide_eq_true (ce0.fact 131 rfl)) Y132 Y133 (of_decide_eq_true (ce0.fact 134 rfl)) X135 (of_decide_eq_true (ce0.fact 136 rfl)) (of_decide_eq_true (ce0.fact 137 rfl)) (of_decide_eq_true (ce0.fact 138 rfl)) (of_decide_eq_true (ce0.fact 139 rfl)) (of_decide_eq_true (ce0.fact 140 rfl)) (of_decide_eq_true (ce0.fact 141 rfl)) (of_decide_eq_true (ce0.fact 142 rfl)) (of_decide_eq_true (ce0.fact 143 rfl)) (of_decide_eq_true (ce0.fact 144 rfl)) (of_decide_eq_true (ce0.fact 145 rfl)) (of_decide_eq_true (ce0.fact 146 rfl)) (of_decide_eq_true (ce0.fact 147 rfl)) (of_decide_eq_true (ce0.fact 148 rfl)) (ce0.fact 149 rfl) (ce0.fact 150 rfl) (of_decide_eq_true (ce0.fact 151 rfl)) (ce0.fact 152 rfl) (ce0.fact 153 rfl) (of_decide_eq_true (ce0.fact 154 rfl)) (ce0.fact 155 rfl) (ce0.fact 156 rfl) (of_decide_eq_true (ce0.fact 157 rfl)) (ce0.fact 158 rfl) (ce0.fact 159 rfl) (of_decide_eq_true (ce0.fact 160 rfl)) (of_decide_eq_true (ce0.fact 161 rfl)) (of_decide_eq_true (ce0.fact 162 rfl)) (of_decide_eq_true (ce0.fact 163 rfl)) (of_decide_eq_true (ce0.fact 164 rfl)) (of_decide_eq_true (ce0.fact 165 rfl)) (of_decide_eq_true (ce0.fact 166 rfl)) (of_decide_eq_true (ce0.fact 167 rfl)) (of_decide_eq_true (ce0.fact 168 rfl)) (of_decide_eq_true (ce0.fact 169 rfl)) (of_decide_eq_true (ce0.fact 170 rfl)) (of_decide_eq_true (ce0.fact 171 rfl)) (of_decide_eq_true (ce0.fact 172 rfl)) (of_decide_eq_true (ce0.fact 173 rfl)) M174 N174 (of_decide_eq_true (ce0.fact 175 rfl)) (of_decide_eq_true (ce0.fact 176 rfl)) (ce0.fact 177 rfl) (of_decide_eq_true (ce0.fact 178 rfl)) M179 N179 (of_decide_eq_true (ce0.fact 180 rfl)) (of_decide_eq_true (ce0.fact 181 rfl)) (ce0.fact 182 rfl) (of_decide_eq_true (ce0.fact 183 rfl)) M184 N184 (of_decide_eq_true (ce0.fact 185 rfl)) (of_decide_eq_true (ce0.fact 186 rfl)) (ce0.fact 187 rfl) (of_decide_eq_true (ce0.fact 188 rfl)) M189 N189 (of_decide_eq_true (ce0.fact 190 rfl)) (of_decide_eq_true (ce0.fact 191 rfl)) (ce0.fact 192 rfl) (of_decide_eq_true (ce0.fact 193 rfl)) M194 N194 (of_decide_eq_true (ce0.fact 195 rfl)) (of_decide_eq_true (ce0.fact 196 rfl)) (ce0.fact 197 rfl) (of_decide_eq_true (ce0.fact 198 rfl)) M199 N199 (of_decide_eq_true (ce0.fact 200 rfl)) (of_decide_eq_true (ce0.fact 201 rfl)) (ce0.fact 202 rfl) (of_decide_eq_true (ce0.fact 203 rfl)) M204 N204 (of_decide_eq_true (ce0.fact 205 rfl)) (of_decide_eq_true (ce0.fact 206 rfl)) (ce0.fact 207 rfl) (of_decide_eq_true (ce0.fact 208 rfl)) M209 N209 (of_decide_eq_true (ce0.fact 210 rfl)) (of_decide_eq_true (ce0.fact 211 rfl)) (ce0.fact 212 rfl) (of_decide_eq_true (ce0.fact 213 rfl)) M214 N214 (of_decide_eq_true (ce0.fact 215 rfl)) (of_decide_eq_true (ce0.fact 216 rfl)) (ce0.fact 217 rfl) (of_decide_eq_true (ce0.fact 218 rfl)) M219 N219 (of_decide_eq_true (ce0.fact 220 rfl)) (of_decide_eq_true (ce0.fact 221 rfl)) (ce0.fact 222 rfl) (of_decide_eq_true (ce0.fact 223 rfl)) M224 N224 (of_decide_eq_true (ce0.fact 225 rfl)) (of_decide_eq_true (ce0.fact 226 rfl)) (ce0.fact 227 rfl) (of_decide_eq_true (ce0.fact 228 rfl)) M229 N229 (of_decide_eq_true (ce0.fact 230 rfl)) (of_decide_eq_true (ce0.fact 231 rfl)) (ce0.fact 232 rfl) (of_decide_eq_true (ce0.fact 233 rfl)) (of_decide_eq_true (ce0.fact 234 rfl)) (ce0.fact 235 rfl) (of_decide_eq_true (ce0.fact 236 rfl)) (of_decide_eq_true (ce0.fact 237 rfl)) (of_decide_eq_true (ce0.fact 238 rfl)) D0
end DLH
open PySem PySem.W PySem.Calls PyProof.Rows
theorem PySem.Challenge.cw_sureprices_k40_whole_tills_undone_holds : PySem.Challenge.rw_sureprices_k40_whole_tills_undone.Holds := by
  w_on; o_law
  refine HandSHeadRun.head_imp (r := OpenLaw.row PySem.Challenge.rw_sureprices_k40_whole_tills_undone) (q := view (OpenLaw.row PySem.Challenge.rw_sureprices_k40_whole_tills_undone).prog [58]) (H := DLH.hook DLH.grs) (ob := DLH.ob) (M := 100000) (loose := DLH.loo) (d := HandSHeadRun.topDef (OpenLaw.row PySem.Challenge.rw_sureprices_k40_whole_tills_undone).prog 58) (kwd := []) (DLH.hook_eq DLH.grs) DLH.run (by kernel_rfl) (by kernel_rfl) (by kernel_rfl) (by rfl) (by first | assumption | decide +kernel) (by decide +kernel) ⟨rfl, rfl, rfl, rfl, rfl, by decide +kernel⟩ ?hw ?hc
  case hw => w_witness2
  case hc =>
    refine DLH.walk (l := PySem.Challenge.rw_sureprices_k40_whole_tills_undone) (n := 63) (k := 12) (x := "_law_script") rfl (by decide) (by kernel_rfl) ⟨rfl, by decide, by decide⟩ ?F (fun _ _ _ _ _ z => DL.law_cx z)
    intro w K mg fa h c KX G hm
    have nm : (HandSHeadRun.topDef (OpenLaw.row PySem.Challenge.rw_sureprices_k40_whole_tills_undone).prog 58).name = ("law" : PySem.Str) := by kernel_rfl
    exact DLH.hyp KX G (nm ▸ hm) c DL.law_data
