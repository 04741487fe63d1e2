import PyProof.Rows.All
import Wide.All
import OpenK.AllK
import Wide.FinOn
import HandS.ForMost
import HandS.Exc
import HandS.ExcOwn
import HandS.TryOnly
import HandS.WordsExc
import KE.KDictKeyed
import HandS.TupAny
import HandS.Style
import HandS.IsInst
import HandS.Deep
import KE.DataEq
import HandS.Text
import KE.GoesMore
import KE.GoesEnum
import HandS.Zip
import HandS.TupMul
import HandS.Rev
import KE.SortData
import KE.DataCmp
import KE.DataMinMax
import KE.DataFind
import KE.KRevSl
import HandS.HotCalls
import HandS.ExcIs
import HandS.NoneIn
import HandS.FStr
import HandS.StrMore
import HandS.RaiseMore
import HandS.ReplaceLit
import KE.KDictWalk
import HandS.TupSets
import HandS.DictSubView
import HandS.DictComp
import KE.KDictDisplayH
import HandS.Gcd
import KE.KMathGC
import HandS.Sort
import HandS.SortKw
import HandS.MakeKw
import KE.KDictZip
import KE.KItemsList
import HandS.DictTup
import KE.KStateDown
import HandS.Head0
import HandS.Head1
import HandS.Head2
import HandS.Head3
import HandS.HeadHook1
import PySem.Challenge.RW_sureprices_k16_whole_untouched_baskets
set_option Elab.async false
set_option linter.all false
set_option maxRecDepth 100000
set_option maxHeartbeats 2000000
namespace DL
open PySem PySem.Spec L2
class Wd where
  w : World
instance (priority := low) wd0 : Wd := ⟨⟨fun _ _ => 0, { strHash := fun _ => 0, shareClass := fun _ => 0, mergeTok := id, idOf := fun _ => 0, idOfShared := fun _ _ => 0, followText := fun _ => false, idOfImm := fun _ => 0 }⟩⟩

inductive D where
  | non | bl (b : Bool) | int (i : Int) | str (x : Str) | tup (xs : List D) | lst (xs : List D) | fz (xs : List D) | dct (ks vs : List D) | kd (ks vs : List D)

def entT (x : List Int × Addr × Value) : DictEntry := ⟨reduceHash (Builtin.Tuple.tupleHashOf (x.1.map hashInt)), .ref x.2.1, x.2.2⟩
structure DcObj (a : Addr) (o : Obj) (kvs : List (List Int × Addr × V)) : Prop where
  sm : (a == sysModules) = false
  len : kvs.length ≤ sizeLine
  ex : o.ExactDict
  nd : (kvs.map (·.1)).Nodup
  dat : ∃ (es : Array DictEntry) (ep : Nat) (ys : List (List Int × Addr × Value)), o.data = .dict es ep ∧ Paired (fun x y => x.1 = y.1 ∧ x.2.1 = y.2.1 ∧ RelV x.2.2 y.2.2) kvs ys ∧ es.toList = ys.map entT

abbrev Kn := List (NestedKey × Addr × V)
mutual
/-- a key as a datum -/
def keyD : NestedKey → D
  | .none => .non
  | .num i => .int i
  | .text x => .str x
  | .tup ks => .tup (keysD ks)
def keysD : List NestedKey → List D
  | [] => []
  | k :: ks => keyD k :: keysD ks
end
mutual
/-- the value v is the key k -/
inductive KeyV (K : PySem.W.Frag) (H : Hp) : NestedKey → V → Prop
  | none : KeyV K H .none .non
  | num (i : Int) : KeyV K H (.num i) (.int i)
  | text (x : Str) : KeyV K H (.text x) (.str x)
  | tup {a xs ks} (h : SqT K H a xs) (r : KeysV K H ks xs) : KeyV K H (.tup ks) (.ref a)
inductive KeysV (K : PySem.W.Frag) (H : Hp) : List NestedKey → List V → Prop
  | nil : KeysV K H [] []
  | cons {k v ks vs} (r : KeyV K H k v) (rs : KeysV K H ks vs) : KeysV K H (k :: ks) (v :: vs)
end
def entN (w : World) (x : NestedKey × Addr × Value) : DictEntry := ⟨x.1.hash w, .ref x.2.1, x.2.2⟩
structure NdObj (w : World) (a : Addr) (o : Obj) (kvs : Kn) : Prop where
  sm : (a == sysModules) = false
  len : kvs.length ≤ sizeLine
  ex : o.ExactDict
  nd : (kvs.map (·.1)).Nodup
  dat : ∃ (es : Array DictEntry) (ep : Nat) (ys : List (NestedKey × Addr × Value)), o.data = .dict es ep ∧ Paired (fun x y => x.1 = y.1 ∧ x.2.1 = y.2.1 ∧ RelV x.2.2 y.2.2) kvs ys ∧ es.toList = ys.map (entN w)
abbrev KeyN (K : PySem.W.Frag) (H : Hp) (kvs : Kn) : Prop := ∀ x ∈ kvs, KeyV K H x.1 (.ref x.2.1) ∧ x.1.depth ≤ 8

inductive Sl where
  | no | im (d : D) | own (io : Bool) (xs : List D) | hd (a : Addr)
abbrev En := List Sl
structure Cp where
  fr : Bool
  d : D
inductive T where
  | im (d : D) | al (i : Nat) | fr (ds : List D) | ft (cs : List Cp)
inductive R (α : Type) where
  | er | ex (c : Str) (e : En) | ok (a : α) (e : En)

def FzAt (K : PySem.W.Frag) (H : Hp) (a : Addr) (xs : List V) : Prop :=
  (∃ o, H a = some (.frz o (.lst xs))) ∨
    ∃ (o : Obj) (its : Array Value) (n : Nat), K.lookup a = some o ∧ o.cls = .type "list" ∧ o.dict = none ∧ o.data = .seq its n ∧ its.size ≤ sizeLine ∧ Vals xs its.toList
theorem FzAt.sql {K : PySem.W.Frag} {H : Hp} {a : Addr} {xs : List V} (h : FzAt K H a xs) : SqL K H a xs := by
  rcases h with ⟨o, h⟩ | h
  · exact .inl (.inr ⟨o, h⟩)
  · exact .inr h

variable [Wd]
mutual
inductive Rep (K : PySem.W.Frag) (G : Addr → Prop) (H : Hp) : V → D → Prop
  | non : Rep K G H .non .non
  | bl (b : Bool) : Rep K G H (.bl b) (.bl b)
  | int (i : Int) : Rep K G H (.int i) (.int i)
  | str (x : Str) : Rep K G H (.str x) (.str x)
  | tup {a xs ds} (h : SqT K H a xs) (r : Reps K G H xs ds) : Rep K G H (.ref a) (.tup ds)
  | lst {a xs ds} (g : G a) (h : H a = some (.lst xs)) (r : Reps K G H xs ds) : Rep K G H (.ref a) (.lst ds)
  | fz {a xs ds} (h : FzAt K H a xs) (r : Reps K G H xs ds) : Rep K G H (.ref a) (.fz ds)
  | dct {a o u} {kvs : List (List Int × Addr × V)} {ks vs} (h : H a = some (.frz o u)) (ho : DcObj a o kvs) (hq : ∀ x ∈ kvs, SqT K H x.2.1 (x.1.map V.int)) (hk : ks = kvs.map fun x => .tup (x.1.map .int)) (r : Reps K G H (kvs.map (·.2.2)) vs) : Rep K G H (.ref a) (.dct ks vs)
  | kd {a o u} {kvs : Kn} {ks vs} (h : H a = some (.frz o u)) (ho : NdObj Wd.w a o kvs) (hq : KeyN K H kvs) (hk : ks = kvs.map fun x => keyD x.1) (r : Reps K G H (kvs.map (·.2.2)) vs) : Rep K G H (.ref a) (.kd ks vs)
inductive Reps (K : PySem.W.Frag) (G : Addr → Prop) (H : Hp) : List V → List D → Prop
  | nil : Reps K G H [] []
  | cons {v d vs ds} (r : Rep K G H v d) (rs : Reps K G H vs ds) : Reps K G H (v :: vs) (d :: ds)
end
structure TK (H H' : Hp) : Prop where
  tup : ∀ b xs, H b = some (.tup xs) → H' b = some (.tup xs)
  frz : ∀ b o u, H b = some (.frz o u) → H' b = some (.frz o u)
theorem TK.refl (H : Hp) : TK H H := ⟨fun _ _ h => h, fun _ _ _ h => h⟩
theorem TK.sqt {K : PySem.W.Frag} {H H' : Hp} (k : TK H H') {a : Addr} {xs : List V} (h : SqT K H a xs) : SqT K H' a xs := by
  rcases h with (h | ⟨o, h⟩) | h
  · exact .inl (.inl (k.tup _ _ h))
  · exact .inl (.inr ⟨o, k.frz _ _ _ h⟩)
  · exact .inr h
theorem TK.fz {K : PySem.W.Frag} {H H' : Hp} (k : TK H H') {a : Addr} {xs : List V} (h : FzAt K H a xs) : FzAt K H' a xs := by
  rcases h with ⟨o, h⟩ | h
  · exact .inl ⟨o, k.frz _ _ _ h⟩
  · exact .inr h

section
variable {K : PySem.W.Frag} {G G' : Addr → Prop} {H H' : Hp}
mutual
theorem KeyV.tk (k : TK H H') : ∀ {n v}, KeyV K H n v → KeyV K H' n v
  | _, _, .none => .none
  | _, _, .num i => .num i
  | _, _, .text x => .text x
  | _, _, .tup h r => .tup (k.sqt h) (KeysV.tk k r)
theorem KeysV.tk (k : TK H H') : ∀ {n v}, KeysV K H n v → KeysV K H' n v
  | _, _, .nil => .nil
  | _, _, .cons r rs => .cons (KeyV.tk k r) (KeysV.tk k rs)
end
theorem KeyN.tk (k : TK H H') {kvs : Kn} (h : KeyN K H kvs) : KeyN K H' kvs := fun x hx => ⟨(h x hx).1.tk k, (h x hx).2⟩
mutual
theorem Rep.mono (k : TK H H') (g : ∀ a xs, G a → H a = some (.lst xs) → G' a ∧ H' a = some (.lst xs)) : ∀ {v d}, Rep K G H v d → Rep K G' H' v d
  | _, _, .non => .non
  | _, _, .bl b => .bl b
  | _, _, .int i => .int i
  | _, _, .str x => .str x
  | _, _, .tup h r => .tup (k.sqt h) (Reps.mono k g r)
  | _, _, .lst ga h r => .lst (g _ _ ga h).1 (g _ _ ga h).2 (Reps.mono k g r)
  | _, _, .fz h r => .fz (k.fz h) (Reps.mono k g r)
  | _, _, .dct h ho hq hk r => .dct (k.frz _ _ _ h) ho (fun x hx => k.sqt (hq x hx)) hk (Reps.mono k g r)
  | _, _, .kd h ho hq hk r => .kd (k.frz _ _ _ h) ho (KeyN.tk k hq) hk (Reps.mono k g r)
theorem Reps.mono (k : TK H H') (g : ∀ a xs, G a → H a = some (.lst xs) → G' a ∧ H' a = some (.lst xs)) : ∀ {vs ds}, Reps K G H vs ds → Reps K G' H' vs ds
  | _, _, .nil => .nil
  | _, _, .cons r rs => .cons (Rep.mono k g r) (Reps.mono k g rs)
end
theorem Reps.length {vs : List V} {ds : List D} : Reps K G H vs ds → vs.length = ds.length
  | .nil => rfl
  | .cons _ rs => congrArg (· + 1) (Reps.length rs)
theorem Reps.get {vs : List V} {ds : List D} {i : Nat} {d : D} : Reps K G H vs ds → ds[i]? = some d → ∃ v, vs[i]? = some v ∧ Rep K G H v d
  | .nil, h => by simp at h
  | .cons r rs, h => by
    cases i with
    | zero => simp at h; subst h; exact ⟨_, rfl, r⟩
    | succ i => simpa using Reps.get rs (by simpa using h)
theorem Reps.append {vs ws : List V} {ds es : List D} : Reps K G H vs ds → Reps K G H ws es → Reps K G H (vs ++ ws) (ds ++ es)
  | .nil, s => s
  | .cons r rs, s => .cons r (Reps.append rs s)
theorem Reps.take {vs : List V} {ds : List D} : ∀ (n : Nat), Reps K G H vs ds → Reps K G H (vs.take n) (ds.take n)
  | 0, _ => by simpa using Reps.nil
  | n + 1, .nil => .nil
  | n + 1, .cons r rs => .cons r (Reps.take n rs)
theorem Reps.drop {vs : List V} {ds : List D} : ∀ (n : Nat), Reps K G H vs ds → Reps K G H (vs.drop n) (ds.drop n)
  | 0, r => r
  | n + 1, .nil => .nil
  | n + 1, .cons r rs => Reps.drop n rs
theorem Reps.set {vs : List V} {ds : List D} {v : V} {d : D} (r : Rep K G H v d) : ∀ (i : Nat), Reps K G H vs ds → Reps K G H (vs.set i v) (ds.set i d)
  | _, .nil => .nil
  | 0, .cons _ rs => .cons r rs
  | i + 1, .cons r' rs => .cons r' (Reps.set r i rs)
theorem Reps.erase {vs : List V} {ds : List D} : ∀ (i : Nat), Reps K G H vs ds → Reps K G H (vs.eraseIdx i) (ds.eraseIdx i)
  | _, .nil => .nil
  | 0, .cons _ rs => rs
  | i + 1, .cons r rs => .cons r (Reps.erase i rs)
theorem Reps.reverse {vs : List V} {ds : List D} : Reps K G H vs ds → Reps K G H vs.reverse ds.reverse
  | .nil => .nil
  | .cons r rs => by
    rw [List.reverse_cons, List.reverse_cons]
    exact Reps.append (Reps.reverse rs) (.cons r .nil)
theorem Reps.rep {vs : List V} {ds : List D} (h : Reps K G H vs ds) : ∀ k : Nat, Reps K G H (List.replicate k vs).flatten (List.replicate k ds).flatten
  | 0 => .nil
  | k + 1 => by
    rw [List.replicate_succ, List.replicate_succ, List.flatten_cons, List.flatten_cons]
    exact Reps.append h (Reps.rep h k)
theorem Reps.ints {vs : List V} : ∀ {ns : List Int}, Reps K G H vs (ns.map .int) → vs = ns.map .int
  | [], h => by cases h; rfl
  | n :: ns, h => by
    cases h with
    | cons r rs => cases r; rw [Reps.ints rs]; rfl
theorem Reps.bls {vs : List V} : ∀ {ns : List Bool}, Reps K G H vs (ns.map .bl) → vs = ns.map .bl
  | [], h => by cases h; rfl
  | n :: ns, h => by
    cases h with
    | cons r rs => cases r; rw [Reps.bls rs]; rfl
theorem Reps.of_ints : ∀ (ns : List Int), Reps K G H (ns.map V.int) (ns.map D.int)
  | [] => .nil
  | n :: ns => .cons (.int n) (Reps.of_ints ns)
end
mutual
/-- no list within -/
def D.flat : D → Bool
  | .lst _ => false
  | .tup xs => D.flats xs
  | .fz xs => D.flats xs
  | .dct _ xs => D.flats xs
  | .kd _ xs => D.flats xs
  | _ => true
def D.flats : List D → Bool
  | [] => true
  | x :: xs => D.flat x && D.flats xs
end
section
variable {K : PySem.W.Frag} {G G' : Addr → Prop} {H H' : Hp}
mutual
theorem Rep.flat : ∀ {v d}, Rep K G H v d → D.flat d = true → Rep K G' H v d
  | _, _, .non, _ => .non
  | _, _, .bl b, _ => .bl b
  | _, _, .int i, _ => .int i
  | _, _, .str x, _ => .str x
  | _, _, .tup h r, f => .tup h (Reps.flats r (by simpa [D.flat] using f))
  | _, _, .lst _ _ _, f => by simp [D.flat] at f
  | _, _, .fz h r, f => .fz h (Reps.flats r (by simpa [D.flat] using f))
  | _, _, .dct h ho hq hk r, f => .dct h ho hq hk (Reps.flats r (by simpa [D.flat] using f))
  | _, _, .kd h ho hq hk r, f => .kd h ho hq hk (Reps.flats r (by simpa [D.flat] using f))
theorem Reps.flats : ∀ {vs ds}, Reps K G H vs ds → D.flats ds = true → Reps K G' H vs ds
  | _, _, .nil, _ => .nil
  | _, _, .cons r rs, f => by
    simp [D.flats] at f
    exact .cons (Rep.flat r f.1) (Reps.flats rs f.2)
end
end
structure Cc where
  K : PySem.W.Frag
  mg : Str → Option Value
  H0 : Hp
  Io : Addr → Prop
  vs : List V
def ownM (σ : St) (env : En) (a : Addr) : Prop := ∃ (i : Nat) (io : Bool) (ds : List D), env[i]? = some (Sl.own io ds) ∧ σ[i]? = some (some (V.ref a))
def Nn (σ : St) (env : En) (H : Hp) (a : Addr) : Prop := ownM σ env a ∨ H a = none
abbrev Av (L : Addr → Prop) (σ : St) (env : En) : Addr → Prop := fun a => ¬ L a ∧ ¬ ownM σ env a
structure RE (c : Cc) (L : Addr → Prop) (σ : St) (H : Hp) (env : En) : Prop where
  len : env.length = σ.length
  im : ∀ (i : Nat) (d : D), env[i]? = some (Sl.im d) → ∃ v, σ[i]? = some (some v) ∧ Rep c.K (Av L σ env) H v d
  own : ∀ (i : Nat) (io : Bool) (ds : List D), env[i]? = some (Sl.own io ds) → ∃ a xs, σ[i]? = some (some (V.ref a)) ∧ H a = some (.lst xs) ∧ Reps c.K (Av L σ env) H xs ds ∧ (io = false → c.H0 a = none) ∧ (io = true → c.Io a ∧ c.vs[i]? = some (.ref a))
  inj : ∀ (i j : Nat) (io jo : Bool) (ds es : List D) (a : Addr), env[i]? = some (Sl.own io ds) → env[j]? = some (Sl.own jo es) → σ[i]? = some (some (V.ref a)) → σ[j]? = some (some (V.ref a)) → i = j
  ext : ∀ a, L a → ¬ ownM σ env a ∧ ∃ xs, H a = some (.lst xs)
  fr : ∀ b o, ¬ c.Io b → c.H0 b = some o → H b = some o
  io : ∀ a, c.Io a → ∃ xs, H a = some (.lst xs)
  hd : ∀ (i : Nat) (a : Addr), env[i]? = some (Sl.hd a) → σ[i]? = some (some (V.ref a))
theorem hd_set {σ : St} {env : En} {i : Nat} {s : Sl} (h : ∀ (i : Nat) (a : Addr), env[i]? = some (Sl.hd a) → σ[i]? = some (some (V.ref a))) (n : ∀ a, s ≠ .hd a) : ∀ (j : Nat) (a : Addr), (env.set i s)[j]? = some (Sl.hd a) → σ[j]? = some (some (V.ref a)) := fun j a q => by
  by_cases z : i = j
  · subst z
    rw [List.getElem?_set] at q
    simp only [if_true] at q
    split at q
    · exact (n a (Option.some.inj q)).elim
    · cases q
  · rw [List.getElem?_set_ne z] at q
    exact h j a q
theorem hd_set2 {σ : St} {env : En} {i : Nat} {s : Sl} {v : V} (h : ∀ (i : Nat) (a : Addr), env[i]? = some (Sl.hd a) → σ[i]? = some (some (V.ref a))) (n : ∀ a, s ≠ .hd a) : ∀ (j : Nat) (a : Addr), (env.set i s)[j]? = some (Sl.hd a) → (σ.set i (some v))[j]? = some (some (V.ref a)) := fun j a q => by
  by_cases z : i = j
  · subst z
    rw [List.getElem?_set] at q
    simp only [if_true] at q
    split at q
    · exact (n a (Option.some.inj q)).elim
    · cases q
  · rw [List.getElem?_set_ne z] at q ⊢
    exact h j a q
def Stp (σ : St) (env : En) (H : Hp) (σ' : St) (env' : En) (H' : Hp) : Prop := ∀ b, ¬ Nn σ env H b → H' b = H b ∧ ¬ Nn σ' env' H' b
theorem Stp.refl {σ : St} {env : En} {H : Hp} : Stp σ env H σ env H := fun _ h => ⟨rfl, h⟩
theorem Stp.trans {σ σ1 σ2 : St} {env env1 env2 : En} {H H1 H2 : Hp} (a : Stp σ env H σ1 env1 H1) (b : Stp σ1 env1 H1 σ2 env2 H2) : Stp σ env H σ2 env2 H2 := fun x h => by
  obtain ⟨e1, n1⟩ := a x h
  obtain ⟨e2, n2⟩ := b x n1
  exact ⟨e2.trans e1, n2⟩
theorem Stp.back {σ σ' : St} {env env' : En} {H H' : Hp} (s : Stp σ env H σ' env' H') {a : Addr} (h : Nn σ' env' H' a) : Nn σ env H a := Classical.byContradiction fun n => (s a n).2 h
theorem Nn.not {σ : St} {env : En} {H : Hp} {a : Addr} {o : HO} (h : H a = some o) (n : ¬ ownM σ env a) : ¬ Nn σ env H a := fun z => z.elim n fun z => by rw [z] at h; cases h
theorem RE.tk {c : Cc} {L : Addr → Prop} {σ σ' : St} {env env' : En} {H H' : Hp} (h : RE c L σ H env) (s : Stp σ env H σ' env' H') : TK H H' := by
  have key : ∀ b o, H b = some o → (∀ xs, o ≠ .lst xs) → H' b = some o := fun b o e n => by
    have : ¬ ownM σ env b := fun ⟨i, io, ds, e1, e2⟩ => by
      obtain ⟨a, xs, e3, e4, _⟩ := h.own i io ds e1
      rw [e2] at e3
      cases e3
      rw [e] at e4
      cases e4
      exact n _ rfl
    rw [(s b (Nn.not e this)).1, e]
  exact ⟨fun b xs e => key b _ e (fun _ z => nomatch z), fun b o u e => key b _ e (fun _ z => nomatch z)⟩
theorem RE.rep {c : Cc} {L L' : Addr → Prop} {σ σ' : St} {env env' : En} {H H' : Hp} (h : RE c L σ H env) (s : Stp σ env H σ' env' H') {v : V} {d : D} (r : Rep c.K (Av L' σ env) H v d) : Rep c.K (Av L' σ' env') H' v d :=
  r.mono (h.tk s) fun a xs g e => by
    obtain ⟨e1, n1⟩ := s a (Nn.not e g.2)
    exact ⟨⟨g.1, fun z => n1 (.inl z)⟩, e1.trans e⟩
theorem RE.reps {c : Cc} {L L' : Addr → Prop} {σ σ' : St} {env env' : En} {H H' : Hp} (h : RE c L σ H env) (s : Stp σ env H σ' env' H') {v : List V} {d : List D} (r : Reps c.K (Av L' σ env) H v d) : Reps c.K (Av L' σ' env') H' v d :=
  r.mono (h.tk s) fun a xs g e => by
    obtain ⟨e1, n1⟩ := s a (Nn.not e g.2)
    exact ⟨⟨g.1, fun z => n1 (.inl z)⟩, e1.trans e⟩
theorem Stp.grow {σ : St} {env : En} {H H' : Hp} (k : ∀ b o, H b = some o → H' b = some o) : Stp σ env H σ env H' := fun b n => by
  cases e : H b with
  | none => exact (n (.inr e)).elim
  | some o => exact ⟨k b o e, fun z => z.elim (fun z => n (.inl z)) fun z => by rw [k b o e] at z; cases z⟩
theorem RE.grow {c : Cc} {L : Addr → Prop} {σ : St} {env : En} {H H' : Hp} (h : RE c L σ H env) (k : ∀ b o, H b = some o → H' b = some o) : RE c L σ H' env where
  len := h.len
  im := fun i d e => by
    obtain ⟨v, e1, r⟩ := h.im i d e
    exact ⟨v, e1, h.rep (Stp.grow k) r⟩
  own := fun i io ds e => by
    obtain ⟨a, xs, e1, e2, r, z⟩ := h.own i io ds e
    exact ⟨a, xs, e1, k _ _ e2, h.reps (Stp.grow k) r, z⟩
  inj := h.inj
  ext := fun a la => ⟨(h.ext a la).1, (h.ext a la).2.imp fun xs e => k _ _ e⟩
  fr := fun b o n e => k _ _ (h.fr b o n e)
  io := fun a i => (h.io a i).imp fun xs e => k _ _ e
  hd := h.hd
theorem RE.less {c : Cc} {L L' : Addr → Prop} {σ : St} {env : En} {H : Hp} (h : RE c L σ H env) (l : ∀ a, L' a → L a) : RE c L' σ H env where
  len := h.len
  im := fun i d e => by
    obtain ⟨v, e1, r⟩ := h.im i d e
    exact ⟨v, e1, r.mono (.refl H) fun a xs g e => ⟨⟨fun z => g.1 (l a z), g.2⟩, e⟩⟩
  own := fun i io ds e => by
    obtain ⟨a, xs, e1, e2, r, z⟩ := h.own i io ds e
    exact ⟨a, xs, e1, e2, r.mono (.refl H) fun a xs g e => ⟨⟨fun z => g.1 (l a z), g.2⟩, e⟩, z⟩
  inj := h.inj
  ext := fun a la => h.ext a (l a la)
  fr := h.fr
  io := h.io
  hd := h.hd
theorem RE.more {c : Cc} {L : Addr → Prop} {σ : St} {env : En} {H H' : Hp} (h : RE c L σ H env) (k : ∀ b o, H b = some o → H' b = some o) {a : Addr} {xs : List V} (n : H a = none) (e : H' a = some (.lst xs)) : RE c (fun b => L b ∨ b = a) σ H' env := by
  have no : ∀ b, (∃ o, H b = some o) → b ≠ a := fun b ⟨o, q⟩ z => by rw [z, n] at q; cases q
  have kk : ∀ {v d}, Rep c.K (Av L σ env) H v d → Rep c.K (Av (fun b => L b ∨ b = a) σ env) H' v d := fun r =>
    r.mono (h.tk (Stp.grow k)) fun b ys g q => ⟨⟨fun z => z.elim g.1 fun z => no b ⟨_, q⟩ z, g.2⟩, k _ _ q⟩
  have ks : ∀ {v d}, Reps c.K (Av L σ env) H v d → Reps c.K (Av (fun b => L b ∨ b = a) σ env) H' v d := fun r =>
    r.mono (h.tk (Stp.grow k)) fun b ys g q => ⟨⟨fun z => z.elim g.1 fun z => no b ⟨_, q⟩ z, g.2⟩, k _ _ q⟩
  refine ⟨h.len, fun i d e => ?_, fun i io ds e => ?_, h.inj, fun b lb => ?_, fun b o n e => k _ _ (h.fr b o n e), fun a i => (h.io a i).imp fun xs e => k _ _ e, h.hd⟩
  · obtain ⟨v, e1, r⟩ := h.im i d e
    exact ⟨v, e1, kk r⟩
  · obtain ⟨a, xs, e1, e2, r, z⟩ := h.own i io ds e
    exact ⟨a, xs, e1, k _ _ e2, ks r, z⟩
  · rcases lb with lb | rfl
    · exact ⟨(h.ext b lb).1, (h.ext b lb).2.imp fun xs e => k _ _ e⟩
    · refine ⟨fun ⟨i, io, ds, e1, e2⟩ => ?_, _, e⟩
      obtain ⟨a', ys, e3, e4, _⟩ := h.own i io ds e1
      rw [e2] at e3
      cases e3
      rw [n] at e4
      cases e4

inductive RepC (K : PySem.W.Frag) (G : Addr → Prop) (H : Hp) : List Addr → List V → List Cp → Prop
  | nil : RepC K G H [] [] []
  | im {As v d vs cs} (r : Rep K G H v d) (rs : RepC K G H As vs cs) : RepC K G H As (v :: vs) (⟨false, d⟩ :: cs)
  | fr {As a xs ds vs cs} (n : a ∉ As) (e : H a = some (.lst xs)) (r : Reps K G H xs ds) (rs : RepC K G H As vs cs) : RepC K G H (a :: As) (.ref a :: vs) (⟨true, .lst ds⟩ :: cs)
def RepT (c : Cc) (L : Addr → Prop) (N : Addr → Prop) (σ : St) (H : Hp) (env : En) (v : V) : T → Prop
  | .im d => Rep c.K (Av L σ env) H v d
  | .al i => (∃ (io : Bool) (ds : List D), env[i]? = some (Sl.own io ds)) ∧ σ[i]? = some (some v)
  | .fr ds => ∃ a xs, v = .ref a ∧ H a = some (.lst xs) ∧ Reps c.K (Av (fun b => L b ∨ b = a) σ env) H xs ds ∧ ¬ L a ∧ c.H0 a = none ∧ N a ∧ RE c (fun b => L b ∨ b = a) σ H env
  | .ft cs => ∃ t vs As, v = .ref t ∧ SqT c.K H t vs ∧ RepC c.K (Av (fun b => L b ∨ b ∈ As) σ env) H As vs cs ∧ (∀ a ∈ As, ¬ L a ∧ c.H0 a = none ∧ N a) ∧ RE c (fun b => L b ∨ b ∈ As) σ H env

def Wx (mg : Str → Option Value) (W : WX) (x : Str) (σ : St) (H : Hp) : Prop := ∀ C, mg x = some (.ref C) → W (.ref C) none σ H
abbrev FE := En → R T
abbrev FT := En → R Bool
abbrev FA := En → R (List T)
end DL
namespace DL
open PySem PySem.Spec L2
variable [Wd]
def R.bind {α β : Type} (r : R α) (g : α → En → R β) : R β := match r with
  | .er => .er
  | .ex x e => .ex x e
  | .ok a e => g a e
@[simp] theorem bind_ok {α β : Type} (a : α) (e : En) (g : α → En → R β) : R.bind (.ok a e) g = g a e := rfl
@[simp] theorem bind_er {α β : Type} (g : α → En → R β) : R.bind .er g = .er := rfl
@[simp] theorem bind_ex {α β : Type} (x : Str) (e : En) (g : α → En → R β) : R.bind (.ex x e) g = .ex x e := rfl

def dK {α : Type} (c : Cc) (W : WX) (L : Addr → Prop) (σ : St) (H : Hp) (env : En) (r : R α) (P : α → En → Hp → Prop) : Prop := match r with
  | .er => False
  | .ex x env' => ∀ H', RE c L σ H' env' → Stp σ env H σ env' H' → Wx c.mg W x σ H'
  | .ok a env' => ∀ H', RE c L σ H' env' → Stp σ env H σ env' H' → P a env' H'
def dE (c : Cc) (W : WX) (f : FE) : TE := fun σ H Q => ∃ env L, RE c L σ H env ∧ dK c W L σ H env (f env) fun t env' H' => ∀ v, RepT c L (Nn σ env H) σ H' env' v t → Q v H'
def dT (c : Cc) (W : WX) (f : FT) : TT := fun σ H Q => ∃ env L, RE c L σ H env ∧ dK c W L σ H env (f env) fun b _ H' => Q b H'
section
variable {α β : Type} {c : Cc} {W : WX} {L L' : Addr → Prop} {σ : St} {H : Hp} {env : En}
theorem dE_iff {f : FE} {Q : VK} : dE c W f σ H Q ↔ ∃ env L, RE c L σ H env ∧ dK c W L σ H env (f env) fun t env' H' => ∀ v, RepT c L (Nn σ env H) σ H' env' v t → Q v H' := Iff.rfl
theorem dT_iff {f : FT} {Q : Bool → Hp → Prop} : dT c W f σ H Q ↔ ∃ env L, RE c L σ H env ∧ dK c W L σ H env (f env) fun b _ H' => Q b H' := Iff.rfl
theorem dK.bind {r : R α} {g : α → En → R β} {P : β → En → Hp → Prop} (h : dK c W L σ H env (r.bind g) P) : dK c W L σ H env r fun a env1 H1 => dK c W L σ H1 env1 (g a env1) P := by
  cases r with
  | er => exact h
  | ex x e => exact h
  | ok a e =>
    intro H1 r1 s1
    have h : dK c W L σ H env (g a e) P := h
    show dK c W L σ H1 e (g a e) P
    cases q : g a e with
    | er => rw [q] at h; exact h
    | ex x e2 => rw [q] at h; exact fun H2 r2 s2 => h H2 r2 (s1.trans s2)
    | ok b e2 => rw [q] at h; exact fun H2 r2 s2 => h H2 r2 (s1.trans s2)
theorem dK.mono {r : R α} {P P' : α → En → Hp → Prop} (h : dK c W L σ H env r P) (k : ∀ a env' H', RE c L σ H' env' → Stp σ env H σ env' H' → P a env' H' → P' a env' H') : dK c W L σ H env r P' := by
  cases r with
  | er => exact h
  | ex x e => exact h
  | ok a e => exact fun H' r s => k a e H' r s (h H' r s)
theorem dK.less {r : R α} {P : α → En → Hp → Prop} (h : dK c W L σ H env r P) (l : ∀ a, L a → L' a) : dK c W L' σ H env r P := by
  cases r with
  | er => exact h
  | ex x e => exact fun H' r s => h H' (r.less l) s
  | ok a e => exact fun H' r s => h H' (r.less l) s
theorem dE.of {f : FE} {Q : VK} (r : RE c L σ H env) (h : dK c W L σ H env (f env) fun t env' H' => ∀ v, RepT c L (Nn σ env H) σ H' env' v t → Q v H') : dE c W f σ H Q := dE_iff.mpr ⟨env, L, r, h⟩
theorem dT.of {f : FT} {Q : Bool → Hp → Prop} (r : RE c L σ H env) (h : dK c W L σ H env (f env) fun b _ H' => Q b H') : dT c W f σ H Q := dT_iff.mpr ⟨env, L, r, h⟩
end
theorem PEw {X : Cx} {e : Expr} {t t' : TE} (h : PE X e t) (k : ∀ σ H Q, t' σ H Q → t σ H Q) : PE X e t' := ⟨fun pins s σ H Q I q => h.run pins s σ H Q I (k σ H Q q)⟩
theorem PTw {X : Cx} {e : Expr} {t t' : TT} (h : PT X e t) (k : ∀ σ H Q, t' σ H Q → t σ H Q) : PT X e t' := ⟨fun pins s σ H Q I q => h.run pins s σ H Q I (k σ H Q q)⟩
theorem PWw {X : Cx} {e : Expr} {t t' : TT} (h : PW X e t) (k : ∀ σ H Q, t' σ H Q → t σ H Q) : PW X e t' := ⟨fun wh pins s σ H Q I q => h.run wh pins s σ H Q I (k σ H Q q)⟩
theorem PAw {X : Cx} {e : List Expr} {t t' : TA} (h : PA X e t) (k : ∀ σ H Q, t' σ H Q → t σ H Q) : PA X e t' := ⟨fun pos pins s σ H Q I q => h.run pos pins s σ H Q I (k σ H Q q)⟩
theorem PSw {X : Cx} {e : Stmt} {t t' : TS} (h : PS X e t) (k : ∀ D σ H, t' D σ H → t D σ H) : PS X e t' := ⟨fun pins s σ H D I q => h.run pins s σ H D I (k D σ H q)⟩
theorem PSsw {X : Cx} {e : List Stmt} {t t' : TS} (h : PSs X e t) (k : ∀ D σ H, t' D σ H → t D σ H) : PSs X e t' := ⟨fun pins s σ H D I q => h.run pins s σ H D I (k D σ H q)⟩

section
variable {c : Cc} {L L' N N' : Addr → Prop} {σ : St} {H : Hp} {env : En} {v : V} {t : T}
theorem RepC.in {K : PySem.W.Frag} {G : Addr → Prop} {H : Hp} : ∀ {As vs cs}, RepC K G H As vs cs → ∀ a ∈ As, ∃ xs, H a = some (.lst xs)
  | _, _, _, .nil, a, h => by cases h
  | _, _, _, .im _ rs, a, h => RepC.in rs a h
  | _, _, _, .fr n e r rs, a, h => by
    rcases List.mem_cons.mp h with rfl | h
    · exact ⟨_, e⟩
    · exact RepC.in rs a h
theorem RepC.mono {K : PySem.W.Frag} {G G' : Addr → Prop} {H H' : Hp} (k : TK H H') (g : ∀ a xs, G a → H a = some (.lst xs) → G' a ∧ H' a = some (.lst xs)) : ∀ {As vs cs}, RepC K G H As vs cs → (∀ a ∈ As, ∀ xs, H a = some (.lst xs) → H' a = some (.lst xs)) → RepC K G' H' As vs cs
  | _, _, _, .nil, _ => .nil
  | _, _, _, .im r rs, q => .im (r.mono k g) (RepC.mono k g rs q)
  | _, _, _, .fr n e r rs, q => .fr n (q _ List.mem_cons_self _ e) (r.mono k g) (RepC.mono k g rs fun a h => q a (List.mem_cons_of_mem _ h))
theorem RepC.reps {K : PySem.W.Frag} {G G' : Addr → Prop} {H : Hp} (g : ∀ a, G a → G' a) : ∀ {As vs cs}, RepC K G H As vs cs → (∀ a ∈ As, G' a) → Reps K G' H vs (cs.map Cp.d)
  | _, _, _, .nil, _ => .nil
  | _, _, _, .im r rs, q => .cons (r.mono (.refl H) fun a xs h e => ⟨g a h, e⟩) (RepC.reps g rs q)
  | _, _, _, .fr n e r rs, q => .cons (.lst (q _ List.mem_cons_self) e (r.mono (.refl H) fun a xs h e => ⟨g a h, e⟩)) (RepC.reps g rs fun a h => q a (List.mem_cons_of_mem _ h))
theorem RepT.less (l : ∀ a, L' a → L a) (n : ∀ a, N a → N' a) (h : RepT c L N σ H env v t) : RepT c L' N' σ H env v t := by
  cases t with
  | im d => exact Rep.mono (.refl H) (fun a xs g e => ⟨⟨fun z => g.1 (l a z), g.2⟩, e⟩) h
  | al i => exact h
  | fr ds =>
    obtain ⟨a, xs, e, e1, r, n1, n2, n3, q⟩ := h
    exact ⟨a, xs, e, e1, r.mono (.refl H) (fun b ys g e => ⟨⟨fun z => g.1 (z.imp (l b) id), g.2⟩, e⟩), fun z => n1 (l a z), n2, n a n3, q.less fun b z => z.imp (l b) id⟩
  | ft cs =>
    obtain ⟨t, vs, As, e, e1, r, n1, q⟩ := h
    exact ⟨t, vs, As, e, e1, r.mono (.refl H) (fun b ys g e => ⟨⟨fun z => g.1 (z.imp (l b) id), g.2⟩, e⟩) (fun _ _ _ e => e), fun a ha => ⟨fun z => (n1 a ha).1 (l a z), (n1 a ha).2.1, n a (n1 a ha).2.2⟩, q.less fun b z => z.imp (l b) id⟩
def T.weak : T → T
  | .fr ds => .im (.lst ds)
  | .ft cs => .im (.tup (cs.map Cp.d))
  | t => t
theorem RepT.wk (h : RepT c L N σ H env v t) : RepT c L N σ H env v t.weak := by
  cases t with
  | im d => exact h
  | al i => exact h
  | fr ds =>
    obtain ⟨a, xs, rfl, e1, r, n1, n2, n3, q⟩ := h
    exact .lst ⟨n1, (q.ext a (.inr rfl)).1⟩ e1 (r.mono (.refl H) fun b ys g e => ⟨⟨fun z => g.1 (.inl z), g.2⟩, e⟩)
  | ft cs =>
    obtain ⟨t, vs, As, rfl, e1, r, n1, q⟩ := h
    exact .tup e1 (r.reps (fun b g => ⟨fun z => g.1 (.inl z), g.2⟩) fun a ha => ⟨(n1 a ha).1, (q.ext a (.inr ha)).1⟩)
end
def T.val (t : T) (env : En) : Option D := match t with
  | .im d => some d
  | .al i => match env[i]? with
    | some (.own _ ds) => some (.lst ds)
    | _ => none
  | .fr ds => some (.lst ds)
  | .ft cs => some (.tup (cs.map Cp.d))
@[simp] theorem val_im (d : D) (env : En) : (T.im d).val env = some d := rfl
@[simp] theorem val_fr (ds : List D) (env : En) : (T.fr ds).val env = some (.lst ds) := rfl
@[simp] theorem val_ft (cs : List Cp) (env : En) : (T.ft cs).val env = some (.tup (cs.map Cp.d)) := rfl
def RepO (K : PySem.W.Frag) (G : Addr → Prop) (H : Hp) (v : V) : D → Prop
  | .lst ds => ∃ a xs, v = .ref a ∧ H a = some (.lst xs) ∧ Reps K G H xs ds
  | d => Rep K G H v d
theorem Rep.o {K : PySem.W.Frag} {G : Addr → Prop} {H : Hp} {v : V} {d : D} (h : Rep K G H v d) : RepO K G H v d := by
  cases d with
  | lst ds => cases h with | lst g e r => exact ⟨_, _, rfl, e, r⟩
  | non => exact h
  | bl b => exact h
  | int i => exact h
  | str x => exact h
  | tup xs => exact h
  | fz xs => exact h
  | dct ks xs => exact h
  | kd ks xs => exact h
theorem RepO.any {K : PySem.W.Frag} {G : Addr → Prop} {H : Hp} {v : V} {d : D} (h : RepO K G H v d) : Rep K (fun _ => True) H v d := by
  have w : ∀ {v d}, Rep K G H v d → Rep K (fun _ => True) H v d := fun r => r.mono (.refl H) fun a xs _ e => ⟨trivial, e⟩
  have ws : ∀ {v d}, Reps K G H v d → Reps K (fun _ => True) H v d := fun r => r.mono (.refl H) fun a xs _ e => ⟨trivial, e⟩
  cases d with
  | lst ds => obtain ⟨a, xs, rfl, e, r⟩ := h; exact .lst trivial e (ws r)
  | non => exact w h
  | bl b => exact w h
  | int i => exact w h
  | str x => exact w h
  | tup xs => exact w h
  | fz xs => exact w h
  | dct ks xs => exact w h
  | kd ks xs => exact w h
section
variable {c : Cc} {L N : Addr → Prop} {σ : St} {H H1 : Hp} {env env1 : En} {v : V} {t : T} {d : D}
theorem RepT.opr (r : RE c L σ H env) (h : RepT c L N σ H env v t) (s : Stp σ env H σ env1 H1) (r1 : RE c L σ H1 env1) (e : t.val env1 = some d) : RepO c.K (Av L σ env1) H1 v d := by
  have h := h.wk
  cases t with
  | im d' => cases e; exact Rep.o (r.rep s h)
  | al i =>
    obtain ⟨⟨io, ds, e1⟩, e2⟩ := h
    cases q : env1[i]? with
    | none => simp [T.val, q] at e
    | some sl =>
      cases sl with
      | no => simp [T.val, q] at e
      | hd _ => simp [T.val, q] at e
      | im d => simp [T.val, q] at e
      | own io' ds' =>
        simp [T.val, q] at e
        subst e
        obtain ⟨a, xs, e3, e4, r5, _⟩ := r1.own i io' ds' q
        rw [e2] at e3
        cases e3
        exact ⟨a, xs, rfl, e4, r5⟩
  | fr ds => cases e; exact Rep.o (r.rep s h)
  | ft cs => cases e; exact Rep.o (r.rep s h)
theorem RepT.opr0 (r : RE c L σ H env) (h : RepT c L N σ H env v t) (e : t.val env = some d) : RepO c.K (Av L σ env) H v d := h.opr r .refl r e
end
section
variable {X : Cx} {c : Cc} {W : WX} {pos : Pos}
def eVar (i : Nat) : FE := fun env => match env[i]? with
  | some (.im d) => .ok (.im d) env
  | some (.own _ _) => .ok (.al i) env
  | _ => .er
theorem de_var (i : Nat) {x : Str} (h : PE X (.Name x pos) (tVar i)) : PE X (.Name x pos) (dE c W (eVar i)) := by
  refine PEw h fun σ H Q h => ?_
  obtain ⟨env, L, r, h⟩ := dE_iff.mp h
  unfold eVar at h
  cases e : env[i]? with
  | none => rw [e] at h; exact h.elim
  | some s =>
    rw [e] at h
    cases s with
    | no => exact h.elim
    | hd _ => exact h.elim
    | im d =>
      obtain ⟨v, e1, q⟩ := r.im i d e
      exact ⟨v, e1, h H r .refl v q⟩
    | own io ds =>
      obtain ⟨a, xs, e1, q⟩ := r.own i io ds e
      exact ⟨_, e1, h H r .refl _ ⟨⟨io, ds, e⟩, e1⟩⟩
def eC (d : D) : FE := fun env => .ok (.im d) env
theorem de_c {e : Expr} {v : V} {d : D} (h : PE X e (tC v)) (k : ∀ G H, Rep c.K G H v d) : PE X e (dE c W (eC d)) := by
  refine PEw h fun σ H Q h => ?_
  obtain ⟨env, L, r, h⟩ := dE_iff.mp h
  exact h H r .refl v (k _ H)
theorem de_int {i : Int} {j} : PE X (.Constant (.int i) j pos) (dE c W (eC (.int i))) := de_c pe_int fun _ _ => .int i
theorem de_bl {b : Bool} {j} : PE X (.Constant (.bool b) j pos) (dE c W (eC (.bl b))) := de_c pe_bl fun _ _ => .bl b
theorem de_non {j} : PE X (.Constant .none j pos) (dE c W (eC .non)) := de_c pe_non fun _ _ => .non
theorem de_str {x : Str} {j} : PE X (.Constant (.str x) j pos) (dE c W (eC (.str x))) := de_c pe_str fun _ _ => .str x
end
def OpD (c : Cc) (r : R2) (g : D → D → Option T) : Prop := ∀ (L : Addr → Prop) (σ : St) (H : Hp) (env : En) (x y : V) (dx dy : D) (t : T) (Q : VK), RE c L σ H env → RepO c.K (Av L σ env) H x dx → RepO c.K (Av L σ env) H y dy → g dx dy = some t →
  (∀ v H', RE c L σ H' env → Stp σ env H σ env H' → RepT c L (Nn σ env H) σ H' env v t → Q v H') → r x y H Q
def UnD (c : Cc) (r : V → Hp → VK → Prop) (g : D → Option T) : Prop := ∀ (L : Addr → Prop) (σ : St) (H : Hp) (env : En) (x : V) (dx : D) (t : T) (Q : VK), RE c L σ H env → RepO c.K (Av L σ env) H x dx → g dx = some t →
  (∀ v H', RE c L σ H' env → Stp σ env H σ env H' → RepT c L (Nn σ env H) σ H' env v t → Q v H') → r x H Q
def R.opt {α : Type} (o : Option α) (env : En) : R α := match o with
  | some a => .ok a env
  | none => .er
@[simp] theorem opt_some {α : Type} (a : α) (env : En) : R.opt (some a) env = .ok a env := rfl
@[simp] theorem opt_none {α : Type} (env : En) : R.opt (none : Option α) env = .er := rfl
def op2 (g : D → D → Option T) (ta tb : T) (env : En) : R T := match ta.val env, tb.val env with
  | some x, some y => R.opt (g x y) env
  | _, _ => .er
def op1 (g : D → Option T) (ta : T) (env : En) : R T := match ta.val env with
  | some x => R.opt (g x) env
  | _ => .er
def eOp (g : D → D → Option T) (fa fb : FE) : FE := fun env => (fa env).bind fun ta e1 => (fb e1).bind fun tb e2 => op2 g ta tb e2
def eUn (g : D → Option T) (fa : FE) : FE := fun env => (fa env).bind fun ta e1 => op1 g ta e1
section
variable {X : Cx} {c : Cc} {W : WX} {pos : Pos} {a b : Expr} {fa fb : FE} {r : R2} {g : D → D → Option T}
theorem dK_op2 {L : Addr → Prop} {σ : St} {H : Hp} {env : En} {x y : V} {ta tb : T} {N1 N2 N : Addr → Prop} {Q : VK} (ho : OpD c r g) (re : RE c L σ H env) (hx : ∀ d, ta.val env = some d → RepO c.K (Av L σ env) H x d) (hy : ∀ d, tb.val env = some d → RepO c.K (Av L σ env) H y d)
    (n : ∀ a, Nn σ env H a → N a) (h : dK c W L σ H env (op2 g ta tb env) fun t env' H' => ∀ v, RepT c L N σ H' env' v t → Q v H') : r x y H Q := by
  unfold op2 at h
  cases ea : ta.val env with
  | none => rw [ea] at h; exact h.elim
  | some dx =>
    cases eb : tb.val env with
    | none => rw [ea, eb] at h; exact h.elim
    | some dy =>
      rw [ea, eb] at h
      cases eg : g dx dy with
      | none => simp only [eg] at h; exact h.elim
      | some t =>
        simp only [eg] at h
        exact ho L σ H env x y dx dy t Q re (hx _ ea) (hy _ eb) eg fun v H' re' s q => h H' re' s v (q.less (fun _ z => z) n)
theorem d_tOp (ho : OpD c r g) : ∀ σ H Q, dE c W (eOp g fa fb) σ H Q → tOp r (dE c W fa) (dE c W fb) σ H Q := fun σ H Q h => by
  obtain ⟨env, L, re, h⟩ := dE_iff.mp h
  refine dE.of re (h.bind.mono fun ta e1 H1 r1 s1 h1 x q1 => ?_)
  refine dE.of r1 (h1.bind.mono fun tb e2 H2 r2 s2 h2 y q2 => ?_)
  exact dK_op2 (W := W) (N1 := fun _ => True) (N2 := fun _ => True) ho r2 (fun d e => q1.opr r1 s2 r2 e) (fun d e => q2.opr0 r2 e) (fun a n => s1.back (s2.back n)) h2
theorem de_op {op : Operator} (hr : OpR X (binaryOp op) r) (ho : OpD c r g) (ha : PE X a (dE c W fa)) (hb : PE X b (dE c W fb)) : PE X (.BinOp a op b pos) (dE c W (eOp g fa fb)) :=
  PEw (pe_op hr ha hb) (d_tOp ho)
theorem de_cmp {op : CmpOp} (hr : OpR X (compareOp op) r) (ho : OpD c r g) (ha : PE X a (dE c W fa)) (hb : PE X b (dE c W fb)) (hm : behindInMarks op b = false) : PE X (.Compare a [op] [b] pos) (dE c W (eOp g fa fb)) :=
  PEw (pe_cmpR hr ha hb hm) (d_tOp ho)
theorem d_tUn {r : V → Hp → VK → Prop} {g : D → Option T} (ho : UnD c r g) : ∀ σ H Q, dE c W (eUn g fa) σ H Q → tUn r (dE c W fa) σ H Q := fun σ H Q h => by
  obtain ⟨env, L, re, h⟩ := dE_iff.mp h
  refine dE.of re (h.bind.mono fun ta e1 H1 r1 s1 h1 x q1 => ?_)
  unfold op1 at h1
  cases ea : ta.val e1 with
  | none => rw [ea] at h1; exact h1.elim
  | some dx =>
    rw [ea] at h1
    cases eg : g dx with
    | none => simp only [eg] at h1; exact h1.elim
    | some t =>
      simp only [eg] at h1
      exact ho L σ H1 e1 x dx t Q r1 (q1.opr0 r1 ea) eg fun v H' re' s q => h1 H' re' s v (q.less (fun _ z => z) fun a n => s1.back n)
theorem de_un {op : UnaryOp} {r : V → Hp → VK → Prop} {g : D → Option T} (hr : UnR X (unaryOp op) r) (ho : UnD c r g) (ha : PE X a (dE c W fa)) : PE X (.UnaryOp op a pos) (dE c W (eUn g fa)) := PEw (pe_un hr ha) (d_tUn ho)
end
end DL
namespace DL
open PySem PySem.Spec L2
variable [Wd]
section
variable {K : PySem.W.Frag} {G : Addr → Prop} {H : Hp} {v : V}
theorem RepO.int {i : Int} (h : RepO K G H v (.int i)) : v = .int i := by cases (show Rep K G H v (.int i) from h); rfl
theorem RepO.bl {i : Bool} (h : RepO K G H v (.bl i)) : v = .bl i := by cases (show Rep K G H v (.bl i) from h); rfl
theorem RepO.str {i : Str} (h : RepO K G H v (.str i)) : v = .str i := by cases (show Rep K G H v (.str i) from h); rfl
theorem RepO.non (h : RepO K G H v .non) : v = .non := by cases (show Rep K G H v .non from h); rfl
theorem RepO.tup {ds : List D} (h : RepO K G H v (.tup ds)) : ∃ a xs, v = .ref a ∧ SqT K H a xs ∧ Reps K G H xs ds := by
  cases (show Rep K G H v (.tup ds) from h) with
  | tup h1 r => exact ⟨_, _, rfl, h1, r⟩
theorem RepO.fz {ds : List D} (h : RepO K G H v (.fz ds)) : ∃ a xs, v = .ref a ∧ FzAt K H a xs ∧ Reps K G H xs ds := by
  cases (show Rep K G H v (.fz ds) from h) with
  | fz h1 r => exact ⟨_, _, rfl, h1, r⟩
theorem RepO.lst {ds : List D} (h : RepO K G H v (.lst ds)) : ∃ a xs, v = .ref a ∧ H a = some (.lst xs) ∧ Reps K G H xs ds := h
theorem not_non {d : D} (h : RepO K G H v d) (n : d ≠ .non) : v ≠ .non := by
  intro e
  subst e
  cases d with
  | non => exact n rfl
  | lst ds => obtain ⟨a, xs, e, _⟩ := h; cases e
  | bl b => cases h
  | int i => cases h
  | str x => cases h
  | tup xs => cases h
  | fz xs => cases h
  | dct _ _ => cases h
  | kd _ _ => cases h
end
theorem OpD.or {c : Cc} {r r' : R2} {g g' : D → D → Option T} (h : OpD c r g) (h' : OpD c r' g') : OpD c (fun x y H Q => r x y H Q ∨ r' x y H Q) (fun x y => match g x y with
  | some t => some t
  | none => g' x y) := fun L σ H env x y dx dy t Q re hx hy e k => by
  cases q : g dx dy with
  | some t' =>
    simp only [q] at e
    cases e
    exact .inl (h L σ H env x y dx dy _ Q re hx hy q k)
  | none =>
    simp only [q] at e
    exact .inr (h' L σ H env x y dx dy _ Q re hx hy e k)
theorem new_tup {c : Cc} {L : Addr → Prop} {σ : St} {H : Hp} {env : En} {Q : VK} {xs : List V} {ds : List D} (re : RE c L σ H env) (r : Reps c.K (Av L σ env) H xs ds) (k : ∀ v H', RE c L σ H' env → Stp σ env H σ env H' → RepT c L (Nn σ env H) σ H' env v (.im (.tup ds)) → Q v H') :
    ∀ p, H p = none → Q (.ref p) (upd H p (.tup xs)) := fun p n => by
  have kp : ∀ b o, H b = some o → upd H p (.tup xs) b = some o := fun b o e => by rw [upd_ne (ne_of_none e n)]; exact e
  exact k _ _ (re.grow kp) (.grow kp) (.tup (.inl (.inl upd_same)) (re.reps (.grow kp) r))
theorem RE.newL {c : Cc} {L : Addr → Prop} {σ : St} {H : Hp} {env : En} {xs : List V} {ds : List D} (re : RE c L σ H env) (r : Reps c.K (Av L σ env) H xs ds) {p : Addr} (n : H p = none) :
    RE c L σ (upd H p (.lst xs)) env ∧ Stp σ env H σ env (upd H p (.lst xs)) ∧ RepT c L (Nn σ env H) σ (upd H p (.lst xs)) env (.ref p) (.fr ds) := by
  have kp : ∀ b o, H b = some o → upd H p (.lst xs) b = some o := fun b o e => by rw [upd_ne (ne_of_none e n)]; exact e
  have r2 : RE c (fun b => L b ∨ b = p) σ (upd H p (.lst xs)) env := re.more kp n upd_same
  refine ⟨re.grow kp, .grow kp, p, xs, rfl, upd_same, ?_, fun l => ?_, ?_, .inr n, r2⟩
  · exact r.mono (re.tk (.grow kp)) fun b ys g e => ⟨⟨fun z => z.elim g.1 (fun z => by rw [z, n] at e; cases e), g.2⟩, kp _ _ e⟩
  · obtain ⟨_, ys, e⟩ := re.ext p l
    rw [n] at e
    cases e
  · cases e : c.H0 p with
    | none => rfl
    | some o =>
      by_cases i : c.Io p
      · obtain ⟨ys, q⟩ := re.io p i
        rw [n] at q
        cases q
      · have q := re.fr p o i e
        rw [n] at q
        cases q
@[simp] def dAdd : D → D → Option T
  | .int i, .int j => some (.im (.int (i + j)))
  | .str x, .str y => if x.length + y.length ≤ sizeLine then some (.im (.str (x ++ y))) else none
  | .tup xs, .tup ys => if xs.length + ys.length ≤ 1000000 then some (.im (.tup (xs ++ ys))) else none
  | .lst xs, .lst ys => if xs.length + ys.length ≤ 1000000 then some (.fr (xs ++ ys)) else none
  | _, _ => none
@[simp] def dSub : D → D → Option T
  | .int i, .int j => some (.im (.int (i - j)))
  | _, _ => none
@[simp] def dMul : D → D → Option T
  | .int i, .int j => if (-(2 ^ 64) < i ∧ i < 2 ^ 64) ∨ (-(2 ^ 64) < j ∧ j < 2 ^ 64) then some (.im (.int (i * j))) else none
  | _, _ => none
@[simp] def dFdiv : D → D → Option T
  | .int i, .int j => if 0 < j ∧ j < 1073741824 then some (.im (.int (i / j))) else none
  | _, _ => none
@[simp] def dMod : D → D → Option T
  | .int i, .int j => if 0 < j then some (.im (.int (i % j))) else none
  | _, _ => none
@[simp] def dPow : D → D → Option T
  | .int i, .int j => if 0 ≤ j ∧ j ≤ 1000000 ∧ i.natAbs < 2 ^ 64 then some (.im (.int (i ^ j.toNat))) else none
  | _, _ => none
@[simp] def dNeg : D → Option T
  | .int i => some (.im (.int (-i)))
  | _ => none
@[simp] def dLt : D → D → Option T
  | .int i, .int j => some (.im (.bl (decide (i < j))))
  | _, _ => none
@[simp] def dLe : D → D → Option T
  | .int i, .int j => some (.im (.bl (decide (i ≤ j))))
  | _, _ => none
@[simp] def dGt : D → D → Option T
  | .int i, .int j => some (.im (.bl (decide (j < i))))
  | _, _ => none
@[simp] def dGe : D → D → Option T
  | .int i, .int j => some (.im (.bl (decide (j ≤ i))))
  | _, _ => none
theorem line6 {n : Nat} (h : n ≤ 1000000) : n ≤ sizeLine := Nat.le_trans h (by rw [sizeLine_eq]; decide)
section
variable {X : Cx} {c : Cc}
theorem opd_I {C : Int → Int → Prop} {gv : Int → Int → V} {g : D → D → Option T} (h : ∀ x y t, g x y = some t → ∃ i j d, x = .int i ∧ y = .int j ∧ C i j ∧ t = .im d ∧ ∀ G H, Rep c.K G H (gv i j) d) : OpD c (rI C gv) g := by
  intro L σ H env x y dx dy t Q re hx hy e k
  obtain ⟨i, j, d, rfl, rfl, hc, rfl, r⟩ := h dx dy t e
  exact ⟨i, j, hx.int, hy.int, hc, k _ H re .refl (r _ _)⟩
theorem opd_I0 {gv : Int → Int → V} {g : D → D → Option T} (h : ∀ x y t, g x y = some t → ∃ i j d, x = .int i ∧ y = .int j ∧ t = .im d ∧ ∀ G H, Rep c.K G H (gv i j) d) : OpD c (rI0 gv) g := by
  intro L σ H env x y dx dy t Q re hx hy e k
  obtain ⟨i, j, d, rfl, rfl, rfl, r⟩ := h dx dy t e
  exact ⟨i, j, hx.int, hy.int, k _ H re .refl (r _ _)⟩
theorem d_sub : OpD c (rI0 fun i j => .int (i - j)) dSub := opd_I0 fun x y t h => by
  cases x <;> cases y <;> simp at h
  exact ⟨_, _, _, rfl, rfl, h.symm, fun _ _ => .int _⟩
theorem d_lt : OpD c (rI0 fun i j => .bl (decide (i < j))) dLt := opd_I0 fun x y t h => by
  cases x <;> cases y <;> simp at h
  exact ⟨_, _, _, rfl, rfl, h.symm, fun _ _ => .bl _⟩
theorem d_le : OpD c (rI0 fun i j => .bl (decide (i ≤ j))) dLe := opd_I0 fun x y t h => by
  cases x <;> cases y <;> simp at h
  exact ⟨_, _, _, rfl, rfl, h.symm, fun _ _ => .bl _⟩
theorem d_gt : OpD c (rI0 fun i j => .bl (decide (j < i))) dGt := opd_I0 fun x y t h => by
  cases x <;> cases y <;> simp at h
  exact ⟨_, _, _, rfl, rfl, h.symm, fun _ _ => .bl _⟩
theorem d_ge : OpD c (rI0 fun i j => .bl (decide (j ≤ i))) dGe := opd_I0 fun x y t h => by
  cases x <;> cases y <;> simp at h
  exact ⟨_, _, _, rfl, rfl, h.symm, fun _ _ => .bl _⟩
theorem d_mul : OpD c (rI CMul fun i j => .int (i * j)) dMul := opd_I fun x y t h => by
  cases x <;> cases y <;> simp only [dMul] at h <;> try (cases h; done)
  split at h
  · rename_i q
    exact ⟨_, _, _, rfl, rfl, q, (Option.some.inj h).symm, fun _ _ => .int _⟩
  · cases h
theorem d_fdiv : OpD c (rI CDiv fun i j => .int (i / j)) dFdiv := opd_I fun x y t h => by
  cases x <;> cases y <;> simp only [dFdiv] at h <;> try (cases h; done)
  split at h
  · rename_i q
    exact ⟨_, _, _, rfl, rfl, q, (Option.some.inj h).symm, fun _ _ => .int _⟩
  · cases h
theorem d_mod : OpD c (rI (fun _ j => 0 < j) fun i j => .int (i % j)) dMod := opd_I fun x y t h => by
  cases x <;> cases y <;> simp only [dMod] at h <;> try (cases h; done)
  split at h
  · rename_i q
    exact ⟨_, _, _, rfl, rfl, q, (Option.some.inj h).symm, fun _ _ => .int _⟩
  · cases h
theorem d_pow : OpD c (rI CPow fun i j => .int (i ^ j.toNat)) dPow := opd_I fun x y t h => by
  cases x <;> cases y <;> simp only [dPow] at h <;> try (cases h; done)
  split at h
  · rename_i q
    exact ⟨_, _, _, rfl, rfl, q, (Option.some.inj h).symm, fun _ _ => .int _⟩
  · cases h
theorem d_neg : UnD c (rU fun i => .int (-i)) dNeg := by
  intro L σ H env x dx t Q re hx e k
  cases dx <;> simp at e
  subst e
  exact ⟨_, hx.int, k _ H re .refl (.int _)⟩
abbrev rAddA (K : PySem.W.Frag) : R2 := fun x y H Q => rI0 (fun i j => .int (i + j)) x y H Q ∨ ((∃ i j, x = .str i ∧ y = .str j ∧ i.length + j.length ≤ sizeLine ∧ Q (.str (i ++ j)) H) ∨ (rCatA K x y H Q ∨ rCat x y H Q))
theorem op_addA : OpR X (binaryOp .Add) (rAddA X.K) := op_add.or (op_add_str.or (op_catA.or op_cat))
theorem d_add : OpD c (rAddA c.K) dAdd := by
  intro L σ H env x y dx dy t Q re hx hy e k
  cases dx <;> cases dy <;> simp only [dAdd] at e <;> try (cases e; done)
  · cases e
    exact .inl ⟨_, _, hx.int, hy.int, k _ H re .refl (.int _)⟩
  · split at e
    · rename_i q
      cases e
      exact .inr (.inl ⟨_, _, hx.str, hy.str, q, k _ H re .refl (.str _)⟩)
    · cases e
  · split at e
    · rename_i q
      cases e
      obtain ⟨a, xs, rfl, h1, r1⟩ := hx.tup
      obtain ⟨b, ys, rfl, h2, r2⟩ := hy.tup
      refine .inr (.inr (.inl ⟨a, b, xs, ys, rfl, rfl, h1, h2, ?_, fun z => ?_, fun _ z => ?_, fun _ _ => new_tup re (r1.append r2) k⟩))
      · rw [r1.length, r2.length]
        exact line6 q
      · subst z
        cases r1
        exact k _ H re .refl (.tup h2 r2)
      · subst z
        cases r2
        rw [List.append_nil] at k
        exact k _ H re .refl (.tup h1 r1)
    · cases e
  · split at e
    · rename_i q
      cases e
      obtain ⟨a, xs, rfl, h1, r1⟩ := hx.lst
      obtain ⟨b, ys, rfl, h2, r2⟩ := hy.lst
      refine .inr (.inr (.inr ⟨a, b, xs, ys, rfl, rfl, h1, h2, ?_, fun p n => ?_⟩))
      · rw [r1.length, r2.length]
        exact line6 q
      · obtain ⟨q1, q2, q3⟩ := re.newL (r1.append r2) n
        exact k _ _ q1 q2 q3
    · cases e
end
def dIx : D → D → Option T
  | .tup xs, .int i => (atI xs i).map .im
  | .lst xs, .int i => (atI xs i).map .im
  | .fz xs, .int i => (atI xs i).map .im
  | .str z, .int i => if z.length ≤ 1000000 then (atI z.cps.toList i).map fun c => .im (.str ⟨#[c]⟩) else none
  | _, _ => none
theorem atI_reps {K : PySem.W.Frag} {G : Addr → Prop} {H : Hp} {xs : List V} {ds : List D} {i : Int} {d : D} (r : Reps K G H xs ds) (h : atI ds i = some d) : ∃ v, atI xs i = some v ∧ Rep K G H v d := by
  unfold atI at h ⊢
  rw [r.length]
  cases e : ixN ds.length i with
  | none => rw [e] at h; cases h
  | some j =>
    rw [e] at h
    exact r.get h
section
variable {X : Cx} {c : Cc} {W : WX} {pos : Pos} {a b : Expr} {fa fb : FE}
theorem d_ix : OpD c (rIx c.K) dIx := by
  intro L σ H env x y dx dy t Q re hx hy e k
  cases dx <;> cases dy <;> simp only [dIx] at e <;> try (cases e; done)
  · split at e
    · rename_i hz
      obtain ⟨cc, e1, rfl⟩ := Option.map_eq_some_iff.mp e
      exact .inr (.inr ⟨_, _, cc, hx.str, hy.int, line6 hz, e1, k _ H re .refl (.str _)⟩)
    · cases e
  · obtain ⟨a, xs, rfl, h1, r1⟩ := hx.tup
    obtain ⟨d, e1, rfl⟩ := Option.map_eq_some_iff.mp e
    obtain ⟨v, e2, r⟩ := atI_reps r1 e1
    exact .inr (.inl ⟨a, xs, _, v, rfl, hy.int, h1, e2, k _ H re .refl r⟩)
  · obtain ⟨a, xs, rfl, h1, r1⟩ := hx.lst
    obtain ⟨d, e1, rfl⟩ := Option.map_eq_some_iff.mp e
    obtain ⟨v, e2, r⟩ := atI_reps r1 e1
    exact .inl ⟨a, xs, _, v, rfl, hy.int, .of h1, e2, k _ H re .refl r⟩
  · obtain ⟨a, xs, rfl, h1, r1⟩ := hx.fz
    obtain ⟨d, e1, rfl⟩ := Option.map_eq_some_iff.mp e
    obtain ⟨v, e2, r⟩ := atI_reps r1 e1
    exact .inl ⟨a, xs, _, v, rfl, hy.int, h1.sql, e2, k _ H re .refl r⟩
theorem de_ix (ha : PE X a (dE c W fa)) (hb : PE X b (dE c W fb)) (hs : PlainIx b) (hK : c.K = X.K := by rfl) : PE X (.Subscript a b pos) (dE c W (eOp dIx fa fb)) :=
  PEw (pe_ix ix_seq ha hb hs) (by have q := d_tOp (W := W) (fa := fa) (fb := fb) (d_ix (c := c)); rw [hK] at q; exact q)
end
end DL
namespace DL
open PySem PySem.Spec L2
variable [Wd]
abbrev Lu (L : Addr → Prop) (As : List Addr) : Addr → Prop := fun b => L b ∨ b ∈ As
inductive RepAs (K : PySem.W.Frag) (G : Addr → Prop) (σ : St) (H : Hp) (env : En) : List Addr → List V → List T → Prop
  | nil : RepAs K G σ H env [] [] []
  | im {As v d vs ts} (r : Rep K G H v d) (rs : RepAs K G σ H env As vs ts) : RepAs K G σ H env As (v :: vs) (.im d :: ts)
  | al {As v i vs ts} (o : ∃ (io : Bool) (ds : List D), env[i]? = some (Sl.own io ds)) (e : σ[i]? = some (some v)) (rs : RepAs K G σ H env As vs ts) : RepAs K G σ H env As (v :: vs) (.al i :: ts)
  | fr {As a xs ds vs ts} (n : a ∉ As) (e : H a = some (.lst xs)) (r : Reps K G H xs ds) (rs : RepAs K G σ H env As vs ts) : RepAs K G σ H env (a :: As) (.ref a :: vs) (.fr ds :: ts)
def dA (c : Cc) (W : WX) (f : FA) : TA := fun σ H Q => ∃ env L, RE c L σ H env ∧ dK c W L σ H env (f env) fun ts env' H' => ∀ vs As, RepAs c.K (Av (Lu L As) σ env') σ H' env' As vs ts → (∀ a ∈ As, ¬ L a ∧ c.H0 a = none ∧ Nn σ env H a) → RE c (Lu L As) σ H' env' → Q vs H'
theorem dA.of {c : Cc} {W : WX} {L : Addr → Prop} {σ : St} {H : Hp} {env : En} {f : FA} {Q : List V → Hp → Prop} (r : RE c L σ H env) (h : dK c W L σ H env (f env) fun ts env' H' => ∀ vs As, RepAs c.K (Av (Lu L As) σ env') σ H' env' As vs ts → (∀ a ∈ As, ¬ L a ∧ c.H0 a = none ∧ Nn σ env H a) → RE c (Lu L As) σ H' env' → Q vs H') : dA c W f σ H Q := ⟨env, L, r, h⟩
def aNil : FA := fun env => .ok [] env
def consT (t : T) (ts : List T) (e2 : En) : R (List T) := match t with
  | .al i => match e2[i]? with
    | some (.own _ _) => .ok (.al i :: ts) e2
    | _ => .er
  | .ft cs => .ok (.im (.tup (cs.map Cp.d)) :: ts) e2
  | .im d => .ok (.im d :: ts) e2
  | .fr ds => .ok (.fr ds :: ts) e2
def aCons (fa : FE) (fr : FA) : FA := fun env => (fa env).bind fun t e1 => (fr e1).bind fun ts e2 => consT t ts e2
section
variable {X : Cx} {c : Cc} {W : WX} {e : Expr} {es : List Expr} {fa : FE} {fr : FA}
theorem da_nil : PA X [] (dA c W aNil) := PAw pa_nil fun σ H Q h => by
  obtain ⟨env, L, r, h⟩ := h
  exact h H r .refl [] [] .nil (fun a z => by cases z) (r.less fun a z => z.elim id fun z => by cases z)
theorem Rep.past {L : Addr → Prop} {As : List Addr} {σ : St} {H H1 : Hp} {env env1 : En} {v : V} {d : D} (r : RE c L σ H env) (s : Stp σ env H σ env1 H1) (h : Rep c.K (Av L σ env) H v d) (n : ∀ a ∈ As, Nn σ env H a) : Rep c.K (Av (Lu L As) σ env1) H1 v d :=
  h.mono (r.tk s) fun a xs g e => by
    obtain ⟨e1, n1⟩ := s a (Nn.not e g.2)
    exact ⟨⟨fun z => z.elim g.1 (fun z => (n a z).elim g.2 (fun q => by rw [q] at e; cases e)), fun z => n1 (.inl z)⟩, e1.trans e⟩
theorem Reps.past {L : Addr → Prop} {As : List Addr} {σ : St} {H H1 : Hp} {env env1 : En} {v : List V} {d : List D} (r : RE c L σ H env) (s : Stp σ env H σ env1 H1) (h : Reps c.K (Av L σ env) H v d) (n : ∀ a ∈ As, Nn σ env H a) : Reps c.K (Av (Lu L As) σ env1) H1 v d :=
  h.mono (r.tk s) fun a xs g e => by
    obtain ⟨e1, n1⟩ := s a (Nn.not e g.2)
    exact ⟨⟨fun z => z.elim g.1 (fun z => (n a z).elim g.2 (fun q => by rw [q] at e; cases e)), fun z => n1 (.inl z)⟩, e1.trans e⟩
theorem d_aCons : ∀ σ H Q, dA c W (aCons fa fr) σ H Q → tCons (dE c W fa) (dA c W fr) σ H Q := fun σ H Q h => by
  obtain ⟨env, L, r, h⟩ := h
  refine dE.of r (h.bind.mono fun t e1 H1 r1 s1 h1 x q1 => ?_)
  -- the first is data
  have asIm : ∀ d, (∀ ts e2, consT t ts e2 = R.ok (T.im d :: ts) e2) → Rep c.K (Av L σ e1) H1 x d → dA c W fr σ H1 fun xs H2 => Q (x :: xs) H2 := fun d hm q => by
    refine dA.of r1 (h1.bind.mono fun ts e2 H2 r2 s2 h2 vs As q2 n2 r3 => ?_)
    rw [hm ts e2] at h2
    exact h2 H2 r2 .refl (x :: vs) As (.im (q.past r1 s2 fun a z => (n2 a z).2.2) q2) (fun a z => ⟨(n2 a z).1, (n2 a z).2.1, s1.back (n2 a z).2.2⟩) r3
  cases t with
  | im d => exact asIm d (fun _ _ => rfl) q1
  | ft cs => exact asIm _ (fun _ _ => rfl) q1.wk
  | al i =>
    refine dA.of r1 (h1.bind.mono fun ts e2 H2 r2 s2 h2 vs As q2 n2 r3 => ?_)
    cases q : e2[i]? with
    | none => simp only [consT, q] at h2; exact h2.elim
    | some s =>
      cases s with
      | no => simp only [consT, q] at h2; exact h2.elim
      | hd _ => simp only [consT, q] at h2; exact h2.elim
      | im d => simp only [consT, q] at h2; exact h2.elim
      | own io ds =>
        simp only [consT, q] at h2
        exact h2 H2 r2 .refl (x :: vs) As (.al ⟨io, ds, q⟩ q1.2 q2) (fun a z => ⟨(n2 a z).1, (n2 a z).2.1, s1.back (n2 a z).2.2⟩) r3
  | fr ds =>
    obtain ⟨a, xs, rfl, ea, ra, na, h0, nn, rL⟩ := q1
    refine dA.of rL ((h1.less (L' := fun b => L b ∨ b = a) fun b z => .inl z).bind.mono fun ts e2 H2 r2 s2 h2 vs As q2 n2 r3 => ?_)
    have e2a : H2 a = some (.lst xs) := (s2 a (Nn.not ea (rL.ext a (.inr rfl)).1)).1.trans ea
    have na2 : a ∉ As := fun z => (n2 a z).1 (.inr rfl)
    have key : ∀ b, Lu (fun b => L b ∨ b = a) As b ↔ Lu L (a :: As) b := fun b => by simp [Lu, or_assoc]
    have q2' : RepAs c.K (Av (Lu L (a :: As)) σ e2) σ H2 e2 As vs ts := by
      have : Av (Lu (fun b => L b ∨ b = a) As) σ e2 = Av (Lu L (a :: As)) σ e2 := by funext b; simp [Av, key b]
      rw [← this]; exact q2
    have ra' : Reps c.K (Av (Lu L (a :: As)) σ e2) H2 xs ds := by
      have : Av (Lu (fun b => L b ∨ b = a) As) σ e2 = Av (Lu L (a :: As)) σ e2 := by funext b; simp [Av, key b]
      rw [← this]; exact ra.past rL s2 fun b z => (n2 b z).2.2
    have r3' : RE c (Lu L (a :: As)) σ H2 e2 := r3.less fun b z => (key b).mpr z
    refine h2 H2 r2 .refl (.ref a :: vs) (a :: As) (.fr na2 e2a ra' q2') (fun b z => ?_) r3'
    rcases List.mem_cons.mp z with rfl | z
    · exact ⟨na, h0, nn⟩
    · exact ⟨fun l => (n2 b z).1 (.inl l), (n2 b z).2.1, s1.back (n2 b z).2.2⟩
theorem da_cons (ha : PE X e (dE c W fa)) (hr : PA X es (dA c W fr)) (hs : starEach (e :: es) X.env = (false, eval e X.env) :: starEach es X.env := by rfl) : PA X (e :: es) (dA c W (aCons fa fr)) := PAw (pa_cons ha hr hs) d_aCons
end
def vals (env : En) : List T → Option (List D)
  | [] => some []
  | t :: ts => match t.val env, vals env ts with
    | some d, some ds => some (d :: ds)
    | _, _ => none
inductive RepOs (K : PySem.W.Frag) (G : Addr → Prop) (H : Hp) : List V → List D → Prop
  | nil : RepOs K G H [] []
  | cons {v d vs ds} (r : RepO K G H v d) (rs : RepOs K G H vs ds) : RepOs K G H (v :: vs) (d :: ds)
section
variable {c : Cc} {L : Addr → Prop} {σ : St} {H : Hp} {env : En}
theorem RepAs.oprs {As0 : List Addr} : ∀ {As vs ts ds}, RepAs c.K (Av (Lu L As0) σ env) σ H env As vs ts → RE c L σ H env → RE c (Lu L As0) σ H env → (∀ a ∈ As, a ∈ As0 ∧ ¬ L a) → vals env ts = some ds → RepOs c.K (Av L σ env) H vs ds
  | _, _, _, ds, .nil, _, _, _, e => by cases e; exact .nil
  | _, _, _, ds, .im (d := d) (ts := ts) r rs, h, h2, n, e => by
    simp only [vals, val_im] at e
    cases q : vals env ts with
    | none => rw [q] at e; cases e
    | some es =>
      rw [q] at e
      cases e
      exact .cons (Rep.o (r.mono (.refl H) fun a xs g e => ⟨⟨fun z => g.1 (.inl z), g.2⟩, e⟩)) (RepAs.oprs rs h h2 n q)
  | _, _, _, ds, .al (i := i) (ts := ts) o es rs, h, h2, n, e => by
    simp only [vals] at e
    cases q : vals env ts with
    | none => rw [q] at e; split at e <;> cases e <;> simp_all
    | some es' =>
      cases qv : (T.al i).val env with
      | none => rw [qv] at e; cases e
      | some dv =>
        rw [q, qv] at e
        cases e
        exact .cons (RepT.opr0 (N := fun _ => True) h (t := .al i) ⟨o, es⟩ qv) (RepAs.oprs rs h h2 n q)
  | _, _, _, ds, .fr (a := a) (ts := ts) na ea r rs, h, h2, n, e => by
    simp only [vals, val_fr] at e
    cases q : vals env ts with
    | none => rw [q] at e; cases e
    | some es =>
      rw [q] at e
      cases e
      exact .cons ⟨a, _, rfl, ea, r.mono (.refl H) fun b xs g e => ⟨⟨fun z => g.1 (.inl z), g.2⟩, e⟩⟩ (RepAs.oprs rs h h2 (fun b z => n b (List.mem_cons_of_mem _ z)) q)
end
def CallD (c : Cc) (r : List V → Hp → VK → Prop) (g : List D → Option T) : Prop := ∀ (L : Addr → Prop) (σ : St) (H : Hp) (env : En) (xs : List V) (ds : List D) (t : T) (Q : VK), RE c L σ H env → RepOs c.K (Av L σ env) H xs ds → g ds = some t →
  (∀ v H', RE c L σ H' env → Stp σ env H σ env H' → RepT c L (Nn σ env H) σ H' env v t → Q v H') → r xs H Q
def opL (g : List D → Option T) (ts : List T) (env : En) : R T := match vals env ts with
  | some ds => R.opt (g ds) env
  | none => .er
def eB (g : List D → Option T) (fa : FA) : FE := fun env => (fa env).bind fun ts e1 => opL g ts e1
section
variable {X : Cx} {c : Cc} {W : WX} {pos p : Pos} {x : Str} {e : Expr} {es : List Expr} {fa : FA} {r : List V → Hp → VK → Prop} {g : List D → Option T} {id Ty : String}
theorem d_tCB (ho : CallD c r g) : ∀ σ H Q, dE c W (eB g fa) σ H Q → tCB r (dA c W fa) σ H Q := fun σ H Q h => by
  obtain ⟨env, L, re, h⟩ := dE_iff.mp h
  refine dA.of re (h.bind.mono fun ts e1 H1 r1 s1 h1 vs As q n r2 => ?_)
  unfold opL at h1
  cases ev : vals e1 ts with
  | none => rw [ev] at h1; exact h1.elim
  | some ds =>
    rw [ev] at h1
    cases eg : g ds with
    | none => simp only [eg] at h1; exact h1.elim
    | some t =>
      simp only [eg] at h1
      exact ho L σ H1 e1 vs ds t Q r1 (q.oprs r1 r2 (fun a z => ⟨z, (n a z).1⟩) ev) eg fun v H' re' s q => h1 H' re' s v (q.less (fun _ z => z) fun a n => s1.back n)
theorem de_b (ho : CallD c r g) (hc : CallR X (.builtin id) r) (hg : Gl X x) (hm : X.mg x = none) (hv : bootBuiltins x = some (.builtin id)) (ha : PA X (e :: es) (dA c W fa)) (hn : x ≠ "__name__" := by decide) (hdb : (x == ("__debug__" : Str)) = false := by decide)
    (he : starEach (e :: es) X.env = (false, eval e X.env) :: starEach es X.env := by rfl) (hpl : (backTo pos (starEach es X.env)).any (·.1) = false := by rfl) : PE X (.Call (.Name x p) (e :: es) [] pos) (dE c W (eB g fa)) :=
  PEw (pe_callB hc hg hm hv ha hn hdb he hpl) (d_tCB ho)
theorem de_ty (ho : CallD c r g) (hc : CallR X (.type Ty) r) (hg : Gl X x) (hm : X.mg x = none) (hv : bootBuiltins x = some (.type Ty)) (ha : PA X (e :: es) (dA c W fa)) (hn : x ≠ "__name__" := by decide) (hdb : (x == ("__debug__" : Str)) = false := by decide)
    (he : starEach (e :: es) X.env = (false, eval e X.env) :: starEach es X.env := by rfl) (hpl : (backTo pos (starEach es X.env)).any (·.1) = false := by rfl) : PE X (.Call (.Name x p) (e :: es) [] pos) (dE c W (eB g fa)) :=
  PEw (pe_callTy hc hg hm hv ha hn hdb he hpl) (d_tCB ho)
end
end DL
namespace DL
open PySem PySem.Spec L2
variable [Wd]
def mvs : List T → En → Option (List Cp × En)
  | [], env => some ([], env)
  | .im d :: ts, env => match mvs ts env with
    | some (cs, e) => some (⟨false, d⟩ :: cs, e)
    | none => none
  | .fr ds :: ts, env => match mvs ts env with
    | some (cs, e) => some (⟨true, .lst ds⟩ :: cs, e)
    | none => none
  | .al i :: ts, env => match env[i]? with
    | some (.own false ds) => match mvs ts (env.set i .no) with
      | some (cs, e) => some (⟨true, .lst ds⟩ :: cs, e)
      | none => none
    | _ => none
  | .ft _ :: _, _ => none
@[simp] theorem mvs_nil (env : En) : mvs [] env = some ([], env) := rfl
@[simp] theorem mvs_im (d : D) (ts : List T) (env : En) : mvs (.im d :: ts) env = (match mvs ts env with | some (cs, e) => some (⟨false, d⟩ :: cs, e) | none => none) := rfl
@[simp] theorem mvs_fr (d : List D) (ts : List T) (env : En) : mvs (.fr d :: ts) env = (match mvs ts env with | some (cs, e) => some (⟨true, .lst d⟩ :: cs, e) | none => none) := rfl
theorem own_set_no {σ : St} {env : En} {i : Nat} {b : Addr} (h : ownM σ (env.set i .no) b) : ownM σ env b ∧ ∃ (j : Nat) (io : Bool) (ds : List D), j ≠ i ∧ env[j]? = some (Sl.own io ds) ∧ σ[j]? = some (some (V.ref b)) := by
  obtain ⟨j, io, ds, e1, e2⟩ := h
  by_cases q : i = j
  · subst q
    rw [List.getElem?_set] at e1
    simp at e1
  · rw [List.getElem?_set_ne q] at e1
    exact ⟨⟨j, io, ds, e1, e2⟩, j, io, ds, fun z => q z.symm, e1, e2⟩
theorem own_keep {σ : St} {env : En} {i : Nat} {a b : Addr} (h : ownM σ env b) (n : b ≠ a) (s : σ[i]? = some (some (V.ref a))) : ownM σ (env.set i .no) b := by
  obtain ⟨j, io, ds, e1, e2⟩ := h
  have q : i ≠ j := fun q => by
    subst q
    rw [s] at e2
    cases e2
    exact n rfl
  exact ⟨j, io, ds, by rw [List.getElem?_set_ne q]; exact e1, e2⟩
theorem get_set_no {env : En} {i j : Nat} {s : Sl} (h : (env.set i .no)[j]? = some s) (n : s ≠ .no) : j ≠ i ∧ env[j]? = some s := by
  by_cases q : i = j
  · subst q
    rw [List.getElem?_set] at h
    simp at h
    exact absurd h.2.symm n
  · rw [List.getElem?_set_ne q] at h
    exact ⟨fun z => q z.symm, h⟩
theorem RE.drop {c : Cc} {L : Addr → Prop} {σ : St} {H : Hp} {env : En} {i : Nat} {ds : List D} {a : Addr} {io : Bool} (h : RE c L σ H env) (e : env[i]? = some (Sl.own io ds)) (s : σ[i]? = some (some (V.ref a))) : RE c (fun b => L b ∨ b = a) σ H (env.set i .no) ∧ Stp σ env H σ (env.set i .no) H := by
  have na : ¬ ownM σ (env.set i .no) a := fun z => by
    obtain ⟨_, j, jo, es, n, e1, e2⟩ := own_set_no z
    exact n (h.inj j i jo io es ds a e1 e e2 s)
  have oa : ownM σ env a := ⟨i, io, ds, e, s⟩
  have av : ∀ b, Av L σ env b → Av (fun b => L b ∨ b = a) σ (env.set i .no) b := fun b g => ⟨fun z => z.elim g.1 fun z => g.2 (by rw [z]; exact oa), fun z => g.2 (own_set_no z).1⟩
  refine ⟨⟨by rw [List.length_set]; exact h.len, fun j d q => ?_, fun j jo es q => ?_, fun j k jo ko ds es a q1 q2 q3 q4 => ?_, fun b lb => ?_, h.fr, h.io, hd_set h.hd (fun _ z => nomatch z)⟩, fun b n => ⟨rfl, fun z => n (z.imp (fun z => (own_set_no z).1) id)⟩⟩
  · obtain ⟨v, e1, r⟩ := h.im j d (get_set_no q (fun z => nomatch z)).2
    exact ⟨v, e1, r.mono (.refl H) fun b xs g q => ⟨av b g, q⟩⟩
  · obtain ⟨b, xs, e1, e2, r, z⟩ := h.own j jo es (get_set_no q (fun z => nomatch z)).2
    exact ⟨b, xs, e1, e2, r.mono (.refl H) fun b xs g q => ⟨av b g, q⟩, z⟩
  · exact h.inj j k jo ko ds es a (get_set_no q1 (fun z => nomatch z)).2 (get_set_no q2 (fun z => nomatch z)).2 q3 q4
  · rcases lb with lb | rfl
    · exact ⟨fun z => (h.ext b lb).1 (own_set_no z).1, (h.ext b lb).2⟩
    · obtain ⟨b', xs, e1, e2, _⟩ := h.own i io ds e
      rw [s] at e1
      cases e1
      exact ⟨na, xs, e2⟩
section
variable {c : Cc} {L G0 : Addr → Prop} {σ : St} {H : Hp} {env0 : En}
theorem RepAs.mv : ∀ {As vs ts}, RepAs c.K G0 σ H env0 As vs ts → ∀ (S : List Addr) (env : En), RE c (Lu L S) σ H env → (∀ b, G0 b ↔ Av (Lu L S) σ env b) → (∀ a ∈ As, a ∈ S) → ∀ {cs env'}, mvs ts env = some (cs, env') →
    ∃ S' Bs, RE c (Lu L S') σ H env' ∧ Stp σ env H σ env' H ∧ (∀ b, G0 b ↔ Av (Lu L S') σ env' b) ∧ (∀ b ∈ S, b ∈ S') ∧ RepC c.K G0 H Bs vs cs ∧ (∀ b ∈ Bs, b ∈ S' ∧ (b ∈ As ∨ (b ∉ S ∧ c.H0 b = none ∧ ownM σ env b ∧ ¬ L b))) ∧ (∀ b ∈ As, b ∈ Bs)
  | _, _, _, .nil, S, env, h, g, n, cs, env', e => by
    cases e
    exact ⟨S, [], h, .refl, g, fun _ z => z, .nil, (fun _ z => nomatch z), fun _ z => nomatch z⟩
  | _, _, _, .im (ts := ts) r rs, S, env, h, g, n, cs, env', e => by
    rw [mvs_im] at e
    cases q : mvs ts env with
    | none => rw [q] at e; cases e
    | some p =>
      obtain ⟨cs1, e1⟩ := p
      rw [q] at e
      cases e
      obtain ⟨S', Bs, h1, h2, h3, h4, h5, h6, h7⟩ := RepAs.mv rs S env h g n q
      exact ⟨S', Bs, h1, h2, h3, h4, .im r h5, h6, h7⟩
  | _, _, _, .fr (As := As) (a := a) (ts := ts) na ea r rs, S, env, h, g, n, cs, env', e => by
    rw [mvs_fr] at e
    cases q : mvs ts env with
    | none => rw [q] at e; cases e
    | some p =>
      obtain ⟨cs1, e1⟩ := p
      rw [q] at e
      cases e
      obtain ⟨S', Bs, h1, h2, h3, h4, h5, h6, h7⟩ := RepAs.mv rs S env h g (fun b z => n b (List.mem_cons_of_mem _ z)) q
      have aS : a ∈ S := n a List.mem_cons_self
      refine ⟨S', a :: Bs, h1, h2, h3, h4, .fr (fun z => ?_) ea r h5, fun b z => ?_, fun b z => ?_⟩
      · rcases (h6 a z).2 with z | z
        · exact na z
        · exact z.1 aS
      · rcases List.mem_cons.mp z with rfl | z
        · exact ⟨h4 b aS, .inl List.mem_cons_self⟩
        · exact ⟨(h6 b z).1, (h6 b z).2.imp (fun z => List.mem_cons_of_mem _ z) id⟩
      · rcases List.mem_cons.mp z with rfl | z
        · exact List.mem_cons_self
        · exact List.mem_cons_of_mem _ (h7 b z)
  | As, _, _, .al (i := i) (ts := ts) o es rs, S, env, h, g, n, cs, env', e => by
    unfold mvs at e
    cases q0 : env[i]? with
    | none => rw [q0] at e; cases e
    | some s =>
      cases s with
      | no => rw [q0] at e; cases e
      | hd _ => rw [q0] at e; cases e
      | im d => rw [q0] at e; cases e
      | own io ds =>
        cases io with
        | true => rw [q0] at e; cases e
        | false =>
          rw [q0] at e
          dsimp only at e
          cases q : mvs ts (env.set i .no) with
          | none => rw [q] at e; cases e
          | some p =>
            obtain ⟨cs1, e1⟩ := p
            rw [q] at e
            cases e
            obtain ⟨a, xs, ea, eb, r, f0, _⟩ := h.own i false ds q0
            rw [es] at ea
            cases ea
            obtain ⟨hd, sd⟩ := h.drop q0 es
            have oa : ownM σ env a := ⟨i, false, ds, q0, es⟩
            have naS : a ∉ S := fun z => (h.ext a (.inr z)).1 oa
            have naL : ¬ L a := fun z => (h.ext a (.inl z)).1 oa
            have key : ∀ b, Lu L (a :: S) b ↔ (Lu L S b ∨ b = a) := fun b => by simp [Lu, or_assoc, or_comm, or_left_comm]
            obtain ⟨S', Bs, h1, h2, h3, h4, h5, h6, h7⟩ := RepAs.mv rs (a :: S) (env.set i .no) (hd.less fun b z => (key b).mp z) (fun b => ⟨fun z => ⟨fun y => ((key b).mp y).elim ((g b).mp z).1 fun y => ((g b).mp z).2 (by rw [y]; exact oa), fun y => ((g b).mp z).2 (own_set_no y).1⟩, fun z => (g b).mpr ⟨fun y => z.1 ((key b).mpr (.inl y)), fun y => z.2 (own_keep y (fun q => z.1 ((key b).mpr (.inr q))) es)⟩⟩) (fun b z => List.mem_cons_of_mem _ (n b z)) q
            refine ⟨S', a :: Bs, h1, sd.trans h2, h3, fun b z => h4 b (List.mem_cons_of_mem _ z), .fr (fun z => ?_) eb (r.mono (.refl H) fun b ys gb eq => ⟨?_, eq⟩) h5, fun b z => ?_, fun b z => List.mem_cons_of_mem _ (h7 b z)⟩
            · rcases (h6 a z).2 with z | z
              · exact naS (n a z)
              · exact z.1 List.mem_cons_self
            · exact (g b).mpr gb
            · rcases List.mem_cons.mp z with rfl | z
              · exact ⟨h4 b List.mem_cons_self, .inr ⟨naS, f0 rfl, oa, naL⟩⟩
              · refine ⟨(h6 b z).1, (h6 b z).2.imp id fun ⟨z1, z2, z3, z4⟩ => ⟨fun y => z1 (List.mem_cons_of_mem _ y), z2, (own_set_no z3).1, z4⟩⟩
end
def mkTup (cs : List Cp) : T := if cs.all (fun c => !c.fr) = true then .im (.tup (cs.map Cp.d)) else .ft cs
@[simp] theorem mkTup_nil : mkTup [] = .im (.tup []) := rfl
def disp (k : List Cp → T) (ts : List T) (env : En) : R T := if ts.length ≤ 1000000 then (match mvs ts env with
  | some (cs, e) => .ok (k cs) e
  | none => .er) else .er
def eTup (fa : FA) : FE := fun env => (fa env).bind fun ts e1 => disp mkTup ts e1
def eLst (fa : FA) : FE := fun env => (fa env).bind fun ts e1 => disp (fun cs => .fr (cs.map Cp.d)) ts e1
theorem RepAs.length {K : PySem.W.Frag} {G : Addr → Prop} {σ : St} {H : Hp} {env : En} : ∀ {As vs ts}, RepAs K G σ H env As vs ts → vs.length = ts.length
  | _, _, _, .nil => rfl
  | _, _, _, .im _ rs => congrArg (· + 1) (RepAs.length rs)
  | _, _, _, .al _ _ rs => congrArg (· + 1) (RepAs.length rs)
  | _, _, _, .fr _ _ _ rs => congrArg (· + 1) (RepAs.length rs)
theorem RE.bare {c : Cc} {L : Addr → Prop} {σ : St} {H : Hp} {env : En} {As : List Addr} (h : RE c (Lu L As) σ H env) : RE c L σ H env := h.less fun _ z => .inl z
section
variable {X : Cx} {c : Cc} {W : WX} {pos : Pos} {es : List Expr} {fa : FA}
theorem disp_ok {k : List Cp → T} {L N : Addr → Prop} {σ : St} {H : Hp} {env : En} {vs : List V} {As : List Addr} {ts : List T} {P : T → En → Hp → Prop} {Q : Prop} (r : RE c (Lu L As) σ H env) (q : RepAs c.K (Av (Lu L As) σ env) σ H env As vs ts) (n : ∀ a ∈ As, ¬ L a ∧ c.H0 a = none ∧ N a)
    (nn : ∀ a, ownM σ env a → N a) (h : dK c W L σ H env (disp k ts env) P)
    (kk : vs.length ≤ sizeLine → ∀ cs env' Bs, RE c (Lu L Bs) σ H env' → Stp σ env H σ env' H → RepC c.K (Av (Lu L Bs) σ env') H Bs vs cs → (∀ a ∈ Bs, ¬ L a ∧ c.H0 a = none ∧ N a) → dK c W L σ H env (.ok (k cs) env') P → Q) : Q := by
  unfold disp at h
  split at h
  · rename_i len
    cases e : mvs ts env with
    | none => rw [e] at h; exact h.elim
    | some p =>
      obtain ⟨cs, env'⟩ := p
      rw [e] at h
      obtain ⟨S', Bs, h1, h2, h3, h4, h5, h6, h7⟩ := q.mv As env r (fun b => Iff.rfl) (fun _ z => z) e
      refine kk (by rw [q.length]; exact line6 len) cs env' Bs (h1.less fun b z => z.imp id fun z => (h6 b z).1) h2 (h5.mono (.refl H) (fun b xs g e => ⟨⟨fun z => ((h3 b).mp g).1 (z.imp id fun z => (h6 b z).1), ((h3 b).mp g).2⟩, e⟩) (fun _ _ _ e => e)) (fun b z => ?_) h
      rcases (h6 b z).2 with y | ⟨_, y2, y3, y4⟩
      · exact n b y
      · exact ⟨y4, y2, nn b y3⟩
  · exact h.elim
theorem RepC.none {K : PySem.W.Frag} {G : Addr → Prop} {H : Hp} : ∀ {As vs cs}, RepC K G H As vs cs → cs.all (fun c => !c.fr) = true → Reps K G H vs (cs.map Cp.d)
  | _, _, _, .nil, _ => .nil
  | _, _, _, .im r rs, h => .cons r (RepC.none rs (by simpa using h))
  | _, _, _, .fr .., h => by simp at h
theorem de_tup {x1} (ha : PA X es (dA c W fa)) : PE X (.Tuple es x1 pos) (dE c W (eTup fa)) := PEw (pe_tup ha) fun σ H Q h => by
  obtain ⟨env, L, re, h⟩ := dE_iff.mp h
  refine dA.of re (h.bind.mono fun ts e1 H1 r1 s1 h1 vs As q n r2 => ?_)
  refine disp_ok (N := Nn σ env H) r2 q (fun a z => n a z) (fun a z => s1.back (.inl z)) h1 fun len cs env' Bs r3 s3 q3 n3 h3 => ⟨len, fun p np => ?_⟩
  have kp : ∀ b o, H1 b = some o → upd H1 p (.tup vs) b = some o := fun b o e => by rw [upd_ne (ne_of_none e np)]; exact e
  have q4 : RepC c.K (Av (Lu L Bs) σ env') (upd H1 p (.tup vs)) Bs vs cs := q3.mono (r3.tk (.grow kp)) (fun b xs g e => ⟨g, kp _ _ e⟩) fun b z xs e => kp _ _ e
  have r4 : RE c (Lu L Bs) σ (upd H1 p (.tup vs)) env' := r3.grow kp
  have key : RepT c L (Nn σ env H) σ (upd H1 p (.tup vs)) env' (.ref p) (.ft cs) := ⟨p, vs, Bs, rfl, .inl (.inl upd_same), q4, n3, r4⟩
  refine h3 _ r4.bare (s3.trans (.grow kp)) _ ?_
  unfold mkTup
  split
  · exact key.wk
  · exact key
theorem de_lst (ha : PA X es (dA c W fa)) : PE X (.List es pos) (dE c W (eLst fa)) := PEw (pe_lst ha) fun σ H Q h => by
  obtain ⟨env, L, re, h⟩ := dE_iff.mp h
  refine dA.of re (h.bind.mono fun ts e1 H1 r1 s1 h1 vs As q n r2 => ?_)
  refine disp_ok (N := Nn σ env H) r2 q (fun a z => n a z) (fun a z => s1.back (.inl z)) h1 fun len cs env' Bs r3 s3 q3 n3 h3 => ⟨len, fun p np => ?_⟩
  have rp : Reps c.K (Av L σ env') H1 vs (cs.map Cp.d) := q3.reps (fun b g => ⟨fun z => g.1 (.inl z), g.2⟩) fun a z => ⟨(n3 a z).1, (r3.ext a (.inr z)).1⟩
  obtain ⟨y1, y2, y3⟩ := r3.bare.newL rp np
  exact h3 _ y1 (s3.trans y2) _ (y3.less (fun _ z => z) fun a z => s1.back (s3.back z))
end
end DL
namespace DL
open PySem PySem.Spec L2
variable [Wd]
mutual
def toP : D → PyData
  | .non => .none
  | .bl b => .bool b
  | .int i => .int i
  | .str x => .str x
  | .tup xs => .tuple (toPs xs)
  | .lst xs => .list (toPs xs)
  | .fz xs => .list (toPs xs)
  | .dct _ _ => .dict []
  | .kd _ _ => .dict []
def toPs : List D → List PyData
  | [] => []
  | x :: xs => toP x :: toPs xs
end
theorem toPs_map : ∀ ds, toPs ds = ds.map toP
  | [] => rfl
  | d :: ds => by rw [toPs, toPs_map ds]; rfl
section
variable {K : PySem.W.Frag} {G : Addr → Prop} {H : Hp}
mutual
theorem Rep.dp : ∀ {v d}, Rep K G H v d → (toP d).plain = true → Dp K H v (toP d)
  | _, _, .non, _ => .non
  | _, _, .bl b, _ => .bl b
  | _, _, .int i, _ => .int i
  | _, _, .str x, _ => .str x
  | _, _, .tup h r, p => .tup h (Reps.dp r p)
  | _, _, .lst g h r, p => .lst (.of h) (Reps.dp r p)
  | _, _, .fz h r, p => .lst h.sql (Reps.dp r p)
  | _, _, .dct _ _ _ _ _, p => nomatch p
  | _, _, .kd _ _ _ _ _, p => nomatch p
theorem Reps.dp : ∀ {v d}, Reps K G H v d → PyData.plainAll (toPs d) = true → DpAll K H v (toPs d)
  | _, _, .nil, _ => .nil
  | _, _, .cons (d := d) (ds := ds) r rs, p => by
    have p : ((toP d).plain && PyData.plainAll (toPs ds)) = true := p
    rw [Bool.and_eq_true] at p
    exact .cons (Rep.dp r p.1) (Reps.dp rs p.2)
end
end
def eqv (x y : D) : Bool := PyData.eqv (toP x) (toP y)
def eqvs (xs ys : List D) : Bool := PyData.eqvAll (toPs xs) (toPs ys)
def shp (x : D) : Bool := SeqAt.shaped (toP x)
@[simp] theorem eqv_ii (i j : Int) : eqv (.int i) (.int j) = (i == j) := rfl
@[simp] theorem eqv_bb (i j : Bool) : eqv (.bl i) (.bl j) = (i == j) := rfl
@[simp] theorem eqv_ss (i j : Str) : eqv (.str i) (.str j) = (i == j) := rfl
@[simp] theorem eqv_nn : eqv .non .non = true := rfl
@[simp] theorem eqv_tt (i j : List D) : eqv (.tup i) (.tup j) = eqvs i j := rfl
@[simp] theorem eqv_ll (i j : List D) : eqv (.lst i) (.lst j) = eqvs i j := rfl
@[simp] theorem eqv_fl (i j : List D) : eqv (.fz i) (.lst j) = eqvs i j := rfl
@[simp] theorem eqv_is (i : Int) (x : Str) : eqv (.int i) (.str x) = false := rfl
@[simp] theorem eqv_si (i : Int) (x : Str) : eqv (.str x) (.int i) = false := rfl
@[simp] theorem eqv_ns (x : Str) : eqv .non (.str x) = false := rfl
@[simp] theorem eqv_ni (x : Int) : eqv .non (.int x) = false := rfl
@[simp] theorem eqv_in (x : Int) : eqv (.int x) .non = false := rfl
@[simp] theorem eqv_sn (x : Str) : eqv (.str x) .non = false := rfl
@[simp] theorem eqv_ts (i : List D) (x : Str) : eqv (.tup i) (.str x) = false := rfl
@[simp] theorem eqv_ti (i : List D) (x : Int) : eqv (.tup i) (.int x) = false := rfl
@[simp] theorem eqv_it (i : List D) (x : Int) : eqv (.int x) (.tup i) = false := rfl
@[simp] theorem eqv_ls (i : List D) (x : Str) : eqv (.lst i) (.str x) = false := rfl
@[simp] theorem eqv_tn (i : List D) : eqv (.tup i) .non = false := rfl
@[simp] theorem eqv_nt (i : List D) : eqv .non (.tup i) = false := rfl
@[simp] theorem eqv_tl (i j : List D) : eqv (.tup i) (.lst j) = false := rfl
@[simp] theorem eqv_lt (i j : List D) : eqv (.lst i) (.tup j) = false := rfl
@[simp] theorem eqvs_nn : eqvs [] [] = true := rfl
@[simp] theorem eqvs_cn (x : D) (xs : List D) : eqvs (x :: xs) [] = false := rfl
@[simp] theorem eqvs_nc (x : D) (xs : List D) : eqvs [] (x :: xs) = false := rfl
@[simp] theorem eqvs_cc (x y : D) (xs ys : List D) : eqvs (x :: xs) (y :: ys) = (eqv x y && eqvs xs ys) := rfl
mutual
def lay : D → Bool
  | .str x => PySem.PyData.strOk x
  | .tup xs => lays xs
  | .lst xs => lays xs
  | .fz xs => lays xs
  | .dct _ _ => false
  | .kd _ _ => false
  | _ => true
def lays : List D → Bool
  | [] => true
  | x :: xs => lay x && lays xs
end
mutual
def dep : D → Nat
  | .tup xs => deps xs + 1
  | .lst xs => deps xs + 1
  | .fz xs => deps xs + 1
  | .dct _ _ => 1
  | .kd _ _ => 1
  | _ => 0
def deps : List D → Nat
  | [] => 0
  | x :: xs => max (dep x) (deps xs)
end
mutual
theorem lay_toP : ∀ d, PyData.canLay0 (toP d) = lay d
  | .non => rfl
  | .bl _ => rfl
  | .int _ => rfl
  | .str _ => rfl
  | .tup xs => lays_toP xs
  | .lst xs => lays_toP xs
  | .fz xs => lays_toP xs
  | .dct _ _ => rfl
  | .kd _ _ => rfl
theorem lays_toP : ∀ d, PyData.canLayAll0 (toPs d) = lays d
  | [] => rfl
  | x :: xs => by
    show (PyData.canLay0 (toP x) && PyData.canLayAll0 (toPs xs)) = (lay x && lays xs)
    rw [lay_toP x, lays_toP xs]
end
mutual
theorem dep_toP : ∀ d, PyData.depth (toP d) = dep d
  | .non => rfl
  | .bl _ => rfl
  | .int _ => rfl
  | .str _ => rfl
  | .tup xs => congrArg (· + 1) (deps_toP xs)
  | .lst xs => congrArg (· + 1) (deps_toP xs)
  | .fz xs => congrArg (· + 1) (deps_toP xs)
  | .dct _ _ => rfl
  | .kd _ _ => rfl
theorem deps_toP : ∀ d, PyData.depthAll (toPs d) = deps d
  | [] => rfl
  | x :: xs => by
    show max (PyData.depth (toP x)) (PyData.depthAll (toPs xs)) = max (dep x) (deps xs)
    rw [dep_toP x, deps_toP xs]
end
theorem shp_eq (d : D) : shp d = (lay d && decide (dep d ≤ 64)) := by
  unfold shp SeqAt.shaped
  rw [lay_toP, dep_toP]
def dEq (x y : D) : Option T := if shp x = true ∧ shp y = true then some (.im (.bl (eqv x y))) else none
def dNe (x y : D) : Option T := if shp x = true ∧ shp y = true then some (.im (.bl (!eqv x y))) else none
section
variable {X : Cx} {c : Cc} {W : WX} {pos : Pos} {a b : Expr} {fa fb : FE}
theorem plain_of_shp {d : D} (h : shp d = true) : (toP d).plain = true := by
  unfold shp SeqAt.shaped at h
  rw [Bool.and_eq_true] at h
  exact PyData.plain_of_canLay0 _ h.1
theorem RepO.dp {K : PySem.W.Frag} {G : Addr → Prop} {H : Hp} {v : V} {d : D} (h : RepO K G H v d) (p : (toP d).plain = true) : Dp K H v (toP d) := h.any.dp p
theorem d_eq : OpD c (rEqD c.K) dEq := by
  intro L σ H env x y dx dy t Q re hx hy e k
  unfold dEq at e
  split at e
  · rename_i q
    cases e
    exact ⟨_, _, hx.dp (plain_of_shp q.1), hy.dp (plain_of_shp q.2), q.1, q.2, k _ H re .refl (.bl _)⟩
  · cases e
theorem d_ne : OpD c (rNeD c.K) dNe := by
  intro L σ H env x y dx dy t Q re hx hy e k
  unfold dNe at e
  split at e
  · rename_i q
    cases e
    exact ⟨_, _, hx.dp (plain_of_shp q.1), hy.dp (plain_of_shp q.2), q.1, q.2, k _ H re .refl (.bl _)⟩
  · cases e
@[simp] def dIs : D → D → Option T
  | .bl a, .bl b => some (.im (.bl (decide (a = b))))
  | .non, .non => some (.im (.bl true))
  | _, .non => some (.im (.bl false))
  | _, _ => none
@[simp] def dNis : D → D → Option T
  | .bl a, .bl b => some (.im (.bl (!decide (a = b))))
  | .non, .non => some (.im (.bl false))
  | _, .non => some (.im (.bl true))
  | _, _ => none
abbrev rIs : R2 := fun x y H Q => (y = .non ∧ Q (.bl (decide (x = .non))) H) ∨ rIsB x y H Q
abbrev rNis : R2 := fun x y H Q => (y = .non ∧ Q (.bl (!decide (x = .non))) H) ∨ rNotB x y H Q
theorem op_is : OpR X (compareOp .Is) rIs := op_isN.or op_isBl
theorem op_nis : OpR X (compareOp .IsNot) rNis := op_notN.or op_notBl
theorem d_is : OpD c rIs dIs := by
  intro L σ H env x y dx dy t Q re hx hy e k
  have key : ∀ d : D, RepO c.K (Av L σ env) H x d → d ≠ .non → Rep c.K (Av L σ env) H (.bl (decide (x = .non))) (.bl false) := fun d h n => by
    rw [decide_eq_false (not_non h n)]
    exact .bl _
  cases dy <;> cases dx <;> simp only [dIs] at e <;> (try (cases e; done)) <;> cases e
  · refine .inl ⟨hy.non, k _ H re .refl ?_⟩
    rw [hx.non]
    exact .bl _
  · exact .inl ⟨hy.non, k _ H re .refl (key _ hx (fun z => nomatch z))⟩
  · exact .inl ⟨hy.non, k _ H re .refl (key _ hx (fun z => nomatch z))⟩
  · exact .inl ⟨hy.non, k _ H re .refl (key _ hx (fun z => nomatch z))⟩
  · exact .inl ⟨hy.non, k _ H re .refl (key _ hx (fun z => nomatch z))⟩
  · exact .inl ⟨hy.non, k _ H re .refl (key _ hx (fun z => nomatch z))⟩
  · exact .inl ⟨hy.non, k _ H re .refl (key _ hx (fun z => nomatch z))⟩
  · exact .inl ⟨hy.non, k _ H re .refl (key _ hx (fun z => nomatch z))⟩
  · exact .inl ⟨hy.non, k _ H re .refl (key _ hx (fun z => nomatch z))⟩
  · exact .inr ⟨_, _, hx.bl, hy.bl, k _ H re .refl (.bl _)⟩
theorem d_nis : OpD c rNis dNis := by
  intro L σ H env x y dx dy t Q re hx hy e k
  have key : ∀ d : D, RepO c.K (Av L σ env) H x d → d ≠ .non → Rep c.K (Av L σ env) H (.bl (!decide (x = .non))) (.bl true) := fun d h n => by
    rw [decide_eq_false (not_non h n)]
    exact .bl _
  cases dy <;> cases dx <;> simp only [dNis] at e <;> (try (cases e; done)) <;> cases e
  · refine .inl ⟨hy.non, k _ H re .refl ?_⟩
    rw [hx.non]
    exact .bl _
  · exact .inl ⟨hy.non, k _ H re .refl (key _ hx (fun z => nomatch z))⟩
  · exact .inl ⟨hy.non, k _ H re .refl (key _ hx (fun z => nomatch z))⟩
  · exact .inl ⟨hy.non, k _ H re .refl (key _ hx (fun z => nomatch z))⟩
  · exact .inl ⟨hy.non, k _ H re .refl (key _ hx (fun z => nomatch z))⟩
  · exact .inl ⟨hy.non, k _ H re .refl (key _ hx (fun z => nomatch z))⟩
  · exact .inl ⟨hy.non, k _ H re .refl (key _ hx (fun z => nomatch z))⟩
  · exact .inl ⟨hy.non, k _ H re .refl (key _ hx (fun z => nomatch z))⟩
  · exact .inl ⟨hy.non, k _ H re .refl (key _ hx (fun z => nomatch z))⟩
  · exact .inr ⟨_, _, hx.bl, hy.bl, k _ H re .refl (.bl _)⟩
def sc : D → Bool
  | .non => true
  | .bl _ => true
  | .int _ => true
  | .str _ => true
  | _ => false
def items : D → Option (List D)
  | .tup ds => some ds
  | .lst ds => some ds
  | .fz ds => some ds
  | _ => none
@[simp] theorem items_tup (ds : List D) : items (.tup ds) = some ds := rfl
@[simp] theorem items_lst (ds : List D) : items (.lst ds) = some ds := rfl
@[simp] theorem items_fz (ds : List D) : items (.fz ds) = some ds := rfl
def hasD (x : D) (ds : List D) : Bool := ds.any fun y => eqv y x
@[simp] theorem hasD_nil (x : D) : hasD x [] = false := rfl
@[simp] theorem hasD_cons (x y : D) (ds : List D) : hasD x (y :: ds) = (eqv y x || hasD x ds) := rfl
def dIn (neg : Bool) (x y : D) : Option T := match items y with
  | some ds => if sc x = true ∧ ds.all sc = true then some (.im (.bl (if neg then !hasD x ds else hasD x ds))) else none
  | none => none
theorem sc_flat {K : PySem.W.Frag} {G : Addr → Prop} {H : Hp} {v : V} {d : D} (h : Rep K G H v d) (s : sc d = true) : flatV v = true := by
  cases h <;> simp_all [sc, flatV]
theorem sc_eqV {K : PySem.W.Frag} {G G' : Addr → Prop} {H : Hp} {v w : V} {d e : D} (h : Rep K G H v d) (s : sc d = true) (h' : Rep K G' H w e) (s' : sc e = true) : eqV v w = eqv d e := by
  cases h <;> first | (simp [sc] at s; done) | (cases h' <;> first | (simp [sc] at s'; done) | rfl)
theorem scs_flat {K : PySem.W.Frag} {G : Addr → Prop} {H : Hp} : ∀ {vs ds}, Reps K G H vs ds → ds.all sc = true → vs.all flatV = true
  | _, _, .nil, _ => rfl
  | _, _, .cons r rs, h => by
    simp only [List.all_cons, Bool.and_eq_true] at h ⊢
    exact ⟨sc_flat r h.1, scs_flat rs h.2⟩
theorem inV_has {K : PySem.W.Frag} {G G' : Addr → Prop} {H : Hp} {w : V} {e : D} (h' : Rep K G' H w e) (s' : sc e = true) : ∀ {vs ds}, Reps K G H vs ds → ds.all sc = true → inV w vs = hasD e ds
  | _, _, .nil, _ => rfl
  | _, _, .cons r rs, h => by
    simp only [List.all_cons, Bool.and_eq_true] at h
    have ih := inV_has h' s' rs h.2
    unfold inV at ih ⊢
    rw [List.any_cons, hasD_cons, ih, sc_eqV r h.1 h' s']
theorem RepO.seq {K : PySem.W.Frag} {G : Addr → Prop} {H : Hp} {v : V} {d : D} {ds : List D} (h : RepO K G H v d) (e : items d = some ds) : ∃ a xs, v = .ref a ∧ (SqL K H a xs ∨ SqT K H a xs) ∧ Reps K G H xs ds := by
  cases d <;> simp only [items] at e <;> (try (cases e; done)) <;> cases e
  · obtain ⟨a, xs, e1, e2, r⟩ := h.tup
    exact ⟨a, xs, e1, .inr e2, r⟩
  · obtain ⟨a, xs, e1, e2, r⟩ := h.lst
    exact ⟨a, xs, e1, .inl (.of e2), r⟩
  · obtain ⟨a, xs, e1, e2, r⟩ := h.fz
    exact ⟨a, xs, e1, .inl e2.sql, r⟩
theorem d_in (neg : Bool) : OpD c (rIn c.K neg) (dIn neg) := by
  intro L σ H env x y dx dy t Q re hx hy e k
  unfold dIn at e
  cases q : items dy with
  | none => rw [q] at e; cases e
  | some ds =>
    rw [q] at e
    dsimp only at e
    split at e
    · rename_i s
      cases e
      obtain ⟨a, xs, rfl, h, r⟩ := hy.seq q
      refine ⟨a, xs, rfl, h, sc_flat hx.any s.1, scs_flat r s.2, k _ H re .refl ?_⟩
      rw [inV_has hx.any s.1 r s.2]
      exact .bl _
    · cases e
def dLen : List D → Option T
  | [.str z] => if z.length ≤ sizeLine then some (.im (.int z.length)) else none
  | [d] => (items d).map fun ds => .im (.int ds.length)
  | _ => none
@[simp] theorem dLen_tup (ds : List D) : dLen [.tup ds] = some (.im (.int ds.length)) := rfl
@[simp] theorem dLen_lst (ds : List D) : dLen [.lst ds] = some (.im (.int ds.length)) := rfl
@[simp] theorem dLen_fz (ds : List D) : dLen [.fz ds] = some (.im (.int ds.length)) := rfl
abbrev rLenA (K : PySem.W.Frag) : List V → Hp → VK → Prop := fun xs H Q => (∃ z, xs = [.str z] ∧ z.length ≤ sizeLine ∧ Q (.int z.length) H) ∨ ∃ p ys, xs = [.ref p] ∧ (SqL K H p ys ∨ SqT K H p ys) ∧ Q (.int ys.length) H
theorem call_lenA : CallR X (.builtin "len") (rLenA X.K) := call_len_str.or call_len_seq
theorem RepOs.one {K : PySem.W.Frag} {G : Addr → Prop} {H : Hp} {vs : List V} {d : D} (h : RepOs K G H vs [d]) : ∃ v, vs = [v] ∧ RepO K G H v d := by
  cases h with
  | cons r rs => cases rs; exact ⟨_, rfl, r⟩
theorem RepOs.two {K : PySem.W.Frag} {G : Addr → Prop} {H : Hp} {vs : List V} {d e : D} (h : RepOs K G H vs [d, e]) : ∃ v w, vs = [v, w] ∧ RepO K G H v d ∧ RepO K G H w e := by
  cases h with
  | cons r rs =>
    obtain ⟨w, rfl, q⟩ := rs.one
    exact ⟨_, w, rfl, r, q⟩
theorem d_len : CallD c (rLenA c.K) dLen := by
  intro L σ H env xs ds t Q re hx e k
  have go : ∀ d es, ds = [d] → items d = some es → t = .im (.int es.length) → rLenA c.K xs H Q := fun d es e1 e2 e3 => by
    subst e1 e3
    obtain ⟨v, rfl, r⟩ := hx.one
    obtain ⟨a, ys, rfl, h, rs⟩ := r.seq e2
    refine .inr ⟨a, ys, rfl, h, k _ H re .refl ?_⟩
    rw [rs.length]
    exact .int _
  unfold dLen at e
  split at e
  · split at e
    · rename_i z q
      cases e
      obtain ⟨v, rfl, r⟩ := hx.one
      rw [r.str]
      exact .inl ⟨z, rfl, q, k _ H re .refl (.int _)⟩
    · cases e
  · rename_i d _
    cases q : items d with
    | none => rw [q] at e; cases e
    | some es =>
      rw [q] at e
      exact go d es rfl q (Option.some.inj e).symm
  · cases e
def dTuple : List D → Option T
  | [.lst ds] => some (.im (.tup ds))
  | [.tup ds] => some (.im (.tup ds))
  | [.fz ds] => some (.im (.tup ds))
  | _ => none
@[simp] theorem dTuple_lst (ds : List D) : dTuple [.lst ds] = some (.im (.tup ds)) := rfl
@[simp] theorem dTuple_tup (ds : List D) : dTuple [.tup ds] = some (.im (.tup ds)) := rfl
abbrev rTuple (K : PySem.W.Frag) : List V → Hp → VK → Prop := fun xs H Q => ∃ p ys, xs = [.ref p] ∧ ((SqL K H p ys ∧ ∀ l, H l = none → Q (.ref l) (upd H l (.tup ys))) ∨ (SqT K H p ys ∧ Q (.ref p) H))
theorem d_tuple : CallD c (rTuple c.K) dTuple := by
  intro L σ H env xs ds t Q re hx e k
  unfold dTuple at e
  split at e <;> (try (cases e; done)) <;> cases e
  · obtain ⟨v, rfl, r⟩ := hx.one
    obtain ⟨a, ys, rfl, h, rs⟩ := r.lst
    exact ⟨a, ys, rfl, .inl ⟨.of h, new_tup re rs k⟩⟩
  · obtain ⟨v, rfl, r⟩ := hx.one
    obtain ⟨a, ys, rfl, h, rs⟩ := r.tup
    exact ⟨a, ys, rfl, .inr ⟨h, k _ H re .refl (.tup h rs)⟩⟩
  · obtain ⟨v, rfl, r⟩ := hx.one
    obtain ⟨a, ys, rfl, h, rs⟩ := r.fz
    exact ⟨a, ys, rfl, .inl ⟨h.sql, new_tup re rs k⟩⟩
def dList : List D → Option T
  | [d] => (items d).map .fr
  | _ => none
@[simp] theorem dList_lst (ds : List D) : dList [.lst ds] = some (.fr ds) := rfl
@[simp] theorem dList_tup (ds : List D) : dList [.tup ds] = some (.fr ds) := rfl
abbrev rListA (K : PySem.W.Frag) : List V → Hp → VK → Prop := fun xs H Q => ∃ p ys, xs = [.ref p] ∧ (SqL K H p ys ∨ SqT K H p ys) ∧ ∀ l, H l = none → Q (.ref l) (upd H l (.lst ys))
theorem d_list : CallD c (rListA c.K) dList := by
  intro L σ H env xs ds t Q re hx e k
  unfold dList at e
  split at e
  · rename_i d
    obtain ⟨v, rfl, r⟩ := hx.one
    obtain ⟨es, e1, rfl⟩ := Option.map_eq_some_iff.mp e
    obtain ⟨a, ys, rfl, h, rs⟩ := r.seq e1
    refine ⟨a, ys, rfl, h, fun l nl => ?_⟩
    obtain ⟨y1, y2, y3⟩ := re.newL rs nl
    exact k _ _ y1 y2 y3
  · cases e
@[simp] def dMax2 : List D → Option T
  | [.int i, .int j] => some (.im (.int (if j > i then j else i)))
  | _ => none
@[simp] def dMin2 : List D → Option T
  | [.int i, .int j] => some (.im (.int (if j < i then j else i)))
  | _ => none
theorem d_max2 : CallD c (fun xs H Q => ∃ i j, xs = [.int i, .int j] ∧ Q (.int (if j > i then j else i)) H) dMax2 := by
  intro L σ H env xs ds t Q re hx e k
  unfold dMax2 at e
  split at e <;> cases e
  obtain ⟨v, w, rfl, r, s⟩ := hx.two
  rw [r.int, s.int]
  exact ⟨_, _, rfl, k _ H re .refl (.int _)⟩
theorem d_min2 : CallD c (fun xs H Q => ∃ i j, xs = [.int i, .int j] ∧ Q (.int (if j < i then j else i)) H) dMin2 := by
  intro L σ H env xs ds t Q re hx e k
  unfold dMin2 at e
  split at e <;> cases e
  obtain ⟨v, w, rfl, r, s⟩ := hx.two
  rw [r.int, s.int]
  exact ⟨_, _, rfl, k _ H re .refl (.int _)⟩
@[simp] def dAbs : List D → Option T
  | [.int i] => some (.im (.int (if i < 0 then -i else i)))
  | _ => none
def intsOf : List D → Option (List Int)
  | [] => some []
  | .int i :: ds => (intsOf ds).map (i :: ·)
  | _ => none
def blsOf : List D → Option (List Bool)
  | [] => some []
  | .bl i :: ds => (blsOf ds).map (i :: ·)
  | _ => none
@[simp] theorem intsOf_nil : intsOf [] = some [] := rfl
@[simp] theorem intsOf_cons (i : Int) (ds : List D) : intsOf (.int i :: ds) = (intsOf ds).map (i :: ·) := rfl
@[simp] theorem blsOf_nil : blsOf [] = some [] := rfl
@[simp] theorem blsOf_cons (i : Bool) (ds : List D) : blsOf (.bl i :: ds) = (blsOf ds).map (i :: ·) := rfl
@[simp] theorem intsOf_map : ∀ ns : List Int, intsOf (ns.map D.int) = some ns
  | [] => rfl
  | n :: ns => by rw [List.map_cons, intsOf_cons, intsOf_map ns]; rfl
@[simp] theorem blsOf_map : ∀ ns : List Bool, blsOf (ns.map D.bl) = some ns
  | [] => rfl
  | n :: ns => by rw [List.map_cons, blsOf_cons, blsOf_map ns]; rfl
theorem intsOf_is : ∀ {ds ns}, intsOf ds = some ns → ds = ns.map D.int
  | [], ns, h => by cases h; rfl
  | d :: ds, ns, h => by
    cases d <;> simp only [intsOf] at h <;> (try (cases h; done))
    obtain ⟨ms, e, rfl⟩ := Option.map_eq_some_iff.mp h
    rw [intsOf_is e]
    rfl
theorem blsOf_is : ∀ {ds ns}, blsOf ds = some ns → ds = ns.map D.bl
  | [], ns, h => by cases h; rfl
  | d :: ds, ns, h => by
    cases d <;> simp only [blsOf] at h <;> (try (cases h; done))
    obtain ⟨ms, e, rfl⟩ := Option.map_eq_some_iff.mp h
    rw [blsOf_is e]
    rfl
def rSumT (K : PySem.W.Frag) : List V → Hp → VK → Prop := fun vs H Q => ∃ (a : Addr) (ns : List Int), vs = [V.ref a] ∧ SqT K H a (ns.map V.int) ∧ Q (.int ns.sum) H
theorem cr_sumT (hc : X.calm = true) : CallR X (.builtin "sum") (rSumT X.K) := by
  intro pins s σ H vs us Q I r h
  obtain ⟨a, ns, rfl, hs, q⟩ := h
  obtain ⟨its, rv, ht, _⟩ := I.tuple hs
  rw [Vals.ref1 r]
  have hi := rv.ints
  obtain ⟨xs, e⟩ := hi.allInts.items
  have hn : numsOf (intItems xs).toList = ns := by rw [← e]; exact hi.numsOf
  rw [nums_intItems] at hn
  rw [e] at ht
  have hlt : a < s.heap.objs.size := ht.lt
  refine call_sum_walkG (wpAny_pyIter_tuple (show s.heap.IsTuple a (intItems xs) from ht) ?_)
  refine ⟨_, _, _, _, _, _, numAt xs, rfl, Walks.tuple (A := X.A.in1) (I.ok.hd hc) s.heap.objs.size a (Nat.ne_of_lt hlt) (intItems xs), ⟨⟨_, Heap.get?_push_size _ rfl, rfl, rfl⟩, ?_⟩, fun b hb => ?_, fun _ _ => intItems_at, fun h' tk t' hk => ?_⟩
  · obtain ⟨o, e1, e2⟩ := ht
    exact ⟨o, Heap.get?_push_of_some _ e1, e2⟩
  · have q : b = s.heap.objs.size ∨ b = a := by simpa using hb
    show b < (s.heap.push _).objs.size
    rw [Heap.size_push]
    rcases q with rfl | rfl
    · exact Nat.lt_succ_self _
    · exact Nat.lt_succ_of_lt hlt
  · refine ⟨.int _, H, I.kept fun b o eo => hk b o (fun hmem => ?_) (Heap.get?_push_of_some _ eo), ⟨t', ?_⟩, q⟩
    · rcases List.mem_cons.mp hmem with e1 | hmem
      · exact absurd (e1 ▸ Heap.lt_size eo) (Nat.lt_irrefl _)
      · cases hmem
    · rw [preSum_eq, List.take_of_length_le (by simp [intItems]), hn]
abbrev rSumA (K : PySem.W.Frag) : List V → Hp → VK → Prop := fun xs H Q => rSum K xs H Q ∨ rSumT K xs H Q
theorem call_sumA (hc : X.calm = true) : CallR X (.builtin "sum") (rSumA X.K) := (cr_sum hc).or (cr_sumT hc)
def dSum : List D → Option T
  | [d] => match items d with
    | some ds => (intsOf ds).map fun ns => .im (.int ns.sum)
    | none => none
  | _ => none
@[simp] theorem dSum_lst (ds : List D) : dSum [.lst ds] = (intsOf ds).map fun ns => .im (.int ns.sum) := rfl
@[simp] theorem dSum_tup (ds : List D) : dSum [.tup ds] = (intsOf ds).map fun ns => .im (.int ns.sum) := rfl
theorem d_sum : CallD c (rSumA c.K) dSum := by
  intro L σ H env xs ds t Q re hx e k
  unfold dSum at e
  split at e
  · rename_i d
    obtain ⟨v, rfl, r⟩ := hx.one
    cases q : items d with
    | none => rw [q] at e; cases e
    | some es =>
      rw [q] at e
      obtain ⟨ns, e1, rfl⟩ := Option.map_eq_some_iff.mp e
      obtain ⟨a, ys, rfl, h, rs⟩ := r.seq q
      rw [intsOf_is e1] at rs
      rw [rs.ints] at h
      rcases h with h | h
      · exact .inl ⟨a, ns, rfl, h, k _ H re .refl (.int _)⟩
      · exact .inr ⟨a, ns, rfl, h, k _ H re .refl (.int _)⟩
  · cases e
def dAll : List D → Option T
  | [.lst ds] => (blsOf ds).map fun bs => .im (.bl (bs.all id))
  | _ => none
def dAny : List D → Option T
  | [.lst ds] => (blsOf ds).map fun bs => .im (.bl (bs.any id))
  | _ => none
@[simp] theorem dAll_lst (ds : List D) : dAll [.lst ds] = (blsOf ds).map fun bs => .im (.bl (bs.all id)) := rfl
@[simp] theorem dAny_lst (ds : List D) : dAny [.lst ds] = (blsOf ds).map fun bs => .im (.bl (bs.any id)) := rfl
theorem d_all : CallD c (rAll c.K) dAll := by
  intro L σ H env xs ds t Q re hx e k
  unfold dAll at e
  split at e
  · obtain ⟨v, rfl, r⟩ := hx.one
    obtain ⟨ns, e1, rfl⟩ := Option.map_eq_some_iff.mp e
    obtain ⟨a, ys, rfl, h, rs⟩ := r.lst
    rw [blsOf_is e1] at rs
    rw [rs.bls] at h
    exact ⟨a, ns, rfl, .of h, k _ H re .refl (.bl _)⟩
  · cases e
theorem d_any : CallD c (rAny c.K) dAny := by
  intro L σ H env xs ds t Q re hx e k
  unfold dAny at e
  split at e
  · obtain ⟨v, rfl, r⟩ := hx.one
    obtain ⟨ns, e1, rfl⟩ := Option.map_eq_some_iff.mp e
    obtain ⟨a, ys, rfl, h, rs⟩ := r.lst
    rw [blsOf_is e1] at rs
    rw [rs.bls] at h
    exact ⟨a, ns, rfl, .of h, k _ H re .refl (.bl _)⟩
  · cases e
def isTy (Ty : String) : D → Option Bool
  | .non => kitB "NoneType" Ty
  | .bl _ => kitB "bool" Ty
  | .int _ => kitB "int" Ty
  | .str _ => kitB "str" Ty
  | .tup _ => kitB "tuple" Ty
  | .lst _ => kitB "list" Ty
  | .fz _ => kitB "list" Ty
  | .dct _ _ => kitB "dict" Ty
  | .kd _ _ => kitB "dict" Ty
def eIsi (Ty : String) (fa : FE) : FE := fun env => (fa env).bind fun t e => op1 (fun d => (isTy Ty d).map fun b => .im (.bl b)) t e
inductive TyZ (K : PySem.W.Frag) (H : Hp) : V → Value → Prop where
  | x {v : V} {t : Value} (h : TyX K H v t) : TyZ K H v t
  | dct {a : Addr} {o : Obj} {u : HO} (e : H a = some (.frz o u)) (c : o.cls = .type "dict") : TyZ K H (.ref a) (.type "dict")
def rIsZ (K : PySem.W.Frag) : List V → Hp → VK → Prop := fun xs H Q => ∃ (x k : V) (t u : Value) (b : Bool), xs = [x, k] ∧ ClsV k u ∧ TyZ K H x t ∧ PySem.W.kitOne K t u = some b ∧ Q (.bl b) H
theorem call_isZ {X : Cx} : CallR X (.builtin "isinstance") (rIsZ X.K) := by
  intro pins s σ H xs us Q I r h
  obtain ⟨x, k, t, u, b, rfl, hk, ty, e, q⟩ := h
  cases ty with
  | x ty => exact call_isi pins s σ H _ us Q I r ⟨x, k, t, u, b, rfl, hk, ty, e, q⟩
  | dct ea c =>
    cases r with
    | cons r1 r =>
      cases r with
      | cons r2 r =>
        cases r
        cases r1
        rename_i a o _ _
        obtain rfl := hk.eq r2
        have z := (show ObjOk X.prog X.w H s.heap a _ from I.hok a _ ea).1
        exact PySem.W.kia_one PySem.W.kitx_dict I.kIn ⟨o, z, c⟩ e (fun z => nomatch z) fun tk => ⟨.bl b, H, I.tok tk, rfl, q⟩
theorem RepO.ty {K : PySem.W.Frag} {G : Addr → Prop} {H : Hp} {v : V} {d : D} (h : RepO K G H v d) : ∃ s : String, TyZ K H v (.type s) ∧ ∀ Ty, isTy Ty d = kitB s Ty := by
  cases d with
  | non => rw [h.non]; exact ⟨_, .x (.base .non), fun _ => rfl⟩
  | bl b => rw [h.bl]; exact ⟨_, .x (.base (.bl b)), fun _ => rfl⟩
  | int i => rw [h.int]; exact ⟨_, .x (.base (.int i)), fun _ => rfl⟩
  | str x => rw [h.str]; exact ⟨_, .x (.base (.str x)), fun _ => rfl⟩
  | tup xs =>
    obtain ⟨a, ys, rfl, h, rs⟩ := h.tup
    rcases h with (h | ⟨o, h⟩) | ⟨o, its, n, h, h2, _⟩
    · exact ⟨"tuple", .x (.base (.tup h)), fun _ => rfl⟩
    · exact ⟨"tuple", .x (.fTuple h), fun _ => rfl⟩
    · exact ⟨"tuple", .x (.kTuple h h2), fun _ => rfl⟩
  | lst xs =>
    obtain ⟨a, ys, rfl, h, rs⟩ := h.lst
    exact ⟨"list", .x (.base (.lst h)), fun _ => rfl⟩
  | fz xs =>
    obtain ⟨a, ys, rfl, h, rs⟩ := h.fz
    rcases h with ⟨o, h⟩ | ⟨o, its, n, h, h2, _⟩
    · exact ⟨"list", .x (.base (.frz h)), fun _ => rfl⟩
    · exact ⟨"list", .x (.kList h h2), fun _ => rfl⟩
  | dct ks vs =>
    cases (show Rep K G H v (.dct ks vs) from h) with
    | dct hh ho hq hk rs => exact ⟨"dict", .dct hh ho.ex.1, fun _ => rfl⟩
  | kd ks vs =>
    cases (show Rep K G H v (.kd ks vs) from h) with
    | kd hh ho hq hk rs => exact ⟨"dict", .dct hh ho.ex.1, fun _ => rfl⟩
theorem de_isi {p : Pos} {Tn : String} (hg : Gl X "isinstance") (hm : X.mg "isinstance" = none) (ha : PE X a (dE c W fa)) (hb : PE X b (tC (.ty Tn))) (ht : Tn ∈ ["int", "bool", "str", "tuple", "list", "dict"] := by decide) (hK : c.K = X.K := by rfl)
    (he : starEach [a, b] X.env = (false, eval a X.env) :: starEach [b] X.env := by rfl) (he2 : starEach [b] X.env = (false, eval b X.env) :: starEach [] X.env := by rfl) (hpl : (backTo pos (starEach [b] X.env)).any (·.1) = false := by rfl) :
    PE X (.Call (.Name "isinstance" p) [a, b] [] pos) (dE c W (eIsi Tn fa)) :=
  PEw (pe_callB call_isZ hg hm (by decide +kernel) (pa_cons ha (pa_cons hb pa_nil he2) he) (by decide) (by decide) he hpl) fun σ H Q h => by
    obtain ⟨env, L, re, h⟩ := dE_iff.mp h
    refine dE.of re (h.bind.mono fun ta e1 H1 r1 s1 h1 x q1 => ?_)
    unfold op1 at h1
    cases ea : ta.val e1 with
    | none => rw [ea] at h1; exact h1.elim
    | some dx =>
      rw [ea] at h1
      dsimp only at h1
      cases eb : isTy Tn dx with
      | none => rw [eb] at h1; exact h1.elim
      | some k =>
        rw [eb] at h1
        obtain ⟨s, tx, es⟩ := (q1.opr0 r1 ea).ty
        rw [hK] at tx
        exact ⟨x, .ty Tn, .type s, .type Tn, k, rfl, .ty Tn, tx, kit_ty ((es Tn).symm.trans eb), h1 H1 r1 .refl _ (.bl k)⟩
end
@[simp] theorem isTy_int_non : isTy "int" (.non) = some false := (by decide +kernel : kitB "NoneType" "int" = some false)
@[simp] theorem isTy_int_bl (b : Bool) : isTy "int" (.bl b) = some true := (by decide +kernel : kitB "bool" "int" = some true)
@[simp] theorem isTy_int_int (b : Int) : isTy "int" (.int b) = some true := (by decide +kernel : kitB "int" "int" = some true)
@[simp] theorem isTy_int_str (b : Str) : isTy "int" (.str b) = some false := (by decide +kernel : kitB "str" "int" = some false)
@[simp] theorem isTy_int_tup (b : List D) : isTy "int" (.tup b) = some false := (by decide +kernel : kitB "tuple" "int" = some false)
@[simp] theorem isTy_int_lst (b : List D) : isTy "int" (.lst b) = some false := (by decide +kernel : kitB "list" "int" = some false)
@[simp] theorem isTy_int_dct (a b : List D) : isTy "int" (.dct a b) = some false := (by decide +kernel : kitB "dict" "int" = some false)
@[simp] theorem isTy_int_kd (a b : List D) : isTy "int" (.kd a b) = some false := (by decide +kernel : kitB "dict" "int" = some false)
@[simp] theorem isTy_int_fz (b : List D) : isTy "int" (.fz b) = some false := (by decide +kernel : kitB "list" "int" = some false)
@[simp] theorem isTy_bool_non : isTy "bool" (.non) = some false := (by decide +kernel : kitB "NoneType" "bool" = some false)
@[simp] theorem isTy_bool_bl (b : Bool) : isTy "bool" (.bl b) = some true := (by decide +kernel : kitB "bool" "bool" = some true)
@[simp] theorem isTy_bool_int (b : Int) : isTy "bool" (.int b) = some false := (by decide +kernel : kitB "int" "bool" = some false)
@[simp] theorem isTy_bool_str (b : Str) : isTy "bool" (.str b) = some false := (by decide +kernel : kitB "str" "bool" = some false)
@[simp] theorem isTy_bool_tup (b : List D) : isTy "bool" (.tup b) = some false := (by decide +kernel : kitB "tuple" "bool" = some false)
@[simp] theorem isTy_bool_lst (b : List D) : isTy "bool" (.lst b) = some false := (by decide +kernel : kitB "list" "bool" = some false)
@[simp] theorem isTy_bool_dct (a b : List D) : isTy "bool" (.dct a b) = some false := (by decide +kernel : kitB "dict" "bool" = some false)
@[simp] theorem isTy_bool_kd (a b : List D) : isTy "bool" (.kd a b) = some false := (by decide +kernel : kitB "dict" "bool" = some false)
@[simp] theorem isTy_bool_fz (b : List D) : isTy "bool" (.fz b) = some false := (by decide +kernel : kitB "list" "bool" = some false)
@[simp] theorem isTy_str_non : isTy "str" (.non) = some false := (by decide +kernel : kitB "NoneType" "str" = some false)
@[simp] theorem isTy_str_bl (b : Bool) : isTy "str" (.bl b) = some false := (by decide +kernel : kitB "bool" "str" = some false)
@[simp] theorem isTy_str_int (b : Int) : isTy "str" (.int b) = some false := (by decide +kernel : kitB "int" "str" = some false)
@[simp] theorem isTy_str_str (b : Str) : isTy "str" (.str b) = some true := (by decide +kernel : kitB "str" "str" = some true)
@[simp] theorem isTy_str_tup (b : List D) : isTy "str" (.tup b) = some false := (by decide +kernel : kitB "tuple" "str" = some false)
@[simp] theorem isTy_str_lst (b : List D) : isTy "str" (.lst b) = some false := (by decide +kernel : kitB "list" "str" = some false)
@[simp] theorem isTy_str_dct (a b : List D) : isTy "str" (.dct a b) = some false := (by decide +kernel : kitB "dict" "str" = some false)
@[simp] theorem isTy_str_kd (a b : List D) : isTy "str" (.kd a b) = some false := (by decide +kernel : kitB "dict" "str" = some false)
@[simp] theorem isTy_str_fz (b : List D) : isTy "str" (.fz b) = some false := (by decide +kernel : kitB "list" "str" = some false)
@[simp] theorem isTy_tuple_non : isTy "tuple" (.non) = some false := (by decide +kernel : kitB "NoneType" "tuple" = some false)
@[simp] theorem isTy_tuple_bl (b : Bool) : isTy "tuple" (.bl b) = some false := (by decide +kernel : kitB "bool" "tuple" = some false)
@[simp] theorem isTy_tuple_int (b : Int) : isTy "tuple" (.int b) = some false := (by decide +kernel : kitB "int" "tuple" = some false)
@[simp] theorem isTy_tuple_str (b : Str) : isTy "tuple" (.str b) = some false := (by decide +kernel : kitB "str" "tuple" = some false)
@[simp] theorem isTy_tuple_tup (b : List D) : isTy "tuple" (.tup b) = some true := (by decide +kernel : kitB "tuple" "tuple" = some true)
@[simp] theorem isTy_tuple_lst (b : List D) : isTy "tuple" (.lst b) = some false := (by decide +kernel : kitB "list" "tuple" = some false)
@[simp] theorem isTy_tuple_dct (a b : List D) : isTy "tuple" (.dct a b) = some false := (by decide +kernel : kitB "dict" "tuple" = some false)
@[simp] theorem isTy_tuple_kd (a b : List D) : isTy "tuple" (.kd a b) = some false := (by decide +kernel : kitB "dict" "tuple" = some false)
@[simp] theorem isTy_tuple_fz (b : List D) : isTy "tuple" (.fz b) = some false := (by decide +kernel : kitB "list" "tuple" = some false)
@[simp] theorem isTy_list_non : isTy "list" (.non) = some false := (by decide +kernel : kitB "NoneType" "list" = some false)
@[simp] theorem isTy_list_bl (b : Bool) : isTy "list" (.bl b) = some false := (by decide +kernel : kitB "bool" "list" = some false)
@[simp] theorem isTy_list_int (b : Int) : isTy "list" (.int b) = some false := (by decide +kernel : kitB "int" "list" = some false)
@[simp] theorem isTy_list_str (b : Str) : isTy "list" (.str b) = some false := (by decide +kernel : kitB "str" "list" = some false)
@[simp] theorem isTy_list_tup (b : List D) : isTy "list" (.tup b) = some false := (by decide +kernel : kitB "tuple" "list" = some false)
@[simp] theorem isTy_list_lst (b : List D) : isTy "list" (.lst b) = some true := (by decide +kernel : kitB "list" "list" = some true)
@[simp] theorem isTy_list_dct (a b : List D) : isTy "list" (.dct a b) = some false := (by decide +kernel : kitB "dict" "list" = some false)
@[simp] theorem isTy_list_kd (a b : List D) : isTy "list" (.kd a b) = some false := (by decide +kernel : kitB "dict" "list" = some false)
@[simp] theorem isTy_list_fz (b : List D) : isTy "list" (.fz b) = some true := (by decide +kernel : kitB "list" "list" = some true)
end DL
namespace DL
open PySem PySem.Spec L2
variable [Wd]
def toB (t : T) (env : En) : R Bool := match t.val env with
  | some (.bl b) => .ok b env
  | _ => .er
@[simp] theorem toB_bl (b : Bool) (env : En) : toB (.im (.bl b)) env = .ok b env := rfl
def tV (fa : FE) : FT := fun env => (fa env).bind fun t e => toB t e
def tAn (fa fb : FT) : FT := fun env => (fa env).bind fun b e => bif b then fb e else .ok false e
def tOr' (fa fb : FT) : FT := fun env => (fa env).bind fun b e => bif b then .ok true e else fb e
def tNo (fa : FT) : FT := fun env => (fa env).bind fun b e => .ok (!b) e
def eAn (fa fb : FE) : FE := fun env => (fa env).bind fun t e => (toB t e).bind fun b e => bif b then fb e else .ok (.im (.bl false)) e
def eOr (fa fb : FE) : FE := fun env => (fa env).bind fun t e => (toB t e).bind fun b e => bif b then .ok (.im (.bl true)) e else fb e
def eNo (fa : FE) : FE := fun env => (fa env).bind fun t e => (toB t e).bind fun b e => .ok (.im (.bl (!b))) e
def eIf (fc : FT) (fa fb : FE) : FE := fun env => (fc env).bind fun b e => bif b then fa e else fb e
def eCh (g g' : D → D → Option T) (fa fb fc : FE) : FE := fun env => (fa env).bind fun ta e1 => (fb e1).bind fun tb e2 => (op2 g ta tb e2).bind fun t e2 => (toB t e2).bind fun b e2 => bif b then (fc e2).bind fun tc e3 => op2 g' tb tc e3 else .ok (.im (.bl false)) e2
section
variable {X : Cx} {c : Cc} {W : WX} {pos : Pos} {a b e3 : Expr} {fa fb fc : FE} {ft fu : FT} {rest : List Expr}
theorem toB_K {L N : Addr → Prop} {σ : St} {H : Hp} {env : En} {t : T} {v : V} {P : Bool → En → Hp → Prop} (r : RE c L σ H env) (q : RepT c L N σ H env v t) (h : dK c W L σ H env (toB t env) P) : ∃ b, v = .bl b ∧ dK c W L σ H env (.ok b env) P := by
  unfold toB at h
  cases e : t.val env with
  | none => rw [e] at h; exact h.elim
  | some d =>
    rw [e] at h
    cases d with
    | bl b => exact ⟨b, (q.opr0 r e).bl, h⟩
    | non => exact h.elim
    | int i => exact h.elim
    | str x => exact h.elim
    | tup xs => exact h.elim
    | lst xs => exact h.elim
    | fz xs => exact h.elim
    | dct _ _ => exact h.elim
    | kd _ _ => exact h.elim
theorem d_tB : ∀ σ H Q, dT c W (tV fa) σ H Q → tB (dE c W fa) σ H Q := fun σ H Q h => by
  obtain ⟨env, L, r, h⟩ := dT_iff.mp h
  refine dE.of r (h.bind.mono fun t e1 H1 r1 s1 h1 v q => ?_)
  obtain ⟨b, rfl, h2⟩ := toB_K r1 q h1
  exact ⟨b, rfl, h2 H1 r1 .refl⟩
theorem dt_val (h : PE X a (dE c W fa)) (he : ∀ whole, isTrue a X.env whole = (do let v ← whole; standAt a.pos; holding [v] (truthy v)) := by intro _; rfl) : PT X a (dT c W (tV fa)) := PTw (pt_val h he) d_tB
theorem dt_cmp {op : CmpOp} {r : R2} {g : D → D → Option T} (hr : OpR X (compareOp op) r) (ho : OpD c r g) (ha : PE X a (dE c W fa)) (hb : PE X b (dE c W fb)) (hm : behindInMarks op b = false) : PT X (.Compare a [op] [b] pos) (dT c W (tV (eOp g fa fb))) :=
  PTw (pt_cmpR hr ha hb hm) fun σ H Q h => by
    obtain ⟨env, L, r, h⟩ := dT_iff.mp h
    have key := d_tB (fa := eOp g fa fb) σ H Q ⟨env, L, r, h⟩
    exact d_tOp ho σ H _ key
theorem dt_and1 (ha : PT X a (dT c W ft)) : PW X (.BoolOp .And [a] pos) (dT c W ft) := pw_and1 ha
theorem dt_or1 (ha : PT X a (dT c W ft)) : PW X (.BoolOp .Or [a] pos) (dT c W ft) := pw_or1 ha
theorem dt_and (ha : PT X a (dT c W ft)) (hb : PW X (.BoolOp .And (b :: rest) pos) (dT c W fu)) : PW X (.BoolOp .And (a :: b :: rest) pos) (dT c W (tAn ft fu)) := PWw (pw_and ha hb) fun σ H Q h => by
  obtain ⟨env, L, r, h⟩ := dT_iff.mp h
  refine dT.of r (h.bind.mono fun b e1 H1 r1 s1 h1 => ?_)
  cases b with
  | true => rw [if_pos rfl]; exact dT.of r1 h1
  | false => rw [if_neg Bool.false_ne_true]; exact h1 H1 r1 .refl
theorem dt_or (ha : PT X a (dT c W ft)) (hb : PW X (.BoolOp .Or (b :: rest) pos) (dT c W fu)) : PW X (.BoolOp .Or (a :: b :: rest) pos) (dT c W (tOr' ft fu)) := PWw (pw_or ha hb) fun σ H Q h => by
  obtain ⟨env, L, r, h⟩ := dT_iff.mp h
  refine dT.of r (h.bind.mono fun b e1 H1 r1 s1 h1 => ?_)
  cases b with
  | true => rw [if_pos rfl]; exact h1 H1 r1 .refl
  | false => rw [if_neg Bool.false_ne_true]; exact dT.of r1 h1
theorem dt_not (ha : PT X a (dT c W ft)) : PT X (.UnaryOp .Not a pos) (dT c W (tNo ft)) := PTw (pt_not ha) fun σ H Q h => by
  obtain ⟨env, L, r, h⟩ := dT_iff.mp h
  exact dT.of r (h.bind.mono fun b e1 H1 r1 s1 h1 => h1 H1 r1 .refl)
theorem de_one {op} (h : PE X a (dE c W fa)) : PE X (.BoolOp op [a] pos) (dE c W fa) := pe_one h
theorem de_and (ha : PE X a (dE c W fa)) (hb : PE X (.BoolOp .And (b :: rest) pos) (dE c W fb)) : PE X (.BoolOp .And (a :: b :: rest) pos) (dE c W (eAn fa fb)) := PEw (pe_and ha hb) fun σ H Q h => by
  obtain ⟨env, L, r, h⟩ := dE_iff.mp h
  refine dE.of r (h.bind.mono fun t e1 H1 r1 s1 h1 v q => ?_)
  obtain ⟨b, rfl, h2⟩ := toB_K r1 q h1.bind
  refine ⟨b, rfl, ?_⟩
  have h3 := h2 H1 r1 .refl
  cases b with
  | true => rw [if_pos rfl]; exact dE.of r1 (h3.mono fun t e2 H2 r2 s2 h4 v q => h4 v (q.less (fun _ z => z) fun a n => s1.back n))
  | false => rw [if_neg Bool.false_ne_true]; exact h3 H1 r1 .refl _ (.bl false)
theorem de_or (ha : PE X a (dE c W fa)) (hb : PE X (.BoolOp .Or (b :: rest) pos) (dE c W fb)) : PE X (.BoolOp .Or (a :: b :: rest) pos) (dE c W (eOr fa fb)) := PEw (pe_or ha hb) fun σ H Q h => by
  obtain ⟨env, L, r, h⟩ := dE_iff.mp h
  refine dE.of r (h.bind.mono fun t e1 H1 r1 s1 h1 v q => ?_)
  obtain ⟨b, rfl, h2⟩ := toB_K r1 q h1.bind
  refine ⟨b, rfl, ?_⟩
  have h3 := h2 H1 r1 .refl
  cases b with
  | true => rw [if_pos rfl]; exact h3 H1 r1 .refl _ (.bl true)
  | false => rw [if_neg Bool.false_ne_true]; exact dE.of r1 (h3.mono fun t e2 H2 r2 s2 h4 v q => h4 v (q.less (fun _ z => z) fun a n => s1.back n))
theorem de_not (ha : PE X a (dE c W fa)) : PE X (.UnaryOp .Not a pos) (dE c W (eNo fa)) := PEw (pe_not ha) fun σ H Q h => by
  obtain ⟨env, L, r, h⟩ := dE_iff.mp h
  refine dE.of r (h.bind.mono fun t e1 H1 r1 s1 h1 v q => ?_)
  obtain ⟨b, rfl, h2⟩ := toB_K r1 q h1.bind
  exact ⟨b, rfl, (h2 H1 r1 .refl) H1 r1 .refl _ (.bl _)⟩
theorem de_if {tc : Expr} (hc : PT X tc (dT c W ft)) (ha : PE X a (dE c W fa)) (hb : PE X b (dE c W fb)) : PE X (.IfExp tc a b pos) (dE c W (eIf ft fa fb)) := PEw (pe_ifExp hc ha hb) fun σ H Q h => by
  obtain ⟨env, L, r, h⟩ := dE_iff.mp h
  refine dT.of r (h.bind.mono fun b e1 H1 r1 s1 h1 => ?_)
  cases b with
  | true => rw [if_pos rfl]; exact dE.of r1 (h1.mono fun t e2 H2 r2 s2 h4 v q => h4 v (q.less (fun _ z => z) fun a n => s1.back n))
  | false => rw [if_neg Bool.false_ne_true]; exact dE.of r1 (h1.mono fun t e2 H2 r2 s2 h4 v q => h4 v (q.less (fun _ z => z) fun a n => s1.back n))
theorem d_chain {r r' : R2} {g g' : D → D → Option T} (ho : OpD c r g) (ho' : OpD c r' g') : ∀ σ H Q, dE c W (eCh g g' fa fb fc) σ H Q → tChain r r' (dE c W fa) (dE c W fb) (dE c W fc) σ H Q := fun σ H Q h => by
  obtain ⟨env, L, re, h⟩ := dE_iff.mp h
  refine dE.of re (h.bind.mono fun ta e1 H1 r1 s1 h1 x q1 => ?_)
  refine dE.of r1 (h1.bind.mono fun tb e2 H2 r2 s2 h2 y q2 => ?_)
  have h2 := h2.bind
  refine dK_op2 (W := W) (N1 := fun _ => True) (N2 := fun _ => True) (N := Nn σ env H) ho r2 (fun d e => q1.opr r1 s2 r2 e) (fun d e => q2.opr0 r2 e) (fun a n => s1.back (s2.back n)) (h2.mono fun t e3 H3 r3 s3 h3 z q3 => ?_)
  obtain ⟨b, rfl, h4⟩ := toB_K r3 q3 h3.bind
  refine ⟨b, rfl, ?_⟩
  have h5 := h4 H3 r3 .refl
  cases b with
  | true =>
    rw [if_pos rfl]
    refine dE.of r3 (h5.bind.mono fun tc e4 H4 r4 s4 h6 w q4 => ?_)
    exact dK_op2 (W := W) (N1 := fun _ => True) (N2 := fun _ => True) (N := Nn σ env H) ho' r4 (fun d e => q2.opr r2 (s3.trans s4) r4 e) (fun d e => q4.opr0 r4 e) (fun a n => s1.back (s2.back (s3.back (s4.back n)))) h6
  | false =>
    rw [if_neg Bool.false_ne_true]
    exact h5 H3 r3 .refl _ (.bl false)
theorem de_chain {op op' : CmpOp} {r r' : R2} {g g' : D → D → Option T} (hr : OpR X (compareOp op) r) (ho : OpD c r g) (hr' : OpR X (compareOp op') r') (ho' : OpD c r' g') (ha : PE X a (dE c W fa)) (hb : PE X b (dE c W fb)) (hc : PE X e3 (dE c W fc))
    (hm : lastMarks [op, op'] [b, e3] = false := by with_unfolding_all rfl) : PE X (.Compare a [op, op'] [b, e3] pos) (dE c W (eCh g g' fa fb fc)) := PEw (pe_chain hr hr' ha hb hc hm) (d_chain ho ho')
theorem dt_chain {op op' : CmpOp} {r r' : R2} {g g' : D → D → Option T} (hr : OpR X (compareOp op) r) (ho : OpD c r g) (hr' : OpR X (compareOp op') r') (ho' : OpD c r' g') (ha : PE X a (dE c W fa)) (hb : PE X b (dE c W fb)) (hc : PE X e3 (dE c W fc))
    (hm : lastMarks [op, op'] [b, e3] = false := by with_unfolding_all rfl) : PT X (.Compare a [op, op'] [b, e3] pos) (dT c W (tV (eCh g g' fa fb fc))) := PTw (pt_chain hr hr' ha hb hc hm) fun σ H Q h => d_chain ho ho' σ H _ (d_tB (fa := eCh g g' fa fb fc) σ H Q h)
end
def tNp : En → R (Option Int) := fun env => .ok none env
def toI (t : T) (env : En) : R (Option Int) := match t.val env with
  | some (.int i) => .ok (some i) env
  | _ => .er
@[simp] theorem toI_int (i : Int) (env : En) : toI (.im (.int i)) env = .ok (some i) env := rfl
def tPa (fa : FE) : En → R (Option Int) := fun env => (fa env).bind toI
def dO (c : Cc) (W : WX) (f : En → R (Option Int)) : TO := fun σ H Q => ∃ env L, RE c L σ H env ∧ dK c W L σ H env (f env) fun o _ H' => Q o H'
def cutD (xs : List D) (lo hi : Option Int) : List D := (xs.drop (HT.sIx xs.length 0 lo)).take (HT.sIx xs.length xs.length hi - HT.sIx xs.length 0 lo)
def dSl (d : D) (lo hi : Option Int) : Option T := match d with
  | .tup ds => some (.im (.tup (cutD ds lo hi)))
  | .lst ds => some (.fr (cutD ds lo hi))
  | .str z => if z.length ≤ 1000000 then some (.im (.str (cutS z lo hi))) else none
  | _ => none
def slT (t : T) (lo hi : Option Int) (env : En) : R T := match t.val env with
  | some d => R.opt (dSl d lo hi) env
  | none => .er
@[simp] theorem dSl_tup (ds : List D) (lo hi : Option Int) : dSl (.tup ds) lo hi = some (.im (.tup (cutD ds lo hi))) := rfl
@[simp] theorem dSl_lst (ds : List D) (lo hi : Option Int) : dSl (.lst ds) lo hi = some (.fr (cutD ds lo hi)) := rfl
def eSl (fa : FE) (fl fh : En → R (Option Int)) : FE := fun env => (fa env).bind fun t e1 => (fl e1).bind fun lo e2 => (fh e2).bind fun hi e3 => slT t lo hi e3
section
variable {X : Cx} {c : Cc} {W : WX} {pos p2 : Pos} {a : Expr} {fa : FE} {fl fh : En → R (Option Int)} {lo hi : Option Expr}
theorem do_none : PO X none (dO c W tNp) := ⟨fun pins s σ H Q I h => po_none.run pins s σ H Q I (by obtain ⟨env, L, r, h⟩ := h; exact h H r .refl)⟩
theorem do_some (h : PE X a (dE c W fa)) : PO X (some a) (dO c W (tPa fa)) := ⟨fun pins s σ H Q I q => (po_some h).run pins s σ H Q I (by
  obtain ⟨env, L, r, q⟩ := q
  refine dE.of r (q.bind.mono fun t e1 H1 r1 s1 h1 v q1 => ?_)
  unfold toI at h1
  cases e : t.val e1 with
  | none => rw [e] at h1; exact h1.elim
  | some d =>
    rw [e] at h1
    cases d with
    | int i => exact ⟨i, (q1.opr0 r1 e).int, h1 H1 r1 .refl⟩
    | non => exact h1.elim
    | bl i => exact h1.elim
    | str x => exact h1.elim
    | tup xs => exact h1.elim
    | lst xs => exact h1.elim
    | fz xs => exact h1.elim
    | dct _ _ => exact h1.elim
    | kd _ _ => exact h1.elim)⟩
theorem Reps.cut {K : PySem.W.Frag} {G : Addr → Prop} {H : Hp} {xs : List V} {ds : List D} (r : Reps K G H xs ds) (lo hi : Option Int) : Reps K G H (cutV xs lo hi) (cutD ds lo hi) := by
  unfold cutV cutD
  rw [r.length]
  exact (r.drop _).take _
abbrev rSl (K : PySem.W.Frag) : V → Option Int → Option Int → Hp → VK → Prop := fun x lo hi H Q => rSlA K x lo hi H Q ∨ (rSlL K x lo hi H Q ∨ rSlS x lo hi H Q)
theorem cut_whole {α : Type} (xs : List α) (l h : Nat) (e : l = 0 ∧ h = xs.length) : (xs.drop l).take (h - l) = xs := by
  obtain ⟨rfl, rfl⟩ := e
  simp
theorem de_slice (ha : PE X a (dE c W fa)) (hl : PO X lo (dO c W fl)) (hh : PO X hi (dO c W fh)) (hK : c.K = X.K := by rfl) : PE X (.Subscript a (.Slice lo hi none p2) pos) (dE c W (eSl fa fl fh)) :=
  PEw (pe_slice (r := rSl X.K) (sl_tupA.or (sl_list.or sl_str)) ha hl hh) fun σ H Q h => by
    obtain ⟨env, L, re, h⟩ := dE_iff.mp h
    refine dE.of re (h.bind.mono fun t e1 H1 r1 s1 h1 x q1 => ?_)
    refine ⟨e1, L, r1, h1.bind.mono fun lo e2 H2 r2 s2 h2 => ?_⟩
    refine ⟨e2, L, r2, h2.bind.mono fun hi e3 H3 r3 s3 h3 => ?_⟩
    unfold slT at h3
    cases e : t.val e3 with
    | none => rw [e] at h3; exact h3.elim
    | some d =>
      rw [e] at h3
      have q := q1.opr r1 (s2.trans s3) r3 e
      have kk : ∀ {t'}, R.opt (dSl d lo hi) e3 = .ok t' e3 → ∀ v H', RE c L σ H' e3 → Stp σ e3 H3 σ e3 H' → RepT c L (Nn σ e3 H3) σ H' e3 v t' → Q v H' := fun {t'} eq v H' a b q => by
        dsimp only at h3
        rw [eq] at h3
        exact h3 H' a b v (q.less (fun _ z => z) fun a n => s1.back (s2.back (s3.back n)))
      cases d with
      | tup ds =>
        obtain ⟨a, xs, rfl, h, r⟩ := q.tup
        rw [hK] at h
        refine .inl ⟨a, xs, rfl, h, fun w => ?_, fun w => new_tup r3 (r.cut lo hi) (kk rfl)⟩
        refine kk rfl _ H3 r3 .refl ?_
        have ew : cutD ds lo hi = ds := by
          unfold cutD
          rw [← r.length]
          exact cut_whole ds _ _ (by rw [← r.length]; exact w)
        rw [ew, ← hK] at *
        exact .tup h r
      | lst ds =>
        obtain ⟨a, xs, rfl, h, r⟩ := q.lst
        refine .inr (.inl ⟨a, xs, rfl, .of h, fun p n => ?_⟩)
        obtain ⟨y1, y2, y3⟩ := r3.newL (r.cut lo hi) n
        exact kk rfl _ _ y1 y2 y3
      | non => exact h3.elim
      | bl i => exact h3.elim
      | int i => exact h3.elim
      | str x =>
        dsimp only [dSl] at h3 kk
        by_cases hz : x.length ≤ 1000000
        · rw [if_pos hz] at kk
          exact .inr (.inr ⟨x, q.str, line6 hz, kk rfl _ H3 r3 .refl (.str _)⟩)
        · rw [if_neg hz] at h3
          exact h3.elim
      | fz xs => exact h3.elim
      | dct _ _ => exact h3.elim
      | kd _ _ => exact h3.elim
end
end DL
namespace DL
open PySem PySem.Spec L2
variable [Wd]
theorem own_put {σ : St} {env : En} {i : Nat} {io : Bool} {ds ds' : List D} (e : env[i]? = some (Sl.own io ds)) (b : Addr) : ownM σ (env.set i (.own io ds')) b ↔ ownM σ env b := by
  have hi : i < env.length := (List.getElem?_eq_some_iff.mp e).1
  constructor
  · rintro ⟨j, jo, es, e1, e2⟩
    by_cases q : i = j
    · subst q
      exact ⟨i, io, ds, e, e2⟩
    · rw [List.getElem?_set_ne q] at e1
      exact ⟨j, jo, es, e1, e2⟩
  · rintro ⟨j, jo, es, e1, e2⟩
    by_cases q : i = j
    · subst q
      exact ⟨i, io, ds', by rw [List.getElem?_set_self hi], e2⟩
    · exact ⟨j, jo, es, by rw [List.getElem?_set_ne q]; exact e1, e2⟩
theorem RE.put {c : Cc} {L : Addr → Prop} {σ : St} {H H' : Hp} {env : En} {i : Nat} {io : Bool} {ds ds' : List D} {a : Addr} {xs' : List V} (h : RE c L σ H env) (e : env[i]? = some (Sl.own io ds)) (s : σ[i]? = some (some (V.ref a)))
    (kp : ∀ b o, b ≠ a → H b = some o → H' b = some o) (ea : H' a = some (.lst xs')) (r' : Reps c.K (Av L σ env) H' xs' ds') : RE c L σ H' (env.set i (.own io ds')) ∧ Stp σ env H σ (env.set i (.own io ds')) H' := by
  have hi : i < env.length := (List.getElem?_eq_some_iff.mp e).1
  have ow := own_put (σ := σ) (ds' := ds') e
  have oa : ownM σ env a := ⟨i, io, ds, e, s⟩
  have st : Stp σ env H σ (env.set i (.own io ds')) H' := fun b n => by
    have na : b ≠ a := fun z => n (.inl (by rw [z]; exact oa))
    cases q : H b with
    | none => exact (n (.inr q)).elim
    | some o => exact ⟨kp b o na q, fun z => z.elim (fun z => n (.inl ((ow b).mp z))) fun z => by rw [kp b o na q] at z; cases z⟩
  have av : Av L σ (env.set i (.own io ds')) = Av L σ env := by funext b; simp [Av, ow b]
  obtain ⟨a0, xs0, ea0, _, _, f0, f1⟩ := h.own i io ds e
  rw [s] at ea0
  cases ea0
  refine ⟨⟨by rw [List.length_set]; exact h.len, fun j d q => ?_, fun j jo es q => ?_, fun j k jo ko ds1 es b q1 q2 q3 q4 => ?_, fun b lb => ?_, fun b o n q => ?_, fun b ib => ?_, hd_set h.hd (fun _ z => nomatch z)⟩, st⟩
  · have ne : i ≠ j := fun z => by
      subst z
      rw [List.getElem?_set_self hi] at q
      cases q
    rw [List.getElem?_set_ne ne] at q
    obtain ⟨v, e1, r⟩ := h.im j d q
    exact ⟨v, e1, h.rep st r⟩
  · by_cases ne : i = j
    · subst ne
      rw [List.getElem?_set_self hi] at q
      cases q
      rw [av]
      exact ⟨a, xs', s, ea, r', f0, f1⟩
    · rw [List.getElem?_set_ne ne] at q
      obtain ⟨b, ys, e1, e2, r, z⟩ := h.own j jo es q
      have nb : b ≠ a := fun z => ne (h.inj i j io jo ds es a e q s (by rw [← z]; exact e1))
      exact ⟨b, ys, e1, kp _ _ nb e2, h.reps st r, z⟩
  · have get : ∀ (j : Nat) (jo : Bool) (es : List D), (env.set i (.own io ds'))[j]? = some (Sl.own jo es) → ∃ (jo' : Bool) (es' : List D), env[j]? = some (Sl.own jo' es') := fun j jo es q => by
      by_cases ne : i = j
      · subst ne
        exact ⟨io, ds, e⟩
      · rw [List.getElem?_set_ne ne] at q
        exact ⟨jo, es, q⟩
    obtain ⟨x1, x2, x3⟩ := get j jo ds1 q1
    obtain ⟨y1, y2, y3⟩ := get k ko es q2
    exact h.inj j k x1 y1 x2 y2 b x3 y3 q3 q4
  · obtain ⟨n, ys, q⟩ := h.ext b lb
    exact ⟨fun z => n ((ow b).mp z), ys, kp _ _ (fun z => n (by rw [z]; exact oa)) q⟩
  · refine kp b o (fun z => ?_) (h.fr b o n q)
    subst z
    cases io with
    | true => exact n (f1 rfl).1
    | false => rw [f0 rfl] at q; cases q
  · by_cases z : b = a
    · subst z
      exact ⟨xs', ea⟩
    · exact (h.io b ib).imp fun xs q => kp _ _ z q
theorem RE.mores {c : Cc} {L S : Addr → Prop} {σ : St} {env : En} {H H' : Hp} (h : RE c L σ H env) (k : ∀ b o, H b = some o → H' b = some o) (n : ∀ a, S a → H a = none ∧ ∃ xs, H' a = some (.lst xs)) : RE c (fun b => L b ∨ S b) σ H' env := by
  have no : ∀ b, (∃ o, H b = some o) → ¬ S b := fun b ⟨o, q⟩ z => by rw [(n b z).1] at q; cases q
  have kk : ∀ {v d}, Rep c.K (Av L σ env) H v d → Rep c.K (Av (fun b => L b ∨ S b) σ env) H' v d := fun r =>
    r.mono (h.tk (Stp.grow k)) fun b ys g q => ⟨⟨fun z => z.elim g.1 fun z => no b ⟨_, q⟩ z, g.2⟩, k _ _ q⟩
  have ks : ∀ {v d}, Reps c.K (Av L σ env) H v d → Reps c.K (Av (fun b => L b ∨ S b) σ env) H' v d := fun r =>
    r.mono (h.tk (Stp.grow k)) fun b ys g q => ⟨⟨fun z => z.elim g.1 fun z => no b ⟨_, q⟩ z, g.2⟩, k _ _ q⟩
  refine ⟨h.len, fun i d e => ?_, fun i io ds e => ?_, h.inj, fun b lb => ?_, fun b o n e => k _ _ (h.fr b o n e), fun a i => (h.io a i).imp fun xs e => k _ _ e, h.hd⟩
  · obtain ⟨v, e1, r⟩ := h.im i d e
    exact ⟨v, e1, kk r⟩
  · obtain ⟨a, xs, e1, e2, r, z⟩ := h.own i io ds e
    exact ⟨a, xs, e1, k _ _ e2, ks r, z⟩
  · rcases lb with lb | lb
    · exact ⟨(h.ext b lb).1, (h.ext b lb).2.imp fun xs e => k _ _ e⟩
    · refine ⟨fun ⟨i, io, ds, e1, e2⟩ => ?_, (n b lb).2⟩
      obtain ⟨a', ys, e3, e4, _⟩ := h.own i io ds e1
      rw [e2] at e3
      cases e3
      rw [(n b lb).1] at e4
      cases e4
theorem RE.h0 {c : Cc} {L : Addr → Prop} {σ : St} {H : Hp} {env : En} (re : RE c L σ H env) {p : Addr} (n : H p = none) : c.H0 p = none := by
  cases e : c.H0 p with
  | none => rfl
  | some o =>
    by_cases i : c.Io p
    · obtain ⟨ys, q⟩ := re.io p i
      rw [n] at q
      cases q
    · have q := re.fr p o i e
      rw [n] at q
      cases q

abbrev FD := En → R T
abbrev cc0 (K : PySem.W.Frag) (mg : Str → Option Value) (H : Hp) (vs : List V) (env : En) : Cc := ⟨K, mg, H, ownM (vs.map some) env, vs⟩
def spD (K : PySem.W.Frag) (mg : Str → Option Value) (g : FD) : Sp := fun vs H Q E => ∃ env L, RE (cc0 K mg H vs env) L (vs.map some) H env ∧ match g env with
  | .er => False
  | .ex x out => ∀ H', RE (cc0 K mg H vs env) L (vs.map some) H' out → ∀ C, mg x = some (.ref C) → E (.ref C) none H'
  | .ok t out => ∀ v H', RE (cc0 K mg H vs env) L (vs.map some) H' out → RepT (cc0 K mg H vs env) L (fun a => H a = none) (vs.map some) H' out v t → Q v H'

def isAl : T → Bool
  | .al _ => true
  | _ => false
def flatC (c : Cp) : Bool := match c.fr, c.d with
  | true, .lst ds => D.flats ds
  | _, d => D.flat d
def flatT : T → Bool
  | .im d => D.flat d
  | .fr ds => D.flats ds
  | .ft cs => cs.all flatC
  | .al _ => false
def callT (g : FD) (ts : List T) (e : En) : R T := match vals e ts with
  | none => .er
  | some ds => match g (ds.map .im) with
    | .er => .er
    | .ex x _ => .ex x e
    | .ok t _ => if isAl t = false ∧ (ts.any isAl = false ∨ flatT t = true) then .ok t e else .er
def eCall (g : FD) (fa : FA) : FE := fun env => (fa env).bind fun ts e1 => callT g ts e1
section
variable {c : Cc} {L : Addr → Prop} {σ : St} {H : Hp} {env : En}
theorem RepAs.args {G G' : Addr → Prop} (g : ∀ b, G b → G' b) (ra : RE c L σ H env) (gl : ∀ b, Av L σ env b → G' b) : ∀ {As vs ts ds}, RepAs c.K G σ H env As vs ts → (∀ a ∈ As, G' a) → (ts.any isAl = false ∨ ∀ b, ownM σ env b → G' b) → vals env ts = some ds → Reps c.K G' H vs ds
  | _, _, _, ds, .nil, _, _, e => by cases e; exact .nil
  | _, _, _, ds, .im (ts := ts) r rs, n, hal, e => by
    simp only [vals, val_im] at e
    cases q : vals env ts with
    | none => rw [q] at e; cases e
    | some es =>
      rw [q] at e
      cases e
      exact .cons (r.mono (.refl H) fun b xs gb e => ⟨g b gb, e⟩) (RepAs.args g ra gl rs n (hal.imp (fun z => by simpa [isAl] using z) id) q)
  | _, _, _, ds, .fr (ts := ts) na ea r rs, n, hal, e => by
    simp only [vals, val_fr] at e
    cases q : vals env ts with
    | none => rw [q] at e; cases e
    | some es =>
      rw [q] at e
      cases e
      exact .cons (.lst (n _ List.mem_cons_self) ea (r.mono (.refl H) fun b xs gb e => ⟨g b gb, e⟩)) (RepAs.args g ra gl rs (fun b z => n b (List.mem_cons_of_mem _ z)) (hal.imp (fun z => by simpa [isAl] using z) id) q)
  | _, _, _, ds, .al (i := i) (ts := ts) o es rs, n, hal, e => by
    have hal : ∀ b, ownM σ env b → G' b := hal.elim (fun z => by simp [isAl] at z) id
    obtain ⟨io, es', eo⟩ := o
    have ev : (T.al i).val env = some (.lst es') := by simp [T.val, eo]
    simp only [vals, ev] at e
    cases q : vals env ts with
    | none => rw [q] at e; cases e
    | some fs =>
      rw [q] at e
      cases e
      obtain ⟨a, xs, e3, e4, r5, _⟩ := ra.own i io es' eo
      rw [es] at e3
      cases e3
      exact .cons (.lst (hal _ ⟨i, io, es', eo, es⟩) e4 (r5.mono (.refl H) fun b xs gb e => ⟨gl b gb, e⟩)) (RepAs.args g ra gl rs n (.inr hal) q)
theorem get_im {ds : List D} {i : Nat} {s : Sl} (h : (ds.map Sl.im)[i]? = some s) : ∃ d, ds[i]? = some d ∧ s = .im d := by
  rw [List.getElem?_map] at h
  cases q : ds[i]? with
  | none => rw [q] at h; cases h
  | some d => rw [q] at h; cases h; exact ⟨d, rfl, rfl⟩
theorem no_own_im {σ : St} {ds : List D} (b : Addr) : ¬ ownM σ (ds.map Sl.im) b := fun ⟨i, io, es, e1, _⟩ => by
  obtain ⟨d, _, e⟩ := get_im e1
  cases e
theorem RE.enter {K : PySem.W.Frag} {mg : Str → Option Value} {vs : List V} {ds : List D} {L' : Addr → Prop} (r : Reps K (fun b => ¬ L' b) H vs ds) (ext : ∀ a, L' a → ∃ xs, H a = some (.lst xs)) : RE (cc0 K mg H vs (ds.map .im)) L' (vs.map some) H (ds.map .im) where
  len := by rw [List.length_map, List.length_map, r.length]
  im := fun i d e => by
    obtain ⟨d', e1, e2⟩ := get_im e
    cases e2
    obtain ⟨v, e3, q⟩ := r.get e1
    exact ⟨v, by rw [List.getElem?_map, e3]; rfl, q.mono (.refl H) fun a xs g e => ⟨⟨g, no_own_im a⟩, e⟩⟩
  own := fun i io es e => by
    obtain ⟨d', _, e2⟩ := get_im e
    cases e2
  inj := fun i j io jo es fs a e => by
    obtain ⟨d', _, e2⟩ := get_im e
    cases e2
  ext := fun a la => ⟨no_own_im a, ext a la⟩
  fr := fun b o _ e => e
  io := fun a z => (no_own_im a z).elim
  hd := fun i a e => by
    obtain ⟨d', _, e2⟩ := get_im e
    cases e2
theorem RepC.flat {K : PySem.W.Frag} {G G' : Addr → Prop} {H : Hp} : ∀ {As vs cs}, RepC K G H As vs cs → flatT (.ft cs) = true → RepC K G' H As vs cs
  | _, _, _, .nil, _ => .nil
  | _, _, _, .im (d := d) r rs, f => by
    simp only [flatT, List.all_cons, Bool.and_eq_true] at f
    exact .im (r.flat f.1) (RepC.flat rs f.2)
  | _, _, _, .fr n e r rs, f => by
    simp only [flatT, List.all_cons, Bool.and_eq_true] at f
    exact .fr n e (r.flats f.1) (RepC.flat rs f.2)
theorem RepT.home {c0 : Cc} {L' : Addr → Prop} {σ0 : St} {H1 H' : Hp} {out env' : En} {v : V} {t : T} (h : RepT c0 L' (fun a => H1 a = none) σ0 H' out v t) (hc : c0.K = c.K) (na : ∀ i, t ≠ .al i) (hL : ∀ a, L a → L' a)
    (fl : flatT t = true ∨ ∀ a, ownM σ env' a → L' a ∨ ownM σ0 out a) (re : ∀ S : Addr → Prop, RE c0 (fun b => L' b ∨ S b) σ0 H' out → (∀ a, S a → H1 a = none ∧ ∃ xs, H' a = some (.lst xs)) → RE c (fun b => L b ∨ S b) σ H' env') (h0 : ∀ a, H1 a = none → c.H0 a = none) :
    RepT c L (fun a => H1 a = none) σ H' env' v t := by
  cases t with
  | al i => exact (na i rfl).elim
  | im d =>
    have h : Rep c0.K (Av L' σ0 out) H' v d := h
    rw [hc] at h
    rcases fl with f | f
    · exact h.flat f
    · exact h.mono (.refl H') fun a xs g e => ⟨⟨fun z => g.1 (hL a z), fun z => (f a z).elim g.1 g.2⟩, e⟩
  | fr ds =>
    obtain ⟨a, xs, e, e1, r, n1, n2, n3, q⟩ := h
    rw [hc] at r
    have rr := re (fun b => b = a) q fun b z => by subst z; exact ⟨n3, _, e1⟩
    refine ⟨a, xs, e, e1, ?_, fun z => n1 (hL a z), h0 a n3, n3, rr⟩
    rcases fl with f | f
    · exact r.flats f
    · exact r.mono (.refl H') fun b ys g e => ⟨⟨fun z => g.1 (z.imp (hL b) id), fun z => (f b z).elim (fun y => g.1 (.inl y)) g.2⟩, e⟩
  | ft cs =>
    obtain ⟨tt, vs, As, e, e1, r, n1, q⟩ := h
    rw [hc] at r e1
    have rr := re (fun b => b ∈ As) q fun b z => ⟨(n1 b z).2.2, r.in b z⟩
    refine ⟨tt, vs, As, e, e1, ?_, fun a z => ⟨fun y => (n1 a z).1 (hL a y), h0 a (n1 a z).2.2, (n1 a z).2.2⟩, rr⟩
    rcases fl with f | f
    · exact r.flat f
    · exact r.mono (.refl H') (fun b ys g e => ⟨⟨fun z => g.1 (z.imp (hL b) id), fun z => (f b z).elim (fun y => g.1 (.inl y)) g.2⟩, e⟩) fun _ _ _ e => e
end
section
variable {X : Cx} {c : Cc} {W : WX} {pos p : Pos} {x : Str} {e : Expr} {es : List Expr} {fa : FA} {g : FD} {k : Nat} {f : Addr} {fd : FuncData} {ps : List Str}
theorem d_call : ∀ σ H Q, dE c W (eCall g fa) σ H Q → tCallS (spD c.K c.mg g) (WE W) (dA c W fa) σ H Q := fun σ H Q h => by
  obtain ⟨env, L, re, h⟩ := dE_iff.mp h
  refine dA.of re (h.bind.mono fun ts e1 H1 r1 s1 h1 vs As q n r2 => ?_)
  unfold callT at h1
  cases ev : vals e1 ts with
  | none => rw [ev] at h1; exact h1.elim
  | some ds =>
    rw [ev] at h1
    dsimp only at h1
    -- what the callee must keep off
    obtain ⟨L', hL, hown, hrep, hext⟩ : ∃ L' : Addr → Prop, (∀ a, L a → L' a) ∧ (ts.any isAl = false → ∀ a, ownM σ e1 a → L' a) ∧ Reps c.K (fun b => ¬ L' b) H1 vs ds ∧ (∀ a, L' a → ∃ xs, H1 a = some (.lst xs)) := by
      by_cases na : ts.any isAl = false
      · refine ⟨fun a => L a ∨ ownM σ e1 a, fun a z => .inl z, fun _ a z => .inr z, q.args (G' := fun b => ¬ (L b ∨ ownM σ e1 b)) (fun b gb z => z.elim (fun z => gb.1 (.inl z)) gb.2) r1 (fun b gb z => z.elim gb.1 gb.2) (fun a z y => y.elim (n a z).1 (r2.ext a (.inr z)).1) (.inl na) ev, fun a z => ?_⟩
        rcases z with z | ⟨i, io, es, e1', e2'⟩
        · exact (r1.ext a z).2
        · obtain ⟨b, xs, e3, e4, _⟩ := r1.own i io es e1'
          rw [e2'] at e3
          cases e3
          exact ⟨xs, e4⟩
      · exact ⟨L, fun a z => z, fun z => (na z).elim, q.args (G' := fun b => ¬ L b) (fun b gb z => gb.1 (.inl z)) r1 (fun b gb => gb.1) (fun a z => (n a z).1) (.inr fun b ob z => (r1.ext b z).1 ob) ev, fun a z => (r1.ext a z).2⟩
    refine ⟨ds.map .im, L', RE.enter hrep hext, ?_⟩
    have grow : ∀ {H' : Hp} {out : En}, RE (cc0 c.K c.mg H1 vs (ds.map .im)) L' (vs.map some) H' out → ∀ b o, H1 b = some o → H' b = some o := fun {H' out} r b o e => r.fr b o (no_own_im b) e
    cases eg : g (ds.map .im) with
    | er => rw [eg] at h1; exact h1.elim
    | ex y out =>
      rw [eg] at h1
      exact fun H' rr C hC => h1 H' (r1.grow (grow rr)) (.grow (grow rr)) C hC
    | ok t out =>
      rw [eg] at h1
      dsimp only at h1
      split at h1
      · rename_i fl
        intro v H' rr qt
        have kp := grow rr
        have na : ∀ i, t ≠ .al i := fun i z => by
          subst z
          cases fl.1
        refine h1 H' (r1.grow kp) (.grow kp) v ?_
        have fl' : flatT t = true ∨ ∀ a, ownM σ e1 a → L' a ∨ ownM (vs.map some) out a := fl.2.elim (fun z => .inr fun a oa => .inl (hown z a oa)) .inl
        exact (qt.home (c := c) rfl na hL fl' (fun S _ hS => r1.mores kp hS) (fun a z => r1.h0 z)).less (fun _ z => z) fun a z => s1.back (.inr z)
      · exact h1.elim
theorem de_call (F : FnOk X.prog X.w X.K X.mg X.base (L2.CX X.prog X.w) k f fd ps (spD X.K X.mg g)) (hr : Room k X.A) (hg : Gl X x) (hm : X.mg x = some (.ref f)) (hk : PySem.W.keepIn X.K (.ref f) = true) (hb : Binds X.K fd ps []) (tk : Takes X W)
    (ha : PA X (e :: es) (dA c W fa)) (hK : c.K = X.K := by rfl) (hM : c.mg = X.mg := by rfl) (hdb : (x == ("__debug__" : Str)) = false := by decide) (he : starEach (e :: es) X.env = (false, eval e X.env) :: starEach es X.env := by rfl) (hpl : (backTo pos (starEach es X.env)).any (·.1) = false := by rfl) :
    PE X (.Call (.Name x p) (e :: es) [] pos) (dE c W (eCall g fa)) :=
  PEw (pe_callS F hr hg hm hk hb (fun σ => passAt tk σ) ha hdb he hpl) (by rw [← hK, ← hM]; exact d_call)
end
def argE : Option Nat → List T → En → Option En
  | _, [], _ => some []
  | some 0, t :: ts, e => match t with
    | .al i => match e[i]?, argE none ts e with
      | some (.own _ ds), some r => some (.own true ds :: r)
      | _, _ => none
    | _ => none
  | some (k + 1), t :: ts, e => match t.val e, argE (some k) ts e with
    | some d, some r => some (.im d :: r)
    | _, _ => none
  | none, t :: ts, e => match t.val e, argE none ts e with
    | some d, some r => some (.im d :: r)
    | _, _ => none
theorem argE_hd : ∀ {k : Option Nat} {ts : List T} {e r : En}, argE k ts e = some r → ∀ (j : Nat) (a : Addr), r[j]? ≠ some (.hd a)
  | k, [], e, r, h, j, a => by
    have h : some ([] : En) = some r := by cases k with
      | none => exact h
      | some k => cases k <;> exact h
    cases h
    intro z
    simp at z
  | some 0, t :: ts, e, r, h, j, a => by
    unfold argE at h
    cases t with
    | al i =>
      dsimp only at h
      split at h
      · rename_i ds r' e1 e2
        cases h
        cases j with
        | zero => exact fun z => by cases z
        | succ j => exact argE_hd e2 j a
      · cases h
    | im d => cases h
    | fr d => cases h
    | ft d => cases h
  | some (k + 1), t :: ts, e, r, h, j, a => by
    unfold argE at h
    split at h
    · rename_i d r' e1 e2
      cases h
      cases j with
      | zero => exact fun z => by cases z
      | succ j => exact argE_hd e2 j a
    · cases h
  | none, t :: ts, e, r, h, j, a => by
    unfold argE at h
    split at h
    · rename_i d r' e1 e2
      cases h
      cases j with
      | zero => exact fun z => by cases z
      | succ j => exact argE_hd e2 j a
    · cases h
def isAli (i : Nat) : T → Bool
  | .al j => i == j
  | _ => false
def others : Option Nat → List T → List T
  | _, [] => []
  | some 0, _ :: ts => ts
  | some (k + 1), t :: ts => t :: others (some k) ts
  | none, t :: ts => t :: ts
def callI (k : Nat) (g : FD) (ts : List T) (e : En) : R T := match ts[k]? with
  | some (.al i) => match e[i]?, argE (some k) ts e with
    | some (.own b ds), some env0 => match g env0 with
      | .er => .er
      | .ex x out => match out[k]? with
        | some (.own true ds') => if (others (some k) ts).any (isAli i) = false ∧ ((others (some k) ts).any isAl = false ∨ D.flats ds' = true) then .ex x (e.set i (.own b ds')) else .er
        | _ => .er
      | .ok t out => match out[k]? with
        | some (.own true ds') => if isAl t = false ∧ (others (some k) ts).any (isAli i) = false ∧ ((others (some k) ts).any isAl = false ∨ (flatT t = true ∧ D.flats ds' = true)) then .ok t (e.set i (.own b ds')) else .er
        | _ => .er
    | _, _ => .er
  | _ => .er
def eCallI (k : Nat) (g : FD) (fa : FA) : FE := fun env => (fa env).bind fun ts e1 => callI k g ts e1
section
variable {c : Cc} {L : Addr → Prop} {σ : St} {H : Hp} {env : En}
theorem RepAs.uncons {K : PySem.W.Frag} {G : Addr → Prop} {As : List Addr} {vs : List V} {t : T} {ts : List T} (h : RepAs K G σ H env As vs (t :: ts)) : ∃ v vs' As', vs = v :: vs' ∧ RepAs K G σ H env As' vs' ts ∧ (∀ b ∈ As', b ∈ As) ∧
    ((∃ d, t = .im d ∧ Rep K G H v d) ∨ (∃ i, t = .al i ∧ (∃ (io : Bool) (ds : List D), env[i]? = some (Sl.own io ds)) ∧ σ[i]? = some (some v)) ∨ (∃ a xs ds, t = .fr ds ∧ v = .ref a ∧ a ∈ As ∧ H a = some (.lst xs) ∧ Reps K G H xs ds)) := by
  cases h with
  | im r rs => exact ⟨_, _, _, rfl, rs, fun _ z => z, .inl ⟨_, rfl, r⟩⟩
  | al o e rs => exact ⟨_, _, _, rfl, rs, fun _ z => z, .inr (.inl ⟨_, rfl, o, e⟩)⟩
  | fr n e r rs => exact ⟨_, _, _, rfl, rs, fun _ z => List.mem_cons_of_mem _ z, .inr (.inr ⟨_, _, _, rfl, rfl, List.mem_cons_self, e, r⟩)⟩
theorem RepAs.argE {As0 : List Addr} {G' : Addr → Prop} {a : Addr} {i : Nat} {bi : Bool} {di : List D} (g : ∀ b, Av (Lu L As0) σ env b → G' b) (ra : RE c L σ H env) (gl : ∀ b, Av L σ env b → G' b) (si : σ[i]? = some (some (V.ref a))) (ei : env[i]? = some (Sl.own bi di)) :
    ∀ (ts : List T) (o : Option Nat) {As vs env0}, RepAs c.K (Av (Lu L As0) σ env) σ H env As vs ts → (∀ b ∈ As, G' b) →
    ((others o ts).any isAl = false ∨ ∀ b, ownM σ env b → b ≠ a → G' b) → (others o ts).any (isAli i) = false → (∀ k, o = some k → ts[k]? = some (T.al i)) → DL.argE o ts env = some env0 →
    env0.length = vs.length ∧ (∀ k, o = some k → vs[k]? = some (.ref a) ∧ env0[k]? = some (Sl.own true di)) ∧ (∀ (j : Nat) (d : D), env0[j]? = some (Sl.im d) → ∃ v, vs[j]? = some v ∧ Rep c.K G' H v d) ∧ (∀ (j : Nat) (io : Bool) (ds : List D), env0[j]? = some (Sl.own io ds) → o = some j ∧ io = true ∧ ds = di)
  | [], o, As, vs, env0, h, _, _, _, e, h2 => by
    cases h
    have : env0 = [] := by
      unfold DL.argE at h2
      exact (Option.some.inj h2).symm
    subst this
    exact ⟨rfl, fun k z => by simpa using e k z, fun j d z => by simp at z, fun j io ds z => by simp at z⟩
  | t :: ts, o, As, vs, env0, h, n, hal, hi, e, h2 => by
    obtain ⟨v, vs', As', rfl, rs, sub, hd⟩ := h.uncons
    -- a head that is not the list to be changed
    have reg : ∀ d, t.val env = some d → (isAl t = false ∨ ∀ b, ownM σ env b → b ≠ a → G' b) → isAli i t = false → Rep c.K G' H v d := fun d ev ha hb => by
      rcases hd with ⟨d', rfl, r⟩ | ⟨j, rfl, ⟨io, ds, eo⟩, es⟩ | ⟨b, xs, ds, rfl, rfl, hm, eb, r⟩
      · cases ev
        exact r.mono (.refl H) fun b xs gb e => ⟨g b gb, e⟩
      · have ev' : (T.al j).val env = some (.lst ds) := by simp [T.val, eo]
        rw [ev'] at ev
        cases ev
        obtain ⟨b, xs, e3, e4, r5, _⟩ := ra.own j io ds eo
        rw [es] at e3
        cases e3
        have ha := ha.elim (fun z => by cases z) id
        refine .lst (ha b ⟨j, io, ds, eo, es⟩ fun z => ?_) e4 (r5.mono (.refl H) fun b xs gb e => ⟨gl b gb, e⟩)
        subst z
        have : i = j := ra.inj i j bi io di ds b ei eo si es
        subst this
        simp [isAli] at hb
      · cases ev
        exact .lst (n b hm) eb (r.mono (.refl H) fun b xs gb e => ⟨g b gb, e⟩)
    have n' : ∀ b ∈ As', G' b := fun b z => n b (sub b z)
    cases o with
    | none =>
      unfold DL.argE at h2
      simp only [others] at hal hi
      have hal1 : isAl t = false ∨ ∀ b, ownM σ env b → b ≠ a → G' b := hal.imp (fun z => by simp at z; exact z.1) id
      have hal2 : (others none ts).any isAl = false ∨ ∀ b, ownM σ env b → b ≠ a → G' b := hal.imp (fun z => by cases ts <;> simp_all [others]) id
      have hi2 : (others none ts).any (isAli i) = false := by cases ts <;> simp_all [others]
      cases q1 : t.val env with
      | none => rw [q1] at h2; simp at h2
      | some d =>
        cases q2 : DL.argE none ts env with
        | none => rw [q1, q2] at h2; simp at h2
        | some r =>
          rw [q1, q2] at h2
          cases h2
          obtain ⟨y1, y2, y3, y4⟩ := RepAs.argE g ra gl si ei ts none rs n' hal2 hi2 (fun k z => nomatch z) q2
          refine ⟨by rw [List.length_cons, List.length_cons, y1], (fun k z => nomatch z), fun j d' z => ?_, fun j io ds z => ?_⟩
          · cases j with
            | zero => simp at z; subst z; exact ⟨v, rfl, reg d q1 hal1 (by simp at hi; exact hi.1)⟩
            | succ j => simpa using y3 j d' (by simpa using z)
          · cases j with
            | zero => simp at z
            | succ j => have q := y4 j io ds (by simpa using z); cases q.1
    | some k =>
      cases k with
      | zero =>
        have et : t = T.al i := by simpa using e 0 rfl
        subst et
        unfold DL.argE at h2
        simp only [others] at hal hi
        have hal2 : (others none ts).any isAl = false ∨ ∀ b, ownM σ env b → b ≠ a → G' b := hal.imp (fun z => by cases ts <;> simp_all [others]) id
        have hi2 : (others none ts).any (isAli i) = false := by cases ts <;> simp_all [others]
        cases q2 : DL.argE none ts env with
        | none => simp only [ei, q2] at h2; cases h2
        | some r =>
          simp only [ei, q2] at h2
          cases h2
          obtain ⟨y1, y2, y3, y4⟩ := RepAs.argE g ra gl si ei ts none rs n' hal2 hi2 (fun k z => nomatch z) q2
          have ev : v = .ref a := by
            rcases hd with ⟨d', z, r⟩ | ⟨j, z, _, es⟩ | ⟨b, xs, ds, z, _⟩
            · cases z
            · cases z
              rw [si] at es
              cases es
              rfl
            · cases z
          refine ⟨by rw [List.length_cons, List.length_cons, y1], (fun k z => by cases z; exact ⟨by rw [ev]; rfl, rfl⟩), fun j d' z => ?_, fun j io ds z => ?_⟩
          · cases j with
            | zero => simp at z
            | succ j => simpa using y3 j d' (by simpa using z)
          · cases j with
            | zero => simp at z; exact ⟨rfl, by simp_all, by simp_all⟩
            | succ j => have q := y4 j io ds (by simpa using z); cases q.1
      | succ k =>
        unfold DL.argE at h2
        simp only [others] at hal hi
        have hal1 : isAl t = false ∨ ∀ b, ownM σ env b → b ≠ a → G' b := hal.imp (fun z => by simp at z; exact z.1) id
        have hal2 : (others (some k) ts).any isAl = false ∨ ∀ b, ownM σ env b → b ≠ a → G' b := hal.imp (fun z => by simp at z; simpa using z.2) id
        have hi2 : (others (some k) ts).any (isAli i) = false := by simp at hi; simpa using hi.2
        cases q1 : t.val env with
        | none => rw [q1] at h2; simp at h2
        | some d =>
          cases q2 : DL.argE (some k) ts env with
          | none => rw [q1, q2] at h2; simp at h2
          | some r =>
            rw [q1, q2] at h2
            cases h2
            obtain ⟨y1, y2, y3, y4⟩ := RepAs.argE g ra gl si ei ts (some k) rs n' hal2 hi2 (fun k' z => by cases z; simpa using e _ rfl) q2
            refine ⟨by rw [List.length_cons, List.length_cons, y1], (fun k' z => by cases z; simpa using y2 k rfl), fun j d' z => ?_, fun j io ds z => ?_⟩
            · cases j with
              | zero => simp at z; subst z; exact ⟨v, rfl, reg d q1 hal1 (by simp at hi; exact hi.1)⟩
              | succ j => simpa using y3 j d' (by simpa using z)
            · cases j with
              | zero => simp at z
              | succ j =>
                have q := y4 j io ds (by simpa using z)
                exact ⟨by cases q.1; rfl, q.2⟩
end
section
variable {X : Cx} {c : Cc} {W : WX} {pos p : Pos} {x : Str} {e : Expr} {es : List Expr} {fa : FA} {g : FD} {k kk : Nat} {f : Addr} {fd : FuncData} {ps : List Str}
theorem d_callI : ∀ σ H Q, dE c W (eCallI kk g fa) σ H Q → tCallS (spD c.K c.mg g) (WE W) (dA c W fa) σ H Q := fun σ H Q h => by
  obtain ⟨env, L, re, h⟩ := dE_iff.mp h
  refine dA.of re (h.bind.mono fun ts e1 H1 r1 s1 h1 vs As q n r2 => ?_)
  unfold callI at h1
  cases et : ts[kk]? with
  | none => simp only [et] at h1; exact h1.elim
  | some tt =>
    cases tt with
    | im d => simp only [et] at h1; exact h1.elim
    | fr d => simp only [et] at h1; exact h1.elim
    | ft d => simp only [et] at h1; exact h1.elim
    | al i =>
      cases ei : e1[i]? with
      | none => simp only [et, ei] at h1; exact h1.elim
      | some s =>
        cases s with
        | no => simp only [et, ei] at h1; exact h1.elim
        | hd _ => simp only [et, ei] at h1; exact h1.elim
        | im d => simp only [et, ei] at h1; exact h1.elim
        | own bi di =>
          cases ev : argE (some kk) ts e1 with
          | none => simp only [et, ei, ev] at h1; exact h1.elim
          | some env0 =>
            simp only [et, ei, ev] at h1
            obtain ⟨a, xs, si, ea, ra, f0, f1⟩ := r1.own i bi di ei
            have oa : ownM σ e1 a := ⟨i, bi, di, ei, si⟩
            by_cases hi : (others (some kk) ts).any (isAli i) = false
            case neg =>
              exfalso
              cases eg : g env0 with
              | er => rw [eg] at h1; exact h1
              | ex y out =>
                rw [eg] at h1
                dsimp only at h1
                split at h1
                · rw [if_neg (fun z => hi z.1)] at h1
                  exact h1
                · exact h1
              | ok t out =>
                rw [eg] at h1
                dsimp only at h1
                split at h1
                · rw [if_neg (fun z => hi z.2.1)] at h1
                  exact h1
                · exact h1
            -- what the callee must keep off
            obtain ⟨L', hL, hown, hLo, harg⟩ : ∃ L' : Addr → Prop, (∀ a, L a → L' a) ∧ ((others (some kk) ts).any isAl = false → ∀ b, ownM σ e1 b → b ≠ a → L' b) ∧ (∀ b, L' b → L b ∨ (ownM σ e1 b ∧ b ≠ a)) ∧
                ((others (some kk) ts).any isAl = false ∨ ∀ b, ownM σ e1 b → b ≠ a → ¬ L' b ∧ b ≠ a) := by
              by_cases na : (others (some kk) ts).any isAl = false
              · exact ⟨fun b => L b ∨ (ownM σ e1 b ∧ b ≠ a), fun a z => .inl z, fun _ b o ne => .inr ⟨o, ne⟩, fun b z => z, .inl na⟩
              · exact ⟨L, fun a z => z, fun z => (na z).elim, fun b z => .inl z, .inr fun b o ne => ⟨fun z => (r1.ext b z).1 o, ne⟩⟩
            have nL : ∀ b, Av L σ e1 b → ¬ L' b ∧ b ≠ a := fun b g => ⟨fun z => (hLo b z).elim g.1 fun z => g.2 z.1, fun z => g.2 (by rw [z]; exact oa)⟩
            obtain ⟨y1, y2, y3, y4⟩ := RepAs.argE (G' := fun b => ¬ L' b ∧ b ≠ a) (fun b g => nL b ⟨fun z => g.1 (.inl z), g.2⟩) r1 nL si ei ts (some kk) q (fun b z => ⟨fun y => (hLo b y).elim (n b z).1 fun y => (r2.ext b (.inr z)).1 y.1, fun y => (r2.ext b (.inr z)).1 (by rw [y]; exact oa)⟩) harg hi
              (fun k' z => by cases z; exact et) ev
            obtain ⟨vk, ek⟩ := y2 kk rfl
            have ovs : ∀ b, ownM (vs.map some) env0 b ↔ b = a := fun b => by
              constructor
              · rintro ⟨j, io, ds, e1', e2'⟩
                obtain ⟨z1, _, _⟩ := y4 j io ds e1'
                cases z1
                rw [List.getElem?_map, vk] at e2'
                cases e2'
                rfl
              · rintro rfl
                exact ⟨kk, true, di, ek, by rw [List.getElem?_map, vk]; rfl⟩
            have enter : RE (cc0 c.K c.mg H1 vs env0) L' (vs.map some) H1 env0 := by
              refine ⟨by rw [y1, List.length_map], fun j d z => ?_, fun j io ds z => ?_, fun j j' io jo ds es b z1 z2 _ _ => ?_, fun b lb => ⟨fun z => ?_, ?_⟩, fun b o _ e => e, fun b ib => ?_, fun j b z => (argE_hd ev j b z).elim⟩
              · obtain ⟨v, ev', r⟩ := y3 j d z
                exact ⟨v, by rw [List.getElem?_map, ev']; rfl, r.mono (.refl H1) fun b ys g e => ⟨⟨g.1, fun z => g.2 ((ovs b).mp z)⟩, e⟩⟩
              · obtain ⟨z1, z2, z3⟩ := y4 j io ds z
                cases z1
                subst z2 z3
                exact ⟨a, xs, by rw [List.getElem?_map, vk]; rfl, ea, ra.mono (.refl H1) fun b ys g e => ⟨⟨(nL b g).1, fun z => (nL b g).2 ((ovs b).mp z)⟩, e⟩, (fun z => nomatch z), fun _ => ⟨(ovs a).mpr rfl, vk⟩⟩
              · have w1 := (y4 j io ds z1).1
                have w2 := (y4 j' jo es z2).1
                rw [w1] at w2
                exact Option.some.inj w2
              · have := (ovs b).mp z
                subst this
                exact (hLo b lb).elim (fun z => (r1.ext b z).1 oa) fun z => z.2 rfl
              · rcases hLo b lb with z | ⟨⟨j, io, ds, e1', e2'⟩, _⟩
                · exact (r1.ext b z).2
                · obtain ⟨b', ys, e3, e4, _⟩ := r1.own j io ds e1'
                  rw [e2'] at e3
                  cases e3
                  exact ⟨ys, e4⟩
              · have := (ovs b).mp ib
                subst this
                exact ⟨xs, ea⟩
            refine ⟨env0, L', enter, ?_⟩
            -- behind the call
            have back : ∀ {H' : Hp} {out : En} {ds' : List D} {S : Addr → Prop}, RE (cc0 c.K c.mg H1 vs env0) (fun b => L' b ∨ S b) (vs.map some) H' out → out[kk]? = some (Sl.own true ds') → ((others (some kk) ts).any isAl = false ∨ D.flats ds' = true) →
                (∀ b, S b → H1 b = none ∧ ∃ xs, H' b = some (.lst xs)) → RE c (fun b => L b ∨ S b) σ H' (e1.set i (.own bi ds')) ∧ Stp σ e1 H1 σ (e1.set i (.own bi ds')) H' := fun {H' out ds' S} rr eo fl hS => by
              obtain ⟨a', xs', e3, e4, r5, _⟩ := rr.own kk true ds' eo
              rw [List.getElem?_map, vk] at e3
              cases e3
              have kp : ∀ b o, b ≠ a → H1 b = some o → H' b = some o := fun b o ne e => rr.fr b o (fun z => ne ((ovs b).mp z)) e
              have Sa : ¬ S a := fun z => by rw [(hS a z).1] at ea; cases ea
              have ox : ownM (vs.map some) out a := ⟨kk, true, ds', eo, by rw [List.getElem?_map, vk]; rfl⟩
              have r6 : Reps c.K (Av (fun b => L b ∨ S b) σ e1) H' xs' ds' := by
                rcases fl with fl | fl
                · refine r5.mono (.refl H') fun b ys g e => ⟨⟨fun z => g.1 (z.imp (hL b) id), fun z => ?_⟩, e⟩
                  by_cases ne : b = a
                  · subst ne
                    exact g.2 ox
                  · exact g.1 (.inl (hown fl b z ne))
                · exact r5.flats fl
              -- by a heap between
              let Hx : Hp := fun b => if b = a then H1 a else H' b
              have hx : ∀ b, b ≠ a → Hx b = H' b := fun b ne => if_neg ne
              have hxa : Hx a = H1 a := if_pos rfl
              have rx : RE c (fun b => L b ∨ S b) σ Hx e1 := r1.mores (fun b o e => by
                by_cases ne : b = a
                · subst ne
                  exact hxa.trans e
                · exact (hx b ne).trans (kp b o ne e)) fun b sb => ⟨(hS b sb).1, by
                  rw [hx b fun z => Sa (by rw [← z]; exact sb)]
                  exact (hS b sb).2⟩
              obtain ⟨q1, q2⟩ := rx.put ei si (fun b o ne e => (hx b ne).symm.trans e) e4 r6
              refine ⟨q1, Stp.trans (fun b nb => ?_) q2⟩
              have ne : b ≠ a := fun z => nb (.inl (by rw [z]; exact oa))
              cases e : H1 b with
              | none => exact (nb (.inr e)).elim
              | some o => exact ⟨(hx b ne).trans (kp b o ne e), fun z => z.elim (fun z => nb (.inl z)) fun z => by rw [hx b ne, kp b o ne e] at z; cases z⟩
            have noS : ∀ {H' : Hp} {out : En}, RE (cc0 c.K c.mg H1 vs env0) L' (vs.map some) H' out → RE (cc0 c.K c.mg H1 vs env0) (fun b => L' b ∨ False) (vs.map some) H' out := fun r => r.less fun b z => z.elim id False.elim
            cases eg : g env0 with
            | er => rw [eg] at h1; exact h1.elim
            | ex y out =>
              rw [eg] at h1
              dsimp only at h1
              split at h1
              · rename_i ds' eo
                split at h1
                · rename_i fl
                  intro H' rr C hC
                  obtain ⟨q1, q2⟩ := back (noS rr) eo fl.2 fun b z => z.elim
                  exact h1 H' (q1.less fun b z => .inl z) q2 C hC
                · exact h1.elim
              · exact h1.elim
            | ok t out =>
              rw [eg] at h1
              dsimp only at h1
              split at h1
              · rename_i ds' eo
                split at h1
                · rename_i fl
                  intro v H' rr qt
                  have fl' : (others (some kk) ts).any isAl = false ∨ D.flats ds' = true := fl.2.2.imp id And.right
                  obtain ⟨q1, q2⟩ := back (noS rr) eo fl' fun b z => z.elim
                  have ox : ownM (vs.map some) out a := ⟨kk, true, ds', eo, by rw [List.getElem?_map, vk]; rfl⟩
                  refine h1 H' (q1.less fun b z => .inl z) q2 v ?_
                  refine (qt.home (c := c) rfl (fun j z => by subst z; cases fl.1) hL (fl.2.2.elim (fun z => .inr fun b ob => ?_) fun z => .inl z.1) (fun S rS hS => (back rS eo fl' hS).1) (fun a z => r1.h0 z)).less (fun _ z => z) fun a z => s1.back (.inr z)
                  by_cases ne : b = a
                  · subst ne
                    exact .inr ox
                  · exact .inl (hown z b ((own_put ei b).mp ob) ne)
                · exact h1.elim
              · exact h1.elim
theorem de_callI (kk : Nat) (F : FnOk X.prog X.w X.K X.mg X.base (L2.CX X.prog X.w) k f fd ps (spD X.K X.mg g)) (hr : Room k X.A) (hg : Gl X x) (hm : X.mg x = some (.ref f)) (hk : PySem.W.keepIn X.K (.ref f) = true) (hb : Binds X.K fd ps []) (tk : Takes X W)
    (ha : PA X (e :: es) (dA c W fa)) (hK : c.K = X.K := by rfl) (hM : c.mg = X.mg := by rfl) (hdb : (x == ("__debug__" : Str)) = false := by decide) (he : starEach (e :: es) X.env = (false, eval e X.env) :: starEach es X.env := by rfl) (hpl : (backTo pos (starEach es X.env)).any (·.1) = false := by rfl) :
    PE X (.Call (.Name x p) (e :: es) [] pos) (dE c W (eCallI kk g fa)) :=
  PEw (pe_callS F hr hg hm hk hb (fun σ => passAt tk σ) ha hdb he hpl) (by rw [← hK, ← hM]; exact d_callI)
end
end DL
namespace PySem
open AutoSeq1 (wpAny_loadPart')
theorem enum1_begins {v : Value} {o : Obj} {H : Heap → Prop} (B : Begins v o H) :
    Meets (Builtin.«enumerate.__new__» ⟨[.type "enumerate", v], []⟩) (fun _ R s => H s.heap ∧
      R (.ok (.ret (.ref (s.heap.push o).objs.size))) { s with heap := (s.heap.push o).push { cls := .type "enumerate", data := .fields #[.none, .bool false, .ref s.heap.objs.size, rawInt 0, .none, .none] } }) :=
  .of_wp fun prog w A R s h => by
    obtain ⟨hp, g, d, tk, os⟩ := s; obtain ⟨h1, h⟩ := h
    have hsub := sub_enumerate
    have q1 : ∀ {A' : Around} {E : Value → Shared → Prop} {Q : Value → Shared → Prop}, Q (.ref hp.objs.size) ⟨hp.push o, g, d, tk, os⟩ → wpAny (model prog w) A' (pyIter v) Q E ⟨hp, g, d, tk, os⟩ :=
      fun q => B.iter prog w _ _ ⟨hp, g, d, tk, os⟩ _ h1 q
    wp_walk using q1
    refine wpAny_stack_any fun st => wpAny_pure ?_
    split
    · rename_i c _ _ _ _ _
      cases (c == Value.type "enumerate")
      · wp_walk using q1
        exact ⟨_, rfl, h⟩
      · wp_walk using q1
        exact ⟨_, rfl, h⟩
    · wp_walk using q1
      exact ⟨_, rfl, h⟩
theorem call_enum1_tuple {prog : Program} {w : World} {A : Around} {E : Value → Shared → Prop} {s : Shared} {t : Addr} {items : Array Value} {Q : Value → Shared → Prop} (hL : s.heap.IsTuple t items)
    (h : ∀ h', IsEnum h' (s.heap.objs.size + 1) s.heap.objs.size 0 .none → h'.IsTupleIter s.heap.objs.size t 0 → h'.objs.size = s.heap.objs.size + 2 →
      (∀ b o, s.heap.get? b = some o → h'.get? b = some o) → Q (.ref (s.heap.objs.size + 1)) { s with heap := h' }) :
    wpAny (model prog w) A (call (.type "enumerate") [.ref t]) Q E s := by
  refine callType_new F.called_enumerate (by decide) (F.typeCall_enumerate_1 _) (F.newCall_enumerate_1 _) (fun obj => F.args_object_init_2 obj _) F.entry_enumerate_new
    (enum1_begins (begins_tuple t items)) ⟨hL, ?_⟩
  have hz : (s.heap.push { cls := .type "tuple_iterator", data := .fields #[.ref t, .int 0 0] }).objs.size = s.heap.objs.size + 1 := Heap.size_push ..
  show _ ∧ _
  rw [hz]
  have he : IsEnum ((s.heap.push { cls := .type "tuple_iterator", data := .fields #[.ref t, .int 0 0] }).push
      { cls := .type "enumerate", data := .fields #[.none, .bool false, .ref s.heap.objs.size, rawInt 0, .none, .none] }) (s.heap.objs.size + 1) s.heap.objs.size 0 .none := by
    have := Heap.get?_push_size (s.heap.push { cls := .type "tuple_iterator", data := .fields #[.ref t, .int 0 0] })
      (o := { cls := .type "enumerate", data := .fields #[.none, .bool false, .ref s.heap.objs.size, rawInt 0, .none, .none] }) rfl
    rw [hz] at this; exact this
  refine ⟨⟨_, he, rfl⟩, h _ he ⟨_, Heap.get?_push_of_some _ (Heap.get?_push_size _ rfl), rfl, rfl⟩ (by rw [Heap.size_push, hz]) fun b o x => Heap.get?_push_of_some _ (Heap.get?_push_of_some _ x)⟩
end PySem
namespace L2
open PySem PySem.Spec PyProof.Rows
def IteT (K : PySem.W.Frag) (a : Addr) : It :=
  ⟨fun i H => ∃ (xs : List V) (x : V), SqT K H a xs ∧ xs[i]? = some x, fun i H v H' => ∃ T x, v = .ref T ∧ H T = none ∧ H' = upd H T (.tup [.int (i : Nat), x]) ∧ ∀ xs, SqT K H a xs → xs[i]? = some x, fun i H => ∃ xs : List V, SqT K H a xs ∧ xs.length ≤ i⟩
theorem turn_enumT {P : Program} {w : World} {K : PySem.W.Frag} {elts : List Expr} {kk : Nat} {tpos : Pos} (a e it : Addr) :
    Turn P w K (.Tuple elts kk tpos) (IteT K a) [e, it] e (fun i h => (∃ old, IsEnum h e it ((i : Nat) : Int) old) ∧ h.IsTupleIter it a i ∧ e ≠ it) where
  mem := by simp
  obj := fun i h st b hb => by
    obtain ⟨⟨old, he⟩, ⟨o, ho, hc, hd⟩, _⟩ := st
    have e' : b = e ∨ b = it := by simpa using hb
    rcases e' with z | z
    · rw [z]; exact ⟨_, he, fun v q => nomatch q⟩
    · rw [z]; exact ⟨o, ho, fun v q => by rw [hd] at q; cases q⟩
  keep := fun i h h' st k => let ⟨⟨old, he⟩, hi, hne⟩ := st; ⟨⟨old, k e (by simp) _ he⟩, hi.at fun o q => k it (by simp) o q, hne⟩
  item := by
    intro X hP hw hK hc i pins s σ H E I hf st hg
    subst hP hw hK
    obtain ⟨⟨old, he⟩, hit, hne⟩ := st
    obtain ⟨xs, x, hq, hx⟩ := hg
    obtain ⟨its, rv, p, hz⟩ := I.tuple hq
    obtain ⟨u, hu, ru⟩ := rv.get hx
    have hel : e < s.heap.objs.size := Heap.lt_size he
    have hil : it < s.heap.objs.size := by obtain ⟨_, q, _⟩ := hit; exact Heap.lt_size q
    have hea : e ≠ a := fun z => by
      obtain ⟨o, ho, hc', _⟩ := p
      rw [← z, he] at ho
      cases ho
      exact absurd hc' (by simp)
    have hia : a ≠ it := fun z => by
      obtain ⟨o, ho, hc', _⟩ := p
      obtain ⟨o', ho', hc'', _⟩ := hit
      rw [z, ho'] at ho
      cases ho
      rw [hc''] at hc'
      exact absurd hc' (by simp)
    have p' : s.heap.IsTuple a its.toArray := p
    have hlt : i < its.toArray.size := by
      have := (List.getElem?_eq_some_iff.mp hu).1
      simpa using this
    refine wpAny_pyNext_enum_itemD (Draws.tuple (A := X.A.in1) (I.ok.hd hc) it a hia its.toArray) he ⟨hit, p'⟩ hlt hne (by simp; exact ⟨hne, hea⟩) fun x' h' tk hx' ho st' hT hsz hk => ?_
    have ex : x' = u := by
      have h1 : its[i]? = some x' := by simpa using hx'
      rw [hu] at h1
      exact (Option.some.inj h1).symm
    subst ex
    refine ⟨_, rfl, wpAny_letOwnedTupleGo_enum (s := { s with heap := h', toks := tk + 1 }) ho fun h'' he' sb => ?_⟩
    have hT2 : h''.get? s.heap.objs.size = some { cls := .type "tuple", data := .seq #[.int i tk, x'] } := (sb.2 _ (Nat.ne_of_gt hel)).trans hT
    have new : ObjOk X.prog X.w (upd H s.heap.objs.size (.tup [.int (i : Nat), x])) h'' s.heap.objs.size (.tup [.int (i : Nat), x]) :=
      ⟨by show 2 ≤ sizeLine; decide, [.int i tk, x'], .cons ⟨_, rfl⟩ (.cons ru .nil), ⟨_, hT2, rfl, _, rfl⟩⟩
    have I1 : Inv X pins σ (upd H s.heap.objs.size (.tup [.int (i : Nat), x])) { s with heap := h'', toks := tk + 1 } :=
      I.turnedNew (ch := [e, it]) (fun b ob hb q => (sb.2 b (fun z => hb (by simp [z]))).trans (hk b ob (fun z => hb (by simp [z])) (fun z => hb (by simp [z])) q)) hf (Nat.le_refl _) new
    refine ⟨.ref s.heap.objs.size, _, I1, rfl, ⟨_, x, rfl, I.hok.fresh (Nat.le_refl _), rfl, fun ys hy => by rw [I.tuple_inj hy hq]; exact hx⟩, ⟨⟨x', ?_⟩, st'.1.at fun o q => (sb.2 it (Ne.symm hne)).trans q, hne⟩, fun b hb => ?_⟩
    · have e1 : ((i + 1 : Nat) : Int) = (i : Int) + 1 := by omega
      rw [e1]; exact he'
    · have hb' : b < s.heap.objs.size := by
        have e' : b = e ∨ b = it := by simpa using hb
        rcases e' with z | z
        · rw [z]; exact hel
        · rw [z]; exact hil
      rw [upd_ne (Nat.ne_of_lt hb')]
      exact (hf b hb).1
  done := by
    intro X hP hw hK hc i pins s σ H E I hf st hg
    subst hP hw hK
    obtain ⟨⟨old, he⟩, hit, hne⟩ := st
    obtain ⟨xs, hq, hx⟩ := hg
    obtain ⟨its, rv, p, hz⟩ := I.tuple hq
    obtain ⟨f0, f1, f2, f3, f4, f5⟩ := hf it (by simp)
    have hl := rv.length
    have p' : s.heap.IsTuple a its.toArray := p
    have hT : s.TypeIs (.ref e) "enumerate" := ⟨_, he, rfl⟩
    unfold pyNext
    refine wpAny_bind (wpAny_attempt (wpAny_callSpecial?_slot (name := Str.ofString "__next__") hT F.slot_enumerate_next
      (wpAny_call_entry F.slot_enumerate_next hT F.entry_enumerate_next ?_ (F.args_enumerate_next_1 _))))
    show wpAny _ _ (field (.ref e) 2 >>= _) _ _ _
    refine wpAny_bind (wpAny_field he rfl (x := .ref it) rfl ?_)
    refine wpAny_bind (wpAny_nextOf_tuple_end (I.ok.hd hc) hit p' (by simp; omega) fun h' x eb hx' => ?_)
    obtain ⟨o, ho, hcc⟩ := hx'
    refine wpAny_bind (wpAny_isInstance (T := "StopIteration") (b := true) ⟨o, ho, hcc⟩ isSubtype_stop ?_)
    exact wpAny_pure ⟨rfl, I.turned (t' := s.toks) (fun b o hb q => eb b o hb q) f0 f1 f3 f4 f5⟩
  self := fun A i s Q E st h => let ⟨⟨_, he⟩, _⟩ := st; wpAny_pyIter_enum he h
def iEnumA (K : PySem.W.Frag) (ta : TA) : TI := fun σ H R => ta σ H fun vs H1 => ∃ a xs, vs = [.ref a] ∧ ((SqL K H1 a xs ∧ R (Ite K a) H1) ∨ (SqT K H1 a xs ∧ R (IteT K a) H1))
theorem pi_enumA {X : Cx} {e : Expr} {ta : TA} {p pos tpos : Pos} {elts : List Expr} {kk : Nat} (hg : Gl X "enumerate") (hm : X.mg "enumerate" = none) (ha : PA X [e] ta) (hs : starEach [e] X.env = [(false, eval e X.env)] := by rfl) :
    PI X (.Tuple elts kk tpos) (.Call (.Name "enumerate" p) [e] [] pos) (iEnumA X.K ta) := by
  refine ⟨fun pins s σ H R I h => ?_⟩
  refine Call_ (ld_blt I hg hm boot_enumerate (PyProof.Rows.callWith_type1 (thn (ha.run pos pins s σ H _ I h) fun us s1 ⟨vs, H1, I1, r1, q1⟩ => ?_) hs rfl))
  obtain ⟨a, xs, ex, hq⟩ := q1
  subst ex
  cases r1 with
  | cons r rr =>
    cases rr
    cases r
    have fin : ∀ (b : Addr), (b = s1.heap.objs.size + 1 ∨ b = s1.heap.objs.size) → s1.heap.objs.size ≤ b := fun b e' => by
      rcases e' with z | z
      · rw [z]; exact Nat.le_add_right _ _
      · rw [z]; exact Nat.le_refl _
    rcases hq with ⟨hq, q⟩ | ⟨hq, q⟩
    · obtain ⟨its, rv, p', hz⟩ := I1.list hq
      refine call_enumerate_list p'.isList fun h' he hit hsz hk => wpAny_pyIter_enum he ?_
      have I2 : Inv X pins σ H1 { s1 with heap := h' } := I1.kept (t' := s1.toks) hk
      refine ⟨s1.heap.objs.size + 1, [s1.heap.objs.size + 1, s1.heap.objs.size], _, _, H1, rfl, I2, turn_enum a (s1.heap.objs.size + 1) s1.heap.objs.size, ⟨⟨.none, he⟩, hit, Nat.succ_ne_self _⟩, fun b hb => ?_, q⟩
      have hle := fin b (by simpa using hb)
      exact I1.fpOk hle (I1.hok.fresh hle)
    · obtain ⟨its, rv, p', hz⟩ := I1.tuple hq
      refine call_enum1_tuple (show s1.heap.IsTuple a its.toArray from p') fun h' he hit hsz hk => wpAny_pyIter_enum he ?_
      have I2 : Inv X pins σ H1 { s1 with heap := h' } := I1.kept (t' := s1.toks) hk
      refine ⟨s1.heap.objs.size + 1, [s1.heap.objs.size + 1, s1.heap.objs.size], _, _, H1, rfl, I2, turn_enumT a (s1.heap.objs.size + 1) s1.heap.objs.size, ⟨⟨.none, he⟩, hit, Nat.succ_ne_self _⟩, fun b hb => ?_, q⟩
      have hle := fin b (by simpa using hb)
      exact I1.fpOk hle (I1.hok.fresh hle)
end L2
namespace DL
open PySem PySem.Spec L2
variable [Wd]
inductive Fl where
  | er | nx (e : En) | rt (t : T) (e : En) | bk (e : En) | ct (e : En) | ex (x : Str) (e : En)
abbrev FS := En → Fl
abbrev FG := T → En → Fl
def R.bindF {α : Type} (r : R α) (g : α → En → Fl) : Fl := match r with
  | .er => .er
  | .ex x e => .ex x e
  | .ok a e => g a e
@[simp] theorem bindF_ok {α : Type} (a : α) (e : En) (g : α → En → Fl) : R.bindF (.ok a e) g = g a e := rfl
@[simp] theorem bindF_er {α : Type} (g : α → En → Fl) : R.bindF .er g = .er := rfl
@[simp] theorem bindF_ex {α : Type} (x : Str) (e : En) (g : α → En → Fl) : R.bindF (.ex x e) g = .ex x e := rfl
def Fl.seq (r : Fl) (g : FS) : Fl := match r with
  | .nx e => g e
  | r => r
@[simp] theorem seq_nx (e : En) (g : FS) : Fl.seq (.nx e) g = g e := rfl
@[simp] theorem seq_rt (t : T) (e : En) (g : FS) : Fl.seq (.rt t e) g = .rt t e := rfl
@[simp] theorem seq_er (g : FS) : Fl.seq .er g = .er := rfl
@[simp] theorem seq_bk (e : En) (g : FS) : Fl.seq (.bk e) g = .bk e := rfl
@[simp] theorem seq_ct (e : En) (g : FS) : Fl.seq (.ct e) g = .ct e := rfl
@[simp] theorem seq_ex (x : Str) (e : En) (g : FS) : Fl.seq (.ex x e) g = .ex x e := rfl
abbrev Sp0 := St → En → Hp → Prop
def sK (c : Cc) (W : WX) (L : Addr → Prop) (S : Sp0) (N : Addr → Prop) (r : Fl) (D : Ends) : Prop := match r with
  | .er => False
  | .nx e => ∀ σ' H', RE c L σ' H' e → S σ' e H' → D.nx σ' H'
  | .bk e => ∀ σ' H', RE c L σ' H' e → S σ' e H' → D.bk σ' H'
  | .ct e => ∀ σ' H', RE c L σ' H' e → S σ' e H' → D.ct σ' H'
  | .rt t e => ∀ v σ' H', RE c L σ' H' e → S σ' e H' → RepT c L N σ' H' e v t → D.rt v H'
  | .ex x e => ∀ σ' H', RE c L σ' H' e → S σ' e H' → Wx c.mg W x σ' H'
def dS (c : Cc) (W : WX) (f : FS) : TS := fun D σ H => ∃ env L, RE c L σ H env ∧ sK c W L (Stp σ env H) (Nn σ env H) (f env) D
section
variable {c : Cc} {W : WX} {L : Addr → Prop} {σ : St} {H : Hp} {env : En} {D : Ends}
theorem dS.of {f : FS} (r : RE c L σ H env) (h : sK c W L (Stp σ env H) (Nn σ env H) (f env) D) : dS c W f D σ H := ⟨env, L, r, h⟩
theorem sK.bind {α : Type} {r : R α} {g : α → En → Fl} (h : sK c W L (Stp σ env H) (Nn σ env H) (r.bindF g) D) : dK c W L σ H env r fun a e1 H1 => sK c W L (Stp σ env H) (Nn σ env H) (g a e1) D := by
  cases r with
  | er => exact h
  | ex x e => exact fun H' r s => h σ H' r s
  | ok a e => exact fun H' r s => h
theorem sK.imp {S S' : Sp0} {N N' : Addr → Prop} {r : Fl} (h : sK c W L S N r D) (hS : ∀ σ e H, S' σ e H → S σ e H) (hN : ∀ a, N' a → N a) : sK c W L S' N' r D := by
  cases r with
  | er => exact h
  | nx e => exact fun σ' H' r s => h σ' H' r (hS _ _ _ s)
  | bk e => exact fun σ' H' r s => h σ' H' r (hS _ _ _ s)
  | ct e => exact fun σ' H' r s => h σ' H' r (hS _ _ _ s)
  | rt t e => exact fun v σ' H' r s q => h v σ' H' r (hS _ _ _ s) (q.less (fun _ z => z) hN)
  | ex x e => exact fun σ' H' r s => h σ' H' r (hS _ _ _ s)
theorem sK.here {r : Fl} {σ1 : St} {e1 : En} {H1 : Hp} (h : sK c W L (Stp σ env H) (Nn σ env H) r D) (s1 : Stp σ env H σ1 e1 H1) : sK c W L (Stp σ1 e1 H1) (Nn σ1 e1 H1) r D :=
  h.imp (fun _ _ _ s => s1.trans s) fun _ n => s1.back n
end
def sNx : FS := fun env => .nx env
def sSeq (f g : FS) : FS := fun env => (f env).seq g
def sIf (ft : FT) (f g : FS) : FS := fun env => (ft env).bindF fun b e => bif b then f e else g e
def sRet (fa : FE) : FS := fun env => (fa env).bindF fun t e => .rt t e
def sRetN : FS := fun env => .rt (.im .non) env
def sDrop (fa : FE) : FS := fun env => (fa env).bindF fun _ e => .nx e
def sBk : FS := fun env => .bk env
def sCt : FS := fun env => .ct env
def sEr : FS := fun _ => .er
section
variable {X : Cx} {c : Cc} {W : WX} {st : Stmt} {rest a b : List Stmt} {f g : FS} {fa : FE} {ft : FT} {e : Expr} {pos : Pos}
theorem dss_nil : PSs X [] (dS c W sNx) := PSsw pss_nil fun D σ H h => by
  obtain ⟨env, L, r, h⟩ := h
  exact h σ H r .refl
theorem dss_cons (h1 : PS X st (dS c W f)) (h2 : PSs X rest (dS c W g)) : PSs X (st :: rest) (dS c W (sSeq f g)) := PSsw (pss_cons h1 h2) fun D σ H h => by
  obtain ⟨env, L, r, h⟩ := h
  refine dS.of r ?_
  unfold sSeq at h
  cases q : f env with
  | er => rw [q] at h; exact h
  | nx e =>
    rw [q] at h
    exact fun σ' H' r' s' => dS.of r' (h.here s')
  | rt t e => rw [q] at h; exact h
  | bk e => rw [q] at h; exact h
  | ct e => rw [q] at h; exact h
  | ex x e => rw [q] at h; exact h
theorem dss_one (h1 : PS X st (dS c W f)) : PSs X [st] (dS c W f) := pss_one h1
theorem ds_if {t : Expr} (hc : PT X t (dT c W ft)) (ha : PSs X a (dS c W f)) (hb : PSs X b (dS c W g)) : PS X (.If t a b pos) (dS c W (sIf ft f g)) := PSw (ps_if hc ha hb) fun D σ H h => by
  obtain ⟨env, L, r, h⟩ := h
  refine dT.of r (h.bind.mono fun b e1 H1 r1 s1 h1 => ?_)
  cases b with
  | true => rw [if_pos rfl]; exact dS.of r1 (h1.here s1)
  | false => rw [if_neg Bool.false_ne_true]; exact dS.of r1 (h1.here s1)
theorem ds_ret (he : PE X e (dE c W fa)) : PS X (.Return (some e) pos) (dS c W (sRet fa)) := PSw (ps_ret he) fun D σ H h => by
  obtain ⟨env, L, r, h⟩ := h
  exact dE.of r (h.bind.mono fun t e1 H1 r1 s1 h1 v q => h1 v σ H1 r1 s1 q)
theorem ds_expr (he : PE X e (dE c W fa)) (hs : swapsWith e none pos.line X.env = pure false := by rfl) : PS X (.Expr e pos) (dS c W (sDrop fa)) := PSw (ps_expr he hs) fun D σ H h => by
  obtain ⟨env, L, r, h⟩ := h
  exact dE.of r (h.bind.mono fun t e1 H1 r1 s1 h1 v q => h1 σ H1 r1 s1)
end
def StpN (N : Addr → Prop) (σ : St) (env : En) (H : Hp) (σ' : St) (env' : En) (H' : Hp) : Prop := ∀ b, ¬ Nn σ env H b → ¬ N b → H' b = H b ∧ ¬ Nn σ' env' H' b
theorem StpN.after {σ σ1 σ2 : St} {env e1 e2 : En} {H H1 H2 : Hp} (s : Stp σ env H σ1 e1 H1) (n : StpN (Nn σ env H) σ1 e1 H1 σ2 e2 H2) : Stp σ env H σ2 e2 H2 := fun b nb => by
  obtain ⟨q1, q2⟩ := s b nb
  obtain ⟨q3, q4⟩ := n b q2 nb
  exact ⟨q3.trans q1, q4⟩
theorem StpN.of {N : Addr → Prop} {σ σ' : St} {env env' : En} {H H' : Hp} (s : Stp σ env H σ' env' H') : StpN N σ env H σ' env' H' := fun b n _ => s b n
theorem StpN.trans {N : Addr → Prop} {σ σ1 σ2 : St} {env e1 e2 : En} {H H1 H2 : Hp} (a : StpN N σ env H σ1 e1 H1) (b : StpN N σ1 e1 H1 σ2 e2 H2) : StpN N σ env H σ2 e2 H2 := fun x n m => by
  obtain ⟨q1, q2⟩ := a x n m
  obtain ⟨q3, q4⟩ := b x q2 m
  exact ⟨q3.trans q1, q4⟩
def dG (c : Cc) (g : FG) : TG := fun v σ H Q => ∃ env L N t, RE c L σ H env ∧ RepT c L N σ H env v t ∧ match g t env with
  | .nx e => ∀ σ' H', RE c L σ' H' e → StpN N σ env H σ' e H' → Q σ' H'
  | _ => False
def sAsg (fa : FE) (g : FG) : FS := fun env => (fa env).bindF fun t e => match g t e with
  | .nx e => .nx e
  | _ => .er
section
variable {c : Cc} {L : Addr → Prop} {σ : St} {H : Hp} {env : En}
theorem own_set {i : Nat} {v : V} {s : Sl} {b : Addr} (h : ownM (σ.set i (some v)) (env.set i s) b) : (ownM σ env b ∧ ∀ (io : Bool) (ds : List D), True) ∨ (v = .ref b ∧ ∃ (io : Bool) (ds : List D), s = .own io ds) := by
  obtain ⟨j, io, ds, e1, e2⟩ := h
  by_cases q : i = j
  · subst q
    rw [List.getElem?_set] at e1 e2
    simp only [if_true] at e1 e2
    split at e1
    · split at e2
      · cases e1
        cases e2
        exact .inr ⟨rfl, io, ds, rfl⟩
      · cases e2
    · cases e1
  · rw [List.getElem?_set_ne q] at e1 e2
    exact .inl ⟨⟨j, io, ds, e1, e2⟩, fun _ _ => trivial⟩
theorem RE.setIm {i : Nat} {v : V} {d : D} (h : RE c L σ H env) (r : Rep c.K (Av L σ env) H v d) : RE c L (σ.set i (some v)) H (env.set i (.im d)) ∧ Stp σ env H (σ.set i (some v)) (env.set i (.im d)) H := by
  have sub : ∀ b, ownM (σ.set i (some v)) (env.set i (.im d)) b → ownM σ env b := fun b z => by
    rcases own_set z with z | ⟨_, io, ds, z⟩
    · exact z.1
    · cases z
  have av : ∀ b, Av L σ env b → Av L (σ.set i (some v)) (env.set i (.im d)) b := fun b g => ⟨g.1, fun z => g.2 (sub b z)⟩
  have st : Stp σ env H (σ.set i (some v)) (env.set i (.im d)) H := fun b n => ⟨rfl, fun z => n (z.imp (sub b) id)⟩
  have get : ∀ {j : Nat} {s : Sl}, (env.set i (.im d))[j]? = some s → (j = i ∧ s = .im d ∧ i < env.length) ∨ (j ≠ i ∧ env[j]? = some s) := fun {j s} q => by
    by_cases z : i = j
    · subst z
      rw [List.getElem?_set] at q
      simp only [if_true] at q
      split at q
      · rename_i hi
        cases q
        exact .inl ⟨rfl, rfl, hi⟩
      · cases q
    · rw [List.getElem?_set_ne z] at q
      exact .inr ⟨fun y => z y.symm, q⟩
  refine ⟨⟨by rw [List.length_set, List.length_set]; exact h.len, fun j d' q => ?_, fun j io ds q => ?_, fun j k io jo ds es a q1 q2 q3 q4 => ?_, fun b lb => ⟨fun z => (h.ext b lb).1 (sub b z), (h.ext b lb).2⟩, h.fr, h.io, hd_set2 h.hd (fun _ z => nomatch z)⟩, st⟩
  · rcases get q with ⟨rfl, z, hi⟩ | ⟨ne, q⟩
    · cases z
      exact ⟨v, by rw [List.getElem?_set_self (by rw [← h.len]; exact hi)], r.mono (.refl H) fun b xs g e => ⟨av b g, e⟩⟩
    · obtain ⟨v', e1, r'⟩ := h.im j d' q
      exact ⟨v', by rw [List.getElem?_set_ne (Ne.symm ne)]; exact e1, r'.mono (.refl H) fun b xs g e => ⟨av b g, e⟩⟩
  · rcases get q with ⟨rfl, z, hi⟩ | ⟨ne, q⟩
    · cases z
    · obtain ⟨a, xs, e1, e2, r', z⟩ := h.own j io ds q
      exact ⟨a, xs, by rw [List.getElem?_set_ne (Ne.symm ne)]; exact e1, e2, r'.mono (.refl H) fun b xs g e => ⟨av b g, e⟩, z⟩
  · rcases get q1 with ⟨rfl, z, hi⟩ | ⟨ne1, q1⟩
    · cases z
    · rcases get q2 with ⟨rfl, z, hi⟩ | ⟨ne2, q2⟩
      · cases z
      · rw [List.getElem?_set_ne (Ne.symm ne1)] at q3
        rw [List.getElem?_set_ne (Ne.symm ne2)] at q4
        exact h.inj j k io jo ds es a q1 q2 q3 q4
theorem RE.setFr {i : Nat} {a : Addr} {xs : List V} {ds : List D} {N : Addr → Prop} (h : RE c (fun b => L b ∨ b = a) σ H env) (ea : H a = some (.lst xs)) (r : Reps c.K (Av (fun b => L b ∨ b = a) σ env) H xs ds) (nl : ¬ L a) (h0 : c.H0 a = none) (n : N a) :
    RE c L (σ.set i (some (.ref a))) H (env.set i (.own false ds)) ∧ StpN N σ env H (σ.set i (some (.ref a))) (env.set i (.own false ds)) H := by
  have sub : ∀ b, ownM (σ.set i (some (.ref a))) (env.set i (.own false ds)) b → ownM σ env b ∨ b = a := fun b z => by
    rcases own_set z with z | ⟨z, _⟩
    · exact .inl z.1
    · cases z
      exact .inr rfl
  have av : ∀ b, Av (fun b => L b ∨ b = a) σ env b → Av L (σ.set i (some (.ref a))) (env.set i (.own false ds)) b := fun b g => ⟨fun z => g.1 (.inl z), fun z => (sub b z).elim g.2 fun z => g.1 (.inr z)⟩
  have get : ∀ {j : Nat} {s : Sl}, (env.set i (.own false ds))[j]? = some s → (j = i ∧ s = .own false ds ∧ i < env.length) ∨ (j ≠ i ∧ env[j]? = some s) := fun {j s} q => by
    by_cases z : i = j
    · subst z
      rw [List.getElem?_set] at q
      simp only [if_true] at q
      split at q
      · rename_i hi
        cases q
        exact .inl ⟨rfl, rfl, hi⟩
      · cases q
    · rw [List.getElem?_set_ne z] at q
      exact .inr ⟨fun y => z y.symm, q⟩
  have na : ¬ ownM σ env a := (h.ext a (.inr rfl)).1
  refine ⟨⟨by rw [List.length_set, List.length_set]; exact h.len, fun j d' q => ?_, fun j io es q => ?_, fun j k io jo es fs b q1 q2 q3 q4 => ?_, fun b lb => ⟨fun z => (sub b z).elim (h.ext b (.inl lb)).1 fun z => nl (by rw [← z]; exact lb), (h.ext b (.inl lb)).2⟩, h.fr, h.io, hd_set2 h.hd (fun _ z => nomatch z)⟩, fun b nb nN => ⟨rfl, fun z => z.elim (fun z => (sub b z).elim (fun z => nb (.inl z)) fun z => nN (by rw [z]; exact n)) fun z => nb (.inr z)⟩⟩
  · rcases get q with ⟨rfl, z, hi⟩ | ⟨ne, q⟩
    · cases z
    · obtain ⟨v', e1, r'⟩ := h.im j d' q
      exact ⟨v', by rw [List.getElem?_set_ne (Ne.symm ne)]; exact e1, r'.mono (.refl H) fun b xs g e => ⟨av b g, e⟩⟩
  · rcases get q with ⟨rfl, z, hi⟩ | ⟨ne, q⟩
    · cases z
      exact ⟨a, xs, by rw [List.getElem?_set_self (by rw [← h.len]; exact hi)], ea, r.mono (.refl H) (fun b xs g e => ⟨av b g, e⟩), fun _ => h0, fun z => nomatch z⟩
    · obtain ⟨b, ys, e1, e2, r', z⟩ := h.own j io es q
      exact ⟨b, ys, by rw [List.getElem?_set_ne (Ne.symm ne)]; exact e1, e2, r'.mono (.refl H) (fun b xs g e => ⟨av b g, e⟩), z⟩
  · have own : ∀ {j : Nat} {io : Bool} {es : List D}, j ≠ i → env[j]? = some (Sl.own io es) → (σ.set i (some (V.ref a)))[j]? = some (some (V.ref b)) → ownM σ env b ∧ σ[j]? = some (some (V.ref b)) := fun {j io es} ne q z => by
      rw [List.getElem?_set_ne (Ne.symm ne)] at z
      exact ⟨⟨j, io, es, q, z⟩, z⟩
    have at_ : ∀ {j : Nat}, j = i → i < env.length → (σ.set i (some (V.ref a)))[j]? = some (some (V.ref b)) → b = a := fun {j} e hi z => by
      subst e
      rw [List.getElem?_set_self (by rw [← h.len]; exact hi)] at z
      cases z
      rfl
    rcases get q1 with ⟨e1, z1, hi1⟩ | ⟨ne1, q1⟩
    · rcases get q2 with ⟨e2, z2, hi2⟩ | ⟨ne2, q2⟩
      · rw [e1, e2]
      · have := at_ e1 hi1 q3
        subst this
        exact (na (own ne2 q2 q4).1).elim
    · rcases get q2 with ⟨e2, z2, hi2⟩ | ⟨ne2, q2⟩
      · have := at_ e2 hi2 q4
        subst this
        exact (na (own ne1 q1 q3).1).elim
      · exact h.inj j k io jo es fs b q1 q2 (own ne1 q1 q3).2 (own ne2 q2 q4).2
end
def gN (i : Nat) : FG := fun t env => match t with
  | .im d => .nx (env.set i (.im d))
  | .fr ds => .nx (env.set i (.own false ds))
  | .ft cs => .nx (env.set i (.im (.tup (cs.map Cp.d))))
  | .al j => match env[j]? with
    | some (.own false ds) => .nx ((env.set j .no).set i (.own false ds))
    | _ => .er
@[simp] theorem gN_im (i : Nat) (d : D) (env : En) : gN i (.im d) env = .nx (env.set i (.im d)) := rfl
@[simp] theorem gN_fr (i : Nat) (ds : List D) (env : En) : gN i (.fr ds) env = .nx (env.set i (.own false ds)) := rfl
@[simp] theorem gN_ft (i : Nat) (cs : List Cp) (env : En) : gN i (.ft cs) env = .nx (env.set i (.im (.tup (cs.map Cp.d)))) := rfl
section
variable {X : Cx} {c : Cc} {W : WX} {pos p : Pos} {e tg : Expr} {fa : FE} {g : FG}
theorem d_gN {i : Nat} : ∀ v σ H Q, dG c (gN i) v σ H Q → gName i v σ H Q := fun v σ H Q h => by
  obtain ⟨env, L, N, t, r, q, h⟩ := h
  cases t with
  | im d =>
    obtain ⟨q1, q2⟩ := r.setIm (i := i) q
    exact h _ _ q1 (.of q2)
  | ft cs =>
    obtain ⟨q1, q2⟩ := r.setIm (i := i) q.wk
    exact h _ _ q1 (.of q2)
  | fr ds =>
    obtain ⟨a, xs, rfl, e1, rr, n1, n2, n3, re⟩ := q
    obtain ⟨q1, q2⟩ := re.setFr (i := i) (N := N) e1 rr n1 n2 n3
    exact h _ _ q1 q2
  | al j =>
    obtain ⟨⟨io, ds, e1⟩, e2⟩ := q
    simp only [gN, e1] at h
    cases io with
    | true => exact h.elim
    | false =>
      obtain ⟨a, xs, e3, e4, rr, f0, _⟩ := r.own j false ds e1
      rw [e2] at e3
      cases e3
      obtain ⟨hd, sd⟩ := r.drop e1 e2
      have oa : ownM σ env a := ⟨j, false, ds, e1, e2⟩
      have rr' : Reps c.K (Av (fun b => L b ∨ b = a) σ (env.set j .no)) H xs ds := rr.mono (.refl H) fun b ys g e => ⟨⟨fun z => z.elim g.1 fun z => g.2 (by rw [z]; exact oa), fun z => g.2 (own_set_no z).1⟩, e⟩
      obtain ⟨q1, q2⟩ := hd.setFr (i := i) (N := Nn σ env H) e4 rr' (fun z => (r.ext a z).1 oa) (f0 rfl) (.inl oa)
      refine h _ _ q1 (.of fun b nb => ?_)
      obtain ⟨y1, y2⟩ := sd b nb
      obtain ⟨y3, y4⟩ := q2 b y2 nb
      exact ⟨y3.trans y1, y4⟩
theorem PGw {t t' : TG} (h : PG X tg t) (k : ∀ v σ H Q, t' v σ H Q → t v σ H Q) : PG X tg t' := ⟨fun pins s σ H v u Q I r q => h.run pins s σ H v u Q I r (k v σ H Q q)⟩
theorem dg_name {i : Nat} (h : PG X tg (gName i)) : PG X tg (dG c (gN i)) := PGw h d_gN
theorem d_asg : ∀ D σ H, dS c W (sAsg fa g) D σ H → tAsg (dE c W fa) (dG c g) D σ H := fun D σ H h => by
  obtain ⟨env, L, r, h⟩ := h
  refine dE.of r (h.bind.mono fun t e1 H1 r1 s1 h1 v q => ⟨e1, L, Nn σ env H, t, r1, q, ?_⟩)
  cases eg : g t e1 with
  | nx e2 => rw [eg] at h1; exact fun σ' H' r' s' => h1 σ' H' r' (s'.after s1)
  | er => rw [eg] at h1; exact h1
  | rt t e => rw [eg] at h1; exact h1
  | bk e => rw [eg] at h1; exact h1
  | ct e => rw [eg] at h1; exact h1
  | ex x e => rw [eg] at h1; exact h1
theorem ds_asg (he : PE X e (dE c W fa)) (hg : PG X tg (dG c g)) (hs : swapsWithSole [tg] e pos.line X.env = pure false := by rfl) (hw : swappedStores [tg] e X.env = pure none := by rfl)
    (h1 : (assignEach [tg] X.env).map (·.2) = [assign tg X.env] := by rfl) : PS X (.Assign [tg] e pos) (dS c W (sAsg fa g)) := PSw (ps_asg he hg hs hw h1) d_asg
theorem ds_set {i : Nat} {x : Str} {pos' : Pos} (hN : X.N.Nodup) (hi : X.N[i]? = some x) (hx : Loc X.env.scope x) (he : PE X e (dE c W fa)) (hs : swapsWith e (some (.Name x pos')) pos.line X.env = pure false := by rfl) (hf : X.fn x = true ∨ X.env.scope.names.lookup x = some .local := by first | exact .inl rfl | exact .inr rfl | assumption) :
    PS X (.Assign [.Name x pos'] e pos) (dS c W (sAsg fa (gN i))) := PSw (ps_set hN hi hx he hs hf) fun D σ H h => by
  have := d_asg D σ H h
  obtain ⟨env, L, r, q⟩ := this
  exact ⟨env, L, r, q.mono fun t e1 H1 r1 s1 h1 v q => d_gN _ _ _ _ (h1 v q)⟩
end
end DL
namespace DL
open PySem PySem.Spec L2
variable [Wd]
def cpT (c : Cp) : T := match c.fr, c.d with
  | true, .lst ds => .fr ds
  | _, d => .im d
@[simp] theorem cpT_im (d : D) : cpT ⟨false, d⟩ = .im d := rfl
@[simp] theorem cpT_fr (ds : List D) : cpT ⟨true, .lst ds⟩ = .fr ds := rfl
abbrev FGs := List Cp → En → Fl
def dGs (c : Cc) (g : FGs) : TGs := fun vs σ H Q => ∃ env L N As cs, RE c (Lu L As) σ H env ∧ RepC c.K (Av (Lu L As) σ env) H As vs cs ∧ (∀ a ∈ As, ¬ L a ∧ c.H0 a = none ∧ N a) ∧ match g cs env with
  | .nx e => ∀ σ' H', RE c L σ' H' e → StpN N σ env H σ' e H' → Q σ' H'
  | _ => False
def gsNil : FGs := fun cs env => match cs with
  | [] => .nx env
  | _ => .er
def gsCons (g : FG) (gs : FGs) : FGs := fun cs env => match cs with
  | c :: cs => (g (cpT c) env).seq (gs cs)
  | [] => .er
def cpsOf (t : T) (env : En) : Option (List Cp) := match t with
  | .im (.tup ds) => some (ds.map fun d => ⟨false, d⟩)
  | .ft cs => some cs
  | _ => none
@[simp] theorem cpsOf_tup (ds : List D) (env : En) : cpsOf (.im (.tup ds)) env = some (ds.map fun d => ⟨false, d⟩) := rfl
@[simp] theorem cpsOf_ft (cs : List Cp) (env : En) : cpsOf (.ft cs) env = some cs := rfl
def gT (n : Nat) (gs : FGs) : FG := fun t env => match cpsOf t env with
  | some cs => if cs.length = n then gs cs env else .er
  | none => .er
section
variable {X : Cx} {c : Cc} {W : WX} {pos : Pos} {e : Expr} {es : List Expr} {g : FG} {gs : FGs}
theorem PGsw {t t' : TGs} (h : PGs X es t) (k : ∀ v σ H Q, t' v σ H Q → t v σ H Q) : PGs X es t' := ⟨fun pins s σ H v u Q I r q => h.run pins s σ H v u Q I r (k v σ H Q q)⟩
theorem dgs_nil : PGs X [] (dGs c gsNil) := PGsw pgs_nil fun vs σ H Q h => by
  obtain ⟨env, L, N, As, cs, r, q, n, h⟩ := h
  cases q with
  | nil => exact ⟨rfl, h σ H (r.less fun b z => .inl z) (.of .refl)⟩
  | im r rs => exact h.elim
  | fr a b r rs => exact h.elim
theorem dgs_step {L N Nh : Addr → Prop} {σ : St} {H : Hp} {env : En} {Q : St → Hp → Prop} {As Br : List Addr} {v : V} {vr : List V} {cp : Cp} {cr : List Cp} (r : RE c (Lu L As) σ H env) (qt : RepT c (Lu L Br) Nh σ H env v (cpT cp)) (re : RE c (Lu L Br) σ H env) (rc : RepC c.K (Av (Lu L As) σ env) H Br vr cr)
    (sub : ∀ b ∈ Br, b ∈ As ∧ ¬ Nh b) (hN : ∀ b, Nh b → b ∈ As ∧ N b) (n : ∀ a ∈ As, ¬ L a ∧ c.H0 a = none ∧ N a) (h : match ((g (cpT cp) env).seq (gs cr)) with
      | .nx e => ∀ σ' H', RE c L σ' H' e → StpN N σ env H σ' e H' → Q σ' H'
      | _ => False) : dG c g v σ H fun σ' H' => dGs c gs vr σ' H' Q := by
  refine ⟨env, Lu L Br, Nh, cpT cp, re, qt, ?_⟩
  cases eg : g (cpT cp) env with
  | er => rw [eg] at h; exact h
  | rt t e => rw [eg] at h; exact h
  | bk e => rw [eg] at h; exact h
  | ct e => rw [eg] at h; exact h
  | ex x e => rw [eg] at h; exact h
  | nx e1 =>
    rw [eg] at h
    dsimp only [Fl.seq] at h
    intro σ1 H1 r1 s1
    have key : ∀ b o, H b = some o → ¬ ownM σ env b → ¬ Nh b → H1 b = some o ∧ ¬ ownM σ1 e1 b := fun b o e nb nh => by
      obtain ⟨q1, q2⟩ := s1 b (Nn.not e nb) nh
      exact ⟨q1.trans e, fun z => q2 (.inl z)⟩
    have isL : ∀ b, ownM σ env b ∨ Nh b → ∃ xs, H b = some (.lst xs) := fun b z => by
      rcases z with ⟨i, io, ds, e1, e2⟩ | z
      · obtain ⟨a, xs, e3, e4, _⟩ := r.own i io ds e1
        rw [e2] at e3
        cases e3
        exact ⟨xs, e4⟩
      · exact (r.ext b (.inr (hN b z).1)).2
    have tk : TK H H1 := by
      have nl : ∀ b o, H b = some o → (∀ xs, o ≠ .lst xs) → H1 b = some o := fun b o e nn => by
        refine (key b o e (fun z => ?_) fun z => ?_).1
        · obtain ⟨xs, q⟩ := isL b (.inl z)
          rw [e] at q
          cases q
          exact nn xs rfl
        · obtain ⟨xs, q⟩ := isL b (.inr z)
          rw [e] at q
          cases q
          exact nn xs rfl
      exact ⟨fun b xs e => nl b _ e (fun _ z => nomatch z), fun b o u e => nl b _ e (fun _ z => nomatch z)⟩
    have rc1 : RepC c.K (Av (Lu L Br) σ1 e1) H1 Br vr cr := rc.mono tk (fun b xs gb e => by
      obtain ⟨q1, q2⟩ := key b _ e gb.2 fun z => gb.1 (.inr (hN b z).1)
      exact ⟨⟨fun z => gb.1 (z.imp id fun z => (sub b z).1), q2⟩, q1⟩) fun b hb xs e => (key b _ e (r.ext b (.inr (sub b hb).1)).1 (sub b hb).2).1
    refine ⟨e1, L, N, Br, cr, r1, rc1, fun b hb => n b (sub b hb).1, ?_⟩
    cases eg2 : gs cr e1 with
    | er => rw [eg2] at h; exact h
    | rt t e => rw [eg2] at h; exact h
    | bk e => rw [eg2] at h; exact h
    | ct e => rw [eg2] at h; exact h
    | ex x e => rw [eg2] at h; exact h
    | nx e2 =>
      rw [eg2] at h
      exact fun σ2 H2 r2 s2 => h σ2 H2 r2 (StpN.trans (fun b nb nN => s1 b nb fun z => nN (hN b z).2) s2)
theorem d_gsCons : ∀ vs σ H Q, dGs c (gsCons g gs) vs σ H Q → gCons (dG c g) (dGs c gs) vs σ H Q := fun vs σ H Q h => by
  obtain ⟨env, L, N, As, cs, r, q, n, h⟩ := h
  cases q with
  | nil => exact h.elim
  | im rr rs => exact ⟨_, _, rfl, dgs_step (cp := ⟨false, _⟩) (Br := As) (Nh := fun _ => False) r rr r rs (fun b hb => ⟨hb, id⟩) (fun b z => z.elim) n h⟩
  | fr na ea rr rs =>
    rename_i As a xs ds vs cs
    have key : ∀ b, Lu L (a :: As) b ↔ (Lu L As b ∨ b = a) := fun b => by simp [Lu, or_assoc, or_comm, or_left_comm]
    have r' : RE c (fun b => Lu L As b ∨ b = a) σ H env := r.less fun b z => (key b).mpr z
    have rr' : Reps c.K (Av (fun b => Lu L As b ∨ b = a) σ env) H xs ds := rr.mono (.refl H) fun b ys gb e => ⟨⟨fun z => gb.1 ((key b).mpr z), gb.2⟩, e⟩
    have na' := n a List.mem_cons_self
    exact ⟨_, _, rfl, dgs_step (cp := ⟨true, .lst ds⟩) (Br := As) (Nh := fun b => b = a) r ⟨a, xs, rfl, ea, rr', fun z => z.elim na'.1 na, na'.2.1, rfl, r'⟩ (r.less fun b z => (key b).mpr (.inl z)) rs (fun b hb => ⟨List.mem_cons_of_mem _ hb, fun z => na (by rw [← z]; exact hb)⟩) (fun b z => by rw [z]; exact ⟨List.mem_cons_self, na'.2.2⟩) n h⟩
theorem d_gsNil : ∀ vs σ H Q, dGs c gsNil vs σ H Q → gNil vs σ H Q := fun vs σ H Q h => by
  obtain ⟨env, L, N, As, cs, r, q, n, h⟩ := h
  cases q with
  | nil => exact ⟨rfl, h σ H (r.less fun b z => .inl z) (.of .refl)⟩
  | im r rs => exact h.elim
  | fr a b r rs => exact h.elim
theorem dgs_cons (h1 : PG X e (dG c g)) (h2 : PGs X es (dGs c gs)) (hs : (assignEach (e :: es) X.env).map (·.2) = assign e X.env :: (assignEach es X.env).map (·.2) := by rfl) : PGs X (e :: es) (dGs c (gsCons g gs)) := PGsw (pgs_cons h1 h2 hs) d_gsCons
theorem dg_tup {k : Nat} {n : Nat} (hc : X.calm = true) (h : PGs X es (dGs c gs)) (hn : (assignEach es X.env).length = n := by rfl) (hst : (assignEach es X.env).findIdx? (·.1) = none := by rfl) (hK : c.K = X.K := by rfl) : PG X (.Tuple es k pos) (dG c (gT n gs)) :=
  PGw (pg_tup hc h hn hst) fun v σ H Q h => by
    obtain ⟨env, L, N, t, r, q, h⟩ := h
    unfold gT at h
    cases ec : cpsOf t env with
    | none => rw [ec] at h; exact h.elim
    | some cs =>
      rw [ec] at h
      dsimp only at h
      by_cases hl : cs.length = n
      · rw [if_pos hl] at h
        cases t with
        | al i => cases ec
        | fr ds => cases ec
        | im d =>
          cases d with
          | tup ds =>
            cases ec
            cases (show Rep c.K (Av L σ env) H v (.tup ds) from q) with
            | tup hs rs =>
              rename_i a xs
              rw [hK] at hs
              have conv : ∀ {xs : List V} {ds : List D}, Reps c.K (Av L σ env) H xs ds → RepC c.K (Av (Lu L []) σ env) H [] xs (ds.map fun d => ⟨false, d⟩) := fun {xs ds} r => by
                induction ds generalizing xs with
                | nil => cases r; exact .nil
                | cons d ds ih =>
                  cases r with
                  | cons r rs => exact .im (r.mono (.refl H) fun b ys g e => ⟨⟨fun z => z.elim g.1 (fun z => nomatch z), g.2⟩, e⟩) (ih rs)
              refine ⟨a, xs, rfl, hs, by rw [rs.length, ← hl, List.length_map], env, L, N, [], _, r.less (fun b z => z.elim id (fun z => nomatch z)), conv rs, (fun a z => nomatch z), h⟩
          | non => cases ec
          | bl b => cases ec
          | int b => cases ec
          | str b => cases ec
          | lst b => cases ec
          | fz b => cases ec
          | dct _ _ => cases ec
          | kd _ _ => cases ec
        | ft cs' =>
          cases ec
          obtain ⟨a, xs, As, rfl, hs, rc, n1, re⟩ := q
          rw [hK] at hs
          have len : ∀ {G : Addr → Prop} {As vs cs}, RepC c.K G H As vs cs → vs.length = cs.length := fun {G As vs cs} r => by
            induction r with
            | nil => rfl
            | im _ _ ih => simp [ih]
            | fr _ _ _ _ ih => simp [ih]
          exact ⟨a, xs, rfl, hs, by rw [len rc, hl], env, L, N, As, _, re, rc, n1, h⟩
      · rw [if_neg hl] at h
        exact h.elim
theorem sK.bind2 {α : Type} {S : Sp0} {N L : Addr → Prop} {σ : St} {H : Hp} {env : En} {D : Ends} {r : R α} {g : α → En → Fl} (h : sK c W L S N (r.bindF g) D) (hS : ∀ σ' e' H', Stp σ env H σ' e' H' → S σ' e' H') : dK c W L σ H env r fun a e1 H1 => sK c W L S N (g a e1) D := by
  cases r with
  | er => exact h
  | ex x e => exact fun H' r s => h σ H' r (hS _ _ _ s)
  | ok a e => exact fun H' r s => h
def sPar (i j : Nat) (fa : FA) : FS := fun env => (fa env).bindF fun ts e => (disp T.ft ts e).bindF fun t e => match t with
  | .ft [c1, c2] => match gsCons (gN i) (gsCons (gN j) gsNil) [c1, c2] e with
    | .nx e => .nx e
    | _ => .er
  | _ => .er
theorem ds_par {i j : Nat} {x y : Str} {a b : Expr} {fa : FA} {px py pt : Pos} {kt k2 pt2} (hc : X.calm = true) (hN : X.N.Nodup) (hi : X.N[i]? = some x) (hj : X.N[j]? = some y) (hij : i ≠ j)
    (hx : X.env.scope.names.lookup x = some .local) (hy : X.env.scope.names.lookup y = some .local) (ha : PA X [a, b] (dA c W fa))
    (hw : swappedStores [.Tuple [.Name x px, .Name y py] kt pt] (.Tuple [a, b] k2 pt2) X.env = pure (some [x, y]) := by rfl)
    (hs : swapsWithSole [.Tuple [.Name x px, .Name y py] kt pt] (.Tuple [a, b] k2 pt2) pos.line X.env = pure false := by rfl) :
    PS X (.Assign [.Tuple [.Name x px, .Name y py] kt pt] (.Tuple [a, b] k2 pt2) pos) (dS c W (sPar i j fa)) := PSw (ps_par hc hN hi hj hij hx hy ha hw hs) fun D σ H h => by
  obtain ⟨env, L, r, h⟩ := h
  refine dA.of r (h.bind.mono fun ts e1 H1 r1 s1 h1 vs As q n r2 => ?_)
  have h2 := h1.bind2 (σ := σ) (H := H1) (env := e1) fun _ _ _ s => s1.trans s
  refine disp_ok (N := Nn σ env H) r2 q (fun a z => n a z) (fun a z => s1.back (.inl z)) h2 fun len cs env' Bs r3 s3 q3 n3 h3 => ?_
  have h4 := h3 H1 r3.bare s3
  -- two components
  have two : ∃ c1 c2 v1 v2, cs = [c1, c2] ∧ vs = [v1, v2] := by
    have len : ∀ {G : Addr → Prop} {As vs cs}, RepC c.K G H1 As vs cs → vs.length = cs.length := fun {G As vs cs} r => by
      induction r with
      | nil => rfl
      | im _ _ ih => simp [ih]
      | fr _ _ _ _ ih => simp [ih]
    have l := len q3
    cases cs with
    | nil => exact h4.elim
    | cons c1 cs =>
      cases cs with
      | nil => exact h4.elim
      | cons c2 cs =>
        cases cs with
        | cons _ _ => exact h4.elim
        | nil =>
          cases vs with
          | nil => simp at l
          | cons v1 vs =>
            cases vs with
            | nil => simp at l
            | cons v2 vs =>
              cases vs with
              | nil => exact ⟨c1, c2, v1, v2, rfl, rfl⟩
              | cons _ _ => simp at l
  obtain ⟨c1, c2, v1, v2, rfl, rfl⟩ := two
  refine ⟨v1, v2, rfl, ?_⟩
  dsimp only at h4
  have final : dGs c (gsCons (gN i) (gsCons (gN j) gsNil)) [v1, v2] σ H1 fun σ' H' => D.nx σ' H' := by
    refine ⟨env', L, Nn σ env H, Bs, [c1, c2], r3, q3, n3, ?_⟩
    cases eg : gsCons (gN i) (gsCons (gN j) gsNil) [c1, c2] env' with
    | nx e2 =>
      rw [eg] at h4
      exact fun σ' H' r' s' => h4 σ' H' r' (s'.after (s1.trans s3))
    | er => rw [eg] at h4; exact h4
    | rt t e => rw [eg] at h4; exact h4
    | bk e => rw [eg] at h4; exact h4
    | ct e => rw [eg] at h4; exact h4
    | ex x e => rw [eg] at h4; exact h4
  -- the two names, one after the other, are the two slots
  obtain ⟨w1, wr, ew, f1⟩ := d_gsCons _ _ _ _ final
  cases ew
  obtain ⟨w2, wr2, ew, f2⟩ := d_gsCons _ _ _ _ (d_gN _ _ _ _ f1)
  cases ew
  exact (d_gsNil _ _ _ _ (d_gN _ _ _ _ f2)).2
end
end DL
namespace DL
open PySem PySem.Spec L2
variable [Wd]
def sAug (i : Nat) (g : D → D → Option T) (fa : FE) : FS := fun env => match env[i]? with
  | some (.im d) => (fa env).bindF fun t e => (op2 g (.im d) t e).bindF fun t' e2 => match gN i t' e2 with
    | .nx e3 => .nx e3
    | _ => .er
  | _ => .er
def elemD : T → Option D
  | .im d => some d
  | .fr ds => some (.lst ds)
  | .ft cs => some (.tup (cs.map Cp.d))
  | .al _ => none
@[simp] theorem elemD_im (d : D) : elemD (.im d) = some d := rfl
@[simp] theorem elemD_fr (d : List D) : elemD (.fr d) = some (.lst d) := rfl
def gSb (fo fi : FE) : FG := fun t env => match fo env with
  | .ok to e1 => match fi e1 with
    | .ok ti e2 => match to with
      | .al j => match e2[j]?, ti.val e2, elemD t with
        | some (.own b ds), some (.int k), some d => match ixN ds.length k with
          | some m => .nx (e2.set j (.own b (ds.set m d)))
          | none => .er
        | _, _, _ => .er
      | _ => .er
    | _ => .er
  | _ => .er
section
variable {X : Cx} {c : Cc} {W : WX} {pos p : Pos} {e o i : Expr} {es : List Expr} {fa fo fi : FE} {fas : FA}
theorem ds_aug {i : Nat} {x : Str} {op : Operator} {r : R2} {g : D → D → Option T} {pos' : Pos} (hN : X.N.Nodup) (hi : X.N[i]? = some x) (hx : Loc X.env.scope x) (hr : OpR X (inplaceOp op) r) (ho : OpD c r g) (he : PE X e (dE c W fa)) (hf : X.fn x = true ∨ X.env.scope.names.lookup x = some .local := by first | exact .inl rfl | exact .inr rfl | assumption) :
    PS X (.AugAssign (.Name x pos') op e pos) (dS c W (sAug i g fa)) := PSw (ps_aug (ti := r) hN hi hx he hr hf) fun D σ H h => by
  obtain ⟨env, L, re, h⟩ := h
  unfold sAug at h
  cases ei : env[i]? with
  | none => rw [ei] at h; exact h.elim
  | some s =>
    rw [ei] at h
    cases s with
    | no => exact h.elim
    | hd _ => exact h.elim
    | own b ds => exact h.elim
    | im d =>
      obtain ⟨v, ev, rv⟩ := re.im i d ei
      refine ⟨v, ev, dE.of re (h.bind.mono fun t e1 H1 r1 s1 h1 y q1 => ?_)⟩
      have h2 := h1.bind2 (σ := σ) (H := H1) (env := e1) fun _ _ _ s => s1.trans s
      refine dK_op2 (W := W) (N1 := fun _ => True) (N2 := fun _ => True) (N := Nn σ env H) ho r1 (fun d' e => by cases e; exact Rep.o (re.rep s1 rv)) (fun d e => q1.opr0 r1 e) (fun a n => s1.back n) (h2.mono fun t' e2 H2 r2 s2 h3 z q2 => ?_)
      refine d_gN _ _ _ _ ⟨e2, L, Nn σ env H, t', r2, q2, ?_⟩
      cases eg : gN i t' e2 with
      | nx e3 => rw [eg] at h3; exact fun σ' H' r' s' => h3 σ' H' r' (s'.after (s1.trans s2))
      | er => rw [eg] at h3; exact h3
      | rt t e => rw [eg] at h3; exact h3
      | bk e => rw [eg] at h3; exact h3
      | ct e => rw [eg] at h3; exact h3
      | ex x e => rw [eg] at h3; exact h3
theorem RepT.elem {L N : Addr → Prop} {σ : St} {H : Hp} {env : En} {v : V} {t : T} {d : D} (q : RepT c L N σ H env v t) (e : elemD t = some d) : Rep c.K (Av L σ env) H v d := by
  cases t with
  | al j => cases e
  | im d' => cases e; exact q
  | fr ds => cases e; exact q.wk
  | ft cs => cases e; exact q.wk
theorem dg_sub (ho : PE X o (dE c W fo)) (hi : PE X i (dE c W fi)) (ha : ∀ v, assign (.Subscript o i pos) X.env v = (do
      let ov ← holding [v] (eval o X.env)
      let iv ← holding [v, ov] (eval i X.env)
      standAt pos
      holding [v, ov, iv] (setItem ov iv v)
      release [v, ov, iv] []) := by intro _; rfl) : PG X (.Subscript o i pos) (dG c (gSb fo fi)) := PGw (pg_sub ho hi set_list ha) fun v σ H Q h => by
  obtain ⟨env, L, N, t, re, q, h⟩ := h
  unfold gSb at h
  cases e1 : fo env with
  | er => rw [e1] at h; exact h.elim
  | ex x e => rw [e1] at h; exact h.elim
  | ok to en1 =>
    rw [e1] at h
    dsimp only at h
    cases e2 : fi en1 with
    | er => rw [e2] at h; exact h.elim
    | ex x e => rw [e2] at h; exact h.elim
    | ok ti en2 =>
      rw [e2] at h
      dsimp only at h
      refine dE.of re ?_
      rw [e1]
      intro H1 r1 s1 x1 q1
      refine dE.of r1 ?_
      rw [e2]
      intro H2 r2 s2 x2 q2
      cases to with
      | im d => exact h.elim
      | fr d => exact h.elim
      | ft d => exact h.elim
      | al j =>
        dsimp only at h
        cases ej : en2[j]? with
        | none => rw [ej] at h; exact h.elim
        | some s =>
          cases s with
          | no => rw [ej] at h; exact h.elim
          | hd _ => rw [ej] at h; exact h.elim
          | im d => rw [ej] at h; exact h.elim
          | own b ds =>
            cases et : ti.val en2 with
            | none => rw [ej, et] at h; exact h.elim
            | some dk =>
              cases ed : elemD t with
              | none => rw [ej, et, ed] at h; cases dk <;> exact h.elim
              | some d =>
                rw [ej, et, ed] at h
                cases dk with
                | int k =>
                  dsimp only at h
                  cases em : ixN ds.length k with
                  | none => rw [em] at h; exact h.elim
                  | some m =>
                    rw [em] at h
                    obtain ⟨a, xs, sj, ea, ra, _⟩ := r2.own j b ds ej
                    obtain ⟨_, sj'⟩ := q1
                    rw [sj] at sj'
                    cases sj'
                    have qv := re.rep (s1.trans s2) (q.elem ed)
                    refine ⟨a, xs, k, m, rfl, (q2.opr0 r2 et).int, ea, by rw [ra.length]; exact em, ?_⟩
                    have kp : ∀ b o, b ≠ a → H2 b = some o → upd H2 a (.lst (xs.set m v)) b = some o := fun b o ne e => by rw [upd_ne ne]; exact e
                    have oa : ownM σ en2 a := ⟨j, b, ds, ej, sj⟩
                    have tk : TK H2 (upd H2 a (.lst (xs.set m v))) := ⟨fun b xs e => kp b _ (fun z => by rw [z, ea] at e; cases e) e, fun b o u e => kp b _ (fun z => by rw [z, ea] at e; cases e) e⟩
                    have rs : Reps c.K (Av L σ en2) (upd H2 a (.lst (xs.set m v))) (xs.set m v) (ds.set m d) := Reps.set (qv.mono tk fun b ys g e => ⟨g, kp b _ (fun z => g.2 (by rw [z]; exact oa)) e⟩) m (ra.mono tk fun b ys g e => ⟨g, kp b _ (fun z => g.2 (by rw [z]; exact oa)) e⟩)
                    obtain ⟨y1, y2⟩ := r2.put ej sj kp upd_same rs
                    exact h _ _ y1 (.of ((s1.trans s2).trans y2))
                | non => exact h.elim
                | bl k => exact h.elim
                | str k => exact h.elim
                | tup k => exact h.elim
                | lst k => exact h.elim
                | fz k => exact h.elim
                | dct _ _ => exact h.elim
                | kd _ _ => exact h.elim

def metT (k : List D → List T → En → Option (D × List D × En)) (to : T) (ts : List T) (e : En) : R T := match to with
  | .al j => match e[j]? with
    | some (.own _ ds) => match k ds ts e with
      | some (d, ds', e') => match e'[j]? with
        | some (.own b _) => .ok (.im d) (e'.set j (.own b ds'))
        | _ => .er
      | none => .er
    | _ => .er
  | _ => .er
def eMet (k : List D → List T → En → Option (D × List D × En)) (fo : FE) (fa : FA) : FE := fun env => (fo env).bind fun to e1 => match to with
  | .al j => (fa e1).bind fun ts e2 => metT k (.al j) ts e2
  | _ => .er
def eMet0 (k : List D → List T → En → Option (D × List D × En)) (fo : FE) : FE := fun env => (fo env).bind fun to e1 => match to with
  | .al j => metT k (.al j) [] e1
  | _ => .er
def MetD (c : Cc) (r : V → List V → Hp → VK → Prop) (k : List D → List T → En → Option (D × List D × En)) : Prop := ∀ (L : Addr → Prop) (σ : St) (H : Hp) (env : En) (a : Addr) (xs : List V) (ds : List D) (vs : List V) (As : List Addr) (ts : List T) (d : D) (ds' : List D) (env' : En) (Q : VK) (j : Nat) (b : Bool),
  RE c (Lu L As) σ H env → (∀ b ∈ As, ¬ L b ∧ c.H0 b = none) → RepAs c.K (Av (Lu L As) σ env) σ H env As vs ts → env[j]? = some (.own b ds) → σ[j]? = some (some (.ref a)) → H a = some (.lst xs) → Reps c.K (Av L σ env) H xs ds → k ds ts env = some (d, ds', env') → (∃ b' ds2, env'[j]? = some (Sl.own b' ds2)) →
  (∀ v xs', RE c L σ H env' → Stp σ env H σ env' H → Rep c.K (Av L σ env') H v d → Reps c.K (Av L σ env') H xs' ds' → Q v (upd H a (.lst xs'))) → r (.ref a) vs H Q

theorem met_ok {r : V → List V → Hp → VK → Prop} {k : List D → List T → En → Option (D × List D × En)} (hm : MetD c r k) {L : Addr → Prop} {σ : St} {H H0 H1 H2 : Hp} {env e1 e2 : En} {x : V} {to : T} {vs : List V} {As : List Addr} {ts : List T} {N : Addr → Prop} {Q : VK}
    (s02 : Stp σ env H σ e2 H2) (q1 : RepT c L N σ H1 e1 x to) (r2 : RE c L σ H2 e2) (q : RepAs c.K (Av (Lu L As) σ e2) σ H2 e2 As vs ts) (n : ∀ a ∈ As, ¬ L a ∧ c.H0 a = none ∧ Nn σ e1 H1 a) (r3 : RE c (Lu L As) σ H2 e2)
    (h : dK c W L σ H2 e2 (metT k to ts e2) fun t env' H' => ∀ v, RepT c L (Nn σ env H) σ H' env' v t → Q v H') : r x vs H2 Q := by
  unfold metT at h
  cases to with
  | im d => exact h.elim
  | fr d => exact h.elim
  | ft d => exact h.elim
  | al j =>
    dsimp only at h
    cases ej : e2[j]? with
    | none => rw [ej] at h; exact h.elim
    | some s =>
      cases s with
      | no => rw [ej] at h; exact h.elim
      | hd _ => rw [ej] at h; exact h.elim
      | im d => rw [ej] at h; exact h.elim
      | own b ds =>
        rw [ej] at h
        dsimp only at h
        cases ek : k ds ts e2 with
        | none => rw [ek] at h; exact h.elim
        | some w =>
          obtain ⟨d, ds', e'⟩ := w
          rw [ek] at h
          dsimp only at h
          cases ej' : e'[j]? with
          | none => rw [ej'] at h; exact h.elim
          | some s' =>
            cases s' with
            | no => rw [ej'] at h; exact h.elim
            | hd _ => rw [ej'] at h; exact h.elim
            | im d => rw [ej'] at h; exact h.elim
            | own b' ds2 =>
              rw [ej'] at h
              obtain ⟨a, xs, sj, ea, ra, _⟩ := r2.own j b ds ej
              obtain ⟨_, sj'⟩ := q1
              rw [sj] at sj'
              cases sj'
              refine hm L σ H2 e2 a xs ds vs As ts d ds' e' Q j b r3 (fun b hb => ⟨(n b hb).1, (n b hb).2.1⟩) q ej sj ea ra ek ⟨b', ds2, ej'⟩ fun v xs' r4 s4 qv qs => ?_
              have kp : ∀ b o, b ≠ a → H2 b = some o → upd H2 a (.lst xs') b = some o := fun b o ne e => by rw [upd_ne ne]; exact e
              have oa : ownM σ e' a := ⟨j, b', ds2, ej', sj⟩
              have tk : TK H2 (upd H2 a (.lst xs')) := ⟨fun b xs e => kp b _ (fun z => by rw [z, ea] at e; cases e) e, fun b o u e => kp b _ (fun z => by rw [z, ea] at e; cases e) e⟩
              obtain ⟨y1, y2⟩ := r4.put ej' sj kp upd_same (qs.mono tk fun b ys g e => ⟨g, kp b _ (fun z => g.2 (by rw [z]; exact oa)) e⟩)
              exact h _ y1 (s4.trans y2) v (r4.rep y2 qv)
theorem RepT.tyL {L N : Addr → Prop} {σ : St} {H : Hp} {env : En} {v : V} {j : Nat} (r : RE c L σ H env) (q : RepT c L N σ H env v (.al j)) : tyV c.K "list" v H := by
  obtain ⟨⟨io, ds, e1⟩, e2⟩ := q
  obtain ⟨a, xs, e3, e4, _⟩ := r.own j io ds e1
  rw [e2] at e3
  cases e3
  exact .inl ⟨rfl, _, .of e4⟩
theorem de_met {r : V → List V → Hp → VK → Prop} {k : List D → List T → En → Option (D × List D × En)} {name : Str} {apos cpos : Pos} {id : String} (hm : MetD c r k) (slot : Slot "list" name id) (hty : typeOf (.builtin id) = pure (.type "method_descriptor")) (hr : MtR X id r) (ho : PE X o (dE c W fo)) (ha : PA X (e :: es) (dA c W fas)) (hK : c.K = X.K := by rfl)
    (hbase : attributeBase o name X.env (eval o X.env) = eval o X.env := by rfl)
    (hfew : ((backTo cpos (starEach (e :: es) X.env)).all (fun x => !x.1) && (backToKw cpos (keywordEach [] X.env)).all (fun x => x.1.isSome)
      && decide ((e :: es).length + ([] : List Keyword).length + (if ([] : List Keyword).isEmpty then 0 else 1) < 30)) = true := by rfl)
    (hline : (apos.endLine == cpos.line) = true := by rfl) (hs : starEach (e :: es) X.env = (false, eval e X.env) :: starEach es X.env := by rfl) (hplain : (backTo cpos (starEach es X.env)).any (·.1) = false := by rfl) :
    PE X (.Call (.Attribute o name apos) (e :: es) [] cpos) (dE c W (eMet k fo fas)) :=
  PEw (pe_bm PySem.F.plainAttrs_list slot hty hr ho ha hbase hfew hline hs hplain) fun σ H Q h => by
    obtain ⟨env, L, re, h⟩ := dE_iff.mp h
    refine dE.of re (h.bind.mono fun to e1 H1 r1 s1 h1 x q1 => ?_)
    cases to with
    | im d => exact h1.elim
    | fr d => exact h1.elim
    | ft d => exact h1.elim
    | al j =>
      refine ⟨by rw [← hK]; exact q1.tyL r1, dA.of r1 (h1.bind.mono fun ts e2 H2 r2 s2 h2 vs As q n r3 => ?_)⟩
      exact met_ok (H0 := H) hm (s1.trans s2) q1 r2 q n r3 h2
def kApp (ds : List D) (ts : List T) (env : En) : Option (D × List D × En) := if ds.length < 1000000 then match mvs ts env with
  | some ([c], e) => some (.non, ds ++ [c.d], e)
  | _ => none else none
def kExt (ds : List D) (ts : List T) (env : En) : Option (D × List D × En) := match vals env ts with
  | some [.lst es] => if ds.length + es.length ≤ 1000000 then some (.non, ds ++ es, env) else none
  | _ => none
def kPopAt (ds : List D) (ts : List T) (env : En) : Option (D × List D × En) := match vals env ts with
  | some [.int i] => if -(2 ^ 63) ≤ i ∧ i < 2 ^ 63 then (match ixN ds.length i with
    | some m => (ds[m]?).map fun d => (d, ds.eraseIdx m, env)
    | none => none) else none
  | _ => none
theorem m_app : MetD c rAppend kApp := by
  intro L σ H env a xs ds vs As ts d ds' env' Q j b r n q ej sj ea ra ek ow kk
  unfold kApp at ek
  split at ek
  · rename_i hl
    cases em : mvs ts env with
    | none => rw [em] at ek; cases ek
    | some w =>
      obtain ⟨cs, e'⟩ := w
      rw [em] at ek
      obtain ⟨S', Bs, h1, h2, h3, h4, h5, h6, h7⟩ := q.mv As env r (fun b => Iff.rfl) (fun _ z => z) em
      cases cs with
      | nil => cases ek
      | cons cp cs =>
        cases cs with
        | cons _ _ => cases ek
        | nil =>
          cases ek
          have rB : Reps c.K (Av L σ env') H vs [cp.d] := h5.reps (G' := Av L σ env') (fun b g => ⟨fun z => ((h3 b).mp g).1 (.inl z), ((h3 b).mp g).2⟩) fun b hb => ⟨fun z => by
            rcases (h6 b hb).2 with y | y
            · exact (n b y).1 z
            · exact y.2.2.2 z, (h1.ext b (.inr (h6 b hb).1)).1⟩
          cases rB with
          | cons r1 rs =>
            cases rs
            refine ⟨a, xs, _, rfl, rfl, ea, by rw [ra.length]; exact Nat.lt_of_lt_of_le hl (line6 (Nat.le_refl _)), ?_⟩
            exact kk .non _ h1.bare h2 .non ((r.bare.reps h2 ra).append (.cons r1 .nil))
  · cases ek
theorem m_ext : MetD c rExtend kExt := by
  intro L σ H env a xs ds vs As ts d ds' env' Q j b r n q ej sj ea ra ek ow kk
  unfold kExt at ek
  split at ek
  · rename_i es ev
    split at ek
    · rename_i hl
      cases ek
      obtain ⟨v, rfl, rv⟩ := (q.oprs r.bare r (fun a z => ⟨z, (n a z).1⟩) ev).one
      obtain ⟨b, ys, rfl, eb, rb⟩ := rv.lst
      exact ⟨a, b, xs, ys, rfl, rfl, ea, eb, by rw [ra.length, rb.length]; exact line6 hl, kk .non _ r.bare .refl .non (ra.append rb)⟩
    · cases ek
  · cases ek
theorem m_popAt : MetD c rPopAt kPopAt := by
  intro L σ H env a xs ds vs As ts d ds' env' Q j b r n q ej sj ea ra ek ow kk
  unfold kPopAt at ek
  split at ek
  · rename_i i ev
    split at ek
    · rename_i hl
      cases em : ixN ds.length i with
      | none => rw [em] at ek; cases ek
      | some m =>
        rw [em] at ek
        obtain ⟨d', e1, e2⟩ := Option.map_eq_some_iff.mp ek
        cases e2
        obtain ⟨v, rfl, rv⟩ := (q.oprs r.bare r (fun a z => ⟨z, (n a z).1⟩) ev).one
        rw [rv.int]
        obtain ⟨y, ey, ry⟩ := ra.get e1
        exact ⟨a, xs, i, m, y, rfl, rfl, ea, hl.1, hl.2, by rw [ra.length]; exact (ixN_seq em).1, ey, kk y _ r.bare .refl ry (ra.erase m)⟩
    · cases ek
  · cases ek
end
end DL
namespace DL
open PySem PySem.Spec L2
variable [Wd]
structure Wk where
  its : List D
  chk : Option (Nat × List D)
def Wk.ok (k : Wk) (env : En) : Prop := match k.chk with
  | none => True
  | some (j, ds) => ∃ b, env[j]? = some (Sl.own b ds)
@[simp] theorem wk_ok_none (its : List D) (env : En) : Wk.ok ⟨its, none⟩ env = True := rfl
abbrev FI := En → R Wk
structure Src (c : Cc) (A : (Addr → Prop) → Prop) (S : Sp0) (J : It) (k : Wk) : Prop where
  stop : ∀ L i σ H env, A L → RE c L σ H env → S σ env H → k.ok env → k.its.length ≤ i → J.stop i H
  go : ∀ L i σ H env, A L → RE c L σ H env → S σ env H → k.ok env → i < k.its.length → J.go i H
  yld : ∀ L i σ H env x H' d, A L → RE c L σ H env → S σ env H → k.ok env → k.its[i]? = some d → J.yld i H x H' → (∀ b o, H b = some o → H' b = some o) ∧ Rep c.K (Av L σ env) H' x d
def SubS (σ σ' : St) : Prop := ∀ (j : Nat) (v : V), σ'[j]? = some (some v) → σ[j]? = some (some v)
abbrev Lx (L : Addr → Prop) (H : Hp) (L2 : Addr → Prop) : Prop := ∀ a, L2 a → L a ∨ H a = none
abbrev Sw (k : Wk) (σ : St) (env : En) (H : Hp) : Sp0 := fun σ' e' H' => Stp σ env H σ' e' H' ∧ (k.chk = none ∨ ∀ (j : Nat) (ds : List D), k.chk = some (j, ds) → ∀ v : V, σ'[j]? = some (some v) → σ[j]? = some (some v))
def dI (c : Cc) (W : WX) (f : FI) : TI := fun σ H R => ∃ env L, RE c L σ H env ∧ dK c W L σ H env (f env) fun k e1 H1 => ∀ J, (k.ok e1 ∧ Src c (Lx L H1) (Sw k σ e1 H1) J k) → R J H1
def iT (t : T) (env : En) : R Wk := match t with
  | .im (.tup ds) => .ok ⟨ds, none⟩ env
  | .ft cs => .ok ⟨cs.map Cp.d, none⟩ env
  | _ => .er
def iL (fz : Bool) (t : T) (env : En) : R Wk := match t with
  | .im (.lst ds) => .ok ⟨ds, none⟩ env
  | .im (.fz ds) => .ok ⟨ds, none⟩ env
  | .al j => match env[j]? with
    | some (.own _ ds) => if fz then .ok ⟨ds, none⟩ (env.set j (.im (.lst ds))) else .ok ⟨ds, some (j, ds)⟩ env
    | _ => .er
  | _ => .er
def fiT (fa : FE) : FI := fun env => (fa env).bind iT
def fiL (fz : Bool) (fa : FE) : FI := fun env => (fa env).bind fun t => iL fz t.weak
def rngD (m n : Int) : List D := (List.range (n - m).toNat).map fun (i : Nat) => D.int (m + (i : Int))
def iR1 (ts : List T) (env : En) : R Wk := match vals env ts with
  | some [.int n] => if -(2 ^ 62) ≤ n ∧ n < 2 ^ 62 then .ok ⟨rngD 0 n, none⟩ env else .er
  | _ => .er
def fiR1 (fa : FA) : FI := fun env => (fa env).bind iR1
def iR2 (ts : List T) (env : En) : R Wk := match vals env ts with
  | some [.int m, .int n] => if -(2 ^ 62) ≤ m ∧ m < 2 ^ 62 ∧ -(2 ^ 62) ≤ n ∧ n < 2 ^ 62 then .ok ⟨rngD m n, none⟩ env else .er
  | _ => .er
def fiR2 (fa : FA) : FI := fun env => (fa env).bind iR2
def enumD (ds : List D) : List D := ds.mapIdx fun (i : Nat) d => .tup [.int (i : Int), d]
def onI (f : List D → List D) (r : R Wk) : R Wk := r.bind fun k e => .ok ⟨f k.its, k.chk⟩ e
def iE (fz : Bool) (ts : List T) (env : En) : R Wk := match ts with
  | [.im (.tup ds)] => .ok ⟨enumD ds, none⟩ env
  | [t] => onI enumD (iL fz t.weak env)
  | _ => .er
def fiE (fz : Bool) (fa : FA) : FI := fun env => (fa env).bind (iE fz)
def zipD (xs ys : List D) : List D := xs.zipWith (fun x y => .tup [x, y]) ys
def iZ (fz : Bool) (ts : List T) (env : En) : R Wk := match ts with
  | [.im (.tup xs), .im (.tup ys)] => .ok ⟨zipD xs ys, none⟩ env
  | [t, u] => (iL true u.weak env).bind fun k2 e2 => onI (fun xs => zipD xs k2.its) (iL fz t.weak e2)
  | _ => .er
def fiZ (fz : Bool) (fa : FA) : FI := fun env => (fa env).bind (iZ fz)
theorem Rep.lx {K : PySem.W.Frag} {L L2 : Addr → Prop} {σ : St} {env : En} {H : Hp} {v : V} {d : D} (lx : Lx L H L2) (r : Rep K (Av L σ env) H v d) : Rep K (Av L2 σ env) H v d :=
  r.mono (.refl H) fun a xs g e => ⟨⟨fun z => (lx a z).elim g.1 fun z => (by rw [z] at e; cases e), g.2⟩, e⟩
theorem Reps.lx {K : PySem.W.Frag} {L L2 : Addr → Prop} {σ : St} {env : En} {H : Hp} {v : List V} {d : List D} (lx : Lx L H L2) (r : Reps K (Av L σ env) H v d) : Reps K (Av L2 σ env) H v d :=
  r.mono (.refl H) fun a xs g e => ⟨⟨fun z => (lx a z).elim g.1 fun z => (by rw [z] at e; cases e), g.2⟩, e⟩
theorem RE.freeze {c : Cc} {L : Addr → Prop} {σ : St} {H : Hp} {env : En} {i : Nat} {ds : List D} {io : Bool} (h : RE c L σ H env) (e : env[i]? = some (Sl.own io ds)) : RE c L σ H (env.set i (.im (.lst ds))) ∧ Stp σ env H σ (env.set i (.im (.lst ds))) H := by
  obtain ⟨a, xs, es, ea, ra, _⟩ := h.own i io ds e
  obtain ⟨q1, q2⟩ := h.drop e es
  have hi : i < env.length := (List.getElem?_eq_some_iff.mp e).1
  have oa : ownM σ env a := ⟨i, io, ds, e, es⟩
  have same : σ.set i (some (V.ref a)) = σ := by
    apply List.ext_getElem?
    intro j
    by_cases z : i = j
    · subst z
      rw [List.getElem?_set_self (by rw [← h.len]; exact hi), es]
    · rw [List.getElem?_set_ne z]
  have r1 : Rep c.K (Av L σ (env.set i .no)) H (.ref a) (.lst ds) := .lst ⟨fun z => (h.ext a z).1 oa, (q1.ext a (.inr rfl)).1⟩ ea (ra.mono (.refl H) fun b ys g e => ⟨⟨g.1, fun z => g.2 (own_set_no z).1⟩, e⟩)
  obtain ⟨q3, q4⟩ := (q1.less fun b z => .inl z).setIm (i := i) r1
  rw [same, List.set_set] at q3 q4
  exact ⟨q3, q2.trans q4⟩
section
variable {X : Cx} {c : Cc} {W : WX} {pos p : Pos} {e tg a b : Expr} {fa : FE} {fas : FA}
theorem PIw {t t' : TI} (h : PI X tg e t) (k : ∀ σ H R, t' σ H R → t σ H R) : PI X tg e t' := ⟨fun pins s σ H R I q => h.run pins s σ H R I (k σ H R q)⟩
def RepV (c : Cc) (L : Addr → Prop) (σ : St) (H : Hp) (env : En) (v : V) : T → Prop
  | .im d => Rep c.K (Av L σ env) H v d
  | .al i => σ[i]? = some (some v)
  | _ => False
theorem RepT.v {L N : Addr → Prop} {σ : St} {H : Hp} {env : En} {v : V} {t : T} (h : RepT c L N σ H env v t) : RepV c L σ H env v t.weak := by
  have h := h.wk
  cases t with
  | im d => exact h
  | al i => exact h.2
  | fr ds => exact h
  | ft cs => exact h
theorem RepV.step {L : Addr → Prop} {σ : St} {H H' : Hp} {env env' : En} {v : V} {t : T} (r : RE c L σ H env) (h : RepV c L σ H env v t) (s : Stp σ env H σ env' H') : RepV c L σ H' env' v t := by
  cases t with
  | im d => exact r.rep s h
  | al i => exact h
  | fr ds => exact h
  | ft cs => exact h
theorem RepAs.vs {L : Addr → Prop} {As0 : List Addr} {σ : St} {H : Hp} {env : En} : ∀ {As : List Addr} {vs : List V} {ts : List T}, RepAs c.K (Av (Lu L As0) σ env) σ H env As vs ts → RE c (Lu L As0) σ H env → (∀ a ∈ As, a ∈ As0 ∧ ¬ L a) → vs.length = ts.length ∧ ∀ (i : Nat) (v : V) (t : T), vs[i]? = some v → ts[i]? = some t → RepV c L σ H env v t.weak
  | _, _, _, .nil, _, _ => ⟨rfl, fun i v t (e : ([] : List V)[i]? = some v) => by simp at e⟩
  | _, _, _, .im r rs, h2, n => by
    obtain ⟨q1, q2⟩ := RepAs.vs rs h2 n
    refine ⟨by rw [List.length_cons, List.length_cons, q1], fun i v t e1 e2 => ?_⟩
    cases i with
    | zero =>
      cases e1
      cases e2
      exact r.mono (.refl H) fun a xs g e => ⟨⟨fun z => g.1 (.inl z), g.2⟩, e⟩
    | succ i => exact q2 i v t e1 e2
  | _, _, _, .al o es rs, h2, n => by
    obtain ⟨q1, q2⟩ := RepAs.vs rs h2 n
    refine ⟨by rw [List.length_cons, List.length_cons, q1], fun i v t e1 e2 => ?_⟩
    cases i with
    | zero =>
      cases e1
      cases e2
      exact es
    | succ i => exact q2 i v t e1 e2
  | _, _, _, .fr (a := a) na ea r rs, h2, n => by
    obtain ⟨q1, q2⟩ := RepAs.vs rs h2 fun b z => n b (List.mem_cons_of_mem _ z)
    refine ⟨by rw [List.length_cons, List.length_cons, q1], fun i v t e1 e2 => ?_⟩
    cases i with
    | zero =>
      cases e1
      cases e2
      obtain ⟨m1, m2⟩ := n a List.mem_cons_self
      exact .lst ⟨m2, (h2.ext a (.inr m1)).1⟩ ea (r.mono (.refl H) fun b ys g e => ⟨⟨fun z => g.1 (.inl z), g.2⟩, e⟩)
    | succ i => exact q2 i v t e1 e2
theorem lst_of {fz : Bool} {L : Addr → Prop} {σ1 : St} {H1 : Hp} {env1 env2 : En} {v : V} {t : T} {k : Wk} (r : RE c L σ1 H1 env1) (q : RepV c L σ1 H1 env1 v t) (e : iL fz t env1 = .ok k env2) :
    ∃ a, v = .ref a ∧ RE c L σ1 H1 env2 ∧ Stp σ1 env1 H1 σ1 env2 H1 ∧ k.ok env2 ∧ ∀ L2 σ H env, Lx L H1 L2 → RE c L2 σ H env → Sw k σ1 env2 H1 σ env H → k.ok env → ∃ xs, SqL c.K H a xs ∧ Reps c.K (Av L2 σ env) H xs k.its := by
  have im : ∀ ds, Rep c.K (Av L σ1 env1) H1 v (.lst ds) → ∃ a, v = .ref a ∧ RE c L σ1 H1 env1 ∧ Stp σ1 env1 H1 σ1 env1 H1 ∧ Wk.ok ⟨ds, none⟩ env1 ∧ ∀ L2 σ H env, Lx L H1 L2 → RE c L2 σ H env → Sw ⟨ds, none⟩ σ1 env1 H1 σ env H → Wk.ok ⟨ds, none⟩ env → ∃ xs, SqL c.K H a xs ∧ Reps c.K (Av L2 σ env) H xs ds := fun ds q => by
    have q0 := q
    cases q with
    | lst g ea rs =>
      rename_i a xs
      refine ⟨a, rfl, r, .refl, trivial, fun L2 σ H env lx re s _ => ?_⟩
      cases r.rep s.1 (Rep.lx lx q0) with
      | lst g e2 rs2 => exact ⟨_, .of e2, rs2⟩
  unfold iL at e
  cases t with
  | ft cs => cases e
  | fr ds => cases e
  | im d =>
    cases d with
    | lst ds => cases e; exact im ds q
    | fz ds =>
      cases e
      cases (show Rep c.K (Av L σ1 env1) H1 v (.fz ds) from q) with
      | fz h rs =>
        rename_i a xs
        exact ⟨a, rfl, r, .refl, trivial, fun L2 σ H env lx re s _ => ⟨xs, ((r.tk s.1).fz h).sql, r.reps s.1 (Reps.lx lx rs)⟩⟩
    | non => cases e
    | dct _ _ => cases e
    | kd _ _ => cases e
    | bl b => cases e
    | int b => cases e
    | str b => cases e
    | tup b => cases e
  | al j =>
    dsimp only at e
    cases ej : env1[j]? with
    | none => rw [ej] at e; cases e
    | some s =>
      cases s with
      | no => rw [ej] at e; cases e
      | hd _ => rw [ej] at e; cases e
      | im d => rw [ej] at e; cases e
      | own b ds =>
        rw [ej] at e
        dsimp only at e
        obtain ⟨a, xs, sj, ea, ra, _⟩ := r.own j b ds ej
        have sj' : σ1[j]? = some (some v) := q
        rw [sj] at sj'
        cases sj'
        cases fz with
        | true =>
          cases e
          obtain ⟨f1, f2⟩ := r.freeze ej
          have hj : j < env1.length := (List.getElem?_eq_some_iff.mp ej).1
          refine ⟨a, rfl, f1, f2, trivial, fun L2 σ H env lx re s _ => ?_⟩
          obtain ⟨v', e3, r4⟩ := f1.im j (.lst ds) (List.getElem?_set_self hj)
          rw [sj] at e3
          cases e3
          cases f1.rep s.1 (Rep.lx lx r4) with
          | lst g e2 rs2 => exact ⟨_, .of e2, rs2⟩
        | false =>
          cases e
          refine ⟨a, rfl, r, .refl, ⟨b, ej⟩, fun L2 σ H env lx re s ⟨b', ok⟩ => ?_⟩
          obtain ⟨a2, ys, sj2, ea2, ra2, _⟩ := re.own j b' ds ok
          have sub := s.2.elim (fun z => nomatch z) fun z => z j _ rfl
          have := sub _ sj2
          rw [sj] at this
          cases this
          exact ⟨ys, .of ea2, ra2⟩
theorem src_list {A : (Addr → Prop) → Prop} {S : Sp0} {a : Addr} {k : Wk} (hl : ∀ L σ H env, A L → RE c L σ H env → S σ env H → k.ok env → ∃ xs, SqL c.K H a xs ∧ Reps c.K (Av L σ env) H xs k.its) : Src c A S (Itl c.K a) k := by
  refine ⟨fun L i σ H env al re s k hi => ?_, fun L i σ H env al re s k hi => ?_, fun L i σ H env x H' d al re s k hd hy => ?_⟩
  · obtain ⟨xs, h, rs⟩ := hl L σ H env al re s k
    exact ⟨xs, h, by rw [rs.length]; exact hi⟩
  · obtain ⟨xs, h, rs⟩ := hl L σ H env al re s k
    have hi' : i < xs.length := by rw [rs.length]; exact hi
    exact ⟨xs, xs[i], h, List.getElem?_eq_getElem hi'⟩
  · obtain ⟨rfl, hy⟩ := hy
    obtain ⟨xs, h, rs⟩ := hl L σ H' env al re s k
    obtain ⟨v, ev, rv⟩ := rs.get hd
    have := hy xs h
    rw [ev] at this
    cases this
    exact ⟨fun _ _ e => e, rv⟩
theorem src_tup {A : (Addr → Prop) → Prop} {S : Sp0} {a : Addr} {k : Wk} (hl : ∀ L σ H env, A L → RE c L σ H env → S σ env H → k.ok env → ∃ xs, SqT c.K H a xs ∧ Reps c.K (Av L σ env) H xs k.its) : Src c A S (Itt c.K a) k := by
  refine ⟨fun L i σ H env al re s k hi => ?_, fun L i σ H env al re s k hi => ?_, fun L i σ H env x H' d al re s k hd hy => ?_⟩
  · obtain ⟨xs, h, rs⟩ := hl L σ H env al re s k
    exact ⟨xs, h, by rw [rs.length]; exact hi⟩
  · obtain ⟨xs, h, rs⟩ := hl L σ H env al re s k
    have hi' : i < xs.length := by rw [rs.length]; exact hi
    exact ⟨xs, xs[i], h, List.getElem?_eq_getElem hi'⟩
  · obtain ⟨rfl, hy⟩ := hy
    obtain ⟨xs, h, rs⟩ := hl L σ H' env al re s k
    obtain ⟨v, ev, rv⟩ := rs.get hd
    have := hy xs h
    rw [ev] at this
    cases this
    exact ⟨fun _ _ e => e, rv⟩
theorem pair_new {L : Addr → Prop} {σ : St} {H : Hp} {env : En} {Tt : Addr} {x y : V} {dx dy : D} (re : RE c L σ H env) (n : H Tt = none) (rx : Rep c.K (Av L σ env) H x dx) (ry : Rep c.K (Av L σ env) H y dy) :
    (∀ b o, H b = some o → upd H Tt (.tup [x, y]) b = some o) ∧ Rep c.K (Av L σ env) (upd H Tt (.tup [x, y])) (.ref Tt) (.tup [dx, dy]) := by
  have kp : ∀ b o, H b = some o → upd H Tt (.tup [x, y]) b = some o := fun b o e => by rw [upd_ne (ne_of_none e n)]; exact e
  exact ⟨kp, .tup (.inl (.inl upd_same)) (.cons (re.rep (.grow kp) rx) (.cons (re.rep (.grow kp) ry) .nil))⟩
theorem enumD_get {ds : List D} {i : Nat} {d : D} (h : (enumD ds)[i]? = some d) : ∃ d', ds[i]? = some d' ∧ d = .tup [.int (i : Int), d'] := by
  unfold enumD at h
  rw [List.getElem?_mapIdx] at h
  cases q : ds[i]? with
  | none => rw [q] at h; cases h
  | some d' => rw [q] at h; cases h; exact ⟨d', rfl, rfl⟩
theorem enumD_len (ds : List D) : (enumD ds).length = ds.length := by simp [enumD]
theorem src_enumL {A : (Addr → Prop) → Prop} {S : Sp0} {a : Addr} {k : Wk} (hl : ∀ L σ H env, A L → RE c L σ H env → S σ env H → k.ok env → ∃ xs, SqL c.K H a xs ∧ Reps c.K (Av L σ env) H xs k.its) : Src c A S (Ite c.K a) ⟨enumD k.its, k.chk⟩ := by
  refine ⟨fun L i σ H env al re s k hi => ?_, fun L i σ H env al re s k hi => ?_, fun L i σ H env x H' d al re s k hd hy => ?_⟩
  · obtain ⟨xs, h, rs⟩ := hl L σ H env al re s k
    exact ⟨xs, h, by rw [rs.length, ← enumD_len]; exact hi⟩
  · obtain ⟨xs, h, rs⟩ := hl L σ H env al re s k
    have hi' : i < xs.length := by rw [rs.length, ← enumD_len]; exact hi
    exact ⟨xs, xs[i], h, List.getElem?_eq_getElem hi'⟩
  · obtain ⟨Tt, y, rfl, n, rfl, hy⟩ := hy
    obtain ⟨xs, h, rs⟩ := hl L σ H env al re s k
    obtain ⟨d', e1, rfl⟩ := enumD_get hd
    obtain ⟨v, ev, rv⟩ := rs.get e1
    have := hy xs h
    rw [ev] at this
    cases this
    exact pair_new re n (.int _) rv
theorem src_enumT {A : (Addr → Prop) → Prop} {S : Sp0} {a : Addr} {k : Wk} (hl : ∀ L σ H env, A L → RE c L σ H env → S σ env H → k.ok env → ∃ xs, SqT c.K H a xs ∧ Reps c.K (Av L σ env) H xs k.its) : Src c A S (IteT c.K a) ⟨enumD k.its, k.chk⟩ := by
  refine ⟨fun L i σ H env al re s k hi => ?_, fun L i σ H env al re s k hi => ?_, fun L i σ H env x H' d al re s k hd hy => ?_⟩
  · obtain ⟨xs, h, rs⟩ := hl L σ H env al re s k
    exact ⟨xs, h, by rw [rs.length, ← enumD_len]; exact hi⟩
  · obtain ⟨xs, h, rs⟩ := hl L σ H env al re s k
    have hi' : i < xs.length := by rw [rs.length, ← enumD_len]; exact hi
    exact ⟨xs, xs[i], h, List.getElem?_eq_getElem hi'⟩
  · obtain ⟨Tt, y, rfl, n, rfl, hy⟩ := hy
    obtain ⟨xs, h, rs⟩ := hl L σ H env al re s k
    obtain ⟨d', e1, rfl⟩ := enumD_get hd
    obtain ⟨v, ev, rv⟩ := rs.get e1
    have := hy xs h
    rw [ev] at this
    cases this
    exact pair_new re n (.int _) rv
theorem zipD_get {xs ys : List D} {i : Nat} {d : D} (h : (zipD xs ys)[i]? = some d) : ∃ x y, xs[i]? = some x ∧ ys[i]? = some y ∧ d = .tup [x, y] := by
  unfold zipD at h
  rw [List.getElem?_zipWith] at h
  cases q : xs[i]? with
  | none => rw [q] at h; cases h
  | some x =>
    cases q2 : ys[i]? with
    | none => rw [q, q2] at h; cases h
    | some y => rw [q, q2] at h; cases h; exact ⟨x, y, rfl, rfl, rfl⟩
theorem zipD_len (xs ys : List D) : (zipD xs ys).length = min xs.length ys.length := by simp [zipD]
theorem src_zipL {A : (Addr → Prop) → Prop} {S : Sp0} {a b : Addr} {k : Wk} {es : List D} (hl : ∀ L σ H env, A L → RE c L σ H env → S σ env H → k.ok env → ∃ xs, SqL c.K H a xs ∧ Reps c.K (Av L σ env) H xs k.its) (hb : ∀ L σ H env, A L → RE c L σ H env → S σ env H → ∃ xs, SqL c.K H b xs ∧ Reps c.K (Av L σ env) H xs es) : Src c A S (Itz c.K a b) ⟨zipD k.its es, k.chk⟩ := by
  refine ⟨fun L i σ H env al re s k hi => ?_, fun L i σ H env al re s k hi => ?_, fun L i σ H env x H' d al re s k hd hy => ?_⟩
  · obtain ⟨xs, h, rs⟩ := hl L σ H env al re s k
    obtain ⟨ys, h2, rs2⟩ := hb L σ H env al re s
    refine ⟨xs, ys, h, h2, ?_⟩
    rw [rs.length, rs2.length]
    dsimp only at hi
    rw [zipD_len] at hi
    omega
  · obtain ⟨xs, h, rs⟩ := hl L σ H env al re s k
    obtain ⟨ys, h2, rs2⟩ := hb L σ H env al re s
    dsimp only at hi
    rw [zipD_len] at hi
    have h1' : i < xs.length := by rw [rs.length]; omega
    have h2' : i < ys.length := by rw [rs2.length]; omega
    exact ⟨xs, ys, xs[i], ys[i], h, h2, List.getElem?_eq_getElem h1', List.getElem?_eq_getElem h2'⟩
  · obtain ⟨Tt, y, z, rfl, n, rfl, hy, hz⟩ := hy
    obtain ⟨xs, h, rs⟩ := hl L σ H env al re s k
    obtain ⟨ys, h2, rs2⟩ := hb L σ H env al re s
    obtain ⟨d1, d2, e1, e2, rfl⟩ := zipD_get hd
    obtain ⟨v, ev, rv⟩ := rs.get e1
    obtain ⟨w, ew, rw'⟩ := rs2.get e2
    have q1 := hy xs h
    have q2 := hz ys h2
    rw [ev] at q1
    rw [ew] at q2
    cases q1
    cases q2
    exact pair_new re n rv rw'
theorem src_zipT {A : (Addr → Prop) → Prop} {S : Sp0} {a b : Addr} {ds es : List D} (hl : ∀ L σ H env, A L → RE c L σ H env → S σ env H → ∃ xs, SqT c.K H a xs ∧ Reps c.K (Av L σ env) H xs ds) (hb : ∀ L σ H env, A L → RE c L σ H env → S σ env H → ∃ xs, SqT c.K H b xs ∧ Reps c.K (Av L σ env) H xs es) : Src c A S (RZ.ItzT c.K a b) ⟨zipD ds es, none⟩ := by
  refine ⟨fun L i σ H env al re s k hi => ?_, fun L i σ H env al re s k hi => ?_, fun L i σ H env x H' d al re s k hd hy => ?_⟩
  · obtain ⟨xs, h, rs⟩ := hl L σ H env al re s
    obtain ⟨ys, h2, rs2⟩ := hb L σ H env al re s
    refine ⟨xs, ys, h, h2, ?_⟩
    rw [rs.length, rs2.length]
    dsimp only at hi
    rw [zipD_len] at hi
    omega
  · obtain ⟨xs, h, rs⟩ := hl L σ H env al re s
    obtain ⟨ys, h2, rs2⟩ := hb L σ H env al re s
    dsimp only at hi
    rw [zipD_len] at hi
    have h1' : i < xs.length := by rw [rs.length]; omega
    have h2' : i < ys.length := by rw [rs2.length]; omega
    exact ⟨xs, ys, xs[i], ys[i], h, h2, List.getElem?_eq_getElem h1', List.getElem?_eq_getElem h2'⟩
  · obtain ⟨Tt, y, z, rfl, n, rfl, hy, hz⟩ := hy
    obtain ⟨xs, h, rs⟩ := hl L σ H env al re s
    obtain ⟨ys, h2, rs2⟩ := hb L σ H env al re s
    obtain ⟨d1, d2, e1, e2, rfl⟩ := zipD_get hd
    obtain ⟨v, ev, rv⟩ := rs.get e1
    obtain ⟨w, ew, rw'⟩ := rs2.get e2
    have q1 := hy xs h
    have q2 := hz ys h2
    rw [ev] at q1
    rw [ew] at q2
    cases q1
    cases q2
    exact pair_new re n rv rw'
theorem src_rng {A : (Addr → Prop) → Prop} {S : Sp0} (m n : Int) : Src c A S (Itr m (n - m).toNat) ⟨rngD m n, none⟩ := by
  have len : (rngD m n).length = (n - m).toNat := by simp [rngD]
  refine ⟨fun L i σ H env al re s k hi => ?_, fun L i σ H env al re s k hi => ?_, fun L i σ H env x H' d al re s k hd hy => ?_⟩
  · show (n - m).toNat ≤ i
    rw [← len]; exact hi
  · show i < (n - m).toNat
    rw [← len]; exact hi
  · obtain ⟨rfl, rfl⟩ := hy
    dsimp only [rngD] at hd
    rw [List.getElem?_map] at hd
    cases q : (List.range (n - m).toNat)[i]? with
    | none => rw [q] at hd; cases hd
    | some j =>
      rw [q] at hd
      cases hd
      have : j = i := by
        have q2 := List.getElem?_eq_some_iff.mp q
        obtain ⟨h1, h2⟩ := q2
        simpa using h2.symm
      subst this
      exact ⟨fun _ _ e => e, .int _⟩
theorem di_tup (he : PE X e (dE c W fa)) (hK : c.K = X.K := by rfl) : PI X tg e (dI c W (fiT fa)) := PIw (pi_tup he) fun σ H R h => by
  obtain ⟨env, L, r, h⟩ := h
  refine dE.of r (h.bind.mono fun t e1 H1 r1 s1 h1 v q => ?_)
  rw [← hK]
  cases t with
  | al i => exact h1.elim
  | fr ds => exact h1.elim
  | im d =>
    cases d with
    | tup ds =>
      have q0 : Rep c.K (Av L σ e1) H1 v (.tup ds) := q
      cases (show Rep c.K (Av L σ e1) H1 v (.tup ds) from q) with
      | tup ht rs =>
        rename_i a xs
        exact ⟨a, rfl, ⟨xs, ht⟩, h1 H1 r1 .refl (Itt c.K a) ⟨trivial, src_tup fun L2 σ' H' env' lx re s _ => ⟨xs, (r1.tk s.1).sqt ht, r1.reps s.1 (Reps.lx lx rs)⟩⟩⟩
    | non => exact h1.elim
    | bl b => exact h1.elim
    | int b => exact h1.elim
    | str b => exact h1.elim
    | lst b => exact h1.elim
    | fz b => exact h1.elim
    | dct _ _ => exact h1.elim
    | kd _ _ => exact h1.elim
  | ft cs =>
    have q : Rep c.K (Av L σ e1) H1 v (.tup (cs.map Cp.d)) := q.wk
    cases q with
    | tup ht rs =>
      rename_i a xs
      exact ⟨a, rfl, ⟨xs, ht⟩, h1 H1 r1 .refl (Itt c.K a) ⟨trivial, src_tup fun L2 σ' H' env' lx re s _ => ⟨xs, (r1.tk s.1).sqt ht, r1.reps s.1 (Reps.lx lx rs)⟩⟩⟩
theorem dI_ok {σ : St} {H : Hp} {L : Addr → Prop} {env : En} {r : R Wk} {P : Wk → En → Hp → Prop} (h : dK c W L σ H env r P) (re : RE c L σ H env) (ok : ∀ cls e, r ≠ .ex cls e) (st : ∀ k e2, r = .ok k e2 → RE c L σ H e2 ∧ Stp σ env H σ e2 H) : ∃ k e2, r = .ok k e2 ∧ P k e2 H := by
  cases r with
  | er => exact h.elim
  | ex cls e => exact (ok cls e rfl).elim
  | ok k e2 => exact ⟨k, e2, rfl, h H (st k e2 rfl).1 (st k e2 rfl).2⟩
theorem iL_ex {fz : Bool} {t : T} {env : En} : ∀ cls e, iL fz t env ≠ .ex cls e := fun cls e z => by
  unfold iL at z
  split at z
  · cases z
  · cases z
  · split at z
    · split at z <;> cases z
    · cases z
  · cases z
theorem di_list (fz : Bool) (he : PE X e (dE c W fa)) (hK : c.K = X.K := by rfl) : PI X tg e (dI c W (fiL fz fa)) := PIw (pi_list he) fun σ H R h => by
  obtain ⟨env, L, r, h⟩ := h
  refine dE.of r (h.bind.mono fun t e1 H1 r1 s1 h1 v q => ?_)
  rw [← hK]
  obtain ⟨k, e2, ek, h1⟩ := dI_ok h1 r1 iL_ex fun k e2 e => by
    obtain ⟨a, _, re, st, _⟩ := lst_of r1 q.v e
    exact ⟨re, st⟩
  obtain ⟨a, rfl, re, st, ok, hl⟩ := lst_of r1 q.v ek
  obtain ⟨xs, hx, _⟩ := hl L σ H1 e2 (fun _ z => .inl z) re ⟨.refl, .inr fun _ _ _ _ e => e⟩ ok
  exact ⟨a, rfl, ⟨xs, hx⟩, h1 (Itl c.K a) ⟨ok, src_list hl⟩⟩
theorem RepO_int {K : PySem.W.Frag} {G : Addr → Prop} {H : Hp} {v : V} {n : Int} (h : RepO K G H v (.int n)) : v = .int n := by
  cases (show Rep K G H v (.int n) from h)
  rfl
theorem di_range1 {fas : FA} (hg : Gl X "range") (hm : X.mg "range" = none) (ha : PA X [a] (dA c W fas)) (hs : starEach [a] X.env = [(false, eval a X.env)] := by rfl) : PI X tg (.Call (.Name "range" p) [a] [] pos) (dI c W (fiR1 fas)) :=
  PIw (pi_range1 hg hm ha hs) fun σ H R h => by
  obtain ⟨env, L, r, h⟩ := h
  refine dA.of r (h.bind.mono fun ts e1 H1 r1 s1 h1 vs As q n r2 => ?_)
  unfold iR1 at h1
  split at h1
  · rename_i m ev
    have qq := q.oprs r1 r2 (fun a z => ⟨z, (n a z).1⟩) ev
    cases qq with
    | cons qa qs =>
      cases qs
      cases RepO_int qa
      by_cases z : -(2 ^ 62) ≤ m ∧ m < 2 ^ 62
      · rw [if_pos z] at h1
        refine ⟨m, rfl, z.1, z.2, ?_⟩
        have := h1 H1 r1 .refl (Itr 0 (m - 0).toNat) ⟨trivial, src_rng 0 m⟩
        rwa [Int.sub_zero] at this
      · rw [if_neg z] at h1
        exact h1.elim
  · exact h1.elim
theorem onI_ok {f : List D → List D} {r : R Wk} {k : Wk} {e : En} (h : onI f r = .ok k e) : ∃ k0, r = .ok k0 e ∧ k = ⟨f k0.its, k0.chk⟩ := by
  cases r with
  | er => cases h
  | ex x e => cases h
  | ok k0 e0 => cases h; exact ⟨k0, rfl, rfl⟩
theorem onI_ex {f : List D → List D} {r : R Wk} (h : ∀ cls e, r ≠ .ex cls e) : ∀ cls e, onI f r ≠ .ex cls e := fun cls e z => by
  cases r with
  | er => cases z
  | ex x e => exact h _ _ rfl
  | ok k0 e0 => cases z
theorem di_enum {fas : FA} {elts : List Expr} {kk : Nat} {tpos : Pos} (fz : Bool) (hg : Gl X "enumerate") (hm : X.mg "enumerate" = none) (ha : PA X [e] (dA c W fas)) (hK : c.K = X.K := by rfl) (hs : starEach [e] X.env = [(false, eval e X.env)] := by rfl) :
    PI X (.Tuple elts kk tpos) (.Call (.Name "enumerate" p) [e] [] pos) (dI c W (fiE fz fas)) :=
  PIw (pi_enumA hg hm ha hs) fun σ H R h => by
  obtain ⟨env, L, r, h⟩ := h
  refine dA.of r (h.bind.mono fun ts e1 H1 r1 s1 h1 vs As q n r2 => ?_)
  rw [← hK]
  obtain ⟨ql, qv⟩ := q.vs r2 fun a z => ⟨z, (n a z).1⟩
  unfold iE at h1
  split at h1
  · rename_i ds
    obtain ⟨v, rfl⟩ : ∃ v, vs = [v] := by
      cases vs with
      | nil => cases ql
      | cons v vs =>
        cases vs with
        | nil => exact ⟨v, rfl⟩
        | cons _ _ => cases ql
    have q : Rep c.K (Av L σ e1) H1 v (.tup ds) := qv 0 v _ rfl rfl
    cases q with
    | tup ht rs =>
      rename_i a xs
      exact ⟨a, xs, rfl, .inr ⟨ht, h1 H1 r1 .refl (IteT c.K a) ⟨trivial, src_enumT (k := ⟨ds, none⟩) fun L2 σ' H' env' lx re s _ => ⟨xs, (r1.tk s.1).sqt ht, r1.reps s.1 (Reps.lx lx rs)⟩⟩⟩⟩
  · rename_i t _
    obtain ⟨v, rfl⟩ : ∃ v, vs = [v] := by
      cases vs with
      | nil => cases ql
      | cons v vs =>
        cases vs with
        | nil => exact ⟨v, rfl⟩
        | cons _ _ => cases ql
    have qw := qv 0 v _ rfl rfl
    obtain ⟨k, e2, ek, h1⟩ := dI_ok h1 r1 (onI_ex iL_ex) fun k e2 e => by
      obtain ⟨k0, e, _⟩ := onI_ok e
      obtain ⟨a, _, re, st, _⟩ := lst_of r1 qw e
      exact ⟨re, st⟩
    obtain ⟨k0, ek0, rfl⟩ := onI_ok ek
    obtain ⟨a, rfl, re, st, ok, hl⟩ := lst_of r1 qw ek0
    have hl : ∀ L2 σ' H' env', Lx L H1 L2 → RE c L2 σ' H' env' → Sw ⟨enumD k0.its, k0.chk⟩ σ e2 H1 σ' env' H' → k0.ok env' → ∃ xs, SqL c.K H' a xs ∧ Reps c.K (Av L2 σ' env') H' xs k0.its := hl
    obtain ⟨xs, hx, _⟩ := hl L σ H1 e2 (fun _ z => .inl z) re ⟨.refl, .inr fun _ _ _ _ e => e⟩ ok
    exact ⟨a, xs, rfl, .inl ⟨hx, h1 (Ite c.K a) ⟨ok, src_enumL hl⟩⟩⟩
  · exact h1.elim
theorem di_zip {fas : FA} {elts : List Expr} {kk : Nat} {tpos : Pos} (fz : Bool) (hg : Gl X "zip") (hm : X.mg "zip" = none) (ha : PA X [a, b] (dA c W fas)) (hK : c.K = X.K := by rfl) (hs : starEach [a, b] X.env = (false, eval a X.env) :: starEach [b] X.env := by rfl) (hpl : (backTo pos (starEach [b] X.env)).any (·.1) = false := by rfl) :
    PI X (.Tuple elts kk tpos) (.Call (.Name "zip" p) [a, b] [] pos) (dI c W (fiZ fz fas)) :=
  PIw (RZ.pi_zipA hg hm ha hs hpl) fun σ H R h => by
  obtain ⟨env, L, r, h⟩ := h
  refine dA.of r (h.bind.mono fun ts e1 H1 r1 s1 h1 vs As q n r2 => ?_)
  rw [← hK]
  obtain ⟨ql, qv⟩ := q.vs r2 fun a z => ⟨z, (n a z).1⟩
  have two : ∀ t u, ts = [t, u] → ∃ v w, vs = [v, w] := fun t u e => by
    subst e
    match vs, ql with
    | [v, w], _ => exact ⟨v, w, rfl⟩
  unfold iZ at h1
  split at h1
  · rename_i ds es
    obtain ⟨v, w, rfl⟩ := two _ _ rfl
    have q : Rep c.K (Av L σ e1) H1 v (.tup ds) := qv 0 v _ rfl rfl
    have q2 : Rep c.K (Av L σ e1) H1 w (.tup es) := qv 1 w _ rfl rfl
    cases q with
    | tup ht rs =>
      rename_i a xs
      cases q2 with
      | tup ht2 rs2 =>
        rename_i b ys
        exact ⟨a, b, xs, ys, rfl, .inr ⟨ht, ht2, h1 H1 r1 .refl (RZ.ItzT c.K a b) ⟨trivial, src_zipT (fun L2 σ' H' env' lx re s => ⟨xs, (r1.tk s.1).sqt ht, r1.reps s.1 (Reps.lx lx rs)⟩) fun L2 σ' H' env' lx re s => ⟨ys, (r1.tk s.1).sqt ht2, r1.reps s.1 (Reps.lx lx rs2)⟩⟩⟩⟩
  · rename_i t u _
    obtain ⟨v, w, rfl⟩ := two _ _ rfl
    have qw := qv 0 v _ rfl rfl
    have qw2 := qv 1 w _ rfl rfl
    cases e2 : iL true u.weak e1 with
    | er => rw [e2] at h1; exact h1.elim
    | ex x e => exact (iL_ex _ _ e2).elim
    | ok k2 e2' =>
      rw [e2, bind_ok] at h1
      obtain ⟨b, rfl, re2, st2, ok2, hl2⟩ := lst_of r1 qw2 e2
      have qx := qw.step r1 st2
      obtain ⟨k, e3, ek, h1⟩ := dI_ok h1 r1 (onI_ex iL_ex) fun k e3 e => by
        obtain ⟨k0, e, _⟩ := onI_ok e
        obtain ⟨a, _, re, st, _⟩ := lst_of re2 qx e
        exact ⟨re, st2.trans st⟩
      obtain ⟨k0, ek0, rfl⟩ := onI_ok ek
      obtain ⟨a, rfl, re, st, ok, hl⟩ := lst_of re2 qx ek0
      have c2 : k2.chk = none := by
        unfold iL at e2
        split at e2
        · cases e2; rfl
        · cases e2; rfl
        · split at e2
          · cases e2; rfl
          · cases e2
        · cases e2
      have hl2 : ∀ L2 σ' H' env', Lx L H1 L2 → RE c L2 σ' H' env' → Sw ⟨zipD k0.its k2.its, k0.chk⟩ σ e3 H1 σ' env' H' → ∃ xs, SqL c.K H' b xs ∧ Reps c.K (Av L2 σ' env') H' xs k2.its := fun L2 σ' H' env' lx re' s => by
        refine hl2 L2 σ' H' env' lx re' ⟨st.trans s.1, .inl c2⟩ ?_
        unfold Wk.ok
        rw [c2]
        trivial
      obtain ⟨xs, hx, _⟩ := hl L σ H1 e3 (fun _ z => .inl z) re ⟨.refl, .inr fun _ _ _ _ e => e⟩ ok
      obtain ⟨ys, hy, _⟩ := hl2 L σ H1 e3 (fun _ z => .inl z) re ⟨.refl, .inr fun _ _ _ _ e => e⟩
      exact ⟨a, b, xs, ys, rfl, .inl ⟨hx, hy, h1 (Itz c.K a b) ⟨ok, src_zipL hl hl2⟩⟩⟩
  · exact h1.elim
end
end DL
namespace DL
open PySem PySem.Spec L2
variable [Wd]
def loopF (g : FG) (f : FS) : List D → En → Fl
  | [], env => .nx env
  | d :: ds, env => match g (.im d) env with
    | .nx e => match f e with
      | .nx e1 => loopF g f ds e1
      | .ct e1 => loopF g f ds e1
      | .bk e1 => .nx e1
      | .rt t e1 => .rt t e1
      | .ex x e1 => .ex x e1
      | .er => .er
    | _ => .er
def sFor (fi : FI) (g : FG) (f : FS) : FS := fun env => (fi env).bindF fun k e => match k.chk with
  | none => loopF g f k.its e
  | some _ => .er
section
variable {X : Cx} {c : Cc} {W : WX} {pos p : Pos} {iter tg : Expr} {body : List Stmt} {fi : FI} {g : FG} {f : FS}
theorem d_for : ∀ D σ H, dS c W (sFor fi g f) D σ H → tFor (dI c W fi) (dG c g) (dS c W f) D σ H := fun D σ H h => by
  obtain ⟨env, L, re, h⟩ := h
  refine ⟨env, L, re, (sK.bind h).mono fun k e1 H1 r1 s1 h1 J ⟨ok, src⟩ => ?_⟩
  obtain ⟨its, chk⟩ := k
  cases chk with
  | some z => exact h1.elim
  | none =>
    have h1 : sK c W L (Stp σ env H) (Nn σ env H) (loopF g f its e1) D := h1
    have sw : ∀ {σ' env' H'}, Stp σ e1 H1 σ' env' H' → Sw ⟨its, none⟩ σ e1 H1 σ' env' H' := fun s => ⟨s, .inl rfl⟩
    refine ⟨fun i m σ' H' => m = its.length - i ∧ ∃ env', RE c L σ' H' env' ∧ Stp σ e1 H1 σ' env' H' ∧ sK c W L (Stp σ' env' H') (Nn σ' env' H') (loopF g f (its.drop i) env') D, ⟨_, rfl, e1, r1, .refl, h1.here s1⟩, fun i m σ' H' ⟨em, env', r, s, q⟩ => ?_⟩
    by_cases hi : its.length ≤ i
    · refine .inl ⟨src.stop L i σ' H' env' (fun _ z => .inl z) r (sw s) trivial hi, ?_⟩
      rw [List.drop_eq_nil_of_le hi] at q
      exact q σ' H' r .refl
    · have hi : i < its.length := Nat.lt_of_not_le hi
      refine .inr ⟨src.go L i σ' H' env' (fun _ z => .inl z) r (sw s) trivial hi, fun σ2 H2 => ∃ env2, RE c L σ2 H2 env2 ∧ Stp σ e1 H1 σ2 env2 H2 ∧ sK c W L (Stp σ2 env2 H2) (Nn σ2 env2 H2) (loopF g f (its.drop (i + 1)) env2) D, fun σ2 H2 n => ⟨its.length - (i + 1), by omega, rfl, n⟩, fun x H'' y => ?_⟩
      rw [List.drop_eq_getElem_cons hi] at q
      obtain ⟨kp, rx⟩ := src.yld L i σ' H' env' x H'' its[i] (fun _ z => .inl z) r (sw s) trivial (List.getElem?_eq_getElem hi) y
      have r' := r.grow kp
      have s' : Stp σ' env' H' σ' env' H'' := .grow kp
      refine ⟨env', L, Nn σ' env' H'', .im its[i], r', rx, ?_⟩
      have q : sK c W L (Stp σ' env' H'') (Nn σ' env' H'') (loopF g f (its[i] :: its.drop (i + 1)) env') D := q.here s'
      unfold loopF at q
      cases eg : g (.im its[i]) env' with
      | er => rw [eg] at q; exact q.elim
      | rt t e => rw [eg] at q; exact q.elim
      | bk e => rw [eg] at q; exact q.elim
      | ct e => rw [eg] at q; exact q.elim
      | ex x e => rw [eg] at q; exact q.elim
      | nx e2 =>
        rw [eg] at q
        intro σ2 H2 r2 n2
        have s2 : Stp σ' env' H'' σ2 e2 H2 := StpN.after .refl n2
        refine ⟨e2, L, r2, ?_⟩
        dsimp only at q
        have q := q.here s2
        cases ef : f e2 with
        | er => rw [ef] at q; exact q.elim
        | nx e3 => rw [ef] at q; exact fun σ3 H3 r3 s3 => ⟨e3, r3, ((s.trans s').trans s2).trans s3, q.here s3⟩
        | ct e3 => rw [ef] at q; exact fun σ3 H3 r3 s3 => ⟨e3, r3, ((s.trans s').trans s2).trans s3, q.here s3⟩
        | bk e3 => rw [ef] at q; exact q
        | rt t e3 => rw [ef] at q; exact q
        | ex x e3 => rw [ef] at q; exact q
theorem ds_for (hp : PassesOwn (model X.prog X.w) X.A X.env X.xe) (hc : X.calm = true) (hi : PI X tg iter (dI c W fi)) (hg : PG X tg (dG c g)) (hb : PSs X body (dS c W f))
    (hs : ∀ x, foldedSetIterable iter X.env x = pure x := by intro _; rfl) : PS X (.For tg iter body [] pos) (dS c W (sFor fi g f)) := PSw (ps_for hp hc hi hg hb hs) d_for
end
inductive CT where
  | one (i : Nat) | tup (is : List Nat) | nest (is : List Nat) (j : Nat)
def setEach : List Nat → List D → En → En
  | i :: is, d :: ds, env => setEach is ds (env.set i (.im d))
  | _, _, env => env
def envT (t : CT) (d : D) (env : En) : Option En := match t with
  | .one i => some (env.set i (.im d))
  | .tup is => match d with
    | .tup ds => if is.length = ds.length then some (setEach is ds env) else none
    | _ => none
  | .nest is j => match d with
    | .tup [.tup ds, d2] => if is.length = ds.length then some ((setEach is ds env).set j (.im d2)) else none
    | _ => none
def gEach : List Nat → TGs
  | [] => gNil
  | i :: is => gCons (gName i) (gEach is)
def gCT (K : PySem.W.Frag) (t : CT) : TG := match t with
  | .one i => gName i
  | .tup is => gTup K is.length (gEach is)
  | .nest is j => gTup K 2 (gCons (gTup K is.length (gEach is)) (gCons (gName j) gNil))
def CT.ins (t : CT) (vs : List Nat) : Prop := match t with
  | .one i => i ∈ vs
  | .tup is => ∀ i ∈ is, i ∈ vs
  | .nest is j => (∀ i ∈ is, i ∈ vs) ∧ j ∈ vs
def wipeE (env : En) : List Nat → En
  | [] => env
  | v :: vs => (wipeE env vs).set v .no
theorem wipeE_length (env : En) : ∀ vs : List Nat, (wipeE env vs).length = env.length
  | [] => rfl
  | v :: vs => by unfold wipeE; rw [List.length_set, wipeE_length env vs]
theorem wipeE_out {env : En} {i : Nat} : ∀ {vs : List Nat}, i ∉ vs → (wipeE env vs)[i]? = env[i]?
  | [], _ => rfl
  | v :: vs, h => by
    unfold wipeE
    rw [List.getElem?_set_ne (fun z => h (by rw [z]; exact List.mem_cons_self))]
    exact wipeE_out fun z => h (List.mem_cons_of_mem _ z)
theorem wipeE_in {env : En} {i : Nat} {s : Sl} : ∀ {vs : List Nat}, i ∈ vs → (wipeE env vs)[i]? = some s → s = .no
  | v :: vs, h, e => by
    unfold wipeE at e
    by_cases z : v = i
    · subst z
      rw [List.getElem?_set] at e
      simp only [if_true] at e
      split at e
      · cases e; rfl
      · cases e
    · rw [List.getElem?_set_ne z] at e
      exact wipeE_in ((List.mem_cons.mp h).resolve_left fun y => z y.symm) e
theorem wipe_in {σ : St} {i : Nat} : ∀ {vs : List Nat}, i ∈ vs → (wipe σ vs)[i]? = if i < σ.length then some none else none
  | v :: vs, h => by
    unfold wipe
    by_cases z : v = i
    · subst z
      rw [List.getElem?_set, wipe_length]
      simp
    · rw [List.getElem?_set_ne z]
      exact wipe_in ((List.mem_cons.mp h).resolve_left fun y => z y.symm)
theorem wipe_eq {σ σ' : St} {vs : List Nat} (l : σ'.length = σ.length) (o : ∀ j, j ∉ vs → σ'[j]? = σ[j]?) : wipe σ' vs = wipe σ vs := by
  apply List.ext_getElem?
  intro j
  by_cases z : j ∈ vs
  · rw [wipe_in z, wipe_in z, l]
  · rw [RZ_wipe_out z, RZ_wipe_out z, o j z]
where RZ_wipe_out {σ : St} {i : Nat} : ∀ {vs : List Nat}, i ∉ vs → (wipe σ vs)[i]? = σ[i]?
  | [], _ => rfl
  | v :: vs, h => by
    unfold wipe
    rw [List.getElem?_set_ne (fun z => h (by rw [z]; exact List.mem_cons_self))]
    exact RZ_wipe_out fun z => h (List.mem_cons_of_mem _ z)
theorem wipe_out' {σ : St} {i : Nat} {vs : List Nat} (h : i ∉ vs) : (wipe σ vs)[i]? = σ[i]? := wipe_eq.RZ_wipe_out h
theorem RE.sub {c : Cc} {L : Addr → Prop} {σ σ' : St} {H : Hp} {env env' : En} (h : RE c L σ H env) (l : env'.length = σ'.length) (k : ∀ (j : Nat) (s : Sl), env'[j]? = some s → s = .no ∨ (env[j]? = some s ∧ σ'[j]? = σ[j]?)) : RE c L σ' H env' ∧ (∀ a, ownM σ' env' a → ownM σ env a) ∧ Stp σ env H σ' env' H := by
  have ow : ∀ a, ownM σ' env' a → ownM σ env a := fun a ⟨i, io, ds, e1, e2⟩ => by
    rcases k i _ e1 with z | ⟨q1, q2⟩
    · cases z
    · exact ⟨i, io, ds, q1, q2 ▸ e2⟩
  have av : ∀ b, Av L σ env b → Av L σ' env' b := fun b g => ⟨g.1, fun z => g.2 (ow b z)⟩
  refine ⟨⟨l, fun i d e => ?_, fun i io ds e => ?_, fun i j io jo ds es a e1 e2 e3 e4 => ?_, fun a la => ⟨fun z => (h.ext a la).1 (ow a z), (h.ext a la).2⟩, h.fr, h.io, fun j a e => (k j _ e).elim (fun z => nomatch z) fun q => q.2.trans (h.hd j a q.1)⟩, ow, fun b n => ⟨rfl, fun z => n (z.imp (ow b) id)⟩⟩
  · rcases k i _ e with z | ⟨q1, q2⟩
    · cases z
    · obtain ⟨v, e1, r⟩ := h.im i d q1
      exact ⟨v, q2.trans e1, r.mono (.refl H) fun b xs g e => ⟨av b g, e⟩⟩
  · rcases k i _ e with z | ⟨q1, q2⟩
    · cases z
    · obtain ⟨a, xs, e1, e2, r, z⟩ := h.own i io ds q1
      exact ⟨a, xs, q2.trans e1, e2, r.mono (.refl H) (fun b xs g e => ⟨av b g, e⟩), z⟩
  · rcases k i _ e1 with z | ⟨q1, q2⟩
    · cases z
    · rcases k j _ e2 with z | ⟨q3, q4⟩
      · cases z
      · exact h.inj i j io jo ds es a q1 q3 (q2 ▸ e3) (q4 ▸ e4)
theorem RE.wipe {c : Cc} {L : Addr → Prop} {σ : St} {H : Hp} {env : En} (vs : List Nat) (h : RE c L σ H env) : RE c L (wipe σ vs) H (wipeE env vs) ∧ (∀ a, ownM (L2.wipe σ vs) (wipeE env vs) a → ownM σ env a) ∧ Stp σ env H (L2.wipe σ vs) (wipeE env vs) H :=
  h.sub (by rw [wipeE_length, wipe_length, h.len]) fun j s e => by
    by_cases z : j ∈ vs
    · exact .inl (wipeE_in z e)
    · rw [wipeE_out z] at e
      exact .inr ⟨e, wipe_out' z⟩
theorem RE.ext_put {c : Cc} {L : Addr → Prop} {σ : St} {H H' : Hp} {env : En} {a : Addr} {xs' : List V} (h : RE c L σ H env) (la : L a) (kp : ∀ b, b ≠ a → H' b = H b) (ea : H' a = some (.lst xs')) (h0 : c.H0 a = none) : RE c L σ H' env := by
  have tk : TK H H' := by
    obtain ⟨_, ys, e⟩ := h.ext a la
    have ne : ∀ b o, H b = some o → (∀ xs, o ≠ .lst xs) → H' b = some o := fun b o e2 n => by
      rw [kp b fun z => ?_]
      · exact e2
      · rw [z, e] at e2
        cases e2
        exact n _ rfl
    exact ⟨fun b xs e => ne b _ e (fun _ z => nomatch z), fun b o u e => ne b _ e (fun _ z => nomatch z)⟩
  have go : ∀ b xs, Av L σ env b → H b = some (HO.lst xs) → Av L σ env b ∧ H' b = some (HO.lst xs) := fun b xs g e => ⟨g, by rw [kp b fun z => g.1 (by rw [z]; exact la)]; exact e⟩
  refine ⟨h.len, fun i d e => ?_, fun i io ds e => ?_, h.inj, fun b lb => ⟨(h.ext b lb).1, ?_⟩, fun b o n e => ?_, fun b ib => ?_, h.hd⟩
  · obtain ⟨v, e1, r⟩ := h.im i d e
    exact ⟨v, e1, r.mono tk go⟩
  · obtain ⟨b, xs, e1, e2, r, z⟩ := h.own i io ds e
    refine ⟨b, xs, e1, ?_, r.mono tk go, z⟩
    rw [kp b fun z => (h.ext a la).1 ⟨i, io, ds, e, by rw [← z]; exact e1⟩]
    exact e2
  · by_cases z : b = a
    · exact ⟨_, by rw [z]; exact ea⟩
    · rw [kp b z]
      exact (h.ext b lb).2
  · rw [kp b fun z => by rw [z, h0] at e; cases e]
    exact h.fr b o n e
  · by_cases z : b = a
    · exact ⟨_, by rw [z]; exact ea⟩
    · rw [kp b z]
      exact h.io b ib
theorem RE.setEach {c : Cc} {L : Addr → Prop} {H : Hp} {vs : List Nat} {Q : St → Hp → Prop} : ∀ (is : List Nat) (ds : List D) {σ : St} {env : En} {xs : List V}, RE c L σ H env → Reps c.K (Av L σ env) H xs ds → is.length = ds.length → (∀ i ∈ is, i ∈ vs) →
    (∀ σ2, RE c L σ2 H (setEach is ds env) → Stp σ env H σ2 (DL.setEach is ds env) H → L2.wipe σ2 vs = L2.wipe σ vs → Q σ2 H) → gEach is xs σ H Q
  | [], [], σ, env, xs, r, q, _, _, k => by
    cases q
    exact ⟨rfl, k σ r .refl rfl⟩
  | [], d :: ds, _, _, _, _, _, e, _, _ => by cases e
  | i :: is, [], _, _, _, _, _, e, _, _ => by cases e
  | i :: is, d :: ds, σ, env, xs, r, q, e, n, k => by
    cases q with
    | cons q qs =>
      obtain ⟨q1, q2⟩ := r.setIm (i := i) q
      refine ⟨_, _, rfl, RE.setEach is ds q1 (r.reps q2 qs) (by simpa using e) (fun j z => n j (List.mem_cons_of_mem _ z)) fun σ2 r2 s2 w2 => k σ2 r2 (q2.trans s2) (w2.trans ?_)⟩
      refine wipe_eq (by rw [List.length_set]) fun j z => ?_
      rw [List.getElem?_set_ne]
      intro y
      exact z (y ▸ n i List.mem_cons_self)
theorem gCT_of {c : Cc} {L : Addr → Prop} {H : Hp} {vs : List Nat} {Q : St → Hp → Prop} {σ : St} {env env2 : En} {v : V} {d : D} {t : CT} (r : RE c L σ H env) (q : Rep c.K (Av L σ env) H v d) (e : envT t d env = some env2) (n : t.ins vs)
    (k : ∀ σ2, RE c L σ2 H env2 → Stp σ env H σ2 env2 H → L2.wipe σ2 vs = L2.wipe σ vs → Q σ2 H) : gCT c.K t v σ H Q := by
  cases t with
  | one i =>
    cases e
    obtain ⟨q1, q2⟩ := r.setIm (i := i) q
    refine k _ q1 q2 (wipe_eq (by rw [List.length_set]) fun j z => ?_)
    rw [List.getElem?_set_ne]
    intro y
    exact z (y ▸ n)
  | tup is =>
    cases q with
    | tup ht rs =>
      rename_i a xs ds
      dsimp only [envT] at e
      split at e
      · rename_i hl
        cases e
        exact ⟨a, xs, rfl, ht, by rw [rs.length, hl], RE.setEach is ds r rs hl n k⟩
      · cases e
    | _ => cases e
  | nest is j =>
    dsimp only [envT] at e
    split at e
    · rename_i ds d2
      split at e
      · rename_i hl
        cases e
        cases q with
        | tup ht rs =>
          rename_i a xs
          cases rs with
          | cons q1 rs =>
            cases rs with
            | cons q2 rs =>
              cases rs
              rename_i v1 v2
              obtain ⟨a1, xs1, e1, h1, rs1⟩ : ∃ a1 xs1, v1 = .ref a1 ∧ SqT c.K H a1 xs1 ∧ Reps c.K (Av L σ env) H xs1 ds := by
                cases q1 with
                | tup h1 rs1 => exact ⟨_, _, rfl, h1, rs1⟩
              refine ⟨a, [v1, v2], rfl, ht, rfl, v1, [v2], rfl, a1, xs1, e1, h1, by rw [rs1.length, hl], RE.setEach is ds r rs1 hl n.1 fun σ2 r2 s2 w2 => ⟨v2, [], rfl, rfl, ?_⟩⟩
              obtain ⟨y1, y2⟩ := r2.setIm (i := j) (r.rep s2 q2)
              refine k _ y1 (s2.trans y2) ((wipe_eq (by rw [List.length_set]) fun i z => ?_).trans w2)
              rw [List.getElem?_set_ne]
              intro y
              exact z (y ▸ n.2)
      · cases e
    · cases e
open Classical in
noncomputable def lcL (k : Wk) (vs : List Nat) (t : CT) (ft : FT) (fe : FE) : List D → List D → En → R (List D)
  | [], acc, env => if k.ok env then .ok acc env else .er
  | d :: ds, acc, env => if k.ok env ∧ acc.length < sizeLine then
      match envT t d env with
      | some e1 => match ft e1 with
        | .ok true e2 => match fe e2 with
          | .ok u e3 => match u.weak with
            | .im y => lcL k vs t ft fe ds (acc ++ [y]) (wipeE e3 vs)
            | _ => .er
          | _ => .er
        | .ok false e2 => lcL k vs t ft fe ds acc (wipeE e2 vs)
        | _ => .er
      | none => .er
    else .er
noncomputable def eLc (fi : FI) (vs : List Nat) (t : CT) (ft : FT) (fe : FE) : FE := fun env => (fi env).bind fun k e => (lcL k vs t ft fe k.its [] (wipeE e vs)).bind fun ys e2 => .ok (.fr ys) e2
theorem lcL_ex {k : Wk} {vs : List Nat} {t : CT} {ft : FT} {fe : FE} : ∀ ds acc env x e, lcL k vs t ft fe ds acc env ≠ .ex x e
  | [], acc, env, x, e, z => by
    unfold lcL at z
    split at z <;> cases z
  | d :: ds, acc, env, x, e, z => by
    unfold lcL at z
    split at z
    · split at z
      · split at z
        · split at z
          · split at z
            · exact lcL_ex _ _ _ _ _ z
            · cases z
          · cases z
        · exact lcL_ex _ _ _ _ _ z
        · cases z
      · cases z
    · cases z
abbrev WF : WX := fun _ _ _ _ => False
def tT : FT := fun env => .ok true env
section
variable {X : Cx} {c : Cc} {W : WX} {pos p : Pos} {elt iter tg cnd : Expr} {ifs : List Expr} {fi : FI} {ft : FT} {fe : FE} {t : CT} {vs : List Nat}
theorem PTsw {t t' : TT} (h : PTs X ifs t) (k : ∀ σ H Q, t' σ H Q → t σ H Q) : PTs X ifs t' := ⟨fun pins s σ H Q I q => h.run pins s σ H Q I (k σ H Q q)⟩
theorem dts_nil : PTs X [] (dT c W tT) := PTsw pts_nil fun σ H Q h => by
  obtain ⟨env, L, r, h⟩ := h
  exact h H r .refl
theorem dts_one (h : PT X cnd (dT c W ft)) : PTs X [cnd] (dT c W ft) := pts_one h
theorem d_lc (hv : t.ins vs) : ∀ σ H Q, dE c W (eLc fi vs t ft fe) σ H Q → tLc (dI c W fi) (gCT c.K t) (dT c WF ft) (dE c WF fe) vs σ H Q := fun σ H Q h => by
  obtain ⟨env, L, re, h⟩ := h
  refine ⟨env, L, re, h.bind.mono fun k e1 H1 r1 s1 h1 J ⟨ok, src⟩ => ?_⟩
  intro Dd nD
  cases el : lcL k vs t ft fe k.its [] (wipeE e1 vs) with
  | er => rw [el] at h1; exact h1.elim
  | ex x e => exact (lcL_ex _ _ _ _ _ el).elim
  | ok ys e2 =>
    rw [el] at h1
    have h1 : ∀ H', RE c L σ H' e2 → Stp σ e1 H1 σ e2 H' → ∀ v, RepT c L (Nn σ env H) σ H' e2 v (.fr ys) → Q v H' := h1
    have h0 : c.H0 Dd = none := r1.h0 nD
    have nL : ¬ L Dd := fun z => by
      obtain ⟨_, xs, e⟩ := r1.ext Dd z
      rw [nD] at e
      cases e
    have lx : Lx L H1 (fun b => L b ∨ b = Dd) := fun a z => z.imp id fun z => by rw [z]; exact nD
    have kp0 : ∀ b o, H1 b = some o → upd H1 Dd (.lst []) b = some o := fun b o e => by rw [upd_ne (ne_of_none e nD)]; exact e
    have rm : RE c (fun b => L b ∨ b = Dd) σ (upd H1 Dd (.lst [])) e1 := r1.more kp0 nD upd_same
    obtain ⟨rw0, _, sw0⟩ := rm.wipe vs
    -- the step from the walk's begin
    have sub : SubS σ (wipe σ vs) := fun j v e => (wipe_some e).1
    let Wv : Nat → Hp → Prop := fun i H' => ∃ env' xs acc, RE c (fun b => L b ∨ b = Dd) (wipe σ vs) H' env' ∧ (∀ (j : Nat) (s : Sl), env'[j]? = some s → j ∈ vs → s = .no) ∧ Stp σ e1 H1 (wipe σ vs) env' H' ∧ H' Dd = some (.lst xs) ∧ Reps c.K (Av (fun b => L b ∨ b = Dd) (wipe σ vs) env') H' xs acc ∧ lcL k vs t ft fe (k.its.drop i) acc env' = .ok ys e2
    refine ⟨fun i m H' => m = k.its.length - i ∧ Wv i H', ⟨_, rfl, wipeE e1 vs, [], [], rw0, fun j s e z => wipeE_in z e, (Stp.grow kp0).trans sw0, upd_same, .nil, el⟩, fun i m H' ⟨em, env', xs, acc, r, no, s, ed, rs, q⟩ => ?_⟩
    have sw : Sw k σ e1 H1 (wipe σ vs) env' H' := ⟨s, .inr fun j _ _ v e => sub j v e⟩
    by_cases hi : k.its.length ≤ i
    · rw [List.drop_eq_nil_of_le hi] at q
      unfold lcL at q
      split at q
      · rename_i kok
        obtain ⟨rfl, rfl⟩ : acc = ys ∧ env' = e2 := by
          cases q
          exact ⟨rfl, rfl⟩
        refine .inl ⟨src.stop _ i (wipe σ vs) H' env' lx r sw kok hi, ?_⟩
        obtain ⟨rb, _, sb⟩ := r.sub (σ' := σ) (env' := env') (by rw [r.len, wipe_length]) fun j sl e => by
          by_cases z : j ∈ vs
          · exact .inl (no j sl e z)
          · exact .inr ⟨e, (wipe_out' z).symm⟩
        exact h1 H' (rb.less fun b z => .inl z) (s.trans sb) _ ⟨Dd, xs, rfl, ed, rb.reps .refl (r.reps sb rs), nL, h0, s1.back (.inr nD), rb⟩
      · cases q
    · have hi : i < k.its.length := Nat.lt_of_not_le hi
      rw [List.drop_eq_getElem_cons hi] at q
      unfold lcL at q
      split at q
      · rename_i kok
        obtain ⟨kok, la⟩ := kok
        refine .inr ⟨src.go _ i (wipe σ vs) H' env' lx r sw kok hi, Wv (i + 1), fun H2 n => ⟨k.its.length - (i + 1), by omega, rfl, n⟩, fun x H'' y => ?_⟩
        obtain ⟨kp, rx⟩ := src.yld _ i (wipe σ vs) H' env' x H'' k.its[i] lx r sw kok (List.getElem?_eq_getElem hi) y
        have r' := r.grow kp
        have s' : Stp (wipe σ vs) env' H' (wipe σ vs) env' H'' := .grow kp
        have ed' := kp _ _ ed
        have rs' := r.reps s' rs
        cases ea : envT t k.its[i] env' with
        | none => rw [ea] at q; cases q
        | some e3 =>
          rw [ea] at q
          dsimp only at q
          refine gCT_of r' rx ea hv fun σ2 r2 s2 w2 => ⟨w2.trans (wipe_eq (wipe_length σ vs) fun j z => wipe_out' z), ?_⟩
          have w3 : wipe σ2 vs = wipe σ vs := w2.trans (wipe_eq (wipe_length σ vs) fun j z => wipe_out' z)
          -- the list made is kept through a step
          have keepD : ∀ {σa ea Ha σb eb Hb}, RE c (fun b => L b ∨ b = Dd) σa Ha ea → Stp σa ea Ha σb eb Hb → Ha Dd = some (.lst xs) → Hb Dd = some (.lst xs) := fun ra sa e => by
            rw [(sa Dd (Nn.not e (ra.ext Dd (.inr rfl)).1)).1, e]
          have ed2 := keepD r' s2 ed'
          have rs2 := r'.reps s2 rs'
          refine ⟨e3, _, r2, ?_⟩
          cases et : ft e3 with
          | er => rw [et] at q; cases q
          | ex x e => rw [et] at q; cases q
          | ok b e4 =>
            rw [et] at q
            intro H3 r3 s3
            have ed3 := keepD r2 s3 ed2
            have rs3 := r2.reps s3 rs2
            cases b with
            | false =>
              dsimp only at q
              show Wv (i + 1) H3
              obtain ⟨r4, _, s4⟩ := r3.wipe vs
              rw [w3] at r4 s4
              exact ⟨_, xs, acc, r4, fun j sl e z => wipeE_in z e, (((s.trans s').trans s2).trans s3).trans s4, keepD r3 s4 ed3, r3.reps s4 rs3, q⟩
            | true =>
              dsimp only at q
              show dE c WF fe σ2 H3 fun y H4 => ∃ acc, H4 Dd = some (HO.lst acc) ∧ acc.length < sizeLine ∧ Wv (i + 1) (upd H4 Dd (HO.lst (acc ++ [y])))
              refine ⟨e4, _, r3, ?_⟩
              cases ee : fe e4 with
              | er => rw [ee] at q; cases q
              | ex x e => rw [ee] at q; cases q
              | ok u e5 =>
                rw [ee] at q
                dsimp only at q
                intro H4 r4 s4 v qv
                have qv := qv.wk
                have ed4 := keepD r3 s4 ed3
                have rs4 := r3.reps s4 rs3
                refine ⟨xs, ed4, by rw [rs.length]; exact la, ?_⟩
                cases eu : u.weak with
                | al j => rw [eu] at q; cases q
                | fr ds => rw [eu] at q; cases q
                | ft ds => rw [eu] at q; cases q
                | im dy =>
                  rw [eu] at q qv
                  dsimp only at q
                  have rv : Rep c.K (Av (fun b => L b ∨ b = Dd) σ2 e5) H4 v dy := qv
                  obtain ⟨r5, _, s5⟩ := r4.wipe vs
                  rw [w3] at r5 s5
                  have rv5 := r4.rep s5 rv
                  have rs5 := r4.reps s5 rs4
                  have r6 := r5.ext_put (H' := upd H4 Dd (.lst (xs ++ [v]))) (.inr rfl) (fun b z => upd_ne z) upd_same h0
                  have tk : TK H4 (upd H4 Dd (.lst (xs ++ [v]))) := ⟨fun b zs e => by rw [upd_ne fun z => by rw [z, ed4] at e; cases e]; exact e, fun b o w e => by rw [upd_ne fun z => by rw [z, ed4] at e; cases e]; exact e⟩
                  have go : ∀ b zs, Av (fun b => L b ∨ b = Dd) (wipe σ vs) (wipeE e5 vs) b → H4 b = some (HO.lst zs) → Av (fun b => L b ∨ b = Dd) (wipe σ vs) (wipeE e5 vs) b ∧ upd H4 Dd (.lst (xs ++ [v])) b = some (HO.lst zs) := fun b zs g e => ⟨g, by rw [upd_ne fun z => g.1 (.inr z)]; exact e⟩
                  refine ⟨_, xs ++ [v], acc ++ [dy], r6, fun j sl e z => wipeE_in z e, fun b nb => ?_, upd_same, Reps.append (rs5.mono tk go) (.cons (rv5.mono tk go) .nil), q⟩
                  obtain ⟨z1, z2⟩ := (((((s.trans s').trans s2).trans s3).trans s4).trans s5) b nb
                  have nbD : b ≠ Dd := fun z => nb (.inr (by rw [z]; exact nD))
                  rw [upd_ne nbD]
                  exact ⟨z1, fun z => z2 (z.imp id fun z => by rw [upd_ne nbD] at z; exact z)⟩
      · cases q
theorem de_lc {scope : Scope} {own : List (Str × Nat)} (hc : X.calm = true) (hN : X.N.Nodup) (hi : PI X tg iter (dI c W fi)) (ok : BlkOk X.N X.env.scope scope own)
    (hg : ∀ (s : Shared) (H : Hp) (C : Addr) (cl : List (Str × Addr)) (fp : List Addr), PG (X.blk s H scope (compEnvC scope cl C X.env) fp) tg (gCT X.K t))
    (ht : ∀ (s : Shared) (H : Hp) (C : Addr) (cl : List (Str × Addr)) (fp : List Addr), PTs (X.blk s H scope (compEnvC scope cl C X.env) fp) ifs (dT c WF ft))
    (he : ∀ (s : Shared) (H : Hp) (C : Addr) (cl : List (Str × Addr)) (fp : List Addr), PE (X.blk s H scope (compEnvC scope cl C X.env) fp) elt (dE c WF fe)) (hv : t.ins (own.map (·.2)) := by decide) (hK : c.K = X.K := by rfl)
    (hs : ∀ x, foldedSetIterable iter X.env x = pure x := by intro _; rfl) :
    PE X (.ListComp elt [⟨tg, iter, ifs, 0⟩] scope pos) (dE c W (eLc fi (own.map (·.2)) t ft fe)) :=
  PEw (pe_lc hc hN hi ok hg ht he hs) (by rw [← hK]; exact d_lc hv)
theorem ds_setLc {i : Nat} {y : Str} {py spos : Pos} {scope : Scope} {own : List (Str × Nat)} (hc : X.calm = true) (hN : X.N.Nodup) (hy : X.N[i]? = some y) (hyl : X.env.scope.names.lookup y = some .local)
    (hsw : swapsWith (.ListComp elt [⟨tg, iter, ifs, 0⟩] scope pos) (some (.Name y py)) spos.line X.env = pure true) (hi : PI X tg iter (dI c W fi)) (ok : BlkOk X.N X.env.scope scope own)
    (hg : ∀ (s : Shared) (H : Hp) (C : Addr) (cl : List (Str × Addr)) (fp : List Addr), PG (X.blk s H scope (compEnvC scope cl C X.env) fp) tg (gCT X.K t))
    (ht : ∀ (s : Shared) (H : Hp) (C : Addr) (cl : List (Str × Addr)) (fp : List Addr), PTs (X.blk s H scope (compEnvC scope cl C X.env) fp) ifs (dT c WF ft))
    (he : ∀ (s : Shared) (H : Hp) (C : Addr) (cl : List (Str × Addr)) (fp : List Addr), PE (X.blk s H scope (compEnvC scope cl C X.env) fp) elt (dE c WF fe)) (hv : t.ins (own.map (·.2)) := by decide) (hK : c.K = X.K := by rfl)
    (hs : ∀ x, foldedSetIterable iter X.env x = pure x := by intro _; rfl) :
    PS X (.Assign [.Name y py] (.ListComp elt [⟨tg, iter, ifs, 0⟩] scope pos) spos) (dS c W (sAsg (eLc fi (own.map (·.2)) t ft fe) (gN i))) :=
  PSw (ps_setLc hc hN hy hyl hsw hi ok hg ht he hs) fun D σ H h => by
  have := d_asg D σ H h
  obtain ⟨env, L, r, q⟩ := this
  rw [← hK]
  exact d_lc hv σ H _ ⟨env, L, r, q.mono fun t e1 H1 r1 s1 h1 v q => d_gN _ _ _ _ (h1 v q)⟩
end
end DL
namespace DL
open PySem PySem.Spec L2
variable [Wd]
def padE (n : Nat) (env : En) : En := env ++ List.replicate (n - env.length) .no
def outE : En → En → Option En
  | [], _ => some []
  | .own true _ :: r, e :: es => match e, outE r es with
    | .own true ds, some o => some (.own true ds :: o)
    | _, _ => none
  | _ :: r, e :: es => (outE r es).map (.no :: ·)
  | _ :: _, [] => none
def finT (env0 : En) (t : T) (env : En) : R T := match t with
  | .al i => match env[i]? with
    | some (.own false ds) => match outE env0 (env.set i .no) with
      | some o => .ok (.fr ds) o
      | none => .er
    | _ => .er
  | t => match outE env0 env with
    | some o => .ok t o
    | none => .er
def finF (env : En) : Fl → R T
  | .nx e => finT env (.im .non) e
  | .rt t e => finT env t e
  | .ex x e => match outE env e with
    | some o => .ex x o
    | none => .er
  | _ => .er
def runD (n p : Nat) (f : FS) : FD := fun env => if env.length = p then finF env (f (padE n env)) else .er
theorem outE_get : ∀ {env0 env out : En}, outE env0 env = some out → out.length = env0.length ∧ ∀ (i : Nat) (s : Sl), out[i]? = some s → s = .no ∨ ∃ ds ds0, s = .own true ds ∧ env[i]? = some (.own true ds) ∧ env0[i]? = some (.own true ds0)
  | [], env, out, h => by
    cases h
    exact ⟨rfl, fun i s e => by simp at e⟩
  | a :: r, [], out, h => by cases a <;> try (rename_i b _; cases b) <;> cases h
                             all_goals cases h
  | a :: r, e :: es, out, h => by
    have no : (outE r es).map (Sl.no :: ·) = some out → out.length = (a :: r).length ∧ ∀ (i : Nat) (s : Sl), out[i]? = some s → s = .no ∨ ∃ ds ds0, s = .own true ds ∧ (e :: es)[i]? = some (.own true ds) ∧ (a :: r)[i]? = some (.own true ds0) := fun h => by
      cases q : outE r es with
      | none => rw [q] at h; cases h
      | some o =>
        rw [q] at h
        cases h
        obtain ⟨q1, q2⟩ := outE_get q
        refine ⟨by rw [List.length_cons, List.length_cons, q1], fun i s e => ?_⟩
        cases i with
        | zero => cases e; exact .inl rfl
        | succ i => exact q2 i s e
    cases a with
    | no => exact no h
    | hd _ => exact no h
    | im d => exact no h
    | own b ds0 =>
      cases b with
      | false => exact no h
      | true =>
        unfold outE at h
        split at h
        · rename_i ds o q
          cases h
          obtain ⟨q1, q2⟩ := outE_get q
          refine ⟨by rw [List.length_cons, List.length_cons, q1], fun i s e => ?_⟩
          cases i with
          | zero => cases e; exact .inr ⟨ds, ds0, rfl, rfl, rfl⟩
          | succ i => exact q2 i s e
        · cases h
section
variable {K : PySem.W.Frag} {mg : Str → Option Value} {H H' : Hp} {vs : List V} {env0 env out : En} {L : Addr → Prop} {σ : St}
theorem RE.pad {c : Cc} {n : Nat} {N : List Str} (h : RE c L (vs.map some) H env) (hn : N.length = n) (hl : env.length = vs.length) : RE c L (L2.start N vs) H (padE n env) := by
  refine (h.sub ?_ fun j s e => ?_).1
  · unfold padE L2.start
    simp [hn, hl]
  · unfold padE at e
    by_cases z : j < env.length
    · rw [List.getElem?_append_left z] at e
      refine .inr ⟨e, ?_⟩
      unfold L2.start
      rw [List.getElem?_append_left (by rw [List.length_map, ← hl]; exact z)]
    · rw [List.getElem?_append_right (Nat.le_of_not_lt z)] at e
      exact .inl (List.eq_of_mem_replicate (List.mem_of_getElem? e))
theorem out_own {c : Cc} (h : RE c L σ H' env) (eo : outE env0 env = some out) {a : Addr} (o : ownM (c.vs.map some) out a) : ownM σ env a := by
  obtain ⟨i, io, ds, e1, e2⟩ := o
  rcases (outE_get eo).2 i _ e1 with z | ⟨ds', ds0, z, e3, e4⟩
  · cases z
  · cases z
    obtain ⟨b, xs, f1, f2, f3, f4, f5⟩ := h.own i true ds e3
    obtain ⟨_, f6⟩ := f5 rfl
    rw [List.getElem?_map, f6] at e2
    cases e2
    exact ⟨i, true, ds, e3, f1⟩
theorem RE.outs {c : Cc} (h : RE c L σ H' env) (eo : outE env0 env = some out) (hl : env0.length = c.vs.length) : RE c L (c.vs.map some) H' out := by
  have av : ∀ b, Av L σ env b → Av L (c.vs.map some) out b := fun b g => ⟨g.1, fun z => g.2 (out_own h eo z)⟩
  refine ⟨by rw [List.length_map, (outE_get eo).1, hl], fun i d e => ?_, fun i io ds e => ?_, fun i j io jo ds es a e1 e2 e3 e4 => ?_, fun a la => ⟨fun z => (h.ext a la).1 (out_own h eo z), (h.ext a la).2⟩, h.fr, h.io, fun j a e => by rcases (outE_get eo).2 j _ e with z | ⟨ds', ds0, z, e3, e4⟩ <;> cases z⟩
  · rcases (outE_get eo).2 i _ e with z | ⟨ds', ds0, z, e3, e4⟩ <;> cases z
  · rcases (outE_get eo).2 i _ e with z | ⟨ds', ds0, z, e3, e4⟩
    · cases z
    · cases z
      obtain ⟨b, xs, f1, f2, f3, f4, f5⟩ := h.own i true ds e3
      refine ⟨b, xs, ?_, f2, f3.mono (.refl H') (fun b ys g e => ⟨av b g, e⟩), f4, f5⟩
      rw [List.getElem?_map, (f5 rfl).2]
      rfl
  · rcases (outE_get eo).2 i _ e1 with z | ⟨ds', ds0, z, f1, f2⟩
    · cases z
    · cases z
      rcases (outE_get eo).2 j _ e2 with z | ⟨ds'', ds1, z, g1, g2⟩
      · cases z
      · cases z
        obtain ⟨b, xs, p1, p2, p3, p4, p5⟩ := h.own i true ds f1
        obtain ⟨b', xs', q1, q2, q3, q4, q5⟩ := h.own j true es g1
        rw [List.getElem?_map, (p5 rfl).2] at e3
        rw [List.getElem?_map, (q5 rfl).2] at e4
        cases e3
        cases e4
        exact h.inj i j true true ds es a f1 g1 p1 q1
theorem fin_ok {N : Addr → Prop} {v : V} {t t' : T} (h : RE (cc0 K mg H vs env0) L σ H' env) (hl : env0.length = vs.length) (q : RepT (cc0 K mg H vs env0) L N σ H' env v t) (e : finT env0 t env = .ok t' out) :
    RE (cc0 K mg H vs env0) L (vs.map some) H' out ∧ RepT (cc0 K mg H vs env0) L (fun a => H a = none) (vs.map some) H' out v t' := by
  have pl : ∀ {t : T}, (∀ i, t ≠ .al i) → RepT (cc0 K mg H vs env0) L N σ H' env v t → outE env0 env = some out → RE (cc0 K mg H vs env0) L (vs.map some) H' out ∧ RepT (cc0 K mg H vs env0) L (fun a => H a = none) (vs.map some) H' out v t := fun {t} na q eo => by
    refine ⟨h.outs eo hl, ?_⟩
    have av : ∀ (L2 : Addr → Prop) b, Av L2 σ env b → Av L2 (vs.map some) out b := fun L2 b g => ⟨g.1, fun z => g.2 (out_own h eo z)⟩
    cases t with
    | al i => exact (na i rfl).elim
    | im d => exact Rep.mono (.refl H') (fun a xs g e => ⟨av _ a g, e⟩) q
    | fr ds =>
      obtain ⟨a, xs, e, e1, r, n1, n2, n3, re⟩ := q
      exact ⟨a, xs, e, e1, r.mono (.refl H') (fun b ys g e => ⟨av _ b g, e⟩), n1, n2, n2, re.outs eo hl⟩
    | ft cs =>
      obtain ⟨tt, ws, As, e, e1, r, n1, re⟩ := q
      exact ⟨tt, ws, As, e, e1, r.mono (.refl H') (fun b ys g e => ⟨av _ b g, e⟩) (fun _ _ _ e => e), fun a ha => ⟨(n1 a ha).1, (n1 a ha).2.1, (n1 a ha).2.1⟩, re.outs eo hl⟩
  unfold finT at e
  cases t with
  | im d =>
    dsimp only at e
    split at e
    · cases e; exact pl (fun i z => nomatch z) q (by assumption)
    · cases e
  | fr d =>
    dsimp only at e
    split at e
    · cases e; exact pl (fun i z => nomatch z) q (by assumption)
    · cases e
  | ft d =>
    dsimp only at e
    split at e
    · cases e; exact pl (fun i z => nomatch z) q (by assumption)
    · cases e
  | al i =>
    dsimp only at e
    split at e
    · rename_i ds ei
      split at e
      · rename_i o eo
        cases e
        obtain ⟨a, xs, s1, ea, r, f0, _⟩ := h.own i false ds ei
        have sv : σ[i]? = some (some v) := q.2
        rw [sv] at s1
        cases s1
        obtain ⟨q1, q2⟩ := h.drop ei sv
        have oa : ownM σ env a := ⟨i, false, ds, ei, sv⟩
        refine ⟨(q1.less fun b z => .inl z).outs eo hl, a, xs, rfl, ea, ?_, fun z => (h.ext a z).1 oa, f0 rfl, f0 rfl, q1.outs eo hl⟩
        refine r.mono (.refl H') fun b ys g e => ⟨⟨fun z => z.elim g.1 fun z => g.2 (by rw [z]; exact oa), fun z => g.2 (own_set_no (out_own q1 eo z)).1⟩, e⟩
      · cases e
    · cases e
end
theorem Room.le {j k : Nat} {A : Around} (h : Room k A) (hj : j ≤ k) : Room j A := h.mono hj
section
variable {P : Program} {w : World} {K : PySem.W.Frag} {mg : Str → Option Value} {base : Heap}
theorem fn_ok {x qual : Str} {st : Stmt} {f : Addr} {fd : FuncData} {N ps : List Str} {k n p : Nat} {g : FS} (F : Fun K x qual st f fd) (S : FnScope N ps (defScope st)) (hn : N.length = n) (hp : ps.length = p)
    (hb : ∀ (cdv : Value) (A : Around) (outer : List Env) (s : Shared) (H : Hp) (vs : List V) (E : XK) (env0 : En), Room k (A.deeper (PyProof.Rows.envOfC qual (defScope st) s.heap.objs.size f cdv)) →
      PSs (cxOf (L2.CX P w) P w K mg base N qual (defScope st) f cdv A outer s H E) (defBody st) (dS (cc0 K mg H vs env0) (fun cls d _ H => E cls d H) g)) :
    FnOk P w K mg base (L2.CX P w) (k + 1) f fd ps (spD K mg (runD n p g)) := by
  have len : ∀ (vs : List V) (H : Hp) (Q : VK) (E : XK), spD K mg (runD n p g) vs H Q E → vs.length = p := fun vs H Q E ⟨env, L, re, h⟩ => by
    have hl := re.len
    rw [List.length_map] at hl
    unfold runD at h
    by_cases z : env.length = p
    · rw [← hl, z]
    · rw [if_neg z] at h
      exact h.elim
  refine F.okX S (fun vs H Q E h => (len vs H Q E h).trans hp.symm) fun cdv A outer s H vs Q E hr h => ?_
  have hvl := len vs H Q E h
  obtain ⟨env, L, re, h⟩ := h
  have hl : env.length = vs.length := by
    have := re.len
    rwa [List.length_map] at this
  refine ⟨_, hb cdv A outer s H vs E env hr, padE n env, L, re.pad hn hl, ?_⟩
  unfold runD at h
  rw [if_pos (hl.trans hvl)] at h
  have fin : ∀ {t : T} {e : En} {σ' : St} {H' : Hp} {v : V} {N' : Addr → Prop}, (match finT env t e with
      | .er => False
      | .ex x out => ∀ H', RE (cc0 K mg H vs env) L (vs.map some) H' out → ∀ C, mg x = some (.ref C) → E (.ref C) none H'
      | .ok t out => ∀ v H', RE (cc0 K mg H vs env) L (vs.map some) H' out → RepT (cc0 K mg H vs env) L (fun a => H a = none) (vs.map some) H' out v t → Q v H') →
      RE (cc0 K mg H vs env) L σ' H' e → RepT (cc0 K mg H vs env) L N' σ' H' e v t → Q v H' := fun {t e σ' H' v N'} h r q => by
    cases ef : finT env t e with
    | er => rw [ef] at h; exact h.elim
    | ex x o =>
      unfold finT at ef
      split at ef
      · split at ef
        · split at ef <;> cases ef
        · cases ef
      · split at ef <;> cases ef
    | ok t' o =>
      rw [ef] at h
      obtain ⟨z1, z2⟩ := fin_ok r hl q ef
      exact h v H' z1 z2
  cases eg : g (padE n env) with
  | er => rw [eg] at h; exact h.elim
  | bk e => rw [eg] at h; exact h.elim
  | ct e => rw [eg] at h; exact h.elim
  | nx e =>
    rw [eg] at h
    exact fun σ' H' r s => fin (N' := fun _ => True) h r (show RepT _ _ _ _ _ _ _ (.im .non) from .non)
  | rt t e =>
    rw [eg] at h
    exact fun v σ' H' r s q => fin h r q
  | ex x e =>
    rw [eg] at h
    dsimp only [finF] at h
    cases eo : outE env e with
    | none => rw [eo] at h; exact h.elim
    | some o =>
      rw [eo] at h
      exact fun σ' H' r s C hC => h H' (r.outs eo hl) C hC
def spLaw (K : PySem.W.Frag) : Sp := fun vs H Q _ => ∃ (a : Addr) (ns : List Int), vs = [.ref a] ∧ ns.length ≤ 63 ∧ FzAt K H a (ns.map V.int) ∧ ∀ H', Q (.bl true) H'
theorem law_ok {k f : _} {fd : FuncData} {x : Str} {g : FD} (F : FnOk P w K mg base (L2.CX P w) k f fd [x] (spD K mg g)) (h : ∀ ns : List Int, ns.length ≤ 63 → ∃ o, g [.im (.fz (ns.map D.int))] = .ok (.im (.bl true)) o) : FnOk P w K mg base (L2.CX P w) k f fd [x] (spLaw K) :=
  F.imp fun vs H Q E ⟨a, ns, ev, hl, hz, kk⟩ => by
    subst ev
    obtain ⟨o, eg⟩ := h ns hl
    have re : RE (cc0 K mg H [V.ref a] ([D.fz (ns.map D.int)].map Sl.im)) (fun _ => False) ([V.ref a].map some) H ([D.fz (ns.map D.int)].map Sl.im) :=
      RE.enter (.cons (.fz hz (Reps.of_ints ns)) .nil) fun a z => z.elim
    refine ⟨_, _, re, ?_⟩
    show match g [.im (.fz (ns.map D.int))] with
      | .er => False
      | .ex x out => ∀ H', RE (cc0 K mg H [V.ref a] ([D.fz (ns.map D.int)].map Sl.im)) (fun _ => False) ([V.ref a].map some) H' out → ∀ C, mg x = some (.ref C) → E (.ref C) none H'
      | .ok t out => ∀ v H', RE (cc0 K mg H [V.ref a] ([D.fz (ns.map D.int)].map Sl.im)) (fun _ => False) ([V.ref a].map some) H' out → RepT (cc0 K mg H [V.ref a] ([D.fz (ns.map D.int)].map Sl.im)) (fun _ => False) (fun a => H a = none) ([V.ref a].map some) H' out v t → Q v H'
    rw [eg]
    intro v H' _ q
    cases (show Rep _ _ _ v (.bl true) from q)
    exact kk H'
theorem law_hsp {H : Hp} {a : Addr} {ns : List Int} (hl : ns.length ≤ 63) (hO : Only H) (hS : SqL K H a (ns.map V.int)) : spLaw K [.ref a] H (fun v _ => v = .bl true) fun _ _ _ => False := by
  refine ⟨a, ns, rfl, hl, ?_, fun _ => rfl⟩
  rcases hS with (h | ⟨o, h⟩) | h
  · rcases hO a with z | ⟨o, xs, z⟩
    · rw [h] at z; cases z
    · rw [h] at z; cases z
  · exact .inl ⟨o, h⟩
  · exact .inr h
theorem law_cx {H : Hp} {s : Shared} {e : Value} {s' : Shared} (h : L2.CX P w [] H s (fun _ _ _ => False) e s') : False := by
  obtain ⟨_, _, _, _, _, _, _, _, _, _, _, _, z⟩ := h
  exact z
end
end DL
namespace DL
open PySem PySem.Spec L2
variable [Wd]
def dRep : D → D → Option T
  | .lst xs, .int k => if -(2 ^ 63) ≤ k ∧ k < 2 ^ 63 ∧ xs.length * k.toNat ≤ 1000000 then some (.fr (List.replicate k.toNat xs).flatten) else none
  | _, _ => none
def dRepT : D → D → Option T
  | .tup xs, .int k => if xs ≠ [] ∧ 2 ≤ k ∧ k ≤ 1000 ∧ xs.length ≤ 1000 then some (.im (.tup (List.replicate k.toNat xs).flatten)) else none
  | _, _ => none
def repS (z : Str) (k : Int) : Str := ⟨(List.replicate k.toNat z.cps).foldl (· ++ ·) #[]⟩
theorem repS_len (z : Str) (k : Int) : (repS z k).length = k.toNat * z.length := by
  have key : ∀ (n : Nat) (acc : Array Nat), ((List.replicate n z.cps).foldl (· ++ ·) acc).size = acc.size + n * z.cps.size := fun n => by
    induction n with
    | zero => intro acc; simp
    | succ n ih =>
      intro acc
      rw [List.replicate_succ, List.foldl_cons, ih, Array.size_append, Nat.succ_mul]
      omega
  show ((List.replicate k.toNat z.cps).foldl (· ++ ·) #[]).size = _
  rw [key]
  simp [Str.length]
def dRepS : D → D → Option T
  | .str x, .int k => if 2 ≤ k ∧ k ≤ 1000000 ∧ x.length = 1 then some (.im (.str (repS x k))) else none
  | _, _ => none
def dMulA (x y : D) : Option T := match dMul x y with
  | some t => some t
  | none => match dRep x y with
    | some t => some t
    | none => match dRepT x y with
      | some t => some t
      | none => dRepS x y
section
variable {X : Cx} {c : Cc}
def rRepS : R2 := fun x y H Q => ∃ z k, x = .str z ∧ y = .int k ∧ 2 ≤ k ∧ k ≤ 1000000 ∧ z.length = 1 ∧ Q (.str (repS z k)) H
theorem op_repS : OpR X (binaryOp .Mult) rRepS := by
  intro pins s σ H x y v u Q I rx ry h
  obtain ⟨z, k, rfl, rfl, h1, h2, h3, q⟩ := h
  obtain ⟨t, rfl⟩ := rx
  obtain ⟨t', rfl⟩ := ry
  have c0 : ¬ k < 1 := by omega
  have c1 : (k == 1 || z.length == 0) = false := by
    have : ¬ k = 1 := by omega
    simp [h3, this]
  refine PySem.P.mul_str (by
    have a1 : ¬ k < -(2 ^ 63 : Int) := by omega
    have a2 : ¬ k ≥ 2 ^ 63 := by omega
    rw [decide_eq_false a1, decide_eq_false a2]
    rfl) (fun _ _ z9 => ?_) (fun _ _ => ?_) ?_
  · rw [h3] at z9
    have : (1 : Int) ≤ (2 ^ 63 - 1) / k := by
      refine (Int.le_ediv_iff_mul_le (by omega)).mpr ?_
      omega
    exact absurd z9 (by simpa using Int.not_lt.mpr this)
  · rw [h3, Nat.one_mul]
    exact decide_eq_false (by have := line6 (n := k.toNat) (by omega); omega)
  · rw [if_neg c0, if_neg (by rw [c1]; decide)]
    refine ⟨?_, .str _, H, I.tok _, ⟨_, rfl⟩, q⟩
    have e := repS_len z k
    rw [h3, Nat.mul_one] at e
    exact Nat.le_trans (Nat.le_of_eq e) (line6 (by omega))
theorem d_repS : OpD c rRepS dRepS := by
  intro L σ H env x y dx dy t Q re hx hy e k
  cases dx <;> cases dy <;> simp only [dRepS] at e <;> try (cases e; done)
  split at e
  · rename_i q
    cases e
    exact ⟨_, _, hx.str, hy.int, q.1, q.2.1, q.2.2, k _ H re .refl (.str _)⟩
  · cases e
abbrev rMulA (K : PySem.W.Frag) : R2 := fun x y H Q => rI CMul (fun i j => .int (i * j)) x y H Q ∨ (rRep x y H Q ∨ (rRepT K x y H Q ∨ rRepS x y H Q))
theorem op_mulA : OpR X (binaryOp .Mult) (rMulA X.K) := op_mul.or (op_rep.or (op_repT.or op_repS))
theorem d_rep : OpD c rRep dRep := by
  intro L σ H env x y dx dy t Q re hx hy e k
  cases dx <;> cases dy <;> simp only [dRep] at e <;> try (cases e; done)
  split at e
  · rename_i q
    cases e
    obtain ⟨a, xs, rfl, h1, r1⟩ := hx.lst
    cases hy.int
    refine ⟨a, _, xs, rfl, rfl, h1, q.1, q.2.1, by rw [r1.length]; exact Nat.le_trans q.2.2 (by decide), fun p n => ?_⟩
    obtain ⟨q1, q2, q3⟩ := re.newL (r1.rep _) n
    exact k _ _ q1 q2 q3
  · cases e
theorem d_repT : OpD c (rRepT c.K) dRepT := by
  intro L σ H env x y dx dy t Q re hx hy e k
  cases dx <;> cases dy <;> simp only [dRepT] at e <;> try (cases e; done)
  split at e
  · rename_i q
    cases e
    obtain ⟨a, xs, rfl, h1, r1⟩ := hx.tup
    cases hy.int
    refine ⟨a, _, xs, rfl, rfl, h1, fun z => q.1 ?_, q.2.1, q.2.2.1, by rw [r1.length]; exact q.2.2.2, fun p n => ?_⟩
    · subst z
      cases r1
      rfl
    · have kp : ∀ {zs : HO} b o, H b = some o → upd H p zs b = some o := fun b o e => by rw [upd_ne (ne_of_none e n)]; exact e
      exact k _ _ (re.grow kp) (.grow kp) (.tup (.inl (.inl upd_same)) (re.reps (.grow kp) (r1.rep _)))
  · cases e
theorem d_mulA : OpD c (rMulA c.K) dMulA := d_mul.or (d_rep.or (d_repT.or d_repS))
end
theorem de_gc {X : Cx} {c : Cc} {W : WX} {x : Str} {v : V} {d : D} {pos : Pos} (hg : Gl X x) (h : ∃ u, X.mg x = some u ∧ RelV v u) (k : ∀ G H, Rep c.K G H v d) (hd : (x == ("__debug__" : Str)) = false := by decide) : PE X (.Name x pos) (dE c W (eC d)) := by
  obtain ⟨u, h1, h2⟩ := h
  exact de_c (pe_glob hg h1 h2 (hd := hd)) k
def dEqS : D → D → Option T
  | .str a, .str b => some (.im (.bl (a == b)))
  | _, _ => none
def dNeS : D → D → Option T
  | .str a, .str b => some (.im (.bl (!(a == b))))
  | _, _ => none
def dEqA (x y : D) : Option T := match dEqS x y with
  | some t => some t
  | none => dEq x y
def dNeA (x y : D) : Option T := match dNeS x y with
  | some t => some t
  | none => dNe x y
@[simp] theorem dEqA_ss (a b : Str) : dEqA (.str a) (.str b) = some (.im (.bl (a == b))) := rfl
@[simp] theorem dEqA_ii (a b : Int) : dEqA (.int a) (.int b) = some (.im (.bl (a == b))) := rfl
@[simp] theorem dNeA_ss (a b : Str) : dNeA (.str a) (.str b) = some (.im (.bl (!(a == b)))) := rfl
@[simp] theorem dNeA_ii (a b : Int) : dNeA (.int a) (.int b) = some (.im (.bl (!(a == b)))) := rfl
section
variable {X : Cx} {c : Cc}
abbrev rEqA (K : PySem.W.Frag) : R2 := fun x y H Q => rEq x y H Q ∨ rEqD K x y H Q
abbrev rNeA (K : PySem.W.Frag) : R2 := fun x y H Q => rNe x y H Q ∨ rNeD K x y H Q
theorem op_eqA (hu : X.A.units + 64 < cLine) : OpR X (compareOp .Eq) (rEqA X.K) := op_eq.or (op_eqD hu)
theorem op_neA (hu : X.A.units + 64 < cLine) : OpR X (compareOp .NotEq) (rNeA X.K) := op_ne.or (op_neD hu)
theorem d_eqS : OpD c rEq dEqS := by
  intro L σ H env x y dx dy t Q re hx hy e k
  cases dx <;> cases dy <;> simp only [dEqS] at e <;> try (cases e; done)
  cases e
  cases (show Rep _ _ _ x (.str _) from hx)
  cases (show Rep _ _ _ y (.str _) from hy)
  refine ⟨rfl, ?_⟩
  rw [dec_str]
  exact k _ H re .refl (.bl _)
theorem d_neS : OpD c rNe dNeS := by
  intro L σ H env x y dx dy t Q re hx hy e k
  cases dx <;> cases dy <;> simp only [dNeS] at e <;> try (cases e; done)
  cases e
  cases (show Rep _ _ _ x (.str _) from hx)
  cases (show Rep _ _ _ y (.str _) from hy)
  refine ⟨rfl, ?_⟩
  rw [dec_str]
  exact k _ H re .refl (.bl _)
theorem d_eqA : OpD c (rEqA c.K) dEqA := d_eqS.or d_eq
theorem d_neA : OpD c (rNeA c.K) dNeA := d_neS.or d_ne
end
def dAddI : D → D → Option T
  | .int i, .int j => some (.im (.int (i + j)))
  | _, _ => none
@[simp] theorem dAddI_int (i j : Int) : dAddI (.int i) (.int j) = some (.im (.int (i + j))) := rfl
def GlT (K : PySem.W.Frag) (mg : Str → Option Value) (x : Str) (d : D) : Prop := ∃ u v, mg x = some u ∧ RelV v u ∧ ∀ G H, Rep K G H v d
theorem de_gt {X : Cx} {c : Cc} {W : WX} {x : Str} {d : D} {pos : Pos} (hg : Gl X x) (h : GlT X.K X.mg x d) (hK : c.K = X.K := by rfl) (hd : (x == ("__debug__" : Str)) = false := by decide) : PE X (.Name x pos) (dE c W (eC d)) := by
  obtain ⟨u, v, h1, h2, h3⟩ := h
  exact de_c (pe_glob hg h1 h2 (hd := hd)) fun G H => by rw [hK]; exact h3 G H
structure Cd (K : PySem.W.Frag) (mg : Str → Option Value) (x : Str) (st : Stmt) (ps : List Str) (f : Addr) (fd : FuncData) : Prop where
  F : Fun K x x st f fd
  g : mg x = some (.ref f)
  b : Binds K fd ps []
theorem bo_len : bootBuiltins "len" = some (.builtin "len") := by decide +kernel
theorem bo_sum : bootBuiltins "sum" = some (.builtin "sum") := by decide +kernel
theorem bo_max : bootBuiltins "max" = some (.builtin "max") := by decide +kernel
theorem bo_min : bootBuiltins "min" = some (.builtin "min") := by decide +kernel
theorem bo_all : bootBuiltins "all" = some (.builtin "all") := by decide +kernel
theorem bo_any : bootBuiltins "any" = some (.builtin "any") := by decide +kernel
theorem bo_tuple : bootBuiltins "tuple" = some (.type "tuple") := by decide +kernel
theorem bo_list : bootBuiltins "list" = some (.type "list") := by decide +kernel
theorem bo_int : bootBuiltins "int" = some (.type "int") := by decide +kernel
theorem bo_bool : bootBuiltins "bool" = some (.type "bool") := by decide +kernel
theorem bo_str : bootBuiltins "str" = some (.type "str") := by decide +kernel
end DL
namespace DL
open PySem PySem.Spec L2
@[simp] theorem eVar_s (i : Nat) (env : En) : eVar i env = (match env[i]? with
  | some (.im d) => .ok (.im d) env
  | some (.own _ _) => .ok (.al i) env
  | _ => .er) := rfl
@[simp] theorem eC_s (d : D) (env : En) : eC d env = (.ok (.im d) env) := rfl
@[simp] theorem eOp_s (g : D → D → Option T) (fa fb : FE) (env : En) : eOp g fa fb env = ((fa env).bind fun ta e1 => (fb e1).bind fun tb e2 => op2 g ta tb e2) := rfl
@[simp] theorem eUn_s (g : D → Option T) (fa : FE) (env : En) : eUn g fa env = ((fa env).bind fun ta e1 => op1 g ta e1) := rfl
@[simp] theorem aNil_s  (env : En) : aNil  env = (.ok [] env) := rfl
@[simp] theorem aCons_s (fa : FE) (fr : FA) (env : En) : aCons fa fr env = ((fa env).bind fun t e1 => (fr e1).bind fun ts e2 => consT t ts e2) := rfl
@[simp] theorem eB_s (g : List D → Option T) (fa : FA) (env : En) : eB g fa env = ((fa env).bind fun ts e1 => opL g ts e1) := rfl
@[simp] theorem eTup_s (fa : FA) (env : En) : eTup fa env = ((fa env).bind fun ts e1 => disp mkTup ts e1) := rfl
@[simp] theorem eLst_s (fa : FA) (env : En) : eLst fa env = ((fa env).bind fun ts e1 => disp (fun cs => .fr (cs.map Cp.d)) ts e1) := rfl
@[simp] theorem eIsi_s (Ty : String) (fa : FE) (env : En) : eIsi Ty fa env = ((fa env).bind fun t e => op1 (fun d => (isTy Ty d).map fun b => .im (.bl b)) t e) := rfl
@[simp] theorem tV_s (fa : FE) (env : En) : tV fa env = ((fa env).bind fun t e => toB t e) := rfl
@[simp] theorem tAn_s (fa fb : FT) (env : En) : tAn fa fb env = ((fa env).bind fun b e => bif b then fb e else .ok false e) := rfl
@[simp] theorem tOr'_s (fa fb : FT) (env : En) : tOr' fa fb env = ((fa env).bind fun b e => bif b then .ok true e else fb e) := rfl
@[simp] theorem tNo_s (fa : FT) (env : En) : tNo fa env = ((fa env).bind fun b e => .ok (!b) e) := rfl
@[simp] theorem eAn_s (fa fb : FE) (env : En) : eAn fa fb env = ((fa env).bind fun t e => (toB t e).bind fun b e => bif b then fb e else .ok (.im (.bl false)) e) := rfl
@[simp] theorem eOr_s (fa fb : FE) (env : En) : eOr fa fb env = ((fa env).bind fun t e => (toB t e).bind fun b e => bif b then .ok (.im (.bl true)) e else fb e) := rfl
@[simp] theorem eNo_s (fa : FE) (env : En) : eNo fa env = ((fa env).bind fun t e => (toB t e).bind fun b e => .ok (.im (.bl (!b))) e) := rfl
@[simp] theorem eIf_s (fc : FT) (fa fb : FE) (env : En) : eIf fc fa fb env = ((fc env).bind fun b e => bif b then fa e else fb e) := rfl
@[simp] theorem eCh_s (g g' : D → D → Option T) (fa fb fc : FE) (env : En) : eCh g g' fa fb fc env = ((fa env).bind fun ta e1 => (fb e1).bind fun tb e2 => (op2 g ta tb e2).bind fun t e2 => (toB t e2).bind fun b e2 => bif b then (fc e2).bind fun tc e3 => op2 g' tb tc e3 else .ok (.im (.bl false)) e2) := rfl
@[simp] theorem tNp_s  (env : En) : tNp  env = (.ok none env) := rfl
@[simp] theorem tPa_s (fa : FE) (env : En) : tPa fa env = ((fa env).bind toI) := rfl
@[simp] theorem eSl_s (fa : FE) (fl fh : En → R (Option Int)) (env : En) : eSl fa fl fh env = ((fa env).bind fun t e1 => (fl e1).bind fun lo e2 => (fh e2).bind fun hi e3 => slT t lo hi e3) := rfl
@[simp] theorem eCall_s (g : FD) (fa : FA) (env : En) : eCall g fa env = ((fa env).bind fun ts e1 => callT g ts e1) := rfl
@[simp] theorem eCallI_s (k : Nat) (g : FD) (fa : FA) (env : En) : eCallI k g fa env = ((fa env).bind fun ts e1 => callI k g ts e1) := rfl
@[simp] theorem sNx_s  (env : En) : sNx  env = (.nx env) := rfl
@[simp] theorem sSeq_s (f g : FS) (env : En) : sSeq f g env = ((f env).seq g) := rfl
@[simp] theorem sIf_s (ft : FT) (f g : FS) (env : En) : sIf ft f g env = ((ft env).bindF fun b e => bif b then f e else g e) := rfl
@[simp] theorem sRet_s (fa : FE) (env : En) : sRet fa env = ((fa env).bindF fun t e => .rt t e) := rfl
@[simp] theorem sRetN_s  (env : En) : sRetN  env = (.rt (.im .non) env) := rfl
@[simp] theorem sDrop_s (fa : FE) (env : En) : sDrop fa env = ((fa env).bindF fun _ e => .nx e) := rfl
@[simp] theorem sBk_s  (env : En) : sBk  env = (.bk env) := rfl
@[simp] theorem sCt_s  (env : En) : sCt  env = (.ct env) := rfl
@[simp] theorem sAsg_s (fa : FE) (g : FG) (env : En) : sAsg fa g env = ((fa env).bindF fun t e => match g t e with
  | .nx e => .nx e
  | _ => .er) := rfl
@[simp] theorem gN_s (i : Nat) (t : T) (env : En) : gN i t env = (match t with
  | .im d => .nx (env.set i (.im d))
  | .fr ds => .nx (env.set i (.own false ds))
  | .ft cs => .nx (env.set i (.im (.tup (cs.map Cp.d))))
  | .al j => match env[j]? with
    | some (.own false ds) => .nx ((env.set j .no).set i (.own false ds))
    | _ => .er) := rfl
@[simp] theorem gsNil_s  (cs : List Cp) (env : En) : gsNil  cs env = (match cs with
  | [] => .nx env
  | _ => .er) := rfl
@[simp] theorem gsCons_s (g : FG) (gs : FGs) (cs : List Cp) (env : En) : gsCons g gs cs env = (match cs with
  | c :: cs => (g (cpT c) env).seq (gs cs)
  | [] => .er) := rfl
@[simp] theorem gT_s (n : Nat) (gs : FGs) (t : T) (env : En) : gT n gs t env = (match cpsOf t env with
  | some cs => if cs.length = n then gs cs env else .er
  | none => .er) := rfl
@[simp] theorem sPar_s (i j : Nat) (fa : FA) (env : En) : sPar i j fa env = ((fa env).bindF fun ts e => (disp T.ft ts e).bindF fun t e => match t with
  | .ft [c1, c2] => match gsCons (gN i) (gsCons (gN j) gsNil) [c1, c2] e with
    | .nx e => .nx e
    | _ => .er
  | _ => .er) := rfl
@[simp] theorem sAug_s (i : Nat) (g : D → D → Option T) (fa : FE) (env : En) : sAug i g fa env = (match env[i]? with
  | some (.im d) => (fa env).bindF fun t e => (op2 g (.im d) t e).bindF fun t' e2 => match gN i t' e2 with
    | .nx e3 => .nx e3
    | _ => .er
  | _ => .er) := rfl
@[simp] theorem gSb_s (fo fi : FE) (t : T) (env : En) : gSb fo fi t env = (match fo env with
  | .ok to e1 => match fi e1 with
    | .ok ti e2 => match to with
      | .al j => match e2[j]?, ti.val e2, elemD t with
        | some (.own b ds), some (.int k), some d => match ixN ds.length k with
          | some m => .nx (e2.set j (.own b (ds.set m d)))
          | none => .er
        | _, _, _ => .er
      | _ => .er
    | _ => .er
  | _ => .er) := rfl
@[simp] theorem eMet_s (k : List D → List T → En → Option (D × List D × En)) (fo : FE) (fa : FA) (env : En) : eMet k fo fa env = ((fo env).bind fun to e1 => match to with
  | .al j => (fa e1).bind fun ts e2 => metT k (.al j) ts e2
  | _ => .er) := rfl
@[simp] theorem eMet0_s (k : List D → List T → En → Option (D × List D × En)) (fo : FE) (env : En) : eMet0 k fo env = ((fo env).bind fun to e1 => match to with
  | .al j => metT k (.al j) [] e1
  | _ => .er) := rfl
@[simp] theorem fiT_s (fa : FE) (env : En) : fiT fa env = ((fa env).bind iT) := rfl
@[simp] theorem fiL_s (fz : Bool) (fa : FE) (env : En) : fiL fz fa env = ((fa env).bind fun t => iL fz t.weak) := rfl
@[simp] theorem fiR1_s (fa : FA) (env : En) : fiR1 fa env = ((fa env).bind iR1) := rfl
@[simp] theorem fiR2_s (fa : FA) (env : En) : fiR2 fa env = ((fa env).bind iR2) := rfl
@[simp] theorem fiE_s (fz : Bool) (fa : FA) (env : En) : fiE fz fa env = ((fa env).bind (iE fz)) := rfl
@[simp] theorem fiZ_s (fz : Bool) (fa : FA) (env : En) : fiZ fz fa env = ((fa env).bind (iZ fz)) := rfl
theorem sFor_s (fi : FI) (g : FG) (f : FS) (env : En) : sFor fi g f env = ((fi env).bindF fun k e => match k.chk with
  | none => loopF g f k.its e
  | some _ => .er) := rfl
theorem eLc_s (fi : FI) (vs : List Nat) (t : CT) (ft : FT) (fe : FE) (env : En) : eLc fi vs t ft fe env = ((fi env).bind fun k e => (lcL k vs t ft fe k.its [] (wipeE e vs)).bind fun ys e2 => .ok (.fr ys) e2) := rfl
@[simp] theorem tT_s  (env : En) : tT  env = (.ok true env) := rfl

section
variable {α β : Type}
@[simp] theorem c_ok (b : Bool) (x y : α) (e : En) : (bif b then R.ok x e else R.ok y e) = R.ok (bif b then x else y) e := by cases b <;> rfl
@[simp] theorem c_im (b : Bool) (x y : D) : (bif b then T.im x else T.im y) = T.im (bif b then x else y) := by cases b <;> rfl
@[simp] theorem c_bl (b x y : Bool) : (bif b then D.bl x else D.bl y) = D.bl (bif b then x else y) := by cases b <;> rfl
@[simp] theorem c_int (b : Bool) (x y : Int) : (bif b then D.int x else D.int y) = D.int (bif b then x else y) := by cases b <;> rfl
@[simp] theorem c_rt (b : Bool) (x y : T) (e : En) : (bif b then Fl.rt x e else Fl.rt y e) = Fl.rt (bif b then x else y) e := by cases b <;> rfl
@[simp] theorem c_nx (b : Bool) (e : En) : (bif b then Fl.nx e else Fl.nx e) = Fl.nx e := by cases b <;> rfl
@[simp] theorem c_bind (b : Bool) (x y : R α) (g : α → En → R β) : R.bind (bif b then x else y) g = bif b then R.bind x g else R.bind y g := by cases b <;> rfl
@[simp] theorem c_bindF (b : Bool) (x y : R α) (g : α → En → Fl) : R.bindF (bif b then x else y) g = bif b then R.bindF x g else R.bindF y g := by cases b <;> rfl
@[simp] theorem c_seq (b : Bool) (x y : Fl) (g : FS) : Fl.seq (bif b then x else y) g = bif b then Fl.seq x g else Fl.seq y g := by cases b <;> rfl
@[simp] theorem c_fin (b : Bool) (x y : Fl) (e : En) : finF e (bif b then x else y) = bif b then finF e x else finF e y := by cases b <;> rfl
end
@[simp] theorem finF_nx (env e : En) : finF env (.nx e) = finT env (.im .non) e := rfl
@[simp] theorem finF_rt (env e : En) (t : T) : finF env (.rt t e) = finT env t e := rfl
@[simp] theorem finF_ex (env e : En) (x : Str) : finF env (.ex x e) = match outE env e with
    | some o => .ex x o
    | none => .er := rfl
@[simp] theorem shp_int (i : Int) : shp (.int i) = true := rfl
@[simp] theorem shp_bl (i : Bool) : shp (.bl i) = true := rfl
@[simp] theorem shp_non : shp .non = true := rfl

theorem lc_map {k : Wk} {vs : List Nat} {t : CT} {fe : FE} {h : D → D} {env : En} (ok : k.ok env) : ∀ (ds acc : List D), acc.length + ds.length ≤ sizeLine →
    (∀ d ∈ ds, ∃ e1 u e3, envT t d env = some e1 ∧ fe e1 = .ok u e3 ∧ u.weak = .im (h d) ∧ wipeE e3 vs = env) → lcL k vs t tT fe ds acc env = .ok (acc ++ ds.map h) env
  | [], acc, _, _ => by
    unfold lcL
    rw [if_pos ok, List.map_nil, List.append_nil]
  | d :: ds, acc, hl, hd => by
    obtain ⟨e1, u, e3, q1, q2, q3, q4⟩ := hd d List.mem_cons_self
    unfold lcL
    rw [List.length_cons] at hl
    rw [if_pos ⟨ok, by omega⟩, q1]
    simp only [tT, q2, q3, q4]
    rw [lc_map ok ds (acc ++ [h d]) (by rw [List.length_append]; simp; omega) fun x z => hd x (List.mem_cons_of_mem _ z)]
    simp
theorem lc_filter {k : Wk} {vs : List Nat} {t : CT} {ft : FT} {fe : FE} {p : D → Bool} {h : D → D} {env : En} (ok : k.ok env) : ∀ (ds acc : List D), acc.length + ds.length ≤ sizeLine →
    (∀ d ∈ ds, ∃ e1 e2, envT t d env = some e1 ∧ ft e1 = .ok (p d) e2 ∧ wipeE e2 vs = env ∧ (p d = true → ∃ u e3, fe e2 = .ok u e3 ∧ u.weak = .im (h d) ∧ wipeE e3 vs = env)) → lcL k vs t ft fe ds acc env = .ok (acc ++ (ds.filter p).map h) env
  | [], acc, _, _ => by
    unfold lcL
    rw [if_pos ok, List.filter_nil, List.map_nil, List.append_nil]
  | d :: ds, acc, hl, hd => by
    obtain ⟨e1, e2, q1, q2, q3, q4⟩ := hd d List.mem_cons_self
    unfold lcL
    rw [List.length_cons] at hl
    rw [if_pos ⟨ok, by omega⟩, q1]
    have hd' := fun x (z : x ∈ ds) => hd x (List.mem_cons_of_mem _ z)
    cases hp : p d with
    | false =>
      rw [hp] at q2
      simp only [q2, q3]
      rw [lc_filter ok ds acc (by omega) hd', List.filter_cons_of_neg (by simp [hp])]
    | true =>
      rw [hp] at q2
      obtain ⟨u, e3, r1, r2, r3⟩ := q4 hp
      simp only [q2, r1, r2, r3]
      rw [lc_filter ok ds (acc ++ [h d]) (by rw [List.length_append]; simp; omega) hd', List.filter_cons_of_pos hp]
      simp
theorem lc_some {k : Wk} {vs : List Nat} {t : CT} {fe : FE} {Pd : D → D → Prop} {E : Nat → En} (ok : ∀ j, k.ok (E j)) : ∀ (ds acc : List D) (j : Nat), acc.length + ds.length ≤ sizeLine →
    (∀ d ∈ ds, ∀ i, i < j + ds.length → ∃ e1 u e3 y, envT t d (E i) = some e1 ∧ fe e1 = .ok u e3 ∧ u.weak = .im y ∧ Pd d y ∧ wipeE e3 vs = E (i + 1)) → ∃ ys, lcL k vs t tT fe ds acc (E j) = .ok (acc ++ ys) (E (j + ds.length)) ∧ ys.length = ds.length ∧ ∀ (i : Nat) (d : D), ds[i]? = some d → ∃ y, ys[i]? = some y ∧ Pd d y
  | [], acc, j, _, _ => by
    refine ⟨[], ?_, rfl, fun i d e => by simp at e⟩
    unfold lcL
    rw [if_pos (ok j), List.append_nil]
    rfl
  | d :: ds, acc, j, hl, hd => by
    rw [List.length_cons] at hl
    obtain ⟨e1, u, e3, y, q1, q2, q3, q4, q5⟩ := hd d List.mem_cons_self j (by rw [List.length_cons]; omega)
    obtain ⟨ys, r1, r2, r3⟩ := lc_some ok ds (acc ++ [y]) (j + 1) (by rw [List.length_append]; simp; omega) fun x z i hi => hd x (List.mem_cons_of_mem _ z) i (by rw [List.length_cons]; omega)
    refine ⟨y :: ys, ?_, by rw [List.length_cons, List.length_cons, r2], fun i x e => ?_⟩
    · unfold lcL
      rw [if_pos ⟨ok j, by omega⟩, q1]
      simp only [tT, q2, q3, q5]
      rw [r1, List.length_cons, List.append_assoc, show j + 1 + ds.length = j + (ds.length + 1) by omega]
      rfl
    · cases i with
      | zero => cases e; exact ⟨y, rfl, q4⟩
      | succ i => exact r3 i x e
theorem eLc_of {fi : FI} {vs : List Nat} {t : CT} {ft : FT} {fe : FE} {env e e2 : En} {k : Wk} {ys : List D} (h1 : fi env = .ok k e) (h2 : lcL k vs t ft fe k.its [] (wipeE e vs) = .ok ys e2) : eLc fi vs t ft fe env = .ok (.fr ys) e2 := by
  rw [eLc_s, h1, bind_ok, h2]
  rfl
theorem loop_all {g : FG} {f : FS} {I : Nat → En → Prop} {ds : List D} {env : En} (h0 : I 0 env) (step : ∀ (i : Nat) (d : D) e, ds[i]? = some d → I i e → ∃ e1 e2, g (.im d) e = .nx e1 ∧ (f e1 = .nx e2 ∨ f e1 = .ct e2) ∧ I (i + 1) e2) : ∃ e, loopF g f ds env = .nx e ∧ I ds.length e := by
  have key : ∀ (rs : List D) (i : Nat) (e : En), ds.drop i = rs → I i e → ∃ e', loopF g f rs e = .nx e' ∧ I (i + rs.length) e' := by
    intro rs
    induction rs with
    | nil => exact fun i e _ h => ⟨e, rfl, h⟩
    | cons d rs ih =>
      intro i e hd h
      have hi : ds[i]? = some d := by
        have := List.getElem?_drop (xs := ds) (i := i) (j := 0)
        rw [hd] at this
        simpa using this.symm
      obtain ⟨e1, e2, q1, q2, q3⟩ := step i d e hi h
      have hd' : ds.drop (i + 1) = rs := by
        rw [← List.drop_drop, hd]
        rfl
      obtain ⟨e', r1, r2⟩ := ih (i + 1) e2 hd' q3
      refine ⟨e', ?_, by rw [List.length_cons, show i + (rs.length + 1) = i + 1 + rs.length by omega]; exact r2⟩
      unfold loopF
      rcases q2 with q2 | q2 <;> simp only [q1, q2] <;> exact r1
  obtain ⟨e, q1, q2⟩ := key ds 0 env (by simp) h0
  exact ⟨e, q1, by simpa using q2⟩
@[simp high] theorem dAll_map (p : D → Bool) (ds : List D) : dAll [.lst (ds.map fun d => .bl (p d))] = some (.im (.bl (ds.all p))) := by
  rw [dAll_lst, show (ds.map fun d => D.bl (p d)) = (ds.map p).map D.bl by rw [List.map_map]; rfl, blsOf_map]
  simp [List.all_map, Function.comp_def]
@[simp high] theorem dAny_map (p : D → Bool) (ds : List D) : dAny [.lst (ds.map fun d => .bl (p d))] = some (.im (.bl (ds.any p))) := by
  rw [dAny_lst, show (ds.map fun d => D.bl (p d)) = (ds.map p).map D.bl by rw [List.map_map]; rfl, blsOf_map]
  simp [List.any_map, Function.comp_def]
end DL
namespace DL
open PySem PySem.Spec L2 PyProof.Rows
variable [Wd]
section
variable {X : Cx} {c : Cc}
end
end DL
namespace DL
open PySem PySem.Spec L2
variable [Wd]
abbrev alikeD (x y : D) : Bool := PySem.W.alike (toP x) (toP y)
abbrev ltD (x y : D) : Bool := PySem.W.dataLt (toP x) (toP y)
def isNonD : D → Bool
  | .non => true
  | _ => false
def dLtD (x y : D) : Option T := if alikeD x y = true ∧ isNonD x = false ∧ dep x ≤ 60 ∧ (toP x).plain = true ∧ (toP y).plain = true then some (.im (.bl (ltD x y))) else none
def dLtA (x y : D) : Option T := match dLt x y with
  | some t => some t
  | none => dLtD x y
section
variable {X : Cx} {c : Cc}
def rLtD (K : PySem.W.Frag) : R2 := fun x y H Q => ∃ d e, Dp K H x d ∧ Dp K H y e ∧ PySem.W.alike d e = true ∧ d ≠ .none ∧ d.depth ≤ 60 ∧ Q (.bl (PySem.W.dataLt d e)) H
theorem op_ltD (hu : X.A.units + 64 < cLine) : OpR X (compareOp .Lt) (rLtD X.K) := by
  intro pins s σ H x y v u Q I rx ry h
  obtain ⟨d, e, hd, he, ha, hn, hp, q⟩ := h
  obtain ⟨as, r1⟩ := Dp.reads I d x v hd rx
  obtain ⟨bs, r2⟩ := Dp.reads I e y u he ry
  exact PySem.W.lt_data r1 r2 ha hn (by omega) ⟨.bl _, H, I, rfl, q⟩
abbrev rLtA (K : PySem.W.Frag) : R2 := fun x y H Q => rI0 (fun i j => .bl (decide (i < j))) x y H Q ∨ rLtD K x y H Q
theorem op_ltA (hu : X.A.units + 64 < cLine) : OpR X (compareOp .Lt) (rLtA X.K) := op_lt.or (op_ltD hu)
mutual
theorem plain_of_alike : ∀ d : PyData, PySem.W.alike d d = true → d.plain = true
  | .none, _ => rfl
  | .bool _, _ => rfl
  | .int _, _ => rfl
  | .str _, _ => rfl
  | .list xs, h => plainAll_of_alike xs h
  | .tuple xs, h => plainAll_of_alike xs h
  | .dict _, h => nomatch h
theorem plainAll_of_alike : ∀ xs : List PyData, PySem.W.alikeAll xs xs = true → PyData.plainAll xs = true
  | [], _ => rfl
  | x :: xs, h => by
    obtain ⟨h1, h2⟩ := PySem.W.alike_all_cons h
    show (x.plain && PyData.plainAll xs) = true
    rw [plain_of_alike x h1, plainAll_of_alike xs h2]
    rfl
end
theorem toP_none {x : D} (h : isNonD x = false) : toP x ≠ .none := by
  cases x <;> first | exact (Bool.noConfusion h) | exact fun z => nomatch z
theorem d_ltD : OpD c (rLtD c.K) dLtD := by
  intro L σ H env x y dx dy t Q re hx hy e k
  unfold dLtD at e
  split at e
  · rename_i q
    cases e
    exact ⟨_, _, hx.dp q.2.2.2.1, hy.dp q.2.2.2.2, q.1, toP_none q.2.1, by rw [dep_toP]; exact q.2.2.1, k _ H re .refl (.bl _)⟩
  · cases e
theorem d_ltA : OpD c (rLtA c.K) dLtA := d_lt.or d_ltD
end
def rMaxT (K : PySem.W.Frag) : List V → Hp → VK → Prop := fun vs H Q => ∃ (a : Addr) (n : Int) (ns : List Int), vs = [V.ref a] ∧ SqT K H a ((n :: ns).map V.int) ∧ Q (.int (ns.foldl max n)) H
def rMinT (K : PySem.W.Frag) : List V → Hp → VK → Prop := fun vs H Q => ∃ (a : Addr) (n : Int) (ns : List Int), vs = [V.ref a] ∧ SqT K H a ((n :: ns).map V.int) ∧ Q (.int (ns.foldl min n)) H
theorem fold_max_mem : ∀ (ns : List Int) (n : Int), ns.foldl max n ∈ n :: ns
  | [], n => by simp
  | m :: ns, n => by
    rw [List.foldl_cons]
    have := fold_max_mem ns (max n m)
    rcases List.mem_cons.mp this with e | e
    · rw [e]
      by_cases h : n ≤ m
      · rw [Int.max_eq_right h]; simp
      · rw [Int.max_eq_left (by omega)]; simp
    · exact List.mem_cons_of_mem _ (List.mem_cons_of_mem _ e)
theorem fold_max_le : ∀ (ns : List Int) (n y : Int), y ∈ n :: ns → y ≤ ns.foldl max n
  | [], n, y, h => by simp at h; subst h; exact Int.le_refl _
  | m :: ns, n, y, h => by
    rw [List.foldl_cons]
    rcases List.mem_cons.mp h with e | h
    · have := fold_max_le ns (max n m) (max n m) List.mem_cons_self
      omega
    · rcases List.mem_cons.mp h with e | h
      · have := fold_max_le ns (max n m) (max n m) List.mem_cons_self
        omega
      · exact fold_max_le ns (max n m) y (List.mem_cons_of_mem _ h)
theorem fold_min_mem : ∀ (ns : List Int) (n : Int), ns.foldl min n ∈ n :: ns
  | [], n => by simp
  | m :: ns, n => by
    rw [List.foldl_cons]
    have := fold_min_mem ns (min n m)
    rcases List.mem_cons.mp this with e | e
    · rw [e]
      by_cases h : n ≤ m
      · rw [Int.min_eq_left h]; simp
      · rw [Int.min_eq_right (by omega)]; simp
    · exact List.mem_cons_of_mem _ (List.mem_cons_of_mem _ e)
theorem fold_min_le : ∀ (ns : List Int) (n y : Int), y ∈ n :: ns → ns.foldl min n ≤ y
  | [], n, y, h => by simp at h; subst h; exact Int.le_refl _
  | m :: ns, n, y, h => by
    rw [List.foldl_cons]
    rcases List.mem_cons.mp h with e | h
    · have := fold_min_le ns (min n m) (min n m) List.mem_cons_self
      omega
    · rcases List.mem_cons.mp h with e | h
      · have := fold_min_le ns (min n m) (min n m) List.mem_cons_self
        omega
      · exact fold_min_le ns (min n m) y (List.mem_cons_of_mem _ h)
theorem fold_max_eq {ns : List Int} {n m : Int} (h1 : m ∈ n :: ns) (h2 : ∀ y, y ∈ n :: ns → y ≤ m) : m = ns.foldl max n := by
  have a := fold_max_le ns n m h1
  have b := h2 _ (fold_max_mem ns n)
  omega
theorem fold_min_eq {ns : List Int} {n m : Int} (h1 : m ∈ n :: ns) (h2 : ∀ y, y ∈ n :: ns → m ≤ y) : m = ns.foldl min n := by
  have a := fold_min_le ns n m h1
  have b := h2 _ (fold_min_mem ns n)
  omega
theorem foldMaxD : ∀ (ns : List Int) (n : Int), PySem.W.maxD (.int n) (ns.map .int) = .int (ns.foldl max n)
  | [], n => rfl
  | m :: ns, n => by
    have := foldMaxD ns (max n m)
    unfold PySem.W.maxD at this ⊢
    rw [List.map_cons, List.foldl_cons, List.foldl_cons, ← this]
    congr 1
    rw [PySem.W.dataLt_int]
    by_cases h : n < m
    · rw [if_pos (by simpa using h), Int.max_eq_right (by omega)]
    · rw [if_neg (by simpa using h), Int.max_eq_left (by omega)]
theorem foldMinD : ∀ (ns : List Int) (n : Int), PySem.W.minD (.int n) (ns.map .int) = .int (ns.foldl min n)
  | [], n => rfl
  | m :: ns, n => by
    have := foldMinD ns (min n m)
    unfold PySem.W.minD at this ⊢
    rw [List.map_cons, List.foldl_cons, List.foldl_cons, ← this]
    congr 1
    rw [PySem.W.dataLt_int]
    by_cases h : m < n
    · rw [if_pos (by simpa using h), Int.min_eq_right (by omega)]
    · rw [if_neg (by simpa using h), Int.min_eq_left (by omega)]
theorem dp_ints (K : PySem.W.Frag) (H : Hp) : ∀ ns : List Int, DpAll K H (ns.map V.int) (ns.map PyData.int)
  | [] => .nil
  | n :: ns => .cons (.int n) (dp_ints K H ns)
theorem alike_ints (ns : List Int) : PySem.W.AlikeAll (ns.map PyData.int) := by
  refine ⟨fun x hx y hy => ?_, fun x hx => ?_⟩
  · obtain ⟨i, _, rfl⟩ := List.mem_map.mp hx
    obtain ⟨j, _, rfl⟩ := List.mem_map.mp hy
    rfl
  · obtain ⟨i, _, rfl⟩ := List.mem_map.mp hx
    exact fun z => nomatch z
theorem depth_ints (ns : List Int) : PyData.depthAll (ns.map PyData.int) = 0 := PySem.W.depth_ints ns
section
variable {X : Cx} {c : Cc}
theorem cr_maxT (hc : X.calm = true) (hu : X.A.units + 64 < cLine) : CallR X (.builtin "max") (rMaxT X.K) := by
  intro pins s σ H vs us Q I r h
  obtain ⟨a, n, ns, rfl, hs, q⟩ := h
  obtain ⟨its, rv, ht, _⟩ := I.tuple hs
  rw [Vals.ref1 r]
  obtain ⟨as, rs⟩ := Dp.readsAll I _ _ _ (dp_ints X.K H (n :: ns)) rv
  have rs' : ReadsAll s.heap its (PyData.int n :: ns.map PyData.int) as := rs
  refine PySem.W.max_tuple_data (I.ok.hd hc) ht rs' (alike_ints (n :: ns)) (by have := depth_ints (n :: ns); rw [List.map_cons] at this; rw [this]; omega) fun i v h' tk bs hv rd hk => ?_
  rw [foldMaxD] at rd
  cases rd
  exact ⟨.int _, H, I.kept hk, ⟨_, rfl⟩, q⟩
theorem cr_minT (hc : X.calm = true) (hu : X.A.units + 64 < cLine) : CallR X (.builtin "min") (rMinT X.K) := by
  intro pins s σ H vs us Q I r h
  obtain ⟨a, n, ns, rfl, hs, q⟩ := h
  obtain ⟨its, rv, ht, _⟩ := I.tuple hs
  rw [Vals.ref1 r]
  obtain ⟨as, rs⟩ := Dp.readsAll I _ _ _ (dp_ints X.K H (n :: ns)) rv
  have rs' : ReadsAll s.heap its (PyData.int n :: ns.map PyData.int) as := rs
  refine PySem.W.min_tuple_data (I.ok.hd hc) ht rs' (alike_ints (n :: ns)) (by have := depth_ints (n :: ns); rw [List.map_cons] at this; rw [this]; omega) fun i v h' tk bs hv rd hk => ?_
  rw [foldMinD] at rd
  cases rd
  exact ⟨.int _, H, I.kept hk, ⟨_, rfl⟩, q⟩
abbrev rMaxA (K : PySem.W.Frag) : List V → Hp → VK → Prop := fun xs H Q => rMax K xs H Q ∨ rMaxT K xs H Q
abbrev rMinA (K : PySem.W.Frag) : List V → Hp → VK → Prop := fun xs H Q => rMin K xs H Q ∨ rMinT K xs H Q
theorem call_maxA (hc : X.calm = true) (hu : X.A.units + 64 < cLine) : CallR X (.builtin "max") (rMaxA X.K) := (cr_max hc).or (cr_maxT hc hu)
theorem call_minA (hc : X.calm = true) (hu : X.A.units + 64 < cLine) : CallR X (.builtin "min") (rMinA X.K) := (cr_min hc).or (cr_minT hc hu)
def best (f : Int → Int → Int) : List Int → Option D
  | [] => none
  | n :: ns => some (.int (ns.foldl f n))
def dMax1 : List D → Option T
  | [d] => match items d with
    | some ds => ((intsOf ds).bind (best max)).map .im
    | none => none
  | _ => none
def dMin1 : List D → Option T
  | [d] => match items d with
    | some ds => ((intsOf ds).bind (best min)).map .im
    | none => none
  | _ => none
theorem dMax1_tup (n : Int) (ns : List Int) : dMax1 [.tup ((n :: ns).map D.int)] = some (.im (.int (ns.foldl max n))) := by
  show ((intsOf ((n :: ns).map D.int)).bind (best max)).map T.im = _
  rw [intsOf_map]
  rfl
theorem dMin1_lst (n : Int) (ns : List Int) : dMin1 [.lst ((n :: ns).map D.int)] = some (.im (.int (ns.foldl min n))) := by
  show ((intsOf ((n :: ns).map D.int)).bind (best min)).map T.im = _
  rw [intsOf_map]
  rfl
theorem d_max1 : CallD c (rMaxA c.K) dMax1 := by
  intro L σ H env xs ds t Q re hx e k
  unfold dMax1 at e
  split at e
  · rename_i d
    obtain ⟨v, rfl, r⟩ := hx.one
    cases q : items d with
    | none => rw [q] at e; cases e
    | some es =>
      rw [q] at e
      obtain ⟨b, e1, rfl⟩ := Option.map_eq_some_iff.mp e
      obtain ⟨ns, e2, e3⟩ := Option.bind_eq_some_iff.mp e1
      obtain ⟨a, ys, rfl, h, rs⟩ := r.seq q
      rw [intsOf_is e2] at rs
      rw [rs.ints] at h
      cases ns with
      | nil => cases e3
      | cons n ns =>
        cases e3
        rcases h with h | h
        · exact .inl ⟨a, n :: ns, rfl, h, by simp, fun m h1 h2 => by rw [fold_max_eq h1 h2]; exact k _ H re .refl (.int _)⟩
        · exact .inr ⟨a, n, ns, rfl, h, k _ H re .refl (.int _)⟩
  · cases e
theorem d_min1 : CallD c (rMinA c.K) dMin1 := by
  intro L σ H env xs ds t Q re hx e k
  unfold dMin1 at e
  split at e
  · rename_i d
    obtain ⟨v, rfl, r⟩ := hx.one
    cases q : items d with
    | none => rw [q] at e; cases e
    | some es =>
      rw [q] at e
      obtain ⟨b, e1, rfl⟩ := Option.map_eq_some_iff.mp e
      obtain ⟨ns, e2, e3⟩ := Option.bind_eq_some_iff.mp e1
      obtain ⟨a, ys, rfl, h, rs⟩ := r.seq q
      rw [intsOf_is e2] at rs
      rw [rs.ints] at h
      cases ns with
      | nil => cases e3
      | cons n ns =>
        cases e3
        rcases h with h | h
        · exact .inl ⟨a, n :: ns, rfl, h, by simp, fun m h1 h2 => by rw [fold_min_eq h1 h2]; exact k _ H re .refl (.int _)⟩
        · exact .inr ⟨a, n, ns, rfl, h, k _ H re .refl (.int _)⟩
  · cases e
end
end DL
namespace DL
open PySem PySem.Spec L2
variable [Wd]
def whileF (ft : FT) (f : FS) : Nat → En → Fl
  | 0, _ => .er
  | n + 1, env => (ft env).bindF fun b e => bif b then (match f e with
    | .nx e1 => whileF ft f n e1
    | .ct e1 => whileF ft f n e1
    | .bk e1 => .nx e1
    | .rt t e1 => .rt t e1
    | .ex x e1 => .ex x e1
    | .er => .er) else .nx e
def sWhile (n : Nat) (ft : FT) (f : FS) : FS := whileF ft f n
section
variable {X : Cx} {c : Cc} {W : WX} {pos : Pos} {cnd : Expr} {body : List Stmt} {ft : FT} {f : FS}
theorem d_while {n : Nat} : ∀ D σ H, dS c W (sWhile n ft f) D σ H → tWhile (dT c W ft) (dS c W f) D σ H := fun D σ H h => by
  obtain ⟨env, L, re, h⟩ := h
  refine ⟨fun m σ' H' => ∃ env', RE c L σ' H' env' ∧ sK c W L (Stp σ' env' H') (Nn σ' env' H') (whileF ft f m env') D, ⟨n, env, re, h⟩, fun m σ1 H1 ⟨env1, r1, h1⟩ => ?_⟩
  cases m with
  | zero => exact h1.elim
  | succ m =>
    unfold whileF at h1
    refine dT.of r1 (h1.bind.mono fun b e2 H2 r2 s2 h2 => ?_)
    have h2 := h2.here s2
    cases b with
    | false =>
      rw [if_neg Bool.false_ne_true]
      exact h2 σ1 H2 r2 .refl
    | true =>
      rw [if_pos rfl]
      refine ⟨fun σ' H' => ∃ env', RE c L σ' H' env' ∧ sK c W L (Stp σ' env' H') (Nn σ' env' H') (whileF ft f m env') D, fun σ' H' z => ⟨m, Nat.lt_succ_self m, z⟩, ?_⟩
      refine dS.of r2 ?_
      dsimp only [cond_true] at h2
      cases ef : f e2 with
      | er => rw [ef] at h2; exact h2.elim
      | nx e3 => rw [ef] at h2; exact fun σ3 H3 r3 s3 => ⟨e3, r3, h2.here s3⟩
      | ct e3 => rw [ef] at h2; exact fun σ3 H3 r3 s3 => ⟨e3, r3, h2.here s3⟩
      | bk e3 => rw [ef] at h2; exact h2
      | rt t e3 => rw [ef] at h2; exact h2
      | ex x e3 => rw [ef] at h2; exact h2
theorem ds_while (n : Nat) (hp : PassesOwn (model X.prog X.w) X.A X.env X.xe) (hc : PT X cnd (dT c W ft)) (hb : PSs X body (dS c W f)) : PS X (.While cnd body [] pos) (dS c W (sWhile n ft f)) := PSw (ps_while hp hc hb) d_while
end
section
variable {X : Cx} {c : Cc} {W : WX} {pos p : Pos} {e tg a b : Expr} {fa : FE} {fas : FA}
end
theorem each_mk {β : Type} {R : Value → β → Prop} : ∀ {vs : List Value} {bs : List β}, vs.length = bs.length → (∀ (i : Nat) v b, vs[i]? = some v → bs[i]? = some b → R v b) → PySem.W.EachIs R vs bs
  | [], [], _, _ => .nil
  | [], _ :: _, h, _ => by cases h
  | _ :: _, [], h, _ => by cases h
  | v :: vs, b :: bs, h, k => .cons (k 0 v b rfl rfl) (each_mk (by simpa using h) fun i v b e1 e2 => k (i + 1) v b e1 e2)
theorem each_at {β : Type} {R : Value → β → Prop} {vs : List Value} {bs : List β} (h : PySem.W.EachIs R vs bs) : vs.length = bs.length ∧ ∀ (i : Nat) v b, vs[i]? = some v → bs[i]? = some b → R v b := by
  induction h with
  | nil => exact ⟨rfl, fun i v b e => by simp at e⟩
  | cons r _ ih =>
    refine ⟨by simp [ih.1], fun i v b e1 e2 => ?_⟩
    cases i with
    | zero => cases e1; cases e2; exact r
    | succ i => exact ih.2 i v b e1 e2
def okSort (ds : List D) : Prop := (∀ x ∈ ds, ∀ y ∈ ds, alikeD x y = true) ∧ PySem.W.Sortable (ds.map toP) ∧ (∀ x ∈ ds, dep x ≤ 60) ∧ ds.length ≤ 1000000
noncomputable def sortD (ds : List D) : List D := ds.mergeSort (PySem.W.dataLe false toP)
open Classical in
noncomputable def dSorted : List D → Option T
  | [.lst ds] => if okSort ds then some (.fr (sortD ds)) else none
  | _ => none
open Classical in
theorem dSorted_lst {ds : List D} (h : okSort ds) : dSorted [.lst ds] = some (.fr (sortD ds)) := by
  show (if okSort ds then some (T.fr (sortD ds)) else none) = _
  rw [if_pos h]
def rSortedDD (K : PySem.W.Frag) : List V → Hp → VK → Prop := fun vs H Q => ∃ (a : Addr) (xs : List V) (ds : List D) (G : Addr → Prop), vs = [V.ref a] ∧ SqL K H a xs ∧ Reps K G H xs ds ∧ okSort ds ∧
  ∀ (ys : List V) (p : Addr), Reps K G H ys (sortD ds) → H p = none → Q (.ref p) (upd H p (.lst ys))
theorem Reps.mk' {K : PySem.W.Frag} {G : Addr → Prop} {H : Hp} : ∀ {bs : List (V × D)}, (∀ b ∈ bs, Rep K G H b.1 b.2) → Reps K G H (bs.map Prod.fst) (bs.map Prod.snd)
  | [], _ => .nil
  | b :: bs, h => .cons (h b List.mem_cons_self) (Reps.mk' fun x z => h x (List.mem_cons_of_mem _ z))
theorem sort_snd (bs : List (V × D)) : (bs.mergeSort (PySem.W.dataLe false fun b => toP b.2)).map Prod.snd = sortD (bs.map Prod.snd) := by
  unfold sortD
  rw [List.map_mergeSort]
  intro a _ b _
  rfl
theorem cr_sortedDD {X : Cx} (hu : X.A.units + 64 < cLine) : CallR X (.builtin "sorted") (rSortedDD X.K) := by
  intro pins s σ H vs us Q I r h
  obtain ⟨a, xs, ds, G, rfl, hs, rs, ok, q⟩ := h
  obtain ⟨its, rv, hl, hz⟩ := I.list hs
  rw [Vals.ref1 r]
  have lx := rs.length
  have lv := rv.length
  have zl : (xs.zip ds).length = its.length := by rw [List.length_zip]; omega
  have z1 : (xs.zip ds).map Prod.fst = xs := List.map_fst_zip (by omega)
  have z2 : (xs.zip ds).map Prod.snd = ds := List.map_snd_zip (by omega)
  have mem : ∀ b ∈ xs.zip ds, Rep X.K G H b.1 b.2 := fun b hb => by
    obtain ⟨i, hi⟩ := List.getElem?_of_mem hb
    rw [List.getElem?_zip_eq_some] at hi
    obtain ⟨v, e1, e2⟩ := rs.get hi.2
    rw [hi.1] at e1
    cases e1
    exact e2
  have valAt : ∀ (i : Nat) u (v : V), its[i]? = some u → xs[i]? = some v → RelV v u := by
    have key : ∀ {xs : List V} {us : List Value}, Vals xs us → ∀ (i : Nat) u (v : V), us[i]? = some u → xs[i]? = some v → RelV v u := fun {xs us} h => by
      induction h with
      | nil => exact fun i u v e => by simp at e
      | cons r _ ih =>
        intro i u v e1 e2
        cases i with
        | zero => cases e1; cases e2; exact r
        | succ i => exact ih i u v e1 e2
    exact key rv
  have em : (xs.zip ds).map (fun b => toP b.2) = ds.map toP := by rw [← z2, List.map_map]; simp [Function.comp_def, z2]
  refine PySem.W.sorted_data (bs := xs.zip ds) (enc := fun b => toP b.2) (R := fun u b => RelV b.1 u) hl.isList (each_mk zl.symm fun i u b e1 e2 => ?_) (each_mk zl.symm fun i u b e1 e2 => ?_) (fun d hd e he => ?_) (by rw [em]; exact ok.2.1) (by rw [zl, ← lv]; exact hz) (fun b hb => ?_) fun out ho hout => ?_
  · rw [List.getElem?_zip_eq_some] at e2
    exact valAt i u _ e1 e2.1
  · have hb := List.mem_of_getElem? e2
    rw [List.getElem?_zip_eq_some] at e2
    exact Dp.reads I _ _ u ((mem b hb).dp (plain_of_alike _ (ok.1 b.2 (List.of_mem_zip hb).2 b.2 (List.of_mem_zip hb).2))) (valAt i u _ e1 e2.1)
  · rw [em] at hd he
    obtain ⟨x, hx, rfl⟩ := List.mem_map.mp hd
    obtain ⟨y, hy, rfl⟩ := List.mem_map.mp he
    exact ok.1 x hx y hy
  · have : b.2 ∈ ds := (List.of_mem_zip hb).2
    have := ok.2.2.1 _ this
    rw [dep_toP]
    omega
  · obtain ⟨e1, e2⟩ := each_at hout
    let bs' := (xs.zip ds).mergeSort (PySem.W.dataLe false fun b => toP b.2)
    have hv : Vals (bs'.map Prod.fst) out := by
      have key : ∀ {out : List Value} {bs : List (V × D)}, PySem.W.EachIs (fun u b => RelV b.1 u) out bs → Vals (bs.map Prod.fst) out := fun {out bs} h => by
        induction h with
        | nil => exact .nil
        | cons r _ ih => exact .cons r ih
      exact key hout
    have hR : Reps X.K G H (bs'.map Prod.fst) (sortD ds) := by
      have := Reps.mk' (bs := bs') fun b hb => mem b ((List.mergeSort_perm _ _).mem_iff.mp hb)
      rw [sort_snd, z2] at this
      exact this
    obtain ⟨ep, he'⟩ := PyProof.Rows.sortedAll_at s.heap its out.toArray
    have hlen : (bs'.map Prod.fst).length ≤ sizeLine := by
      rw [List.length_map, List.length_mergeSort, zl, ← lv]
      exact hz
    exact ⟨.ref _, upd H (s.heap.objs.size + 1) (.lst (bs'.map Prod.fst)), I.laid (t' := s.toks) (fun _ _ => PyProof.Rows.sortedAll_old) (Nat.le_succ _) ⟨hlen, out, ep, hv, he'⟩, rfl, q _ _ hR (I.hok.fresh (Nat.le_succ _))⟩
theorem d_sorted {c : Cc} : CallD c (rSortedDD c.K) dSorted := by
  intro L σ H env xs ds t Q re hx e k
  unfold dSorted at e
  split at e
  · rename_i es
    split at e
    · rename_i ok
      cases e
      obtain ⟨v, rfl, r⟩ := hx.one
      obtain ⟨a, ys, rfl, h, rs⟩ := r.lst
      refine ⟨a, ys, es, _, rfl, .of h, rs, ok, fun zs p hz n => ?_⟩
      obtain ⟨q1, q2, q3⟩ := re.newL hz n
      exact k _ _ q1 q2 q3
    · cases e
  · cases e
theorem bo_sorted : bootBuiltins "sorted" = some (.builtin "sorted") := by decide +kernel
end DL
namespace DL
open PySem PySem.Spec L2
variable [Wd]
def dInD (neg : Bool) (x y : D) : Option T := if shp x = true ∧ shp y = true then (match y with
  | .tup ds => some (.im (.bl (if neg then !hasD x ds else hasD x ds)))
  | .lst ds => some (.im (.bl (if neg then !hasD x ds else hasD x ds)))
  | _ => none) else none
def dInA (neg : Bool) (x y : D) : Option T := match dIn neg x y with
  | some t => some t
  | none => dInD neg x y
theorem has_any (x : D) (ds : List D) : (toPs ds).any (fun y => PyData.eqv y (toP x)) = hasD x ds := by
  rw [toPs_map, List.any_map]
  rfl
section
variable {X : Cx} {c : Cc}
def rInDD (K : PySem.W.Frag) (neg : Bool) : R2 := fun x y H Q => ∃ d e ds, Dp K H x d ∧ Dp K H y e ∧ (e = .list ds ∨ e = .tuple ds) ∧ SeqAt.shaped d = true ∧ SeqAt.shaped e = true ∧ Q (.bl (if neg then !(ds.any fun z => PyData.eqv z d) else ds.any fun z => PyData.eqv z d)) H
theorem op_inDD (hu : X.A.units + 66 < cLine) : OpR X (compareOp .In) (rInDD X.K false) := by
  intro pins s σ H x y v u Q I rx ry h
  obtain ⟨d, e, ds, hd, he, hh, sd, se, q⟩ := h
  obtain ⟨as, r1⟩ := Dp.reads I d x v hd rx
  obtain ⟨bs, r2⟩ := Dp.reads I e y u he ry
  rcases hh with rfl | rfl
  · exact SeqAt.in_list_reads r2 r1 (SeqAt.canLay_of_shaped se) (SeqAt.canLay_of_shaped sd) (PyProof.Rows.room_in_shaped sd (by omega)) ⟨.bl _, H, I, rfl, q⟩
  · exact SeqAt.in_tuple_reads r2 r1 (SeqAt.canLay_of_shaped se) (SeqAt.canLay_of_shaped sd) (PyProof.Rows.room_in_shaped sd (by omega)) ⟨.bl _, H, I, rfl, q⟩
theorem op_notInDD (hu : X.A.units + 66 < cLine) : OpR X (compareOp .NotIn) (rInDD X.K true) := by
  intro pins s σ H x y v u Q I rx ry h
  obtain ⟨d, e, ds, hd, he, hh, sd, se, q⟩ := h
  obtain ⟨as, r1⟩ := Dp.reads I d x v hd rx
  obtain ⟨bs, r2⟩ := Dp.reads I e y u he ry
  rcases hh with rfl | rfl
  · exact SeqAt.notIn_list_reads r2 r1 (SeqAt.canLay_of_shaped se) (SeqAt.canLay_of_shaped sd) (PyProof.Rows.room_in_shaped sd (by omega)) ⟨.bl _, H, I, rfl, q⟩
  · exact SeqAt.notIn_tuple_reads r2 r1 (SeqAt.canLay_of_shaped se) (SeqAt.canLay_of_shaped sd) (PyProof.Rows.room_in_shaped sd (by omega)) ⟨.bl _, H, I, rfl, q⟩
abbrev rInA (K : PySem.W.Frag) (neg : Bool) : R2 := fun x y H Q => rIn K neg x y H Q ∨ rInDD K neg x y H Q
theorem op_inA (hu : X.A.units + 66 < cLine) : OpR X (compareOp .In) (rInA X.K false) := op_in_seq.or (op_inDD hu)
theorem op_notInA (hu : X.A.units + 66 < cLine) : OpR X (compareOp .NotIn) (rInA X.K true) := op_notIn_seq.or (op_notInDD hu)
theorem d_inDD (neg : Bool) : OpD c (rInDD c.K neg) (dInD neg) := by
  intro L σ H env x y dx dy t Q re hx hy e k
  unfold dInD at e
  split at e
  · rename_i q
    cases dy with
    | tup ds =>
      cases e
      refine ⟨_, _, toPs ds, hx.dp (plain_of_shp q.1), hy.dp (plain_of_shp q.2), .inr rfl, q.1, q.2, ?_⟩
      rw [has_any]
      exact k _ H re .refl (.bl _)
    | lst ds =>
      cases e
      refine ⟨_, _, toPs ds, hx.dp (plain_of_shp q.1), hy.dp (plain_of_shp q.2), .inl rfl, q.1, q.2, ?_⟩
      rw [has_any]
      exact k _ H re .refl (.bl _)
    | non => cases e
    | bl b => cases e
    | int b => cases e
    | str b => cases e
    | fz b => cases e
    | dct _ _ => cases e
    | kd _ _ => cases e
  · cases e
theorem d_inA (neg : Bool) : OpD c (rInA c.K neg) (dInA neg) := (d_in neg).or (d_inDD neg)
end
section
variable {X : Cx} {c : Cc} {W : WX} {a : Expr} {fa : FE} {p p2 q pos : Pos}
end
theorem upd_self {H : Hp} {a : Addr} {o : HO} (h : H a = some o) : upd H a o = H := by
  funext b
  by_cases e : b = a
  · subst e
    rw [upd_same, h]
  · rw [upd_ne e]
def kIdx (ds : List D) (ts : List T) (env : En) : Option (D × List D × En) := match vals env ts with
  | some [x] => if shp x = true ∧ shp (.lst ds) = true then (ds.findIdx? fun y => eqv y x).map fun (j : Nat) => (D.int (j : Int), ds, env) else none
  | _ => none
theorem m_idx {c : Cc} : MetD c (rIndexD c.K) kIdx := by
  intro L σ H env a xs ds vs As ts d ds' env' Q j b r n q ej sj ea ra ek ow kk
  unfold kIdx at ek
  cases ev : vals env ts with
  | none => rw [ev] at ek; cases ek
  | some es =>
    rw [ev] at ek
    have ro := q.oprs r.bare r (fun a z => ⟨z, (n a z).1⟩) ev
    match es, ro with
    | [], _ => cases ek
    | _ :: _ :: _, _ => cases ek
    | [x], .cons rx .nil =>
      dsimp only at ek
      split at ek
      · rename_i hs
        obtain ⟨i, hi, e⟩ := Option.map_eq_some_iff.mp ek
        cases e
        rw [List.findIdx?_eq_some_iff_getElem] at hi
        obtain ⟨hil, hi1, hi2⟩ := hi
        have kq := kk (.int (i : Int)) xs r.bare .refl (.int _) ra
        rw [upd_self ea] at kq
        refine ⟨a, _, toP x, toPs ds, i, toP ds[i], rfl, rfl, .lst (.of ea) (Reps.dp ra (plain_of_shp (d := .lst ds) hs.2)), rx.dp (plain_of_shp hs.1), hs.2, hs.1, ?_, hi1, fun m z' hm hz => ?_, kq⟩
        · rw [toPs_map, List.getElem?_map, List.getElem?_eq_getElem hil]
          rfl
        · rw [toPs_map, List.getElem?_map] at hz
          obtain ⟨z, e1, rfl⟩ := Option.map_eq_some_iff.mp hz
          obtain ⟨hml, e2⟩ := List.getElem?_eq_some_iff.mp e1
          have := hi2 m hm
          rw [e2] at this
          exact (by simpa using this : eqv z x = false)
      · cases ek
theorem u66 {A : Around} {k : Nat} (h : Room k A) : A.units + 66 < cLine := by have := h.un; omega
theorem u65 {A : Around} {k : Nat} (h : Room k A) : A.units + 65 < cLine := by have := h.un; omega
end DL
namespace DL
open PySem PySem.Spec PyProof PyProof.Rows L2
variable [Wd]
def rvN (n : Nat) : Option Int → Nat
  | none => n
  | some i => (max (-1) (min (if i < 0 then i + (n : Int) else i) ((n : Int) - 1)) + 1).toNat
section
variable {prog : Program} {w : World} {A : Around} {E : Value → Shared → Prop} {s : Shared}
end
def rvV {α : Type} (xs : List α) (o : Option Int) : List α := (xs.take (rvN xs.length o)).reverse
section
variable {X : Cx} {e : Expr} {te : TE} {lo : Option Expr} {tl : TO} {k : Nat} {p1 p2 p3 pos : Pos}
end
def dRv (d : D) (o : Option Int) : Option T := match d with
  | .tup ds => some (.im (.tup (rvV ds o)))
  | .lst ds => some (.fr (rvV ds o))
  | _ => none
def rvT (t : T) (o : Option Int) (env : En) : R T := match t.val env with
  | some d => R.opt (dRv d o) env
  | none => .er
@[simp] theorem dRv_tup (ds : List D) (o : Option Int) : dRv (.tup ds) o = some (.im (.tup (rvV ds o))) := rfl
@[simp] theorem dRv_lst (ds : List D) (o : Option Int) : dRv (.lst ds) o = some (.fr (rvV ds o)) := rfl
def eRv (fa : FE) (fl : En → R (Option Int)) : FE := fun env => (fa env).bind fun t e1 => (fl e1).bind fun o e2 => rvT t o e2
@[simp] theorem eRv_s (fa : FE) (fl : En → R (Option Int)) (env : En) : eRv fa fl env = (fa env).bind fun t e1 => (fl e1).bind fun o e2 => rvT t o e2 := rfl
section
variable {X : Cx} {c : Cc} {W : WX} {a : Expr} {fa : FE} {fl : En → R (Option Int)} {lo : Option Expr} {k : Nat} {p1 p2 p3 pos : Pos}
theorem Reps.rv {K : PySem.W.Frag} {G : Addr → Prop} {H : Hp} {xs : List V} {ds : List D} (r : Reps K G H xs ds) (o : Option Int) : Reps K G H (rvV xs o) (rvV ds o) := by
  unfold rvV
  rw [r.length]
  exact (r.take _).reverse
end
end DL
namespace DL
open PySem PySem.Spec PyProof PyProof.Rows PySem.W L2
variable [Wd]
section
variable {prog : Program} {w : World} {A : Around} {E : Value → Shared → Prop} {s : Shared}
end
end DL
namespace DL
open PySem PySem.Spec PyProof.Rows L2
variable [Wd]
def ExcK (K : PySem.W.Frag) (mg : Str → Option Value) (x : Str) : Prop := ∃ C : Addr, mg x = some (.ref C) ∧ PySem.W.excIn K C [.type "ValueError", .type "Exception", .type "BaseException", .type "object"] "ValueError.__new__" = true ∧
  PySem.W.keepIn K (.ref C) = true ∧ PySem.W.subIn K (.ref C) (.type "BaseException") = some true ∧ PySem.W.typeIn K (.ref C) = some (.type "type")
def sRz (x : Str) : FS := fun env => .ex x env
@[simp] theorem sRz_s (x : Str) (env : En) : sRz x env = .ex x env := rfl
section
variable {X : Cx} {c : Cc} {W : WX}
theorem ds_raise {x m : Str} {j : Nat} {p p2 pos pos' : Pos} (hc : X.calm = true) (tk : Takes X W) (xk : ExcK X.K X.mg x) (hg : Gl X x) (hM : c.mg = X.mg := by rfl) (hdb : (x == ("__debug__" : Str)) = false := by decide) :
    PS X (.Raise (some (.Call (.Name x p) [.Constant (.str m) j p2] [] pos)) none pos') (dS c W (sRz x)) := by
  obtain ⟨C, gC, eC, kC, bC, tC⟩ := xk
  refine PSw (ps_raise hc tk (pmk_own PySem.F.excBase_ValueError eC gC kC (raises_own bC tC) hg hdb)) fun D σ H h => ?_
  obtain ⟨env, L, r, h⟩ := h
  exact h σ H r .refl C (by rw [hM]; exact gC)
end
section
variable {X : Cx} {CX : CXT} {k : Nat} {f C : Addr} {fd : FuncData} {ps : List Str} {sp : Addr × Obj → Sp} {E : L2.St → XK} {x m : Str} {q pos apos : Pos} {e o : Expr} {es : List Expr} {ta : TE} {t : TA}
end
end DL
namespace DL
open PySem PySem.Spec PyProof.Rows L2
variable [Wd]
def xn : List Str := ["InvalidShop", "InvalidBasket", "InvalidActs", "InvalidAct", "InvalidOffers", "InvalidKinds", "InvalidNumber", "Different", "NoFault", "NotThere", "NothingToUndo", "ParseError"]
structure XF (K : PySem.W.Frag) (P C : Addr) : Prop where
  cd : ∃ cd, PySem.W.clsIn K C = some cd ∧ cd.mro = [.ref C, .ref P, .type "ValueError", .type "Exception", .type "BaseException", .type "object"]
  ty : PySem.W.typeIn K (.ref C) = some (.type "type")
  hg : PySem.W.findIn K (.ref C) "__getattribute__" = some (some (.builtin "BaseException.__getattribute__"))
  hk : PySem.W.findIn K (.ref C) "__getattr__" = some none
  hd : PySem.W.hasDictIn K C = true
  ha : PySem.W.findIn K (.ref C) "__class__" = some (some (.builtin "object.__class__"))
inductive XFs (K : PySem.W.Frag) (mg : Str → Option Value) (P : Addr) : List Str → List Addr → Prop
  | nil : XFs K mg P [] []
  | cons {x C xs cs} (g : mg x = some (.ref C)) (f : XF K P C) (r : XFs K mg P xs cs) : XFs K mg P (x :: xs) (C :: cs)
theorem XFs.get {K : PySem.W.Frag} {mg : Str → Option Value} {P : Addr} : ∀ {xs : List Str} {cs : List Addr}, XFs K mg P xs cs → ∀ {j : Nat} {x : Str}, xs[j]? = some x → ∃ C, cs[j]? = some C ∧ mg x = some (.ref C) ∧ XF K P C
  | _, _, .nil, j, x, h => by simp at h
  | _, _, .cons g f r, 0, x, h => by simp at h; subst h; exact ⟨_, rfl, g, f⟩
  | _, _, .cons g f r, j + 1, x, h => by simpa using XFs.get r (by simpa using h)
structure Exn (K : PySem.W.Frag) (mg : Str → Option Value) (P : Addr) (cs : List Addr) : Prop where
  xs : XFs K mg P xn cs
  nd : (P :: cs).Nodup
  gP : mg "PriceError" = some (.ref P)
  bP : PySem.W.subIn K (.ref P) (.type "BaseException") = some true
  iP : PySem.W.isClsIn K P = true
  tP : PySem.W.typeIn K (.ref P) = some (.type "type")
  hn : PySem.W.specialIn K (.builtin "object.__class__") "__get__" = some (some (.builtin "getset_descriptor.__get__"))
  ht : PySem.W.takesIn K (.builtin "object.__class__") = some true
section
variable {K : PySem.W.Frag} {mg : Str → Option Value} {P C : Addr} {cs : List Addr}
theorem XFs.len : ∀ {xs : List Str} {cs : List Addr}, XFs K mg P xs cs → cs.length = xs.length
  | _, _, .nil => rfl
  | _, _, .cons _ _ r => congrArg (· + 1) (XFs.len r)
theorem XFs.at : ∀ {xs : List Str} {cs : List Addr}, XFs K mg P xs cs → ∀ {j : Nat} {C : Addr}, cs[j]? = some C → XF K P C
  | _, _, .nil, j, C, h => by simp at h
  | _, _, .cons _ f r, 0, C, h => by simp at h; subst h; exact f
  | _, _, .cons _ f r, j + 1, C, h => XFs.at r (by simpa using h)
theorem Exn.len (x : Exn K mg P cs) : cs.length = 12 := x.xs.len
theorem Exn.at (x : Exn K mg P cs) {j : Nat} {C : Addr} (h : cs[j]? = some C) : XF K P C := x.xs.at h
theorem XF.sub (f : XF K P C) (b : Value) : PySem.W.subIn K (.ref C) b = some ([Value.ref C, .ref P, .type "ValueError", .type "Exception", .type "BaseException", .type "object"].contains b) := by
  obtain ⟨cd, h1, h2⟩ := f.cd
  show PySem.W.mroIn K C b = _
  unfold PySem.W.mroIn
  rw [h1, Option.bind_some, h2]
  rfl
theorem XF.is (f : XF K P C) : PySem.W.isClsIn K C = true := by
  obtain ⟨cd, h1, h2⟩ := f.cd
  unfold PySem.W.isClsIn
  rw [h1]
  rfl
end
end DL
namespace DL
open PySem PySem.Spec PyProof.Rows L2
variable [Wd]
section
variable {X : Cx} {c : Cc} {Wout : WX} {n : Str} {i k : Nat} {body : List Stmt} {np pos pos' q1 q2 q3 q4 : Pos} {f : FS} {P a : Addr} {cs : List Addr} {fd : FuncData}
end
end DL
namespace DL
open PySem PySem.Spec L2
variable [Wd]
section
variable {K : PySem.W.Frag} {a C D1 D2 D3 : Addr} {b b1 b2 b3 : Bool} {σ : St} {H : Hp}
end
section
variable {K : PySem.W.Frag} {a C c0 c1 c2 c3 c4 c5 c6 c7 c8 c9 c10 c11 : Addr} {j : Nat} {H : Hp}
end
end DL
namespace DL
open PySem PySem.Spec L2
variable [Wd]
section
variable {X : Cx} {c : Cc} {W : WX} {j : Nat} {st : Stmt} {rest a b : List Stmt} {f g : FS} {fa : FE} {ft : FT} {e : Expr} {pos : Pos}
end
section
variable {X : Cx} {c : Cc} {W : WX} {j : Nat} {pos p : Pos} {iter tg : Expr} {body : List Stmt} {fi : FI} {g : FG} {f : FS}
end
end DL
namespace DL
open PySem PySem.Spec L2
variable [Wd]
def strT (t : T) (k : Str → R T) : R T := match t with
  | .im (.str a) => k a
  | _ => .er
@[simp] theorem strT_s (a : Str) (k : Str → R T) : strT (.im (.str a)) k = k a := rfl
section
variable {X : Cx} {c : Cc} {W : WX} {pos : Pos} {fa fb : FE} {r : V → List V → Hp → VK → Prop}
end
def strsOf : List D → Option (List Str)
  | [] => some []
  | .str i :: ds => (strsOf ds).map (i :: ·)
  | _ => none
@[simp] theorem strsOf_map : ∀ ns : List Str, strsOf (ns.map D.str) = some ns
  | [] => rfl
  | n :: ns => by rw [List.map_cons]; unfold strsOf; rw [strsOf_map ns]; rfl
section
variable {X : Cx} {c : Cc} {W : WX} {pos apos : Pos} {o e : Expr} {fa fb : FE}
end
end DL
namespace DL
open PySem PySem.Spec L2 TL
end DL
namespace DL
open PySem PySem.Spec L2 PyProof.Rows
variable [Wd]
theorem dK.grown {α : Type} {c : Cc} {W : WX} {L : Addr → Prop} {σ : L2.St} {H H' : Hp} {env : En} {r : R α} {P : α → En → Hp → Prop} (h : dK c W L σ H env r P) (k : ∀ b o, H b = some o → H' b = some o) : dK c W L σ H' env r P := by
  cases r with
  | er => exact h
  | ex x e => exact fun H'' re s => h H'' re ((Stp.grow k).trans s)
  | ok a e => exact fun H'' re s => h H'' re ((Stp.grow k).trans s)
inductive FnsD (X : Cx) : List Expr → List V → List FD → Prop
  | nil : FnsD X [] [] []
  | cons {k : Nat} {f : Addr} {fd : FuncData} {ps : List Str} {x : Str} {p : Pos} {g : FD} {es : List Expr} {vs : List V} {gs : List FD} (F : FnOk X.prog X.w X.K X.mg X.base (L2.CX X.prog X.w) k f fd ps (spD X.K X.mg g)) (hr : Room k X.A) (hg : Gl X x) (hm : X.mg x = some (.ref f)) (hk : PySem.W.keepIn X.K (.ref f) = true) (hb : Binds X.K fd ps []) (r : FnsD X es vs gs)
    (hd : (x == ("__debug__" : Str)) = false := by decide) (hs : starEach (.Name x p :: es) X.env = (false, eval (.Name x p) X.env) :: starEach es X.env := by rfl) : FnsD X (.Name x p :: es) (.ref f :: vs) (g :: gs)
section
variable {X : Cx} {c : Cc} {W : WX} {pos p tp sp : Pos} {e b : Expr} {es ar : List Expr} {vs : List V} {gs : List FD} {fi : FE} {fa : FA} {x1 : Nat}
theorem FnsD.len : ∀ {es vs gs}, FnsD X es vs gs → vs.length = gs.length
  | _, _, _, .nil => rfl
  | _, _, _, .cons _ _ _ _ _ _ r _ _ => by simp [r.len]
def FnAt (X : Cx) (f : Addr) (g : FD) : Prop := ∃ (k : Nat) (fd : FuncData) (ps : List Str), FnOk X.prog X.w X.K X.mg X.base (L2.CX X.prog X.w) k f fd ps (spD X.K X.mg g) ∧ Room k X.A ∧ PySem.W.keepIn X.K (.ref f) = true ∧ Binds X.K fd ps []
theorem FnsD.get : ∀ {es vs gs}, FnsD X es vs gs → ∀ {n : Nat} {g : FD}, gs[n]? = some g → ∃ f, vs[n]? = some (.ref f) ∧ FnAt X f g
  | _, _, _, .nil, n, g, h => by simp at h
  | _, _, _, .cons F hr hg hm hk hb r hd hs, 0, g, h => by
    cases h
    exact ⟨_, rfl, _, _, _, F, hr, hk, hb⟩
  | _, _, _, .cons F hr hg hm hk hb r hd hs, n + 1, g, h => r.get (n := n) h
end
section
variable {X : Cx} {CX : CXT} {c : Cc} {W : WX} {pos p : Pos} {x : Str} {e : Expr} {es : List Expr} {fa : FA} {g : FD} {k : Nat} {f C : Addr} {fd : FuncData} {ps : List Str} {sp : Sp} {E : L2.St → XK} {t : TA}
end
end DL
namespace DL
open PySem PySem.Spec L2 PyProof.Rows CwR
variable [Wd]
section
variable {X : Cx} {c : Cc} {W : WX} {pos apos p c0 c1 : Pos} {o e f : Expr} {es : List Expr} {fa fb fe : FE} {fs fr : FA} {te : TE} {t t' : TA} {x : Str} {j k : Nat} {y z : Str}
end
end DL
namespace DL
open PySem PySem.Spec L2 PyProof.Rows CwR
variable [Wd]
section
variable {X : Cx} {c : Cc} {W : WX} {pos apos p : Pos} {o e f : Expr} {es : List Expr} {st : Stmt} {rest : List Stmt} {fa fb fe fo : FE} {fs fr fas : FA} {te to : TE} {t ta : TA} {ts us : TS} {g h : FS}
end
end DL
namespace DL
open PySem PySem.Spec L2 PyProof.Rows
variable [Wd]
abbrev Ke := List (List Int × Addr × V)
abbrev KeV := List (List Int × Addr × Value)
abbrev Sames : Ke → KeV → Prop := Paired fun x y => x.1 = y.1 ∧ x.2.1 = y.2.1 ∧ RelV x.2.2 y.2.2
abbrev kdT (P : Program) (w : World) : HeapKind P w (List Int) := tupleKind (intKind P w)
theorem Sames.keys : ∀ {kvs : Ke} {ys : KeV}, Sames kvs ys → kvs.map (·.1) = ys.map (·.1)
  | _, _, .nil => rfl
  | _, _, .cons r t => by rw [List.map_cons, List.map_cons, r.1, Sames.keys t]
theorem Sames.mem : ∀ {kvs : Ke} {ys : KeV}, Sames kvs ys → ∀ y ∈ ys, ∃ x ∈ kvs, x.1 = y.1 ∧ x.2.1 = y.2.1
  | _, _, .nil, y, h => by cases h
  | _, _, .cons (a := a) (b := b) q t, y, h => by
    rcases List.mem_cons.mp h with rfl | h
    · exact ⟨a, List.mem_cons_self, q.1, q.2.1⟩
    · obtain ⟨x, hx, e⟩ := Sames.mem t y h
      exact ⟨x, List.mem_cons_of_mem _ hx, e⟩
theorem Sames.get {kvs : Ke} {ys : KeV} (h : Sames kvs ys) {i : Nat} {k : List Int} {b : Addr} {v : V} (e : kvs[i]? = some (k, b, v)) : ∃ u, ys[i]? = some (k, b, u) ∧ RelV v u := by
  obtain ⟨⟨k', b', u⟩, e1, e2, e3, e4⟩ := paired_get h e
  cases e2
  cases e3
  exact ⟨u, e1, e4⟩
section
variable {X : Cx} {pins : List (Addr × Obj)} {σ : L2.St} {H : Hp} {s : Shared} {a : Addr} {o : Obj} {kvs : Ke}
abbrev KeyT (K : PySem.W.Frag) (H : Hp) (kvs : Ke) : Prop := ∀ x ∈ kvs, SqT K H x.2.1 (x.1.map V.int)
theorem DcObj.dict (I : Inv X pins σ H s) (d : DcObj a o kvs) (e : s.heap.get? a = some o) (hq : KeyT X.K H kvs) : ∃ ys, Sames kvs ys ∧ s.heap.DictOfH (kdT X.prog X.w) a ys ∧ ys.length ≤ sizeLine := by
  obtain ⟨es, ep, ys, hd, hs, he⟩ := d.dat
  have hs : Sames kvs ys := hs
  refine ⟨ys, hs, ⟨o, es, ep, e, d.ex, hd, he, fun y hy => ?_, by rw [← hs.keys]; exact d.nd⟩, by rw [← Paired.length hs]; exact d.len⟩
  obtain ⟨x, hx, e1, e2⟩ := hs.mem y hy
  rw [← e1, ← e2]
  exact I.isT (hq x hx)
theorem DcObj.of {P : Program} {w : World} {h : Heap} {ys : KeV} (hm : h.DictOfH (kdT P w) a ys) (hs : Sames kvs ys) (sm : (a == sysModules) = false) (hl : kvs.length ≤ sizeLine) : ∃ o, h.get? a = some o ∧ DcObj a o kvs := by
  obtain ⟨o, es, ep, e, ex, hd, he, _, nd⟩ := hm
  exact ⟨o, e, sm, hl, ex, by rw [hs.keys]; exact nd, es, ep, ys, hd, hs, he⟩
end
end DL
namespace DL
open PySem PySem.Spec L2 PyProof.Rows
variable [Wd]
section
variable {X : Cx} {pos : Pos} {kx vx a b e : Expr} {tk tv ta tb te : TE}
end
section
variable {P : Program} {w : World} {K : PySem.W.Frag} {d : Addr} {o : Obj} {kvs : Ke}
end
section
variable {X : Cx} {e : Expr} {te : TE} {apos cpos pos : Pos}
end
end DL
namespace DL
open PySem PySem.Spec L2 PyProof.Rows
variable [Wd]
section
variable {Y : Cx} {pins : List (Addr × Obj)} {σ : L2.St} {fp : List Addr} {tn : Nat → Heap → Prop} {W : Nat → Nat → Hp → Prop} {J : It} {Sp : (Hp → Prop) → V → Hp → Prop} {Fin : Hp → Prop} {tg : Expr} {it : Addr} {n : Nat} {s : Shared}
end
section
variable {X : Cx} {tg iter kx vx : Expr} {ifs : List Expr} {rest : List Comprehension} {scope : Scope} {own : List (Str × Nat)} {pos pos' : Pos} {wi : TI}
end
end DL
namespace DL
open PySem PySem.Spec L2 PyProof.Rows
variable [Wd]
section
variable {X : Cx} {tg iter kx vx tg1 iter1 : Expr} {ifs ifs1 : List Expr} {scope : Scope} {own : List (Str × Nat)} {vs1 : List Nat} {pos pos' spos : Pos} {wi wi1 : TI} {g g1 : TG} {tt tt1 : TT} {tk tv : TE}
abbrev InB (X : Cx) (scope : Scope) (p : Cx → Prop) : Prop := ∀ (s : Shared) (H : Hp) (C : Addr) (cl : List (Str × Addr)) (fp : List Addr), p (X.blk s H scope (compEnvC scope cl C X.env) fp)
section
variable {prog : Program} {w : World} {A : Around} {R : Result → Shared → Prop} {s : Shared} {t0 i0 t1 i1 : Expr} {ifs0 : List Expr} {it : Value} {D : Addr} {env : Env}
end
end
end DL
namespace DL
open PySem PySem.Spec L2 PyProof.Rows
variable [Wd]
section
variable {X : Cx} {tg iter kx vx tg1 iter1 : Expr} {ifs ifs1 : List Expr} {scope : Scope} {own : List (Str × Nat)} {vs1 : List Nat} {pos pos' spos : Pos} {wi wi1 : TI} {g g1 : TG} {tt tt1 : TT} {tk tv : TE}
section
variable (hc : X.calm = true) (hu : X.A.units < cLine) (hN : X.N.Nodup) (hi : PI X tg iter wi) (ok : BlkOk X.N X.env.scope scope own) (hg : InB X scope fun Y => PG Y tg g) (ht : InB X scope fun Y => PTs Y ifs tt)
include hc hu hN hi ok hg ht
variable {i : Nat} {y : Str} {py : Pos} (hy : X.N[i]? = some y) (hyl : X.env.scope.names.lookup y = some .local)
include hy hyl
end
end
end DL
namespace DL
open PySem PySem.Spec L2
variable [Wd]
section
variable {c : Cc} {L Z : Addr → Prop} {σ σ' : L2.St} {H H' : Hp} {env env' : En}
abbrev ZOk (L : Addr → Prop) (H : Hp) (Z : Addr → Prop) : Prop := ∀ b, Z b → L b ∨ ∃ φ, H b = some (.ext φ)
theorem RE.zn (re : RE c L σ H env) (hz : ZOk L H Z) {b : Addr} (h : Z b) : ¬ ownM σ env b := by
  intro ow
  rcases hz b h with l | ⟨φ, e⟩
  · exact (re.ext b l).1 ow
  · obtain ⟨i, io, ds, e1, e2⟩ := ow
    obtain ⟨a, xs, e3, e4, _⟩ := re.own i io ds e1
    rw [e2] at e3
    cases e3
    rw [e] at e4
    cases e4
theorem ZOk.step (hz : ZOk L H Z) (re : RE c L σ H env) (s : Stp σ env H σ env' H') : ZOk L H' Z := fun b zb => by
  rcases hz b zb with l | ⟨φ, e⟩
  · exact .inl l
  · refine .inr ⟨φ, ?_⟩
    rw [(s b (Nn.not e (re.zn hz zb))).1, e]
end
section
variable {X : Cx} {c : Cc} {W : WX} {e tg : Expr} {fa : FE} {fas : FA} {p pos : Pos}
end
end DL
namespace DL
open PySem PySem.Spec L2
variable [Wd]
section
variable {X : Cx} {c : Cc} {W : WX} {α : Type} {L : Addr → Prop} {AR : α → L2.St → En → Hp → Prop} {SB : Sp0} {ft : FT} {t : CT} {vs : List Nat} {body : α → En → R α} {k : Wk} {J : It} {σw : L2.St}
end
end DL
namespace DL
open PySem PySem.Spec L2
variable [Wd]
def dcOf (m : List (List Int × D)) : D := .dct (m.map fun p => .tup (p.1.map .int)) (m.map (·.2))
section
variable {c : Cc} {W : WX} {L : Addr → Prop} {σ : L2.St} {H : Hp} {env : En} {Dd : Addr}
variable {SB' : Sp0} {fe fk fv : FE}
end
end DL
namespace DL
open PySem PySem.Spec L2
variable [Wd]
section
variable {X : Cx} {c : Cc} {W : WX} {fi fi1 : FI} {vs vs1 : List Nat} {t t1 : CT} {ft ft1 : FT} {fe fk fv fa fb : FE}
end
end DL
namespace DL
open PySem PySem.Spec L2
variable [Wd]
section
variable {X : Cx} {c : Cc} {W : WX} {fi fi1 : FI} {vs vs1 : List Nat} {t t1 : CT} {ft ft1 : FT} {fe fk fv fa fb : FE} {pos spos apos cpos p : Pos} {elt kx vx iter iter1 tg tg1 a b e : Expr} {ifs ifs1 : List Expr} {scope : Scope} {own : List (Str × Nat)}
def eDisp1 (fk fv : FE) : FE := fun env => (fk env).bind fun tk e1 => (fv e1).bind fun tv e2 => match tk, tv with
  | .im (.tup ds), .im y => match intsOf ds with
    | some ns => .ok (.im (dcOf [(ns, y)])) e2
    | none => .er
  | _, _ => .er
def getK : List D → List D → List Int → Option D
  | .tup ds :: ks, v :: vs, ns => if intsOf ds = some ns then some v else getK ks vs ns
  | _, _, _ => none
def dDIx : D → D → Option T
  | .dct ks vs, .tup ds => match intsOf ds with
    | some ns => (getK ks vs ns).map T.im
    | none => none
  | _, _ => none
def eDIx (fa fb : FE) : FE := fun env => (fa env).bind fun ta e1 => (fb e1).bind fun tb e2 => match ta with
  | .im d => match tb.val e2 with
    | some k => R.opt (dDIx d k) e2
    | none => .er
  | _ => .er
def pairsD (ks vs : List D) : List D := ks.zipWith (fun k v => .tup [k, v]) vs
def iDi (t : T) (env : En) : R Wk := match t with
  | .im (.dct ks vs) => .ok ⟨pairsD ks vs, none⟩ env
  | _ => .er
def fiDi (fa : FE) : FI := fun env => (fa env).bind iDi
def eDMax (fe : FE) : FE := fun env => (fe env).bind fun t e1 => match t with
  | .im (.dct _ vs) => match intsOf vs with
    | some (n :: ns) => .ok (.im (.int (ns.foldl max n))) e1
    | _ => .er
  | _ => .er
end
end DL
namespace DL
open PySem PySem.Spec L2
@[simp] theorem eDisp1_s (fk fv : FE) (env : En) : eDisp1 fk fv env = ((fk env).bind fun tk e1 => (fv e1).bind fun tv e2 => match tk, tv with
  | .im (.tup ds), .im y => match intsOf ds with
    | some ns => .ok (.im (dcOf [(ns, y)])) e2
    | none => .er
  | _, _ => .er) := rfl
@[simp] theorem eDIx_s (fa fb : FE) (env : En) : eDIx fa fb env = ((fa env).bind fun ta e1 => (fb e1).bind fun tb e2 => match ta with
  | .im d => match tb.val e2 with
    | some k => R.opt (dDIx d k) e2
    | none => .er
  | _ => .er) := rfl
@[simp] theorem fiDi_s (fa : FE) (env : En) : fiDi fa env = ((fa env).bind iDi) := rfl
@[simp] theorem iDi_s (ks vs : List D) (env : En) : iDi (.im (.dct ks vs)) env = .ok ⟨pairsD ks vs, none⟩ env := rfl
@[simp] theorem eDMax_s (fe : FE) (env : En) : eDMax fe env = ((fe env).bind fun t e1 => match t with
  | .im (.dct _ vs) => match intsOf vs with
    | some (n :: ns) => .ok (.im (.int (ns.foldl max n))) e1
    | _ => .er
  | _ => .er) := rfl
end DL
namespace DL
open PySem PySem.Spec L2
variable [Wd]
section
variable {X : Cx} {c : Cc} {W : WX} {e tg elt a b : Expr} {te : TE} {fe : FE} {fas : FA} {ft : FT} {t : CT} {pos p pc px spos rpos : Pos} {ifs : List Expr} {scope : Scope} {own : List (Str × Nat)} {x : Str} {i : Nat}
end
end DL
namespace DL
open PySem PySem.Spec L2
variable [Wd]
section
variable {X : Cx} {c : Cc} {pos : Pos} {es : List Expr} {gs : FGs}
def gTA (n : Nat) (gs : FGs) : FG := fun t env => match t with
  | .im (.lst ds) => if ds.length = n then gs (ds.map fun d => ⟨false, d⟩) env else .er
  | t => gT n gs t env
@[simp] theorem gTA_lst (n : Nat) (gs : FGs) (ds : List D) (env : En) : gTA n gs (.im (.lst ds)) env = if ds.length = n then gs (ds.map fun d => ⟨false, d⟩) env else .er := rfl
@[simp] theorem gTA_tup (n : Nat) (gs : FGs) (ds : List D) (env : En) : gTA n gs (.im (.tup ds)) env = gT n gs (.im (.tup ds)) env := rfl
end
end DL
namespace DL
open PySem PySem.Spec L2
variable [Wd]
section
open PySem.W PyProof.Rows PySem.SeqAt
variable {prog : Program} {w : World} {A : Around} {E : Value → Shared → Prop} {s : Shared}
section
variable {M : Model}
end
end
def relabelS (scope sc : Scope) : Scope :=
  { scope with names := scope.names.map fun (n, k) => if (k == .free && sc.kind == .function && sc.names.lookup n == some .cell) then (n, .cell) else (n, k) }
theorem relabel_is (scope : Scope) (env : Env) : relabel scope env = relabelS scope env.scope := rfl
end DL
namespace DL
open PySem PySem.Spec L2
variable [Wd]
section
variable {X : Cx} {c : Cc} {W : WX} {pos p kp np : Pos} {e : Expr} {fa : FA}
end
end DL
namespace DL
open PySem PySem.Spec L2
variable [Wd]
section
open PySem.W PyProof.Rows
def ItA (c : Bool) (h : Heap) (it l : Addr) (k : Nat) : Prop := if c = true then h.IsListIter it l k else h.IsTupleIter it l k
def SqA (c : Bool) (h : Heap) (l : Addr) (xs : Array Value) : Prop := if c = true then h.IsList l xs else h.IsTuple l xs
theorem ItA.ext {c : Bool} {h g : Heap} {it l x : Addr} {k : Nat} (i : ItA c h it l k) (e : Heap.ExtBut x h g) (n : it ≠ x) : ItA c g it l k := by
  cases c
  · exact Heap.IsTupleIter.extBut (show h.IsTupleIter it l k from i) e n
  · exact Heap.IsListIter.extBut (show h.IsListIter it l k from i) e n
theorem ItA.at {c : Bool} {h g : Heap} {it l : Addr} {k : Nat} (i : ItA c h it l k) (e : ∀ o, h.get? it = some o → g.get? it = some o) : ItA c g it l k := by
  cases c
  · exact Heap.IsTupleIter.at (show h.IsTupleIter it l k from i) e
  · exact Heap.IsListIter.at (show h.IsListIter it l k from i) e
theorem SqA.ext {c : Bool} {h g : Heap} {l x : Addr} {xs : Array Value} (i : SqA c h l xs) (e : Heap.ExtBut x h g) (n : l ≠ x) : SqA c g l xs := by
  cases c
  · exact Heap.IsTuple.extBut (show h.IsTuple l xs from i) e n
  · exact Heap.IsList.extBut (show h.IsList l xs from i) e n
theorem ItA.obj {c : Bool} {h : Heap} {it l : Addr} {k : Nat} (i : ItA c h it l k) : ∃ o, h.get? it = some o ∧ ∀ v, o.data ≠ .cell v := by
  cases c
  · obtain ⟨o, e, _, d⟩ := (show h.IsTupleIter it l k from i)
    exact ⟨o, e, fun v z => by rw [d] at z; cases z⟩
  · obtain ⟨o, e, _, d⟩ := (show h.IsListIter it l k from i)
    exact ⟨o, e, fun v z => by rw [d] at z; cases z⟩
section
variable {prog : Program} {w : World} {A : Around} {E : Value → Shared → Prop} {s : Shared}
end
section
variable {X : Cx} {pins : List (Addr × Obj)} {s : Shared} {σ : L2.St} {H : Hp}
end
section
variable {prog : Program} {w : World} {A : Around} {E : Value → Shared → Prop} {s : Shared}
end
end
end DL
namespace DL
open PySem PySem.Spec L2
variable [Wd]
section
variable {c : Cc}
end
def iZm (fz : Bool) (ts : List T) (env : En) : R Wk := match ts with
  | [t, .im (.tup es)] => onI (fun xs => zipD xs es) (iL fz t.weak env)
  | _ => .er
def fiZm (fz : Bool) (fa : FA) : FI := fun env => (fa env).bind (iZm fz)
def iZn (fz : Bool) (ts : List T) (env : En) : R Wk := match ts with
  | [t, u] => (iL true u.weak env).bind fun k2 e2 => onI (fun xs => zipD xs k2.its) (iL fz t.weak e2)
  | _ => .er
def fiZn (fz : Bool) (fa : FA) : FI := fun env => (fa env).bind (iZn fz)
@[simp] theorem fiZm_s (fz : Bool) (fa : FA) (env : En) : fiZm fz fa env = ((fa env).bind (iZm fz)) := rfl
@[simp] theorem fiZn_s (fz : Bool) (fa : FA) (env : En) : fiZn fz fa env = ((fa env).bind (iZn fz)) := rfl
section
variable {X : Cx} {c : Cc} {W : WX} {pos p : Pos} {tg a b : Expr} {fas : FA}
end
end DL
namespace DL
open PySem PySem.Spec L2 PyProof.Rows
variable [Wd]
abbrev KnV := List (NestedKey × Addr × Value)
abbrev SamN : Kn → KnV → Prop := Paired fun x y => x.1 = y.1 ∧ x.2.1 = y.2.1 ∧ RelV x.2.2 y.2.2
theorem SamN.keys : ∀ {kvs : Kn} {ys : KnV}, SamN kvs ys → kvs.map (·.1) = ys.map (·.1)
  | _, _, .nil => rfl
  | _, _, .cons r t => by rw [List.map_cons, List.map_cons, r.1, SamN.keys t]
theorem SamN.mem : ∀ {kvs : Kn} {ys : KnV}, SamN kvs ys → ∀ y ∈ ys, ∃ x ∈ kvs, x.1 = y.1 ∧ x.2.1 = y.2.1
  | _, _, .nil, y, h => by cases h
  | _, _, .cons (a := a) (b := b) q t, y, h => by
    rcases List.mem_cons.mp h with rfl | h
    · exact ⟨a, List.mem_cons_self, q.1, q.2.1⟩
    · obtain ⟨x, hx, e⟩ := SamN.mem t y h
      exact ⟨x, List.mem_cons_of_mem _ hx, e⟩
section
variable {P : Program} {w : World} {H : Hp} {h : Heap} {a : Addr} {o : Obj} {kvs : Kn}
end
section
variable {X : Cx} {pins : List (Addr × Obj)} {σ : L2.St} {H : Hp} {s : Shared} {a : Addr} {o : Obj} {kvs : Kn}
mutual
theorem isN (I : Inv X pins σ H s) : ∀ {k : NestedKey} {v : V} {u : Value}, KeyV X.K H k v → RelV v u → NestedIs s.heap k u
  | _, _, u, .none, r => by
    obtain rfl : u = Value.none := r
    exact .none
  | _, _, u, .num i, r => by
    obtain ⟨t, rfl⟩ := r
    exact .int _ _
  | _, _, u, .text x, r => by
    obtain ⟨t, rfl⟩ := r
    exact .text _ _
  | _, _, u, .tup h rs, r => by
    obtain rfl : u = Value.ref _ := r
    obtain ⟨its, rv, ⟨o, ho, hc, n, hd⟩, _⟩ := I.tuple h
    exact .tup ho hc hd (by simpa using isNs I rs rv)
theorem isNs (I : Inv X pins σ H s) : ∀ {ks : List NestedKey} {vs : List V} {us : List Value}, KeysV X.K H ks vs → Vals vs us → NestedAll s.heap ks us
  | _, _, _, .nil, .nil => .nil
  | _, _, _, .cons r rs, .cons q qs => .cons (isN I r q) (isNs I rs qs)
end
theorem isK (I : Inv X pins σ H s) {k : NestedKey} {b : Addr} (h : KeyV X.K H k (.ref b)) (hd : k.depth ≤ 8) : (nestedKind X.prog X.w).is s.heap k b := ⟨isN I h rfl, hd⟩
theorem NdObj.dict (I : Inv X pins σ H s) (hw : X.w = Wd.w) (d : NdObj Wd.w a o kvs) (e : s.heap.get? a = some o) (hq : KeyN X.K H kvs) : ∃ ys, SamN kvs ys ∧ s.heap.DictOfH (nestedKind X.prog X.w) a ys ∧ ys.length ≤ sizeLine := by
  obtain ⟨es, ep, ys, hd, hs, he⟩ := d.dat
  have hs : SamN kvs ys := hs
  refine ⟨ys, hs, ⟨o, es, ep, e, d.ex, hd, ?_, fun y hy => ?_, by rw [← hs.keys]; exact d.nd⟩, by rw [← Paired.length hs]; exact d.len⟩
  · rw [he, hw]
    rfl
  · obtain ⟨x, hx, e1, e2⟩ := hs.mem y hy
    rw [← e1, ← e2]
    exact isK I (hq x hx).1 (hq x hx).2
theorem NdObj.of {P : Program} {w : World} {h : Heap} {ys : KnV} (hw : w = Wd.w) (hm : h.DictOfH (nestedKind P w) a ys) (hs : SamN kvs ys) (sm : (a == sysModules) = false) (hl : kvs.length ≤ sizeLine) : ∃ o, h.get? a = some o ∧ NdObj Wd.w a o kvs := by
  obtain ⟨o, es, ep, e, ex, hd, he, _, nd⟩ := hm
  subst hw
  exact ⟨o, e, sm, hl, ex, by rw [hs.keys]; exact nd, es, ep, ys, hd, hs, he⟩
end
section
variable {X : Cx} {tg iter kx vx : Expr} {ifs : List Expr} {scope : Scope} {own : List (Str × Nat)} {pos pos' spos : Pos} {wi : TI} {g : TG} {tt : TT} {tk tv : TE}
end
end DL
namespace DL
open PySem PySem.Spec L2
variable [Wd]
mutual
theorem keyD_inj : ∀ {a b : NestedKey}, keyD a = keyD b → a = b
  | .none, .none, _ => rfl
  | .num i, .num j, h => by rw [show i = j from by injection h]
  | .text x, .text y, h => by rw [show x = y from by injection h]
  | .tup ks, .tup ls, h => by rw [keysD_inj (show keysD ks = keysD ls from by injection h)]
  | .none, .num _, h => by cases h
  | .none, .text _, h => by cases h
  | .none, .tup _, h => by cases h
  | .num _, .none, h => by cases h
  | .num _, .text _, h => by cases h
  | .num _, .tup _, h => by cases h
  | .text _, .none, h => by cases h
  | .text _, .num _, h => by cases h
  | .text _, .tup _, h => by cases h
  | .tup _, .none, h => by cases h
  | .tup _, .num _, h => by cases h
  | .tup _, .text _, h => by cases h
theorem keysD_inj : ∀ {a b : List NestedKey}, keysD a = keysD b → a = b
  | [], [], _ => rfl
  | x :: xs, y :: ys, h => by
    have h : keyD x :: keysD xs = keyD y :: keysD ys := h
    injection h with h1 h2
    rw [keyD_inj h1, keysD_inj h2]
  | [], _ :: _, h => by cases h
  | _ :: _, [], h => by cases h
end
section
variable {K : PySem.W.Frag} {G : Addr → Prop} {H : Hp}
mutual
theorem Rep.key : ∀ {k : NestedKey} {v : V}, Rep K G H v (keyD k) → KeyV K H k v
  | .none, v, h => by
    have h : Rep K G H v .non := h
    cases h
    exact .none
  | .num i, v, h => by
    have h : Rep K G H v (.int i) := h
    cases h
    exact .num i
  | .text x, v, h => by
    have h : Rep K G H v (.str x) := h
    cases h
    exact .text x
  | .tup ks, v, h => by
    have h : Rep K G H v (.tup (keysD ks)) := h
    cases h with
    | tup ht rs => exact .tup ht (Reps.key rs)
theorem Reps.key : ∀ {ks : List NestedKey} {vs : List V}, Reps K G H vs (keysD ks) → KeysV K H ks vs
  | [], vs, h => by
    have h : Reps K G H vs [] := h
    cases h
    exact .nil
  | k :: ks, vs, h => by
    have h : Reps K G H vs (keyD k :: keysD ks) := h
    cases h with
    | cons r rs => exact .cons (Rep.key r) (Reps.key rs)
end
end
theorem KeyV.at {K : PySem.W.Frag} {H : Hp} {ks : List NestedKey} {v : V} (h : KeyV K H (.tup ks) v) : ∃ a xs, v = .ref a ∧ SqT K H a xs ∧ KeysV K H ks xs := by
  cases h with
  | tup ht rk => exact ⟨_, _, rfl, ht, rk⟩
def dnOf (m : List (D × D)) : D := .kd (m.map (·.1)) (m.map (·.2))
section
variable {c : Cc} {W : WX} {L : Addr → Prop} {σ : L2.St} {H : Hp} {env : En} {Dd : Addr} {kvs : Kn}
variable {SB' : Sp0} {fk fv : FE}
end
section
variable {X : Cx} {c : Cc} {W : WX} {fi : FI} {vs : List Nat} {t : CT} {ft : FT} {fk fv : FE} {tg iter kx vx : Expr} {ifs : List Expr} {scope : Scope} {own : List (Str × Nat)} {pos spos : Pos}
def eWk (fa : FE) : FE := fun env => (fa env).bind fun t e => .ok t.weak e
end
@[simp] theorem eWk_s (fa : FE) (env : En) : eWk fa env = (fa env).bind fun t e => .ok t.weak e := rfl
@[simp] theorem dnOf_s (m : List (D × D)) : dnOf m = .kd (m.map (·.1)) (m.map (·.2)) := rfl
end DL
namespace DL
open PySem PySem.Spec L2 PyProof.Rows
variable [Wd]
section
variable {X : Cx} {pos : Pos}
end
mutual
theorem KeyV.rep {K : PySem.W.Frag} {G : Addr → Prop} {H : Hp} : ∀ {k : NestedKey} {v : V}, KeyV K H k v → Rep K G H v (keyD k)
  | _, _, .none => .non
  | _, _, .num i => .int i
  | _, _, .text x => .str x
  | _, _, .tup h r => .tup h (KeysV.reps r)
theorem KeysV.reps {K : PySem.W.Frag} {G : Addr → Prop} {H : Hp} : ∀ {ks : List NestedKey} {vs : List V}, KeysV K H ks vs → Reps K G H vs (keysD ks)
  | _, _, .nil => .nil
  | _, _, .cons r rs => .cons (KeyV.rep r) (KeysV.reps rs)
end
section
variable {X : Cx}
end
abbrev Gh := List (D × D)
abbrev FGS := Addr → En → Gh → Fl × Gh
section
variable {X : Cx} {c : Cc} {W : WX} {σ0 : L2.St} {env0 : En} {H0 : Hp} {a : Addr} {f g : FGS} {fs : FS} {ft : FT} {st : Stmt} {rest ss ts : List Stmt} {pos : Pos}
theorem RE.hdl {L : Addr → Prop} {σ : L2.St} {H : Hp} {env : En} {i : Nat} (r : RE c L σ H env) (e : env[i]? = some (.hd a)) : σ[i]? = some (some (V.ref a)) := by
  exact r.hd i a e
theorem RepT.sub {L N : Addr → Prop} {σ : L2.St} {H : Hp} {env env' : En} {v : V} {t : T} (na : ∀ j, t ≠ .al j) (l : env'.length = env.length) (k : ∀ (j : Nat) (s : Sl), env'[j]? = some s → s = .no ∨ env[j]? = some s) (h : RepT c L N σ H env v t) : RepT c L N σ H env' v t := by
  have ow : ∀ a, ownM σ env' a → ownM σ env a := fun a ⟨i, io, ds, e1, e2⟩ => by
    rcases k i _ e1 with z | q1
    · cases z
    · exact ⟨i, io, ds, q1, e2⟩
  have re : ∀ {L : Addr → Prop}, RE c L σ H env → RE c L σ H env' := fun r => (r.sub (l.trans r.len) fun j s e => (k j s e).imp id fun q => ⟨q, rfl⟩).1
  cases t with
  | im d => exact Rep.mono (.refl H) (fun a xs g e => ⟨⟨g.1, fun z => g.2 (ow a z)⟩, e⟩) h
  | al i => exact (na i rfl).elim
  | fr ds =>
    obtain ⟨a, xs, e, e1, r, n1, n2, n3, q⟩ := h
    exact ⟨a, xs, e, e1, r.mono (.refl H) (fun b ys g e => ⟨⟨g.1, fun z => g.2 (ow b z)⟩, e⟩), n1, n2, n3, re q⟩
  | ft cs =>
    obtain ⟨t, vs, As, e, e1, r, n1, q⟩ := h
    exact ⟨t, vs, As, e, e1, r.mono (.refl H) (fun b ys g e => ⟨⟨g.1, fun z => g.2 (ow b z)⟩, e⟩) (fun _ _ _ e => e), n1, re q⟩
end
end DL
namespace DL
open PySem PySem.Spec L2 PyProof.Rows
variable [Wd]
section
variable {P : Program} {w : World}
def NoCls (P : Program) (w : World) (n : Nat) (s : Shared) (v : Value) : Prop := ∀ (A : Around) (E : Value → Shared → Prop) (Q : Bool → Shared → Prop), Q false s → wpAny (model P w) A (ofAClassStatement n v) Q E s
def HashSome (P : Program) (w : World) (n : Nat) (s : Shared) (v : Value) : Prop := ∀ (A : Around) (E : Value → Shared → Prop) (Q : Bool → Shared → Prop), (∀ b, Q b s) → wpAny (model P w) A (hashByValue n v) Q E s
theorem noCls_pure {n : Nat} {s : Shared} {v : Value} (e : ofAClassStatement n v = pure false) : NoCls P w n s v := fun A E Q h => by
  rw [e]; exact wpAny_pure h
theorem hashSome_pure {n : Nat} {s : Shared} {v : Value} (b : Bool) (e : hashByValue n v = pure b) : HashSome P w n s v := fun A E Q h => by
  rw [e]; exact wpAny_pure (h b)
theorem noCls_tup {n m : Nat} {s : Shared} {a : Addr} {o : Obj} {xs : Array Value} (ho : s.heap.get? a = some o) (hc : o.cls = .type "tuple") (hd : o.data = .seq xs m) (hq : ∀ v ∈ xs.toList, NoCls P w n s v) : NoCls P w (n + 1) s (.ref a) := fun A E Q h => by
  have ty : s.TypeIs (.ref a) "tuple" := ⟨o, ho, hc⟩
  have tt : (("tuple" : String) == "tuple") = true := by decide
  unfold ofAClassStatement
  refine wpAny_bind (wpAny_typeOf ty ?_); dsimp only
  simp only [tt, if_true, Bool.not_true, Bool.false_eq_true, if_false]; try refine wpAny_bind (wpAny_pure ?_)
  try simp only [Bool.not_true, Bool.false_eq_true, if_false]
  show wpAny _ _ (seqItems? (.ref a) >>= _) _ _ s
  refine wpAny_bind (wpAny_seqItems ho hd ?_); dsimp only
  refine wpAny_bind ?_
  show wpAny _ _ (forIn xs _ _) _ _ s
  rw [← Array.forIn_toList]
  refine wpAny_forIn_list _ (fun left r z => (r.1 = none ∧ z = s) ∧ ∀ v ∈ left, NoCls P w n s v) _ (fun v left r z ⟨⟨h1, h2⟩, h3⟩ => ?_) (fun r z ⟨⟨h1, h2⟩, _⟩ => ?_) _ _ ⟨⟨rfl, rfl⟩, hq⟩
  · subst h2
    refine wpAny_bind (h3 v List.mem_cons_self _ _ _ ?_)
    simp only [Bool.false_eq_true, if_false]; exact wpAny_pure ⟨⟨rfl, rfl⟩, fun u z => h3 u (List.mem_cons_of_mem _ z)⟩
  · obtain ⟨r1, r2⟩ := r
    dsimp only at h1; subst h1; subst h2
    exact wpAny_pure h
theorem hashSome_tup {n m : Nat} {s : Shared} {a : Addr} {o : Obj} {xs : Array Value} (ho : s.heap.get? a = some o) (hc : o.cls = .type "tuple") (hd : o.data = .seq xs m) (hq : ∀ v ∈ xs.toList, HashSome P w n s v) : HashSome P w (n + 1) s (.ref a) := fun A E Q h => by
  have ty : s.TypeIs (.ref a) "tuple" := ⟨o, ho, hc⟩
  unfold hashByValue
  refine wpAny_bind (wpAny_specialOf ty F.slot_tuple_hash.lookup ?_); show wpAny _ _ (seqItems? (.ref a) >>= _) _ _ s
  refine wpAny_bind (wpAny_seqItems ho hd ?_); refine wpAny_bind ?_
  show wpAny _ _ (forIn xs _ _) _ _ s
  rw [← Array.forIn_toList]
  refine wpAny_forIn_list _ (fun left r z => (r.1 = none ∧ z = s) ∧ ∀ v ∈ left, HashSome P w n s v) (fun r z => (r.1 = none ∨ ∃ b, r.1 = some b) ∧ z = s) (fun v left r z ⟨⟨h1, h2⟩, h3⟩ => ?_) (fun r z ⟨⟨h1, h2⟩, _⟩ => ⟨.inl h1, h2⟩) _ _ ⟨⟨rfl, rfl⟩, hq⟩ |> fun q => wpAny_mono q (fun r z ⟨h1, h2⟩ => ?_) (fun _ _ e => e)
  · subst h2
    refine wpAny_bind (h3 v List.mem_cons_self _ _ _ fun b => ?_)
    cases b with
    | true => simp only [Bool.not_true, Bool.false_eq_true, if_false]; exact wpAny_pure ⟨⟨rfl, rfl⟩, fun u z => h3 u (List.mem_cons_of_mem _ z)⟩
    | false => simp only [Bool.not_false, if_true]; exact wpAny_pure ⟨.inr ⟨_, rfl⟩, rfl⟩
  · obtain ⟨r1, r2⟩ := r
    dsimp only at h1; subst h2
    rcases h1 with h1 | ⟨b, h1⟩
    · subst h1; exact wpAny_pure (h _)
    · subst h1; exact wpAny_pure (h _)
mutual
theorem noCls_key : ∀ (k : NestedKey) (v : Value) (n : Nat) (s : Shared), NestedIs s.heap k v → k.depth ≤ n → NoCls P w n s v ∧ HashSome P w n s v
  | .none, _, n, s, x, _ => by cases x; exact ⟨noCls_pure (by cases n <;> rfl), hashSome_pure true (by cases n <;> rfl)⟩
  | .num i, _, n, s, x, _ => by cases x <;> exact ⟨noCls_pure (by cases n <;> rfl), hashSome_pure true (by cases n <;> rfl)⟩
  | .text y, _, n, s, x, _ => by cases x; exact ⟨noCls_pure (by cases n <;> rfl), hashSome_pure false (by cases n <;> rfl)⟩
  | .tup ks, _, n, s, x, hn => by
    cases x with
    | tup hg hc hd hk =>
      simp only [NestedKey.depth] at hn
      cases n with
      | zero => omega
      | succ n => exact ⟨noCls_tup hg hc hd fun v hv => (noCls_keys ks _ n s hk (by omega) v hv).1, hashSome_tup hg hc hd fun v hv => (noCls_keys ks _ n s hk (by omega) v hv).2⟩
theorem noCls_keys : ∀ (ks : List NestedKey) (vs : List Value) (n : Nat) (s : Shared), NestedAll s.heap ks vs → NestedKey.depthAll ks ≤ n → ∀ v ∈ vs, NoCls P w n s v ∧ HashSome P w n s v
  | [], _, n, s, x, _, v, hv => by cases x; cases hv
  | k :: ks, _, n, s, x, hn, v, hv => by
    cases x with
    | cons x1 x2 =>
      simp only [NestedKey.depthAll] at hn
      rcases List.mem_cons.mp hv with e | hv
      · rw [e]; exact noCls_key k _ n s x1 (by omega)
      · exact noCls_keys ks _ n s x2 (by omega) v hv
end
abbrev IsN (P : Program) (w : World) (h : Heap) (k : NestedKey) (a : Addr) : Prop := (nestedKind P w).is h k a
theorem isN_keep {h h' : Heap} {k : NestedKey} {b : Addr} (x : IsN P w h k b) (hk : ∀ c o, h.get? c = some o → h'.get? c = some o) : IsN P w h' k b := nestedKind_stays.stays (fun c o _ _ e _ => hk c o e) x
theorem isN_but {h h' : Heap} {k : NestedKey} {a b : Addr} {o : Obj} {es : Array (Int × Value)} {ep : Nat} {t : SetTable} (x : IsN P w h k b) (ho : h.get? a = some o) (hd : o.data = .set es ep t) (sb : Heap.SameBut a h h') : IsN P w h' k b :=
  nestedKind_stays.stays (fun c u _ _ e ed => by
    by_cases z : c = a
    · rw [z, ho] at e; cases e; rw [hd] at ed; cases ed
    · exact (sb.2 c z).trans e) x
variable {A : Around} {E : Value → Shared → Prop} {s : Shared}
theorem seenN {k : NestedKey} {b : Addr} {Q : Bool → Shared → Prop} (hk : IsN P w s.heap k b) {ys : List Value} (hy : ∀ y ∈ ys, ∃ k' c, y = Value.ref c ∧ IsN P w s.heap k' c) (h : Q false s) : wpAny (model P w) A (searchCouldBeSeen (.ref b) ys) Q E s := by
  unfold searchCouldBeSeen
  refine wpAny_bind ?_
  refine wpAny_forIn_list _ (fun left r z => (r.1 = none ∧ z = s) ∧ ∀ y ∈ left, ∃ k' c, y = Value.ref c ∧ IsN P w s.heap k' c) _ (fun v left r z ⟨⟨h1, h2⟩, h3⟩ => ?_) (fun r z ⟨⟨h1, h2⟩, _⟩ => ?_) _ _ ⟨⟨rfl, rfl⟩, hy⟩
  · subst h2
    obtain ⟨k', c, rfl, hc⟩ := h3 v List.mem_cons_self
    have tl : ∀ y ∈ left, ∃ k' c, y = Value.ref c ∧ IsN P w z.heap k' c := fun y q => h3 y (List.mem_cons_of_mem _ q)
    dsimp only
    by_cases very : (b == c || (carriedByValue (.ref b) && carriedByValue (.ref c))) = true
    · exact wp_if_pos very (wpAny_pure ⟨⟨rfl, rfl⟩, tl⟩)
    · refine wp_if_neg very (wpAny_bind ((nestedKind P w).quiet hk ?_)); simp only [Bool.not_true, Bool.false_eq_true, if_false]
      refine wpAny_bind ((nestedKind P w).quiet hc ?_); simp only [Bool.not_true, Bool.false_eq_true, if_false]
      refine wpAny_bind ((noCls_key k _ 8 z hk.1 hk.2).1 _ _ _ ?_); simp only [Bool.false_eq_true, if_false]
      refine wpAny_bind ((noCls_key k' _ 8 z hc.1 hc.2).1 _ _ _ ?_); simp only [Bool.false_eq_true, if_false]
      exact wpAny_pure ⟨⟨rfl, rfl⟩, tl⟩
  · obtain ⟨r1, r2⟩ := r
    dsimp only at h1; subst h1; subst h2
    exact wpAny_pure h
abbrev Els := List (Addr × NestedKey)
def rowsN (w : World) (L : Els) : List (Int × Value) := L.map fun p => (p.2.hash w, Value.ref p.1)
theorem rowsN_size {L : Els} {es : Array (Int × Value)} (h : es.toList = rowsN w L) : es.size = L.length := by
  have q := congrArg List.length h
  simpa [rowsN] using q
theorem rowsN_at {L : Els} {es : Array (Int × Value)} (h : es.toList = rowsN w L) {i : Nat} {p : Addr × NestedKey} (hp : L[i]? = some p) : es[i]? = some (p.2.hash w, Value.ref p.1) := by
  rw [← Array.getElem?_toList, h, rowsN, List.getElem?_map, hp]; rfl
structure SetN (P : Program) (w : World) (h : Heap) (a : Addr) (L : Els) (es : Array (Int × Value)) (ep : Nat) (t : SetTable) : Prop where
  ob : ∃ o, h.get? a = some o ∧ o.ExactSet ∧ o.data = .set es ep t
  rows : es.toList = rowsN w L
  tab : TabOk t (L.map fun p => p.2.hash w)
  nd : (L.map (·.2)).Nodup
  key : ∀ p ∈ L, IsN P w h p.2 p.1
  led : w.params.followText "set-order" = true ∨ t.led = true
  room : L.length * 5 < t.mask * 3
  few : L.length < 64
variable {a : Addr} {L : Els} {es : Array (Int × Value)} {ep : Nat} {t : SetTable}
theorem SetN.psz (R : SetN P w s.heap a L es ep t) : t.place.size = L.length := by have h := R.tab.sz; rwa [List.length_map] at h
theorem fitsN (n : Nat) (hp : t.place.size = n) (hd : t.dummies = #[]) (hm : n ≤ t.mask) : t.fits n = true := by
  unfold SetTable.fits SetTable.fill
  rw [hd, hp, Bool.and_eq_true, beq_iff_eq, decide_eq_true_eq]
  exact ⟨rfl, by simpa using hm⟩
theorem SetN.fits (R : SetN P w s.heap a L es ep t) : t.fits es.size = true := by
  have h1 := R.psz
  have h2 := rowsN_size R.rows
  have h3 := R.room
  exact fitsN _ (by omega) R.tab.dm (by omega)
theorem gwN {hs : List Int} (T : TabOk t hs) : ¬ t.gaveWay = true := by
  unfold SetTable.gaveWay; rw [mask_odd T.mok]; decide
abbrev stepN (t : SetTable) (h : Int) (c : Nat) : SetTable.Probe := nth t.mask (runAt t.mask (SetTable.bits h % (t.mask + 1)) (SetTable.bits h)) c
theorem stepN_dm (t : SetTable) (h : Int) (c : Nat) : (stepN t h c).dummy = none := by
  have key : ∀ (n : Nat) (p : SetTable.Probe), p.dummy = none → (nth t.mask p n).dummy = none := fun n => by
    induction n with
    | zero => exact fun p z => z
    | succ n ih => exact fun p z => ih (adv t.mask p) (by unfold adv; split <;> exact z)
  exact key c _ rfl
theorem searchN (R : SetN P w s.heap a L es ep t) {x : Addr} {k : NestedKey} (hx : IsN P w s.heap k x) (hu : A.units + 8 < cLine) {K : Nat} (hKf : K < 10 * SetTable.turns t.mask) (hK : (stepN t (k.hash w) K).j ∉ t.place.toList) (hKb : ∀ c, c < K → (stepN t (k.hash w) c).j ∈ t.place.toList) {Q : SetFound → Shared → Prop}
    (yes : k ∈ L.map (·.2) → Q (.there none) s) (no : k ∉ L.map (·.2) → Q (.free (stepN t (k.hash w) K).j false) s) :
    ∀ (f c : Nat) (stand : Option SetTable.Probe), stand.getD (t.probeStart (k.hash w)) = stepN t (k.hash w) c → c ≤ K → K - c < f →
      (∀ (i : Nat) p, L[i]? = some p → p.2 = k → ∃ c', c ≤ c' ∧ c' < K ∧ t.place.toList[i]? = some (stepN t (k.hash w) c').j) → wpAny (model P w) A (setSearchFrom a (.ref x) (k.hash w) true f stand) Q E s
  | 0, _, _, _, _, hf, _ => absurd hf (Nat.not_lt_zero _)
  | f + 1, c, stand, hst, hc, hf, hre => by
    obtain ⟨o, ho, hex, hd⟩ := R.ob
    rw [setSearchFrom_succ]
    refine wpAny_bind (wpAny_setState_of ho hd R.fits ?_); dsimp only
    refine wp_if_neg (gwN R.tab) ?_; try refine wpAny_bind (wpAny_pure ?_)
    have sh : ∀ q, nth t.mask (stepN t (k.hash w) c) q = stepN t (k.hash w) (c + q) := fun q => (nth_add t.mask c _ q).symm
    have spec := go_spec t R.tab.ris R.tab.dm (fun i => (es[i]?.map (·.1)).getD 0) (k.hash w) (10 * SetTable.turns t.mask) (K - c) (stepN t (k.hash w) c) (stepN_dm t _ c) (by omega) (fun q hq => by rw [sh]; exact hKb (c + q) (by omega)) (by rw [sh, Nat.add_sub_cancel' hc]; exact hK)
    have hashAt : ∀ (i : Nat) p, L[i]? = some p → (fun i => (es[i]?.map (·.1)).getD 0) i = p.2.hash w := fun i p hp => by
      show (es[i]?.map (·.1)).getD 0 = _
      rw [rowsN_at R.rows hp]; rfl
    rcases spec with ⟨q, i, hq, hi, hh, hno, hpr⟩ | ⟨hno, hpr⟩
    · have hpr' : t.probe (fun i => (es[i]?.map (·.1)).getD 0) (k.hash w) (stand.getD (t.probeStart (k.hash w))) = some (.candidate (stepN t (k.hash w) (c + q)).j i (stepN t (k.hash w) (c + (q + 1)))) := by rw [hst, ← sh, ← sh]; exact hpr
      rw [hpr']; dsimp only
      rw [sh] at hi
      have hil : i < L.length := by
        have h1 : i < t.place.toList.length := (List.getElem?_eq_some_iff.mp hi).1
        have h2 := R.psz
        rw [Array.length_toList] at h1; omega
      obtain ⟨p, hp⟩ : ∃ p, L[i]? = some p := ⟨_, List.getElem?_eq_getElem hil⟩
      have hmem : p ∈ L := List.mem_of_getElem? hp
      have hsl : t.slot (stepN t (k.hash w) (c + q)).j = .live i := slot_live R.tab.ris hi
      have rest : wpAny (model P w) A (searchRest a (.ref x) (k.hash w) true f es t (stepN t (k.hash w) (c + q)).j i (stepN t (k.hash w) (c + (q + 1)))) Q E s := by
        unfold searchRest
        rw [rowsN_at R.rows hp]; dsimp only
        refine wpAny_bind (wpAny_holding ((nestedKind P w).eqBool hu (R.key p hmem) hx ?_))
        refine wpAny_bind (wpAny_setState_of ho hd R.fits ?_); dsimp only
        by_cases hkk : p.2 = k
        · exact wp_if_pos (by simp [hkk]) (wpAny_pure (yes (List.mem_map.mpr ⟨p, hmem, hkk⟩)))
        · refine wp_if_neg (by simp [hkk]) ?_; try refine wpAny_bind (wpAny_pure ?_)
          rw [sameMem]; dsimp only
          simp only [if_true, hsl, rowsN_at R.rows hp]
          refine wpAny_bind (wpAny_isSame_ref_self (wpAny_bind (wpAny_pure ?_))); simp only [if_true]
          refine wp_if_neg (by simp [hkk]) (searchN R hx hu hKf hK hKb yes no f (c + (q + 1)) _ rfl (by omega) (by omega) fun i0 p0 h0 hk0 => ?_)
          obtain ⟨c', a1, a2, a3⟩ := hre i0 p0 h0 hk0
          refine ⟨c', Nat.lt_of_not_le fun (z : c' ≤ c + q) => ?_, a2, a3⟩
          by_cases y : c' = c + q
          · have s0 := slot_live R.tab.ris (y ▸ a3)
            rw [hsl] at s0
            injection s0 with s0
            rw [← s0, hp] at h0
            exact hkk ((congrArg Prod.snd (Option.some.inj h0)).trans hk0)
          · exact hno (c' - c) i0 (by omega) (by rw [sh, Nat.add_sub_cancel' a1]; exact a3) ((hashAt i0 p0 h0).trans (congrArg (·.hash w) hk0))
      by_cases hl : t.led = true
      · refine wp_if_neg (by simp [hl]) ?_; try refine wpAny_bind (wpAny_pure ?_)
        exact rest
      · refine wp_if_pos (by simp [hl]) (wpAny_bind (seenN hx (fun y hy => ?_) ?_))
        · obtain ⟨e, he, ee⟩ := List.mem_map.mp hy
          have he2 : e ∈ es.toList := by have : e ∈ es ∧ e.1 = k.hash w := by simpa using he
                                         simpa using this.1
          rw [R.rows] at he2
          obtain ⟨p2, hp2, e2⟩ := List.mem_map.mp he2
          exact ⟨p2.2, p2.1, by rw [← ee, ← e2], R.key p2 hp2⟩
        · refine wp_if_neg (by decide) ?_; try refine wpAny_bind (wpAny_pure ?_)
          exact rest
    · have hpr' : t.probe (fun i => (es[i]?.map (·.1)).getD 0) (k.hash w) (stand.getD (t.probeStart (k.hash w))) = some (.empty (stepN t (k.hash w) K).j none) := by rw [hst, ← Nat.add_sub_cancel' hc, ← sh]; exact hpr
      rw [hpr']; dsimp only
      refine wpAny_pure (no fun hm => ?_)
      obtain ⟨p0, h0, hk0⟩ := List.mem_map.mp hm
      obtain ⟨i0, h00⟩ := List.getElem?_of_mem h0
      obtain ⟨c', a1, a2, a3⟩ := hre i0 p0 h00 hk0
      exact hno (c' - c) i0 (by omega) (by rw [sh, Nat.add_sub_cancel' a1]; exact a3) ((hashAt i0 p0 h00).trans (congrArg (·.hash w) hk0))
theorem searchN_at (R : SetN P w s.heap a L es ep t) {x : Addr} {k : NestedKey} (hx : IsN P w s.heap k x) (hu : A.units + 8 < cLine) {Q : SetFound → Shared → Prop} (yes : k ∈ L.map (·.2) → Q (.there none) s)
    (no : ∀ K, k ∉ L.map (·.2) → way t.mask (k.hash w) K ∉ t.place.toList → (∀ c, c < K → way t.mask (k.hash w) c ∈ t.place.toList) → Q (.free (way t.mask (k.hash w) K) false) s) : wpAny (model P w) A (setSearch a (.ref x) (k.hash w) true) Q E s := by
  have room := R.room
  obtain ⟨K, hKf, hK, hKb⟩ := R.tab.first (by rw [List.length_map]; omega) (k.hash w)
  have big : 10 * SetTable.turns t.mask ≤ 1420 := by
    unfold SetTable.turns
    rcases R.tab.mok with e | e | e <;> omega
  unfold setSearch
  refine searchN R hx hu hKf hK hKb yes (fun hn => no K hn hK hKb) 100000 0 none rfl (Nat.zero_le _) (by omega) fun i p hp hk => ?_
  have hi : (L.map fun p => p.2.hash w)[i]? = some (k.hash w) := by rw [List.getElem?_map, hp, ← hk]; rfl
  have hil : i < t.place.toList.length := by
    have h1 : i < L.length := (List.getElem?_eq_some_iff.mp hp).1
    have h2 := R.psz
    rw [Array.length_toList]; omega
  have hj := List.getElem?_eq_getElem hil
  obtain ⟨c, hc, e⟩ := R.tab.before hK hi hj
  exact ⟨c, Nat.zero_le _, hc, by rw [hj, ← e]⟩
theorem fm_map {α β : Type} {f : α → Option β} {g : α → β} : ∀ {l : List α}, (∀ i ∈ l, f i = some (g i)) → l.filterMap f = l.map g
  | [], _ => rfl
  | i :: l, h => by rw [List.filterMap_cons_some (h i List.mem_cons_self), fm_map fun j hj => h j (List.mem_cons_of_mem _ hj), List.map_cons]
theorem orderN {L : Els} {es : Array (Int × Value)} {order : Array Nat} (hr : es.toList = rowsN w L) (hp : order.toList.Perm (List.range L.length)) :
    ∃ L2 : Els, (order.filterMap (es[·]?)).toList = rowsN w L2 ∧ L2.Perm L ∧ (L2.map fun p => p.2.hash w) = order.toList.map fun i => (es.map (·.1)).getD i 0 := by
  have lt : ∀ i ∈ order.toList, i < L.length := fun i hi => List.mem_range.mp (hp.mem_iff.mp hi)
  let g : Nat → Addr × NestedKey := fun i => (L[i]?).getD (0, .none)
  have gi : ∀ i, i < L.length → L[i]? = some (g i) := fun i hi => by
    show _ = some ((L[i]?).getD _)
    rw [List.getElem?_eq_getElem hi]; rfl
  have ei : ∀ i ∈ order.toList, es[i]? = some (((g i).2.hash w, Value.ref (g i).1)) := fun i hi => rowsN_at hr (gi i (lt i hi))
  refine ⟨order.toList.map g, ?_, ?_, ?_⟩
  · rw [Array.toList_filterMap, fm_map ei, rowsN, List.map_map]; rfl
  · have q := hp.map g
    have e : (List.range L.length).map g = L := by
      apply List.ext_getElem?
      intro j
      rw [List.getElem?_map]
      by_cases hj : j < L.length
      · rw [List.getElem?_range hj, gi j hj]; rfl
      · rw [List.getElem?_eq_none (by simpa using hj), List.getElem?_eq_none (by simpa using hj)]; rfl
    rwa [e] at q
  · rw [List.map_map]
    refine List.map_congr_left fun i hi => ?_
    have e5 : (es.map (·.1))[i]? = some ((g i).2.hash w) := by rw [Array.getElem?_map, ei i hi]; rfl
    show (g i).2.hash w = _
    simp [Array.getD_eq_getD_getElem?, e5]
theorem relayN {o : Obj} (ho : s.heap.get? a = some o) (hex : o.ExactSet) (hd : o.data = .set es ep t) (hrows : es.toList = rowsN w L) (hsz : t.place.size = es.size) (hdm : t.dummies = #[]) (hfl : es.size ≤ t.mask) (nd : (L.map (·.2)).Nodup) (key : ∀ p ∈ L, IsN P w s.heap p.2 p.1) (ld : w.params.followText "set-order" = true ∨ t.led = true) (few : L.length < 64)
    {n M : Nat} (hw : SetTable.sizeAbove n - 1 = M) (hM : MaskOk M) (hw2 : SetTable.sizeAbove n ≤ 128) (hn : L.length * 5 < M * 3) {Q : Unit → Shared → Prop} (hQ : ∀ h' L' es' ep' t', Heap.SameBut a s.heap h' → SetN P w h' a L' es' ep' t' → L'.Perm L → Q () { s with heap := h' }) : wpAny (model P w) A (setRelay a n) Q E s := by
  have hsl := rowsN_size hrows
  obtain ⟨t', order, e, hp, T, em, el, _, _⟩ := relaid_ok t (hs := es.map (·.1)) (wanted := n) hw hM (by rw [Array.size_map, hsl]; omega)
  rw [Array.size_map, hsl] at hp
  obtain ⟨L2, r1, r2, r3⟩ := orderN hrows hp
  rw [← r3] at T
  have hs2 : (order.filterMap (es[·]?)).size = es.size := by rw [rowsN_size r1, r2.length_eq, hsl]
  rw [setRelay_eq]
  refine wpAny_bind (wpAny_setState_of ho hd (fitsN _ hsz hdm hfl) ?_); dsimp only
  refine wp_if_neg (by rw [sizeLine_eq]; omega) ?_; try refine wpAny_bind (wpAny_pure ?_)
  rw [e]; dsimp only
  refine wpAny_bind (wp_if_neg (by rw [hs2]; simp) ?_); try refine wpAny_bind (wpAny_pure ?_)
  refine wpAny_pure ?_; dsimp only
  refine wpAny_storeSet_of ho hd ?_ (by rw [hs2, hsl, sizeLine_eq]; omega)
  have sb : Heap.SameBut a s.heap (s.heap.update a (Obj.putSet (order.filterMap (es[·]?)) t')) := Heap.SameBut.update ..
  exact hQ _ L2 (order.filterMap (es[·]?)) (ep + 1) t' sb ⟨⟨_, store_at ho hd, ⟨hex.1, hex.2.1, hex.2.2⟩, rfl⟩, r1, T, (r2.map (·.2)).nodup_iff.mpr nd, fun p hpm => isN_but (key p (r2.mem_iff.mp hpm)) ho hd sb, by rw [el]; exact ld, by rw [r2.length_eq, em]; exact hn, by rw [r2.length_eq]; exact few⟩ r2
theorem putN_at (R : SetN P w s.heap a L es ep t) {x : Addr} {k : NestedKey} (hx : IsN P w s.heap k x) (hu : A.units + 8 < cLine) (hfew : L.length + 1 < 64) {Q : Bool → Shared → Prop}
    (hQ : ∀ b h' L' es' ep' t', Heap.SameBut a s.heap h' → SetN P w h' a L' es' ep' t' → (k ∈ L.map (·.2) → L' = L) → (k ∉ L.map (·.2) → L'.Perm ((x, k) :: L)) → Q b { s with heap := h' }) : wpAny (model P w) A (setAddHashed a (.ref x) (k.hash w)) Q E s := by
  obtain ⟨o, ho, hex, hd⟩ := R.ob
  have hsl := rowsN_size R.rows
  have room := R.room
  unfold setAddHashed
  refine wpAny_holding ?_
  rw [show (100000 : Nat) = 99999 + 1 from rfl, setAddHashedIn_succ]
  refine wpAny_bind (wpAny_setState_of ho hd R.fits ?_); dsimp only
  refine wp_if_neg (by simp [byScan, Value.scannable]) ?_; try refine wpAny_bind (wpAny_pure ?_)
  refine wpAny_bind (searchN_at R hx hu (fun hm => ?_) fun K hm hK hb => ?_)
  · dsimp only; exact wpAny_pure (hQ false s.heap L es ep t (Heap.SameBut.refl a s.heap) R (fun _ => rfl) fun z => absurd hm z)
  · dsimp only
    refine wpAny_bind (wpAny_setState_of ho hd R.fits ?_); dsimp only
    obtain ⟨q1, q2, q3, q4, q5, _, _, _, q9⟩ := R.tab.put hK hb
    generalize t.put (way t.mask (k.hash w) K) = pt at q1 q3 q4 q5 q9 ⊢
    obtain ⟨t1, p⟩ := pt
    dsimp only at q1 q3 q4 q5 q9 ⊢
    subst q1
    have hin : (SetTable.insertAt es (SetTable.below t.place (way t.mask (k.hash w) K)) (k.hash w, Value.ref x)).toList = rowsN w (L.take (SetTable.below t.place (way t.mask (k.hash w) K)) ++ (x, k) :: L.drop (SetTable.below t.place (way t.mask (k.hash w) K))) := by
      rw [SetTable.toList_insertAt, R.rows]; simp [rowsN]
    generalize SetTable.below t.place (way t.mask (k.hash w) K) = p at q2 q3 hin ⊢
    have pm := put_perm L p (x, k)
    have hhs : (L.take p ++ (x, k) :: L.drop p).map (fun p => p.2.hash w) = (L.map fun p => p.2.hash w).take p ++ k.hash w :: (L.map fun p => p.2.hash w).drop p := by simp
    rw [← hhs] at q3
    have nd1 : ((L.take p ++ (x, k) :: L.drop p).map (·.2)).Nodup := (pm.map (·.2)).nodup_iff.mpr (by rw [List.map_cons]; exact List.nodup_cons.mpr ⟨hm, R.nd⟩)
    have hes := rowsN_size hin
    have hlen : (L.take p ++ (x, k) :: L.drop p).length = L.length + 1 := pm.length_eq
    rw [hlen] at hes
    generalize SetTable.insertAt es p (k.hash w, Value.ref x) = es1 at hin hes ⊢
    generalize L.take p ++ (x, k) :: L.drop p = L1 at pm hlen q3 nd1 hin
    have fin : ∀ byv : Bool, wpAny (model P w) A (do
        storeSet a es1 (if byv then t1 else { t1 with plain := false })
        if !false && (if byv then t1 else { t1 with plain := false }).tooFull then setRelay a (SetTable.grown (es.size + 1))
        return true) Q E s := fun byv => by
      have T2 : TabOk (if byv then t1 else { t1 with plain := false }) (L1.map fun p => p.2.hash w) ∧ (if byv then t1 else { t1 with plain := false }).mask = t1.mask ∧ (if byv then t1 else { t1 with plain := false }).led = t1.led ∧ (if byv then t1 else { t1 with plain := false }).fill = t1.fill := by
        cases byv with
        | true => exact ⟨q3, rfl, rfl, rfl⟩
        | false => exact ⟨⟨q3.ris, q3.dm, q3.sz, q3.mok, q3.bd, q3.reach⟩, rfl, rfl, rfl⟩
      obtain ⟨T2, m2, l2, f2⟩ := T2
      generalize (if byv then t1 else { t1 with plain := false }) = t2 at T2 m2 l2 f2 ⊢
      refine wpAny_bind (wpAny_storeSet_of ho hd ?_ (by rw [hes, sizeLine_eq]; omega))
      have sb : Heap.SameBut a s.heap (s.heap.update a (Obj.putSet es1 t2)) := Heap.SameBut.update ..
      have ho1 := store_at (es' := es1) (t' := t2) ho hd
      generalize s.heap.update a (Obj.putSet es1 t2) = h1 at sb ho1 ⊢
      have key1 : ∀ p ∈ L1, IsN P w h1 p.2 p.1 := fun p hp => by
        rcases List.mem_cons.mp (pm.mem_iff.mp hp) with e | hp
        · rw [e]; exact isN_but hx ho hd sb
        · exact isN_but (R.key p hp) ho hd sb
      have ld1 : w.params.followText "set-order" = true ∨ t2.led = true := by rw [l2, q5]; exact R.led
      have psz : t2.place.size = es1.size := by have h := T2.sz; rw [List.length_map, hlen] at h; rw [h, hes]
      have full : t2.tooFull = true ↔ (L.length + 1) * 5 ≥ t.mask * 3 := by
        unfold SetTable.tooFull
        rw [decide_eq_true_eq, f2, q9, List.length_map, m2, q4]
      by_cases hf : t2.tooFull = true
      · first
          | (refine wpAny_bind ?_; refine wp_if_pos (by simp [hf]) ?_)
          | (refine wp_if_pos (by simp [hf]) ?_; refine wpAny_bind ?_)
        have hfull := full.mp hf
        rw [hsl]
        have two : (t.mask = 7 ∧ L.length = 4) ∨ (t.mask = 31 ∧ L.length = 18) := by
          rcases R.tab.mok with e | e | e
          · exact .inl ⟨e, by omega⟩
          · exact .inr ⟨e, by omega⟩
          · omega
        have go : ∀ M, SetTable.sizeAbove (SetTable.grown (L.length + 1)) - 1 = M → MaskOk M → SetTable.sizeAbove (SetTable.grown (L.length + 1)) ≤ 128 → (L.length + 1) * 5 < M * 3 → wpAny (model P w) A (setRelay a (SetTable.grown (L.length + 1))) (fun _ s' => wpAny (model P w) A (pure true) Q E s') E { s with heap := h1 } := fun M g1 g2 g3 g4 =>
          relayN (s := { s with heap := h1 }) ho1 ⟨hex.1, hex.2.1, hex.2.2⟩ rfl hin psz T2.dm (by rw [hes, m2, q4]; omega) nd1 key1 ld1 (by rw [hlen]; exact hfew) g1 g2 g3 (by rw [hlen]; exact g4) fun h2 L2 es2 ep2 t2 sb2 R2 pm2 => wpAny_pure (hQ true h2 L2 es2 ep2 t2 (sb.trans sb2) R2 (fun z => absurd z hm) fun _ => pm2.trans pm)
        rcases two with ⟨_, e2⟩ | ⟨_, e2⟩
        · exact go 31 (by rw [e2, size_20]) (.inr (.inl rfl)) (by rw [e2, size_20]; decide) (by omega)
        · exact go 127 (by rw [e2, size_76]) (.inr (.inr rfl)) (by rw [e2, size_76]; decide) (by omega)
      · first
          | refine wp_if_neg (by simp [hf]) ?_
          | (refine wpAny_bind ?_; refine wp_if_neg (by simp [hf]) ?_; refine wpAny_pure ?_)
        have nf : ¬ ((L.length + 1) * 5 ≥ t.mask * 3) := fun z => hf (full.mpr z)
        exact wpAny_pure (hQ true h1 L1 es1 (ep + 1) t2 sb ⟨⟨_, ho1, ⟨hex.1, hex.2.1, hex.2.2⟩, rfl⟩, hin, T2, nd1, key1, ld1, by rw [hlen, m2, q4]; omega, by rw [hlen]; exact hfew⟩ (fun z => absurd z hm) fun _ => pm)
    by_cases hp1 : t1.plain = true
    · first
        | (refine wpAny_bind ?_; refine wp_if_pos hp1 ?_; refine (noCls_key k _ 8 s hx.1 hx.2).2 _ _ _ fun b => ?_)
        | refine wp_if_pos hp1 (wpAny_bind ((noCls_key k _ 8 s hx.1 hx.2).2 _ _ _ fun b => ?_))
      exact fin b
    · first
        | (refine wpAny_bind ?_; refine wp_if_neg hp1 ?_; refine wpAny_pure ?_)
        | refine wp_if_neg hp1 (wpAny_bind (wpAny_pure ?_))
        | refine wp_if_neg hp1 ?_
      exact fin true
structure GotN (ks : Els) (i : Nat) (L : Els) : Prop where
  sub : ∀ p ∈ L, p ∈ ks.take i
  all : ∀ p ∈ ks.take i, p.2 ∈ L.map (·.2)
  len : L.length ≤ i
theorem GotN.next {ks L L' : Els} {i : Nat} {x : Addr × NestedKey} (g : GotN ks i L) (h : ks[i]? = some x) (c : x.2 ∈ L.map (·.2) ∧ L' = L ∨ L'.Perm (x :: L)) : GotN ks (i + 1) L' := by
  have tk : ks.take (i + 1) = ks.take i ++ [x] := by rw [List.take_succ, h]; rfl
  rcases c with ⟨hm, rfl⟩ | pm
  · refine ⟨fun p hp => ?_, fun p hp => ?_, Nat.le_succ_of_le g.len⟩
    · rw [tk]; exact List.mem_append_left _ (g.sub p hp)
    · rw [tk] at hp
      rcases List.mem_append.mp hp with z | z
      · exact g.all p z
      · rwa [List.mem_singleton.mp z]
  · refine ⟨fun p hp => ?_, fun p hp => ?_, by rw [pm.length_eq, List.length_cons]; exact Nat.succ_le_succ g.len⟩
    · rw [tk]
      rcases List.mem_cons.mp (pm.mem_iff.mp hp) with e | z
      · rw [e]; exact List.mem_append_right _ (List.mem_singleton.mpr rfl)
      · exact List.mem_append_left _ (g.sub p z)
    · rw [(pm.map (·.2)).mem_iff, List.map_cons]
      rw [tk] at hp
      rcases List.mem_append.mp hp with z | z
      · exact List.mem_cons_of_mem _ (g.all p z)
      · rw [List.mem_singleton.mp z]; exact List.mem_cons_self
theorem SetN.keep {h h' : Heap} (R : SetN P w h a L es ep t) (ha : ∀ o, h.get? a = some o → h'.get? a = some o) (ht : ∀ p ∈ L, IsN P w h' p.2 p.1) : SetN P w h' a L es ep t := by
  obtain ⟨o, ho, r⟩ := R.ob
  exact ⟨⟨o, ha o ho, r⟩, R.rows, R.tab, R.nd, ht, R.led, R.room, R.few⟩
abbrev freshT (w : World) : SetTable := .fresh 0 0 (!w.params.followText "set-order")
abbrev freshO (w : World) : Obj := { cls := .type "set", dict := none, data := .set #[] 0 (freshT w) }
theorem setN_fresh {h : Heap} {a : Addr} (ho : h.get? a = some (freshO w)) : SetN P w h a [] #[] 0 (freshT w) where
  ob := ⟨_, ho, ⟨rfl, rfl, rfl⟩, rfl⟩
  rows := rfl
  tab := ⟨List.Pairwise.nil, rfl, rfl, .inl rfl, fun x hx => (by cases hx), fun i h j hi => (by simp at hi)⟩
  nd := List.nodup_nil
  key := fun p hp => by cases hp
  led := by
    show _ ∨ (!w.params.followText "set-order") = true
    cases w.params.followText "set-order" <;> simp
  room := by show 0 * 5 < 7 * 3; decide
  few := by show 0 < 64; decide
theorem updateN {I : Addr} {fp wr : List Addr} {G : Array GenState → Array GenState → Prop} {n : Nat} {Pv : Nat → Value → Prop} {St : Nat → Shared → Prop} {R : Result → Shared → Prop} (W : WalksS P w A.in1 I fp wr G n Pv St) (S : Addr) (hSf : S ∉ fp) (ks : Els) (hn : n = ks.length) (hfew : ks.length < 64)
    (hval : ∀ i v, Pv i v → ∃ p, ks[i]? = some p ∧ v = .ref p.1) (h0 : Heap) (hk : ∀ p ∈ ks, IsN P w h0 p.2 p.1) (hS0 : h0.get? S = none) (hw0 : ∀ b ∈ wr, h0.get? b = none) (hu : A.units + 16 < cLine) :
    ∀ (k i : Nat) (s : Shared), n - i = k → i ≤ n → St i s → (∀ b o, h0.get? b = some o → s.heap.get? b = some o) → (∃ L es ep t, SetN P w s.heap S L es ep t ∧ GotN ks i L) →
      (∀ s' L es ep t, Moved (S :: wr) G s s' → SetN P w s'.heap S L es ep t → GotN ks n L → (∀ b o, h0.get? b = some o → s'.heap.get? b = some o) → R (.ok (.ret .none)) s') → codeAny (model P w) A (.builtin "set.update.loop" ⟨[.ref S, .ref I], []⟩) R s := by
  have hSw : S ∉ wr := fun h => hSf (W.sub _ h)
  have hsub : ∀ b ∈ wr, b ∈ S :: wr := fun b hb => List.mem_cons_of_mem _ hb
  have hu1 : A.in1.units + 8 < cLine := by show A.units + 1 + 8 < cLine; omega
  have moved : ∀ {s s' : Shared}, Moved wr G s s' → (∀ b o, h0.get? b = some o → s.heap.get? b = some o) → ∀ b o, h0.get? b = some o → s'.heap.get? b = some o := fun hm q b o e => hm.heap b o (fun hb => by rw [hw0 b hb] at e; cases e) (q b o e)
  intro k
  induction k with
  | zero =>
    intro i s hk' hi hst hkp ⟨L, es, ep, t, hS, g⟩ hR
    obtain rfl : i = n := by omega
    refine codeAny_builtin F.entry_set_update_loop ?_
    rw [Around.under_plainId F.plain_set_update_loop _]; show wpAny _ A.in1 (pyNext (.ref I) >>= _) _ _ s
    refine wpAny_bind (W.done s _ _ hst fun s' hm => ?_); show wpAny _ A.in1 (ret Value.none) _ _ s'
    have hkp' := moved hm hkp
    exact wpAny_pure (hR s' L es ep t (hm.mono hsub) (hS.keep (fun o e => hm.heap S o hSw e) fun p hp => isN_keep (hk p (List.mem_of_mem_take (g.sub p hp))) hkp') g hkp')
  | succ k ih =>
    intro i s hk' hi hst hkp ⟨L, es, ep, t, hS, g⟩ hR
    have hlt : i < n := by omega
    refine codeAny_builtin F.entry_set_update_loop ?_
    rw [Around.under_plainId F.plain_set_update_loop _]; show wpAny _ A.in1 (pyNext (.ref I) >>= _) _ _ s
    refine wpAny_bind (W.item i s _ _ hlt hst fun v s' hP hst' hm => ?_)
    obtain ⟨p, hp, rfl⟩ := hval i v hP
    have hkp' := moved hm hkp
    have hS' : SetN P w s'.heap S L es ep t := hS.keep (fun o e => hm.heap S o hSw e) fun q hq => isN_keep (hk q (List.mem_of_mem_take (g.sub q hq))) hkp'
    have hx : IsN P w s'.heap p.2 p.1 := isN_keep (hk p (List.mem_of_getElem? hp)) hkp'
    show wpAny _ A.in1 (holding [Value.ref p.1] (setAdd S (.ref p.1)) >>= _) _ _ s'
    refine wpAny_bind (wpAny_holding ?_)
    unfold setAdd
    refine wpAny_holding (wpAny_bind ((nestedKind P w).pyHash hu1 hx ?_))
    refine putN_at (s := { s' with toks := s'.toks + (nestedKind P w).draws p.2 }) hS' hx hu1 (by have := g.len; omega) fun b h' L' es' ep' t' hsb hS2 c1 c2 => ?_
    have g' : GotN ks (i + 1) L' := by
      by_cases c : p.2 ∈ L.map (·.2)
      · exact g.next hp (.inl ⟨c, c1 c⟩)
      · exact g.next hp (.inr (c2 c))
    have hkp2 : ∀ b o, h0.get? b = some o → h'.get? b = some o := fun b o e => (hsb.2 b fun z => by rw [z, hS0] at e; cases e).trans (hkp' b o e)
    refine wpAny_pure ⟨plainId_quiet F.plain_set_update_loop _, ih (i + 1) _ (by omega) hlt (W.frame _ s' _ _ hst' (Nat.le_add_right _ _) fun b hb o e => ?_) hkp2 ⟨L', es', ep', t', hS2, g'⟩ fun s2 L2 es2 ep2 t2 hm2 hS3 g3 hkp3 => ?_⟩
    · exact (hsb.2 b fun z : b = S => hSf (by rw [← z]; exact hb)).trans e
    · exact hR s2 L2 es2 ep2 t2 (Moved.trans W.gtrans ((hm.mono hsub).then_heap (Nat.le_add_right _ _) fun b o hb e => (hsb.2 b fun z : b = S => hb (by rw [z]; exact List.mem_cons_self)).trans e) hm2) hS3 g3 hkp3
set_option maxHeartbeats 3200000 in
theorem callN {l : Addr} {items : Array Value} (ks : Els) {Q : Value → Shared → Prop} (hh : A.handled = none) (hl : s.heap.IsList l items) (hit : items.toList = ks.map fun p => Value.ref p.1) (hk : ∀ p ∈ ks, IsN P w s.heap p.2 p.1) (hfew : ks.length < 64) (hu : A.units + 24 < cLine)
    (h : ∀ (h' : Heap) (tk : Nat) L es ep t, SetN P w h' s.heap.objs.size L es ep t → GotN ks ks.length L → (∀ b o, s.heap.get? b = some o → h'.get? b = some o) → Q (.ref s.heap.objs.size) { s with heap := h', toks := tk }) : wpAny (model P w) A (call (.type "set") [.ref l]) Q E s := by
  have hisz : items.size = ks.length := by rw [← Array.length_toList, hit, List.length_map]
  obtain ⟨c, tl, hmro⟩ := F.called_set.mro
  have hmade := F.called_set.made
  have hsub := F.called_set.sub
  refine wpAny_call (codeAny_of_tree ?_); show wpAny _ _ (callAny (.type "set") _) _ _ _
  refine wpAny_pure ⟨Code.quiet_builtin _ (by decide +kernel), codeAny_builtin F.entry_type_call ?_⟩
  rw [Around.under_plain (weight_type_call_type "set" [.ref l] []) rfl]
  have f1 := F.called_set.notType
  have f2 := F.called_set.canCreate
  have f3 := F.typeCall_set_1 (.ref l)
  repeat (any_goals (first | assumption | wp_step))
  refine codeAny_mono (code_set_led1 (.ref l) (E := E) (Q₁ := fun obj s₁ => obj = .ref s.heap.objs.size ∧ s₁ = { s with heap := s.heap.push (freshO w) }) ⟨rfl, rfl⟩) fun r s₁ hr => ?_
  cases r with
  | error e => exact hr
  | ok fl =>
    cases fl with
    | ret obj =>
      obtain ⟨rfl, rfl⟩ := hr
      have hS : (s.heap.push (freshO w)).get? s.heap.objs.size = some (freshO w) := Heap.get?_push_size _ rfl
      have hT : Shared.TypeIs { s with heap := s.heap.push (freshO w) } (.ref s.heap.objs.size) "set" := ⟨_, hS, rfl⟩
      have hli := F.called_set.init.lookup
      have hbi := F.called_set.init.bind (.ref s.heap.objs.size)
      repeat (any_goals (first | assumption | wp_step))
      refine codeAny_mono (codeAny_call_builtin (R := wants (fun r s₂ => r = .none ∧ ∃ h' tk L es ep t, s₂ = { s with heap := h', toks := tk } ∧ SetN P w h' s.heap.objs.size L es ep t ∧ GotN ks ks.length L ∧ (∀ b o, s.heap.get? b = some o → h'.get? b = some o)) E) F.called_set.init.plain F.entry_set_init (check_set_init_1 hT ?_)) fun r₂ s₂ hr₂ => ?_
      · obtain ⟨ol, hol, hcl, nl, hdl⟩ := hl
        obtain ⟨ocls, odict, odata, oslots⟩ := ol
        simp only at hcl hdl; subst hcl; subst hdl
        have hol' : (s.heap.push (freshO w)).get? l = some { cls := .type "list", dict := odict, data := .seq items nl, slots := oslots } := Heap.get?_push_of_some _ hol
        have hsls := F.sub_list_set
        have hslf := F.sub_list_frozenset
        have hne : (Value.type "list" == Value.type "dict") = false := by decide
        have hl1 : (s.heap.push (freshO w)).IsList l items := ⟨_, hol', rfl, nl, rfl⟩
        unfold Builtin.«set.__init__» noKeywords Builtin.Frozenset.updateFrom
        generalize hPI : pyIter = PI
        wp_walk
        subst hPI
        refine wpAny_pyIter_list hl1 (wpAny_bind (wpAny_runValue ?_))
        have hlS : l < s.heap.objs.size := Heap.lt_size hol
        have hh3 : A.in1.in1.in1.handled = none := by simp [hh]
        have hneI : l ≠ (s.heap.push (freshO w)).objs.size := by rw [Heap.size_push]; exact Nat.ne_of_lt (Nat.lt_succ_of_lt hlS)
        have hSf : s.heap.objs.size ∉ [(s.heap.push (freshO w)).objs.size, l] := by
          rw [Heap.size_push]; simp only [List.mem_cons, List.mem_singleton, List.not_mem_nil, or_false, not_or]; exact ⟨Nat.ne_of_lt (Nat.lt_succ_self _), Nat.ne_of_gt hlS⟩
        have hval : ∀ (i : Nat) (v : Value), items[i]? = some v → ∃ p, ks[i]? = some p ∧ v = .ref p.1 := fun i v hv => by
          have q : (ks.map fun p => Value.ref p.1)[i]? = some v := by rw [← hit, Array.getElem?_toList]; exact hv
          rw [List.getElem?_map] at q
          obtain ⟨p, e1, e2⟩ := Option.map_eq_some_iff.mp q
          exact ⟨p, e1, e2.symm⟩
        have none_of : ∀ b, s.heap.objs.size ≤ b → s.heap.get? b = none := fun b hb => by
          cases q : s.heap.get? b with
          | none => rfl
          | some o => exact absurd (Nat.lt_of_lt_of_le (Heap.lt_size q) hb) (Nat.lt_irrefl _)
        refine updateN ((Walks.list hh3 _ l hneI items).toS) s.heap.objs.size hSf ks hisz hfew hval s.heap hk (none_of _ (Nat.le_refl _)) (fun b hb => none_of b (by rw [List.mem_singleton.mp hb, Heap.size_push]; exact Nat.le_succ _)) (by show A.units + 1 + 1 + 16 < cLine; omega) (items.size - 0) 0 _ (by omega) (Nat.zero_le _)
          ⟨⟨_, Heap.get?_push_size _ rfl, rfl, rfl⟩, (hl1.push _)⟩ (fun b o e => Heap.get?_push_of_some _ (Heap.get?_push_of_some _ e)) ⟨[], #[], 0, _, setN_fresh (Heap.get?_push_of_some _ hS), ⟨fun p z => (by cases z), fun p z => (by simp at z), Nat.le_refl _⟩⟩ fun s' L es ep t hm hS' g' hkp => ?_
        obtain ⟨h', g2, d', tk', os'⟩ := s'
        obtain rfl : g2 = s.gens := hm.gens
        obtain rfl : d' = s.drawn := hm.drawn
        obtain rfl : os' = s.os := hm.os
        show wpAny _ _ _ _ _ _
        refine wpAny_pure ?_; show wpAny _ _ (ret Value.none) _ _ _
        rw [hisz] at g'
        exact wpAny_pure ⟨rfl, h', tk', L, es, ep, t, rfl, hS', g', hkp⟩
      · cases r₂ with
        | error e => exact hr₂
        | ok fl₂ =>
          cases fl₂ with
          | ret r =>
            obtain ⟨rfl, h', tk, L, es, ep, t, rfl, hS', g', hk'⟩ := hr₂
            repeat (any_goals (first | assumption | wp_step))
            exact h _ _ _ _ _ _ hS' g' hk'
          | _ => exact hr₂.elim
    | _ => exact hr.elim
end
end DL
namespace DL
open PySem PySem.Spec L2 PyProof.Rows
variable [Wd]
structure SetN0 (w : World) (h : Heap) (a : Addr) (L : Els) : Prop where
  ex : ∃ (es : Array (Int × Value)) (ep : Nat) (t : SetTable), (∃ o, h.get? a = some o ∧ o.ExactSet ∧ o.data = .set es ep t) ∧ es.toList = rowsN w L ∧ TabOk t (L.map fun p => p.2.hash w) ∧ (L.map (·.2)).Nodup ∧ (w.params.followText "set-order" = true ∨ t.led = true) ∧ L.length * 5 < t.mask * 3 ∧ L.length < 64
def SetNO (w : World) (a : Addr) (L : Els) : HO := .ext fun h => SetN0 w h a L
theorem setNO_ok {P : Program} {w : World} {H : Hp} {h : Heap} {a : Addr} {L : Els} (R : SetN0 w h a L) : ObjOk P w H h a (SetNO w a L) := by
  obtain ⟨es, ep, t, ⟨o, ho, r⟩, q⟩ := R.ex
  refine ⟨R, ⟨o, ho⟩, fun h1 h2 p k => ?_⟩
  obtain ⟨es', ep', t', ⟨o', ho', r'⟩, q'⟩ := SetN0.ex p
  exact ⟨es', ep', t', ⟨o', k o' ho', r'⟩, q'⟩
section
variable {X : Cx}
def rSetOfN (K : PySem.W.Frag) (w : World) : List V → Hp → VK → Prop := fun xs H Q => ∃ (l : Addr) (ks : Els), xs = [V.ref l] ∧ SqL K H l (ks.map fun p => V.ref p.1) ∧ (∀ p ∈ ks, KeyV K H p.2 (.ref p.1) ∧ p.2.depth ≤ 8) ∧ ks.length < 64 ∧
  ∀ a L, H a = none → (L.map (·.2)).Nodup → (∀ p ∈ L, p ∈ ks) → (∀ p ∈ ks, p.2 ∈ L.map (·.2)) → Q (.ref a) (upd H a (SetNO w a L))
theorem cr_setOfN (hc : X.calm = true) (hu : X.A.units + 64 < cLine) : CallR X (.type "set") (rSetOfN X.K X.w) := by
  intro pins s σ H xs us Q I r h
  obtain ⟨l, ks, rfl, hl, hk, hf, q⟩ := h
  rw [Vals.ref1 r]
  obtain ⟨its, rv, pl, hz⟩ := I.list hl
  have hn : H s.heap.objs.size = none := I.hok.fresh (Nat.le_refl _)
  have refs : ∀ {ks : Els} {us : List Value}, Vals (ks.map fun p => V.ref p.1) us → us = ks.map fun p => Value.ref p.1 := fun {ks} => by
    induction ks with
    | nil => intro us h; cases h; rfl
    | cons p ks ih => intro us h; cases h with | cons r t => cases r; rw [ih t]; rfl
  refine callN (P := X.prog) (w := X.w) ks (I.ok.hd hc) pl.isList (by simpa using refs rv) (fun p hp => isK I (hk p hp).1 (hk p hp).2) hf (by omega) fun h' tk L es ep t R g k => ?_
  exact ⟨.ref s.heap.objs.size, upd H s.heap.objs.size (SetNO X.w s.heap.objs.size L), I.laid (t' := tk) k (Nat.le_refl _) (setNO_ok ⟨es, ep, t, R.ob, R.rows, R.tab, R.nd, R.led, R.room, R.few⟩), rfl, q _ L hn R.nd (fun p hp => List.mem_of_mem_take (g.sub p hp)) fun p hp => g.all p (by rw [List.take_length]; exact hp)⟩
def rSortedN (K : PySem.W.Frag) (w : World) : List V → Hp → VK → Prop := fun vs H Q => ∃ (a : Addr) (L : Els) (y : List D) (G : Addr → Prop), vs = [V.ref a] ∧ H a = some (SetNO w a L) ∧ (∀ p ∈ L, KeyV K H p.2 (.ref p.1) ∧ p.2.depth ≤ 8) ∧ (∀ M : List NestedKey, M.Perm (L.map (·.2)) → okSort (M.map keyD) ∧ sortD (M.map keyD) = y) ∧
  ∀ (ys : List V) (p : Addr), Reps K G H ys y → H p = none → Q (.ref p) (upd H p (.lst ys))
theorem cr_sortedN (hc : X.calm = true) (hu : X.A.units + 64 < cLine) : CallR X (.builtin "sorted") (rSortedN X.K X.w) := by
  intro pins s σ H vs us Q I r h
  obtain ⟨a, L, y, G, rfl, ha, hk, hy, q⟩ := h
  obtain ⟨es, ep, t, ⟨o, ho, hex, hd⟩, hrows, T, nd, led, room, few⟩ := (show SetN0 X.w s.heap a L from (I.hok a _ ha).1).ex
  have R : SetN X.prog X.w s.heap a L es ep t := ⟨⟨o, ho, hex, hd⟩, hrows, T, nd, fun p hp => isK I (hk p hp).1 (hk p hp).2, led, room, few⟩
  have hh : X.A.handled = none := I.ok.hd hc
  rw [Vals.ref1 r]
  refine Calls.call_function_entry kind_sorted plain_sorted entry_sorted (args_sorted1 _) ?_
  unfold Builtin.«sorted»
  refine wpAny_bind (m := checkCount "sorted" 1 1 _) (wpAny_pure ?_)
  refine wpAny_bind (collect_set (A := X.A.in1) hh ⟨o, ho, hex.1, hd⟩ R.fits (by rw [rowsN_size hrows]; unfold scanBound; omega) T.ris led fun s1 vs k1 hz g1 o1 pm => ?_)
  have hes : es.toList.map (·.2) = L.map fun q => Value.ref q.1 := by rw [hrows, rowsN, List.map_map]; rfl
  rw [hes] at pm
  obtain ⟨L1, e1, p1⟩ : ∃ L1 : Els, vs = L1.map (fun q => Value.ref q.1) ∧ L1.Perm L := by
    have key : ∀ {xs ys : List Value}, xs.Perm ys → ∀ M : Els, ys = M.map (fun q => Value.ref q.1) → ∃ L1 : Els, xs = L1.map (fun q => Value.ref q.1) ∧ L1.Perm M := fun {xs ys} h => by
      induction h with
      | nil =>
        intro M e
        cases M with
        | nil => exact ⟨[], rfl, .refl _⟩
        | cons m M => cases e
      | cons x _ ih =>
        intro M e
        cases M with
        | nil => cases e
        | cons m M =>
          rw [List.map_cons] at e
          injection e with e1 e2
          obtain ⟨L1, z1, z2⟩ := ih M e2
          exact ⟨m :: L1, by rw [List.map_cons, e1, z1], z2.cons m⟩
      | swap x y l =>
        intro M e
        rcases M with _ | ⟨m, _ | ⟨n, M⟩⟩
        · cases e
        · cases e
        · rw [List.map_cons, List.map_cons] at e
          injection e with e1 e2
          injection e2 with e2 e3
          exact ⟨n :: m :: M, by rw [List.map_cons, List.map_cons, e1, e2, e3], .swap m n M⟩
      | trans _ _ ih1 ih2 =>
        intro M e
        obtain ⟨L2, z1, z2⟩ := ih2 M e
        obtain ⟨L1, z3, z4⟩ := ih1 L2 z1
        exact ⟨L1, z3, z4.trans z2⟩
    exact key pm L rfl
  subst e1
  have ll : L1.length < 64 := by rw [p1.length_eq]; exact few
  obtain ⟨ok, hy1⟩ := hy (L1.map (·.2)) (p1.map _)
  rw [List.map_map] at ok hy1
  refine wpAny_bind (wpAny_newList ?_ (by rw [List.length_map, sizeLine_eq]; omega))
  have hob : (s1.heap.push (seqObj "list" (L1.map fun q => Value.ref q.1).toArray 0)).get? s1.heap.objs.size = some (seqObj "list" (L1.map fun q => Value.ref q.1).toArray 0) := Heap.get?_push_size _ rfl
  show wpAny _ _ _ _ _ { s1 with heap := s1.heap.push (seqObj "list" (L1.map fun q => Value.ref q.1).toArray 0) }
  have ka : ∀ b u, s1.heap.get? b = some u → (s1.heap.push (seqObj "list" (L1.map fun q => Value.ref q.1).toArray 0)).get? b = some u := fun b u e => Heap.get?_push_of_some _ e
  have ne0 : ∀ b u, s1.heap.get? b = some u → b ≠ s1.heap.objs.size := fun b u e => Nat.ne_of_lt (Heap.lt_size e)
  generalize hh2 : s1.heap.push (seqObj "list" (L1.map fun q => Value.ref q.1).toArray 0) = h2 at hob ka ⊢
  let bs : List (V × D) := L1.map fun q => (V.ref q.1, keyD q.2)
  have zl : bs.length = L1.length := by show (L1.map _).length = _; rw [List.length_map]
  have z2 : bs.map Prod.snd = L1.map (keyD ∘ (·.2)) := by show (L1.map _).map _ = _; rw [List.map_map]; rfl
  have em : bs.map (fun b => toP b.2) = (L1.map (keyD ∘ (·.2))).map toP := by show (L1.map _).map _ = _; rw [List.map_map, List.map_map]; rfl
  have mem : ∀ b ∈ bs, Rep X.K G H b.1 b.2 := fun b hb => by
    obtain ⟨q, hq, rfl⟩ := List.mem_map.mp hb
    exact KeyV.rep (hk q (p1.mem_iff.mp hq)).1
  have alD : ∀ b ∈ bs, b.2 ∈ L1.map (keyD ∘ (·.2)) := fun b hb => by
    obtain ⟨q, hq, rfl⟩ := List.mem_map.mp hb
    exact List.mem_map.mpr ⟨q, hq, rfl⟩
  have sh : ∀ b u, s1.heap.get? b = some u → (PySem.W.sortingHeap h2 s1.heap.objs.size (L1.map fun q => Value.ref q.1)).get? b = some u := fun b u e => PySem.W.sortingHeap_old (ne0 b u e) (ka b u e)
  have atB : ∀ (i : Nat) (u : Value) (b : V × D), (L1.map fun q => Value.ref q.1)[i]? = some u → bs[i]? = some b → RelV b.1 u := fun i u b e1 e2 => by
    rw [List.getElem?_map] at e1 e2
    cases hq : L1[i]? with
    | none => rw [hq] at e1; cases e1
    | some q => rw [hq] at e1 e2; cases e1; cases e2; rfl
  have eR : PySem.W.EachIs (fun u (b : V × D) => RelV b.1 u) (L1.map fun q => Value.ref q.1) bs := each_mk (by rw [List.length_map, zl]) atB
  have rd : PySem.W.EachIs (fun v (b : V × D) => ∃ as', Reads (PySem.W.sortingHeap h2 s1.heap.objs.size (L1.map fun q => Value.ref q.1)) v (toP b.2) as') (L1.map fun q => Value.ref q.1) bs := each_mk (by rw [List.length_map, zl]) fun i u b e1 e2 => by
    have hb := List.mem_of_getElem? e2
    obtain ⟨as', rr⟩ := Dp.reads I _ b.1 u ((mem b hb).dp (plain_of_alike _ (ok.1 b.2 (alD b hb) b.2 (alD b hb)))) (atB i u b e1 e2)
    exact ⟨as', PyProof.Rows.Reads.keeps (fun c u e => sh c u (k1 c u e)) rr⟩
  have hal : PySem.W.AllAlike (bs.map fun b => toP b.2) := fun d hd e he => by
    rw [em] at hd he
    obtain ⟨x, hx, rfl⟩ := List.mem_map.mp hd
    obtain ⟨z, hz, rfl⟩ := List.mem_map.mp he
    exact ok.1 x hx z hz
  refine wpAny_bind (wpAny_holding (wpAny_call_entry PyProof.Rows.slot_list_sort ⟨_, hob, rfl⟩ PyProof.Rows.entry_list_sort
    (PySem.W.list_sort_vals (s := { s1 with heap := h2 }) hob (PySem.W.SortsAt.data (s := { s1 with heap := PySem.W.sortingHeap h2 s1.heap.objs.size (L1.map fun q => Value.ref q.1) }) (PySem.W.each_map (R := fun v d => ∃ as', Reads (PySem.W.sortingHeap h2 s1.heap.objs.size (L1.map fun q => Value.ref q.1)) v d as') (fun b : V × D => toP b.2) rd) hal (by rw [em]; exact ok.2.1) (PySem.W.bound_map fun b hb => ?_)) (by rw [List.length_map]; exact line6 (by omega)) ⟨.none, rfl, wpAny_pure ⟨_, rfl, ?_⟩⟩) (PyProof.Rows.args_list_sort _)))
  · have := ok.2.2.1 _ (alD b hb)
    show X.A.units + 1 + 1 + _ < cLine
    rw [dep_toP]
    omega
  · have hout := PySem.W.sortVals_data (R := fun u (b : V × D) => RelV b.1 u) false eR rd hal
    generalize PySem.W.sortVals _ false (L1.map fun q => Value.ref q.1) (L1.map fun q => Value.ref q.1) = out at hout ⊢
    let bs' := bs.mergeSort (PySem.W.dataLe false fun b => toP b.2)
    have hv : Vals (bs'.map Prod.fst) out := by
      have key : ∀ {out : List Value} {bs : List (V × D)}, PySem.W.EachIs (fun u b => RelV b.1 u) out bs → Vals (bs.map Prod.fst) out := fun {out bs} h => by
        induction h with
        | nil => exact .nil
        | cons r _ ih => exact .cons r ih
      exact key hout
    have hR : Reps X.K G H (bs'.map Prod.fst) y := by
      have := Reps.mk' (bs := bs') fun b hb => mem b ((List.mergeSort_perm _ _).mem_iff.mp hb)
      rw [sort_snd, z2] at this
      rw [← hy1]
      exact this
    have kF : ∀ b u, s.heap.get? b = some u → (sortedHeap h2 s1.heap.objs.size (L1.map fun q => Value.ref q.1) out.toArray).get? b = some u := fun b u e => (PyProof.Rows.sortedHeap_old (ne0 b u (k1 b u e)) (Heap.lt_size (ka b u (k1 b u e)))).trans (ka b u (k1 b u e))
    obtain ⟨eF, heF⟩ := PyProof.Rows.sortedHeap_at (vs := L1.map fun q => Value.ref q.1) (out := out.toArray) hob
    have hlen : (bs'.map Prod.fst).length ≤ sizeLine := by
      rw [List.length_map, List.length_mergeSort, zl]
      exact line6 (by omega)
    have hp : H s1.heap.objs.size = none := I.hok.fresh hz
    have J : Inv X pins σ (upd H s1.heap.objs.size (.lst (bs'.map Prod.fst))) { s with heap := sortedHeap h2 s1.heap.objs.size (L1.map fun q => Value.ref q.1) out.toArray, gens := s1.gens, drawn := s1.drawn, toks := s1.toks } :=
      I.call (ch := []) (Un.laid kF hz hp) (I.hok.laid kF hz ⟨hlen, out, eF, hv, heF⟩) (by rw [g1]; exact I.bare) (fun _ z => nomatch z)
    have e : ({ s1 with heap := sortedHeap h2 s1.heap.objs.size (L1.map fun q => Value.ref q.1) out.toArray } : Shared) = { s with heap := sortedHeap h2 s1.heap.objs.size (L1.map fun q => Value.ref q.1) out.toArray, gens := s1.gens, drawn := s1.drawn, toks := s1.toks } := by
      cases s1; cases s; cases o1; rfl
    show ∃ v H', Inv X pins σ H' { s1 with heap := sortedHeap h2 s1.heap.objs.size (L1.map fun q => Value.ref q.1) out.toArray } ∧ _
    rw [e]
    exact ⟨.ref s1.heap.objs.size, _, J, rfl, q _ _ hR hp⟩
end
def SS (ds y : List D) : Prop := ∃ ks : List NestedKey, ds = ks.map keyD ∧ (∀ k ∈ ks, (∃ xs, k = .tup xs) ∧ k.depth ≤ 8) ∧ ks.length < 64 ∧ ∀ M : List NestedKey, M.Nodup → (∀ k, k ∈ M ↔ k ∈ ks) → okSort (M.map keyD) ∧ sortD (M.map keyD) = y
open Classical in
noncomputable def dSetSort : List D → Option T
  | [.lst ds] => if h : ∃ y, SS ds y then some (.fr h.choose) else none
  | _ => none
theorem map_keyD_inj : ∀ {a b : List NestedKey}, a.map keyD = b.map keyD → a = b
  | [], [], _ => rfl
  | [], _ :: _, h => by cases h
  | _ :: _, [], h => by cases h
  | x :: xs, y :: ys, h => by
    rw [List.map_cons, List.map_cons] at h
    injection h with h1 h2
    rw [keyD_inj h1, map_keyD_inj h2]
open Classical in
theorem ded_ex : ∀ ks : List NestedKey, ∃ M : List NestedKey, M.Nodup ∧ ∀ k, k ∈ M ↔ k ∈ ks
  | [] => ⟨[], List.nodup_nil, fun k => Iff.rfl⟩
  | k :: ks => by
    obtain ⟨M, h1, h2⟩ := ded_ex ks
    by_cases c : k ∈ ks
    · exact ⟨M, h1, fun x => by rw [h2, List.mem_cons]; exact ⟨.inr, fun z => z.elim (fun z => z ▸ c) id⟩⟩
    · exact ⟨k :: M, List.nodup_cons.mpr ⟨fun z => c ((h2 k).mp z), h1⟩, fun x => by rw [List.mem_cons, List.mem_cons, h2]⟩
theorem dSetSort_is {ds y : List D} (h : SS ds y) : dSetSort [.lst ds] = some (.fr y) := by
  classical
  show (if h : ∃ y, SS ds y then some (T.fr h.choose) else none) = _
  rw [dif_pos ⟨y, h⟩]
  have z : ∃ y, SS ds y := ⟨y, h⟩
  obtain ⟨ks, e1, _, _, a⟩ := h
  obtain ⟨ks', e2, _, _, b⟩ := z.choose_spec
  obtain ⟨M, m1, m2⟩ := ded_ex ks
  have e : ks' = ks := map_keyD_inj (e2.symm.trans e1)
  subst e
  show some (T.fr z.choose) = _
  rw [← (b M m1 m2).2, (a M m1 m2).2]
theorem reps_keys {K : PySem.W.Frag} {G : Addr → Prop} {H : Hp} : ∀ {ys : List V} {nks : List NestedKey}, Reps K G H ys (nks.map keyD) → (∀ k ∈ nks, ∃ xs, k = .tup xs) → ∃ ks : Els, ks.map (·.2) = nks ∧ ys = ks.map (fun p => V.ref p.1) ∧ ∀ p ∈ ks, KeyV K H p.2 (.ref p.1)
  | _, [], h, _ => by
    cases h
    exact ⟨[], rfl, rfl, fun p z => nomatch z⟩
  | _, k :: nks, h, ht => by
    rw [List.map_cons] at h
    cases h with
    | cons r rs =>
      obtain ⟨ks, e1, e2, e3⟩ := reps_keys rs fun x hx => ht x (List.mem_cons_of_mem _ hx)
      obtain ⟨xs, rfl⟩ := ht k List.mem_cons_self
      obtain ⟨a, zs, rfl, hs, hk⟩ := (Rep.key r).at
      refine ⟨(a, .tup xs) :: ks, by rw [List.map_cons, e1], by rw [List.map_cons, e2], fun p hp => ?_⟩
      rcases List.mem_cons.mp hp with rfl | hp
      · exact .tup hs hk
      · exact e3 p hp
def rSS (K : PySem.W.Frag) (w : World) : List V → Hp → VK → Prop := fun vs H Q => rSetOfN K w vs H fun v H1 => rSortedN K w [v] H1 Q
theorem d_setSort {c : Cc} (w : World) : CallD c (rSS c.K w) dSetSort := by
  intro L σ H env xs ds t Q re hx e k
  unfold dSetSort at e
  split at e
  · rename_i es
    split at e
    · rename_i hy
      cases e
      obtain ⟨ks, e1, hk, h64, hs⟩ := hy.choose_spec
      generalize hy.choose = y at hs k
      obtain ⟨v, rfl, r⟩ := hx.one
      obtain ⟨a, ys, rfl, h, rs⟩ := r.lst
      rw [e1] at rs
      obtain ⟨ls, z1, z2, z3⟩ := reps_keys rs fun x hx => (hk x hx).1
      have m2 : ∀ p ∈ ls, p.2 ∈ ks := fun p hp => by rw [← z1]; exact List.mem_map.mpr ⟨p, hp, rfl⟩
      refine ⟨a, ls, rfl, by rw [← z2]; exact .of h, fun p hp => ⟨z3 p hp, (hk _ (m2 p hp)).2⟩, by rw [← z1, List.length_map] at h64; exact h64, fun b M hb nd sub all => ?_⟩
      have kp : ∀ x o, H x = some o → upd H b (SetNO w b M) x = some o := fun x o e => by rw [upd_ne (ne_of_none e hb)]; exact e
      have tk : TK H (upd H b (SetNO w b M)) := ⟨fun x xs e => kp _ _ e, fun x o u e => kp _ _ e⟩
      have re2 := re.grow kp
      refine ⟨b, M, y, Av L σ env, rfl, upd_same, fun p hp => ⟨(z3 p (sub p hp)).tk tk, (hk _ (m2 p (sub p hp))).2⟩, fun N pN => hs N (pN.nodup_iff.mpr nd) fun x => ?_, fun zs p hr hp => ?_⟩
      · rw [pN.mem_iff]
        constructor
        · intro hx
          obtain ⟨p, hp, rfl⟩ := List.mem_map.mp hx
          exact m2 p (sub p hp)
        · intro hx
          rw [← z1] at hx
          obtain ⟨p, hp, rfl⟩ := List.mem_map.mp hx
          exact all p hp
      · obtain ⟨q1, q2, q3⟩ := re2.newL hr hp
        exact k _ _ q1 ((Stp.grow kp).trans q2) (q3.less (fun _ z => z) fun x n => (Stp.grow kp).back n)
    · cases e
  · cases e
section
variable {X : Cx} {c : Cc} {W : WX} {e : Expr} {fa : FA} {p p2 q pos : Pos}
theorem de_setSort (hg : Gl X "sorted") (hm : X.mg "sorted" = none) (hg2 : Gl X "set") (hm2 : X.mg "set" = none) (ha : PA X [e] (dA c W fa)) (hu : X.A.units + 64 < cLine) (hK : c.K = X.K := by rfl) (hc : X.calm = true := by rfl)
    (n1 : starEach [(Expr.Call (.Name "set" p2) [e] [] q)] X.env = (false, eval (Expr.Call (.Name "set" p2) [e] [] q) X.env) :: starEach [] X.env := by rfl) (na : starEach [e] X.env = (false, eval e X.env) :: starEach [] X.env := by rfl) :
    PE X (.Call (.Name "sorted" p) [.Call (.Name "set" p2) [e] [] q] [] pos) (dE c W (eB dSetSort fa)) :=
  PEw (pe_callB (cr_sortedN hc hu) hg hm PyProof.Rows.boot_sorted (pa_cons (pe_callTy (cr_setOfN hc hu) hg2 hm2 PyProof.Rows.boot_set ha (by decide) (by decide) na (by rfl)) pa_nil n1) (by decide) (by decide) n1 (by rfl)) fun σ H Q h => by
    have := d_tCB (d_setSort X.w) σ H Q h
    rw [hK] at this
    exact this
end
end DL
namespace DL
open PySem PySem.Spec L2
def g_SUM_WORDS : D := .tup [.str "over", .str "each"]
noncomputable def f_is_integer : FS := (sRet (eAn (eIsi "int" (eVar 0)) (eNo (eIsi "bool" (eVar 0)))))
noncomputable def d_is_integer : FD := runD 1 1 f_is_integer
noncomputable def f_is_between : FS := (sRet (eAn (eCall d_is_integer (aCons (eVar 0) aNil)) (eCh dLe dLe (eVar 1) (eVar 0) (eVar 2))))
noncomputable def d_is_between : FD := runD 3 3 f_is_between
noncomputable def f_is_tuple_of : FS := (sRet (eAn (eIsi "tuple" (eVar 0)) (eOp dEqA (eB dLen (aCons (eVar 0) aNil)) (eVar 1))))
noncomputable def d_is_tuple_of : FD := runD 2 2 f_is_tuple_of
noncomputable def f_is_most : FS := (sRet (eOr (eOp dIs (eVar 0) (eC .non)) (eCall d_is_between (aCons (eVar 0) (aCons (eC (.int 1)) (aCons (eC (.int 2)) aNil))))))
noncomputable def d_is_most : FD := runD 1 1 f_is_most
noncomputable def f_is_good : FS := (sSeq (sIf (tNo (tV (eCall d_is_tuple_of (aCons (eVar 0) (aCons (eC (.int 2)) aNil))))) (sRet (eC (.bl false))) sNx)
    (sSeq (sAsg (eVar 0) (gT 2 (gsCons (gN 1) (gsCons (gN 2) gsNil))))
    (sRet (eAn (eCall d_is_between (aCons (eVar 1) (aCons (eC (.int 1)) (aCons (eC (.int 9)) aNil)))) (eCall d_is_between (aCons (eVar 2) (aCons (eC (.int 0)) (aCons (eC (.int 9)) aNil))))))))
noncomputable def d_is_good : FD := runD 3 1 f_is_good
noncomputable def f_is_pack : FS := (sSeq (sIf (tNo (tV (eCall d_is_tuple_of (aCons (eVar 0) (aCons (eC (.int 5)) aNil))))) (sRet (eC (.bl false))) sNx)
    (sSeq (sAsg (eVar 0) (gT 5 (gsCons (gN 2) (gsCons (gN 3) (gsCons (gN 4) (gsCons (gN 5) (gsCons (gN 6) gsNil)))))))
    (sRet (eAn (eCall d_is_between (aCons (eVar 3) (aCons (eC (.int 0)) (aCons (eOp dSub (eVar 1) (eC (.int 1))) aNil)))) (eAn (eCall d_is_between (aCons (eVar 4) (aCons (eC (.int 2)) (aCons (eC (.int 3)) aNil)))) (eAn (eCall d_is_between (aCons (eVar 5) (aCons (eVar 4) (aCons (eC (.int 30)) aNil)))) (eCall d_is_most (aCons (eVar 6) aNil))))))))
noncomputable def d_is_pack : FD := runD 7 2 f_is_pack
noncomputable def f_is_from : FS := (sSeq (sIf (tNo (tV (eCall d_is_tuple_of (aCons (eVar 0) (aCons (eC (.int 4)) aNil))))) (sRet (eC (.bl false))) sNx)
    (sSeq (sAsg (eVar 0) (gT 4 (gsCons (gN 2) (gsCons (gN 3) (gsCons (gN 4) (gsCons (gN 5) gsNil))))))
    (sRet (eAn (eCall d_is_between (aCons (eVar 3) (aCons (eC (.int 0)) (aCons (eOp dSub (eVar 1) (eC (.int 1))) aNil)))) (eAn (eCall d_is_between (aCons (eVar 4) (aCons (eC (.int 2)) (aCons (eC (.int 4)) aNil)))) (eCall d_is_between (aCons (eVar 5) (aCons (eC (.int 1)) (aCons (eC (.int 9)) aNil)))))))))
noncomputable def d_is_from : FD := runD 6 2 f_is_from
noncomputable def f_is_over : FS := (sSeq (sIf (tNo (tV (eCall d_is_tuple_of (aCons (eVar 0) (aCons (eC (.int 3)) aNil))))) (sRet (eC (.bl false))) sNx)
    (sSeq (sAsg (eVar 0) (gT 3 (gsCons (gN 1) (gsCons (gN 2) (gsCons (gN 3) gsNil)))))
    (sRet (eAn (eCall d_is_between (aCons (eVar 2) (aCons (eC (.int 2)) (aCons (eC (.int 12)) aNil)))) (eCall d_is_between (aCons (eVar 3) (aCons (eC (.int 1)) (aCons (eB dMin2 (aCons (eC (.int 6)) (aCons (eVar 2) aNil))) aNil))))))))
noncomputable def d_is_over : FD := runD 4 1 f_is_over
noncomputable def f_is_each : FS := (sSeq (sIf (tNo (tV (eCall d_is_tuple_of (aCons (eVar 0) (aCons (eC (.int 4)) aNil))))) (sRet (eC (.bl false))) sNx)
    (sSeq (sAsg (eVar 0) (gT 4 (gsCons (gN 1) (gsCons (gN 2) (gsCons (gN 3) (gsCons (gN 4) gsNil))))))
    (sSeq (sIf (tOr' (tNo (tV (eCall d_is_between (aCons (eVar 2) (aCons (eC (.int 2)) (aCons (eC (.int 6)) aNil)))))) (tNo (tV (eCall d_is_between (aCons (eVar 3) (aCons (eC (.int 1)) (aCons (eVar 2) aNil))))))) (sRet (eC (.bl false))) sNx)
    (sRet (eAn (eCall d_is_most (aCons (eVar 4) aNil)) (eOr (eOp dNis (eVar 4) (eC .non)) (eOp dLe (eOp dMulA (eC (.int 2)) (eVar 3)) (eVar 2))))))))
noncomputable def d_is_each : FD := runD 5 1 f_is_each
noncomputable def f_is_rule : FS := (sSeq (sIf (tOr' (tNo (tV (eIsi "tuple" (eVar 0)))) (tV (eOp dEqA (eB dLen (aCons (eVar 0) aNil)) (eC (.int 0))))) (sRet (eC (.bl false))) sNx)
    (sSeq (sAsg (eOp dIx (eVar 0) (eC (.int 0))) (gN 2))
    (sSeq (sIf (tNo (tV (eIsi "str" (eVar 2)))) (sRet (eC (.bl false))) sNx)
    (sSeq (sIf (tV (eOp dEqA (eVar 2) (eC (.str "pack")))) (sRet (eCall d_is_pack (aCons (eVar 0) (aCons (eVar 1) aNil)))) sNx)
    (sSeq (sIf (tV (eOp dEqA (eVar 2) (eC (.str "from")))) (sRet (eCall d_is_from (aCons (eVar 0) (aCons (eVar 1) aNil)))) sNx)
    (sSeq (sIf (tV (eOp dEqA (eVar 2) (eC (.str "over")))) (sRet (eCall d_is_over (aCons (eVar 0) aNil))) sNx)
    (sRet (eAn (eOp dEqA (eVar 2) (eC (.str "each"))) (eCall d_is_each (aCons (eVar 0) aNil))))))))))
noncomputable def d_is_rule : FD := runD 3 2 f_is_rule
noncomputable def f_is_endless_each : FS := (sRet (eAn (eOp dEqA (eOp dIx (eVar 0) (eC (.int 0))) (eC (.str "each"))) (eOp dIs (eOp dIx (eVar 0) (eC (.int 3))) (eC .non))))
noncomputable def d_is_endless_each : FD := runD 1 1 f_is_endless_each
noncomputable def f_are_goods : FS := (sSeq (sIf (tOr' (tNo (tV (eIsi "tuple" (eVar 0)))) (tNo (tV (eCh dLe dLe (eC (.int 1)) (eB dLen (aCons (eVar 0) aNil)) (eC (.int 2)))))) (sRet (eC (.bl false))) sNx)
    (sRet (eB dAll (aCons (eLc (fiT (eVar 0)) [1] (.one 1) tT (eCall d_is_good (aCons (eVar 1) aNil))) aNil))))
noncomputable def d_are_goods : FD := runD 2 1 f_are_goods
noncomputable def f_are_rules : FS := (sSeq (sIf (tOr' (tNo (tV (eIsi "tuple" (eVar 0)))) (tV (eOp dGt (eB dLen (aCons (eVar 0) aNil)) (eC (.int 4))))) (sRet (eC (.bl false))) sNx)
    (sSeq (sIf (tNo (tV (eB dAll (aCons (eLc (fiT (eVar 0)) [2] (.one 2) tT (eCall d_is_rule (aCons (eVar 2) (aCons (eVar 1) aNil)))) aNil)))) (sRet (eC (.bl false))) sNx)
    (sRet (eOp dLe (eB dLen (aCons (eLc (fiT (eVar 0)) [2] (.one 2) (tV (eCall d_is_endless_each (aCons (eVar 2) aNil))) (eVar 2)) aNil)) (eC (.int 1))))))
noncomputable def d_are_rules : FD := runD 3 2 f_are_rules
noncomputable def f_is_shop : FS := (sSeq (sIf (tNo (tV (eCall d_is_tuple_of (aCons (eVar 0) (aCons (eC (.int 2)) aNil))))) (sRet (eC (.bl false))) sNx)
    (sSeq (sAsg (eVar 0) (gT 2 (gsCons (gN 1) (gsCons (gN 2) gsNil))))
    (sRet (eAn (eCall d_are_goods (aCons (eVar 1) aNil)) (eCall d_are_rules (aCons (eVar 2) (aCons (eB dLen (aCons (eVar 1) aNil)) aNil)))))))
noncomputable def d_is_shop : FD := runD 3 1 f_is_shop
noncomputable def f__law_cell_at : FS := (sSeq (sIf (tV (eOp dLt (eVar 1) (eB dLen (aCons (eVar 0) aNil)))) (sRet (eOp dIx (eVar 0) (eVar 1))) sNx)
    (sSeq (sIf (tV (eOp dEqA (eVar 0) (eLst aNil))) (sRet (eC (.int 0))) sNx)
    (sSeq (sAsg (eOp dIx (eVar 0) (eOp dMod (eVar 1) (eB dLen (aCons (eVar 0) aNil)))) (gN 2))
    (sSeq (sFor (fiR1 (aCons (eB dMin2 (aCons (eOp dFdiv (eVar 1) (eB dLen (aCons (eVar 0) aNil))) (aCons (eC (.int 60)) aNil))) aNil)) (gN 3) (sAsg (eOp dFdiv (eVar 2) (eC (.int 1000003))) (gN 2)))
    (sRet (eOp dAdd (eOp dAdd (eOp dMulA (eOp dIx (eVar 0) (eOp dMod (eVar 1) (eB dLen (aCons (eVar 0) aNil)))) (eC (.int 31))) (eVar 1)) (eOp dMulA (eVar 2) (eC (.int 101)))))))))
noncomputable def d__law_cell_at : FD := runD 4 2 f__law_cell_at
noncomputable def f__law_mixed : FS := (sSeq (sAsg (eOp dMod (eOp dAdd (eOp dAdd (eOp dMulA (eCall d__law_cell_at (aCons (eVar 0) (aCons (eVar 1) aNil))) (eC (.int 1103515245))) (eOp dMulA (eC (.int 7919)) (eVar 1))) (eC (.int 12345))) (eC (.int 2147483647))) (gN 3))
    (sRet (eOp dMod (eOp dMod (eOp dMod (eOp dPow (eVar 3) (eC (.int 5))) (eC (.int 2147483647))) (eC (.int 999983))) (eVar 2))))
noncomputable def d__law_mixed : FD := runD 4 3 f__law_mixed
noncomputable def f__law_draw : FS := (sSeq (sDrop (eMet kApp (eVar 1) (aCons (eC (.int 0)) aNil)))
    (sRet (eCall d__law_mixed (aCons (eVar 0) (aCons (eB dLen (aCons (eVar 1) aNil)) (aCons (eVar 2) aNil))))))
noncomputable def d__law_draw : FD := runD 3 3 f__law_draw
noncomputable def f__law_pick : FS := (sRet (eOp dIx (eVar 2) (eCallI 1 d__law_draw (aCons (eVar 0) (aCons (eVar 1) (aCons (eB dLen (aCons (eVar 2) aNil)) aNil))))))
noncomputable def d__law_pick : FD := runD 3 3 f__law_pick
noncomputable def f__law_some_rule_1 : FS := (sAsg (eCallI 1 d__law_draw (aCons (eVar 0) (aCons (eVar 1) (aCons (eC (.int 5)) aNil)))) (gN 4))
noncomputable def f__law_some_rule_2 : FS := (sAsg (eCallI 1 d__law_draw (aCons (eVar 0) (aCons (eVar 1) (aCons (eB dLen (aCons (eVar 2) aNil)) aNil)))) (gN 5))
noncomputable def f__law_some_rule_3 : FS := (sAsg (eOp dIx (eOp dIx (eVar 2) (eVar 5)) (eC (.int 0))) (gN 6))
noncomputable def f__law_some_rule_4 : FS := (sIf (tV (eOp dLt (eVar 4) (eC (.int 2)))) (sSeq (sAsg (eOp dAdd (eC (.int 2)) (eCallI 1 d__law_draw (aCons (eVar 0) (aCons (eVar 1) (aCons (eC (.int 2)) aNil))))) (gN 9))
    (sSeq (sAsg (eB dMax2 (aCons (eVar 9) (aCons (eOp dSub (eOp dMulA (eVar 9) (eVar 6)) (eCallI 1 d__law_draw (aCons (eVar 0) (aCons (eVar 1) (aCons (eOp dAdd (eOp dMulA (eC (.int 2)) (eVar 9)) (eC (.int 2))) aNil))))) aNil))) (gN 10))
    (sRet (eTup (aCons (eC (.str "pack")) (aCons (eVar 5) (aCons (eVar 9) (aCons (eVar 10) (aCons (eCallI 1 d__law_pick (aCons (eVar 0) (aCons (eVar 1) (aCons (eTup (aCons (eC .non) (aCons (eC .non) (aCons (eC (.int 1)) (aCons (eC (.int 2)) aNil))))) aNil)))) aNil))))))))) sNx)
noncomputable def f__law_some_rule_5 : FS := (sIf (tV (eOp dEqA (eVar 4) (eC (.int 2)))) (sRet (eTup (aCons (eC (.str "from")) (aCons (eVar 5) (aCons (eOp dAdd (eC (.int 2)) (eCallI 1 d__law_draw (aCons (eVar 0) (aCons (eVar 1) (aCons (eC (.int 3)) aNil))))) (aCons (eB dMax2 (aCons (eC (.int 1)) (aCons (eOp dSub (eVar 6) (eCallI 1 d__law_draw (aCons (eVar 0) (aCons (eVar 1) (aCons (eC (.int 4)) aNil))))) aNil))) aNil)))))) sNx)
noncomputable def f__law_some_rule_6 : FS := (sIf (tV (eOp dEqA (eVar 4) (eC (.int 3)))) (sSeq (sAsg (eOp dAdd (eC (.int 4)) (eCallI 1 d__law_draw (aCons (eVar 0) (aCons (eVar 1) (aCons (eC (.int 9)) aNil))))) (gN 7))
    (sRet (eTup (aCons (eC (.str "over")) (aCons (eVar 7) (aCons (eOp dAdd (eC (.int 1)) (eCallI 1 d__law_draw (aCons (eVar 0) (aCons (eVar 1) (aCons (eC (.int 4)) aNil))))) aNil)))))) sNx)
noncomputable def f__law_some_rule_7 : FS := (sAsg (eOp dAdd (eC (.int 2)) (eCallI 1 d__law_draw (aCons (eVar 0) (aCons (eVar 1) (aCons (eC (.int 5)) aNil))))) (gN 7))
noncomputable def f__law_some_rule_8 : FS := (sAsg (eCallI 1 d__law_pick (aCons (eVar 0) (aCons (eVar 1) (aCons (eIf (tV (eVar 3)) (eTup (aCons (eC (.int 1)) (aCons (eC (.int 2)) aNil))) (eTup (aCons (eC .non) (aCons (eC .non) (aCons (eC (.int 1)) (aCons (eC (.int 2)) aNil)))))) aNil)))) (gN 8))
noncomputable def f__law_some_rule_9 : FS := (sRet (eTup (aCons (eC (.str "each")) (aCons (eVar 7) (aCons (eOp dAdd (eC (.int 1)) (eCallI 1 d__law_draw (aCons (eVar 0) (aCons (eVar 1) (aCons (eOp dFdiv (eVar 7) (eC (.int 2))) aNil))))) (aCons (eVar 8) aNil))))))
noncomputable def f__law_some_rule : FS := sSeq f__law_some_rule_1 (sSeq f__law_some_rule_2 (sSeq f__law_some_rule_3 (sSeq f__law_some_rule_4 (sSeq f__law_some_rule_5 (sSeq f__law_some_rule_6 (sSeq f__law_some_rule_7 (sSeq f__law_some_rule_8 (f__law_some_rule_9))))))))
noncomputable def d__law_some_rule : FD := runD 11 4 f__law_some_rule
noncomputable def f__law_some_goods : FS := (sSeq (sAsg (eIf (tV (eOp dEqA (eCallI 1 d__law_draw (aCons (eVar 0) (aCons (eVar 1) (aCons (eC (.int 3)) aNil)))) (eC (.int 0)))) (eC (.int 2)) (eC (.int 1))) (gN 2))
    (sRet (eB dTuple (aCons (eLc (fiR1 (aCons (eVar 2) aNil)) [3] (.one 3) tT (eTup (aCons (eOp dAdd (eC (.int 3)) (eCallI 1 d__law_draw (aCons (eVar 0) (aCons (eVar 1) (aCons (eC (.int 7)) aNil))))) (aCons (eCallI 1 d__law_draw (aCons (eVar 0) (aCons (eVar 1) (aCons (eC (.int 8)) aNil)))) aNil)))) aNil))))
noncomputable def d__law_some_goods : FD := runD 4 2 f__law_some_goods
noncomputable def f__law_some_shop : FS := (sSeq (sPar 3 4 (aCons (eCallI 1 d__law_some_goods (aCons (eVar 0) (aCons (eVar 1) aNil))) (aCons (eLst aNil) aNil)))
    (sSeq (sFor (fiR1 (aCons (eCallI 1 d__law_draw (aCons (eVar 0) (aCons (eVar 1) (aCons (eC (.int 5)) aNil)))) aNil)) (gN 2) (sSeq (sAsg (eB dAny (aCons (eLc (fiL false (eVar 4)) [6] (.one 6) tT (eAn (eOp dEqA (eOp dIx (eVar 6) (eC (.int 0))) (eC (.str "each"))) (eOp dIs (eOp dIx (eVar 6) (eC (.int 3))) (eC .non)))) aNil)) (gN 5))
    (sDrop (eMet kApp (eVar 4) (aCons (eCallI 1 d__law_some_rule (aCons (eVar 0) (aCons (eVar 1) (aCons (eVar 3) (aCons (eVar 5) aNil))))) aNil)))))
    (sRet (eTup (aCons (eVar 3) (aCons (eB dTuple (aCons (eVar 4) aNil)) aNil))))))
noncomputable def d__law_some_shop : FD := runD 7 2 f__law_some_shop
noncomputable def f_check_shop : FS := (sIf (tNo (tV (eCall d_is_shop (aCons (eVar 0) aNil)))) (sRz "InvalidShop") sNx)
noncomputable def d_check_shop : FD := runD 1 1 f_check_shop
noncomputable def f_are_pieces_1 : FS := (sIf (tNo (tV (eCall d_is_tuple_of (aCons (eVar 1) (aCons (eB dLen (aCons (eOp dIx (eVar 0) (eC (.int 0))) aNil)) aNil))))) (sRet (eC (.bl false))) sNx)
noncomputable def f_are_pieces_2 : FS := (sRet (eB dAll (aCons (eLc (fiT (eVar 1)) [2] (.one 2) tT (eAn (eCall d_is_integer (aCons (eVar 2) aNil)) (eOp dGe (eVar 2) (eC (.int 0))))) aNil)))
noncomputable def f_are_pieces : FS := sSeq f_are_pieces_1 (f_are_pieces_2)
noncomputable def d_are_pieces : FD := runD 3 2 f_are_pieces
noncomputable def f_is_basket : FS := (sSeq (sDrop (eCall d_check_shop (aCons (eVar 0) aNil)))
    (sRet (eAn (eCall d_are_pieces (aCons (eVar 0) (aCons (eVar 1) aNil))) (eOp dLe (eB dMax1 (aCons (eVar 1) aNil)) (eC (.int 1000000))))))
noncomputable def d_is_basket : FD := runD 2 2 f_is_basket
noncomputable def f_check_basket : FS := (sIf (tNo (tV (eCall d_is_basket (aCons (eVar 0) (aCons (eVar 1) aNil))))) (sRz "InvalidBasket") sNx)
noncomputable def d_check_basket : FD := runD 2 2 f_check_basket
noncomputable def f_full_times : FS := (sSeq (sAsg (eOp dFdiv (eVar 0) (eVar 1)) (gN 3))
    (sRet (eIf (tV (eOp dIs (eVar 2) (eC .non))) (eVar 3) (eB dMin2 (aCons (eVar 3) (aCons (eVar 2) aNil))))))
noncomputable def d_full_times : FD := runD 4 3 f_full_times
noncomputable def f_fitting_rule : FS := (sSeq (sFor (fiE true (aCons (eVar 0) aNil)) (gT 2 (gsCons (gN 3) (gsCons (gN 4) gsNil))) (sIf (tAn (tV (eOp (dIn true) (eOp dIx (eVar 4) (eC (.int 0))) (eC g_SUM_WORDS))) (tAn (tV (eOp dEqA (eOp dIx (eVar 4) (eC (.int 1))) (eVar 1))) (tV (eOp dGe (eVar 2) (eOp dIx (eVar 4) (eC (.int 2))))))) (sRet (eVar 3)) sNx))
    (sRet (eC .non)))
noncomputable def d_fitting_rule : FD := runD 5 3 f_fitting_rule
noncomputable def f_pack_times : FS := (sSeq (sAsg (eVar 0) (gT 5 (gsCons (gN 2) (gsCons (gN 2) (gsCons (gN 3) (gsCons (gN 2) (gsCons (gN 4) gsNil)))))))
    (sRet (eCall d_full_times (aCons (eVar 1) (aCons (eVar 3) (aCons (eVar 4) aNil))))))
noncomputable def d_pack_times : FD := runD 5 2 f_pack_times
noncomputable def f_pack_amount : FS := (sSeq (sAsg (eVar 0) (gT 5 (gsCons (gN 4) (gsCons (gN 4) (gsCons (gN 5) (gsCons (gN 6) (gsCons (gN 4) gsNil)))))))
    (sSeq (sAsg (eCall d_pack_times (aCons (eVar 0) (aCons (eVar 2) aNil))) (gN 3))
    (sRet (eOp dAdd (eOp dMulA (eVar 3) (eVar 6)) (eOp dMulA (eOp dSub (eVar 2) (eOp dMulA (eVar 3) (eVar 5))) (eVar 1))))))
noncomputable def d_pack_amount : FD := runD 7 3 f_pack_amount
noncomputable def f_good_amount : FS := (sSeq (sAsg (eVar 0) (gT 2 (gsCons (gN 5) (gsCons (gN 6) gsNil))))
    (sSeq (sAsg (eOp dIx (eVar 5) (eVar 1)) (gT 2 (gsCons (gN 7) (gsCons (gN 8) gsNil))))
    (sSeq (sAsg (eCall d_fitting_rule (aCons (eVar 6) (aCons (eVar 1) (aCons (eVar 2) aNil)))) (gN 3))
    (sSeq (sIf (tV (eOp dIs (eVar 3) (eC .non))) (sRet (eOp dMulA (eVar 2) (eVar 7))) sNx)
    (sSeq (sAsg (eOp dIx (eVar 6) (eVar 3)) (gN 4))
    (sSeq (sIf (tV (eOp dEqA (eOp dIx (eVar 4) (eC (.int 0))) (eC (.str "pack")))) (sRet (eCall d_pack_amount (aCons (eVar 4) (aCons (eVar 7) (aCons (eVar 2) aNil))))) sNx)
    (sRet (eOp dMulA (eVar 2) (eOp dIx (eVar 4) (eC (.int 3)))))))))))
noncomputable def d_good_amount : FD := runD 9 3 f_good_amount
noncomputable def f_amounts_of : FS := (sRet (eB dTuple (aCons (eLc (fiE false (aCons (eVar 1) aNil)) [2, 3] (.tup [2, 3]) tT (eCall d_good_amount (aCons (eVar 0) (aCons (eVar 2) (aCons (eVar 3) aNil))))) aNil)))
noncomputable def d_amounts_of : FD := runD 4 2 f_amounts_of
noncomputable def f__law_some_basket : FS := (sSeq (sAsg (eCallI 1 d__law_pick (aCons (eVar 0) (aCons (eVar 1) (aCons (eTup (aCons (eC (.int 3)) (aCons (eC (.int 9)) (aCons (eC (.int 30)) (aCons (eC (.int 1000)) aNil))))) aNil)))) (gN 3))
    (sRet (eB dTuple (aCons (eLc (fiT (eOp dIx (eVar 2) (eC (.int 0)))) [4] (.one 4) tT (eCallI 1 d__law_draw (aCons (eVar 0) (aCons (eVar 1) (aCons (eVar 3) aNil))))) aNil))))
noncomputable def d__law_some_basket : FD := runD 5 3 f__law_some_basket
noncomputable def f_off_times : FS := (sSeq (sIf (tV (eOp dEqA (eOp dIx (eVar 0) (eC (.int 0))) (eC (.str "over")))) (sRet (eIf (tV (eOp dGe (eVar 1) (eOp dIx (eVar 0) (eC (.int 1))))) (eC (.int 1)) (eC (.int 0)))) sNx)
    (sSeq (sIf (tV (eOp dEqA (eOp dIx (eVar 0) (eC (.int 0))) (eC (.str "each")))) (sRet (eCall d_full_times (aCons (eVar 1) (aCons (eOp dIx (eVar 0) (eC (.int 1))) (aCons (eOp dIx (eVar 0) (eC (.int 3))) aNil))))) sNx)
    (sRet (eC (.int 0)))))
noncomputable def d_off_times : FD := runD 2 2 f_off_times
noncomputable def b_apply_sums_1_1 : FS := (sAsg (eCall d_off_times (aCons (eVar 4) (aCons (eVar 2) aNil))) (gN 5))
noncomputable def b_apply_sums_1_2 : FS := (sAug 2 dSub (eOp dMulA (eVar 5) (eOp dIx (eVar 4) (eC (.int 2)))))
noncomputable def b_apply_sums_1_3 : FS := (sDrop (eMet kApp (eVar 3) (aCons (eVar 5) aNil)))
noncomputable def b_apply_sums_1 : FS := sSeq b_apply_sums_1_1 (sSeq b_apply_sums_1_2 (b_apply_sums_1_3))
noncomputable def f_apply_sums_1 : FS := (sAsg (eVar 1) (gN 2))
noncomputable def f_apply_sums_2 : FS := (sAsg (eLst aNil) (gN 3))
noncomputable def f_apply_sums_3 : FS := (sFor (fiT (eVar 0)) (gN 4) b_apply_sums_1)
noncomputable def f_apply_sums_4 : FS := (sRet (eTup (aCons (eVar 2) (aCons (eVar 3) aNil))))
noncomputable def f_apply_sums : FS := sSeq f_apply_sums_1 (sSeq f_apply_sums_2 (sSeq f_apply_sums_3 (f_apply_sums_4)))
noncomputable def d_apply_sums : FD := runD 6 2 f_apply_sums
noncomputable def f_left_of_1 : FS := (sAsg (eCall d_apply_sums (aCons (eVar 0) (aCons (eVar 1) aNil))) (gT 2 (gsCons (gN 2) (gsCons (gN 3) gsNil))))
noncomputable def f_left_of_2 : FS := (sRet (eVar 2))
noncomputable def f_left_of : FS := sSeq f_left_of_1 (f_left_of_2)
noncomputable def d_left_of : FD := runD 4 2 f_left_of
noncomputable def f_charge_of : FS := (sRet (eCall d_left_of (aCons (eOp dIx (eVar 0) (eC (.int 1))) (aCons (eB dSum (aCons (eCall d_amounts_of (aCons (eVar 0) (aCons (eVar 1) aNil))) aNil)) aNil))))
noncomputable def d_charge_of : FD := runD 2 2 f_charge_of
noncomputable def f_charge : FS := (sSeq (sDrop (eCall d_check_basket (aCons (eVar 0) (aCons (eVar 1) aNil))))
    (sRet (eCall d_charge_of (aCons (eVar 0) (aCons (eVar 1) aNil)))))
noncomputable def d_charge : FD := runD 2 2 f_charge
noncomputable def b_uses_of_1_1 : FS := (sAsg (eCall d_fitting_rule (aCons (eVar 2) (aCons (eVar 5) (aCons (eVar 6) aNil)))) (gN 7))
noncomputable def b_uses_of_1_2 : FS := (sIf (tV (eOp dNis (eVar 7) (eC .non))) (sSeq (sAsg (eOp dIx (eVar 2) (eVar 7)) (gN 8))
    (sAsg (eIf (tV (eOp dEqA (eOp dIx (eVar 8) (eC (.int 0))) (eC (.str "pack")))) (eCall d_pack_times (aCons (eVar 8) (aCons (eVar 6) aNil))) (eC (.int 1))) (gSb (eVar 4) (eVar 7)))) sNx)
noncomputable def b_uses_of_1 : FS := sSeq b_uses_of_1_1 (b_uses_of_1_2)
noncomputable def f_uses_of_1 : FS := (sAsg (eOp dIx (eVar 0) (eC (.int 1))) (gN 2))
noncomputable def f_uses_of_2 : FS := (sAsg (eCall d_apply_sums (aCons (eVar 2) (aCons (eB dSum (aCons (eCall d_amounts_of (aCons (eVar 0) (aCons (eVar 1) aNil))) aNil)) aNil))) (gT 2 (gsCons (gN 3) (gsCons (gN 4) gsNil))))
noncomputable def f_uses_of_3 : FS := (sFor (fiE true (aCons (eVar 1) aNil)) (gT 2 (gsCons (gN 5) (gsCons (gN 6) gsNil))) b_uses_of_1)
noncomputable def f_uses_of_4 : FS := (sRet (eB dTuple (aCons (eVar 4) aNil)))
noncomputable def f_uses_of : FS := sSeq f_uses_of_1 (sSeq f_uses_of_2 (sSeq f_uses_of_3 (f_uses_of_4)))
noncomputable def d_uses_of : FD := runD 9 2 f_uses_of
noncomputable def f_is_ascending : FS := (sRet (eB dAll (aCons (eLc (fiZ false (aCons (eVar 0) (aCons (eSl (eVar 0) (tPa (eC (.int 1))) tNp) aNil))) [1, 2] (.tup [1, 2]) tT (eOp dLtA (eVar 1) (eVar 2))) aNil)))
noncomputable def d_is_ascending : FD := runD 3 1 f_is_ascending
noncomputable def f_is_most_act_1 : FS := (sAsg (eOp dIx (eVar 0) (eC (.int 1))) (gN 2))
noncomputable def f_is_most_act_2 : FS := (sIf (tOr' (tNo (tV (eCall d_is_tuple_of (aCons (eVar 1) (aCons (eC (.int 3)) aNil))))) (tNo (tV (eCall d_is_between (aCons (eOp dIx (eVar 1) (eC (.int 1))) (aCons (eC (.int 0)) (aCons (eOp dSub (eB dLen (aCons (eVar 2) aNil)) (eC (.int 1))) aNil))))))) (sRet (eC (.bl false))) sNx)
noncomputable def f_is_most_act_3 : FS := (sAsg (eOp dIx (eVar 2) (eOp dIx (eVar 1) (eC (.int 1)))) (gN 3))
noncomputable def f_is_most_act_4 : FS := (sIf (tV (eOp (dIn true) (eOp dIx (eVar 3) (eC (.int 0))) (eTup (aCons (eC (.str "pack")) (aCons (eC (.str "each")) aNil))))) (sRet (eC (.bl false))) sNx)
noncomputable def f_is_most_act_5 : FS := (sRet (eAn (eCall d_is_between (aCons (eOp dIx (eVar 1) (eC (.int 2))) (aCons (eC (.int 1)) (aCons (eC (.int 2)) aNil)))) (eOr (eOp dIs (eOp dIx (eVar 3) (eUn dNeg (eC (.int 1)))) (eC .non)) (eOp dLt (eOp dIx (eVar 1) (eC (.int 2))) (eOp dIx (eVar 3) (eUn dNeg (eC (.int 1))))))))
noncomputable def f_is_most_act : FS := sSeq f_is_most_act_1 (sSeq f_is_most_act_2 (sSeq f_is_most_act_3 (sSeq f_is_most_act_4 (f_is_most_act_5))))
noncomputable def d_is_most_act : FD := runD 4 2 f_is_most_act
noncomputable def f_is_act_1 : FS := (sIf (tOr' (tNo (tV (eIsi "tuple" (eVar 1)))) (tV (eOp dEqA (eB dLen (aCons (eVar 1) aNil)) (eC (.int 0))))) (sRet (eC (.bl false))) sNx)
noncomputable def f_is_act_2 : FS := (sAsg (eOp dIx (eVar 1) (eC (.int 0))) (gN 2))
noncomputable def f_is_act_3 : FS := (sIf (tNo (tV (eIsi "str" (eVar 2)))) (sRet (eC (.bl false))) sNx)
noncomputable def f_is_act_4 : FS := (sIf (tV (eOp dEqA (eVar 2) (eC (.str "off")))) (sRet (eAn (eCall d_is_tuple_of (aCons (eVar 1) (aCons (eC (.int 2)) aNil))) (eCall d_is_between (aCons (eOp dIx (eVar 1) (eC (.int 1))) (aCons (eC (.int 0)) (aCons (eOp dSub (eB dLen (aCons (eOp dIx (eVar 0) (eC (.int 1))) aNil)) (eC (.int 1))) aNil)))))) sNx)
noncomputable def f_is_act_5 : FS := (sRet (eAn (eOp dEqA (eVar 2) (eC (.str "most"))) (eCall d_is_most_act (aCons (eVar 0) (aCons (eVar 1) aNil)))))
noncomputable def f_is_act : FS := sSeq f_is_act_1 (sSeq f_is_act_2 (sSeq f_is_act_3 (sSeq f_is_act_4 (f_is_act_5))))
noncomputable def d_is_act : FD := runD 3 2 f_is_act
noncomputable def f_are_acts_1 : FS := (sDrop (eCall d_check_shop (aCons (eVar 0) aNil)))
noncomputable def f_are_acts_2 : FS := (sIf (tOr' (tNo (tV (eIsi "tuple" (eVar 1)))) (tV (eOp dGt (eB dLen (aCons (eVar 1) aNil)) (eC (.int 8))))) (sRet (eC (.bl false))) sNx)
noncomputable def f_are_acts_3 : FS := (sRet (eAn (eB dAll (aCons (eLc (fiT (eVar 1)) [2] (.one 2) tT (eCall d_is_act (aCons (eVar 0) (aCons (eVar 2) aNil)))) aNil)) (eCall d_is_ascending (aCons (eVar 1) aNil))))
noncomputable def f_are_acts : FS := sSeq f_are_acts_1 (sSeq f_are_acts_2 (f_are_acts_3))
noncomputable def d_are_acts : FD := runD 3 2 f_are_acts
noncomputable def b__law_all_acts_1_1 : FS := (sDrop (eMet kApp (eVar 1) (aCons (eTup (aCons (eC (.str "off")) (aCons (eVar 2) aNil))) aNil)))
noncomputable def b__law_all_acts_1_2 : FS := (sIf (tV (eOp (dIn false) (eOp dIx (eVar 3) (eC (.int 0))) (eTup (aCons (eC (.str "pack")) (aCons (eC (.str "each")) aNil))))) (sDrop (eMet kExt (eVar 1) (aCons (eLc (fiT (eTup (aCons (eC (.int 1)) (aCons (eC (.int 2)) aNil)))) [4] (.one 4) (tOr' (tV (eOp dIs (eOp dIx (eVar 3) (eUn dNeg (eC (.int 1)))) (eC .non))) (tV (eOp dLt (eVar 4) (eOp dIx (eVar 3) (eUn dNeg (eC (.int 1))))))) (eTup (aCons (eC (.str "most")) (aCons (eVar 2) (aCons (eVar 4) aNil))))) aNil))) sNx)
noncomputable def b__law_all_acts_1 : FS := sSeq b__law_all_acts_1_1 (b__law_all_acts_1_2)
noncomputable def f__law_all_acts_1 : FS := (sAsg (eLst aNil) (gN 1))
noncomputable def f__law_all_acts_2 : FS := (sFor (fiE true (aCons (eOp dIx (eVar 0) (eC (.int 1))) aNil)) (gT 2 (gsCons (gN 2) (gsCons (gN 3) gsNil))) b__law_all_acts_1)
noncomputable def f__law_all_acts_3 : FS := (sRet (eB dSorted (aCons (eVar 1) aNil)))
noncomputable def f__law_all_acts : FS := sSeq f__law_all_acts_1 (sSeq f__law_all_acts_2 (f__law_all_acts_3))
noncomputable def d__law_all_acts : FD := runD 5 1 f__law_all_acts
noncomputable def b__law_some_of_1_1 : FS := (sDrop (eMet kApp (eVar 5) (aCons (eMet kPopAt (eVar 4) (aCons (eCallI 1 d__law_draw (aCons (eVar 0) (aCons (eVar 1) (aCons (eB dLen (aCons (eVar 4) aNil)) aNil)))) aNil)) aNil)))
noncomputable def b__law_some_of_1 : FS := b__law_some_of_1_1
noncomputable def f__law_some_of_1 : FS := (sPar 4 5 (aCons (eB dList (aCons (eVar 2) aNil)) (aCons (eLst aNil) aNil)))
noncomputable def f__law_some_of_2 : FS := (sWhile 1000 (tAn (tV (eOp dNeA (eVar 4) (eLst aNil))) (tV (eOp dLt (eB dLen (aCons (eVar 5) aNil)) (eVar 3)))) b__law_some_of_1)
noncomputable def f__law_some_of_3 : FS := (sRet (eB dTuple (aCons (eB dSorted (aCons (eVar 5) aNil)) aNil)))
noncomputable def f__law_some_of : FS := sSeq f__law_some_of_1 (sSeq f__law_some_of_2 (f__law_some_of_3))
noncomputable def d__law_some_of : FD := runD 6 4 f__law_some_of
noncomputable def f__law_some_acts_1 : FS := (sAsg (eCall d__law_all_acts (aCons (eVar 2) aNil)) (gN 4))
noncomputable def f__law_some_acts_2 : FS := (sRet (eIf (tV (eOp dNeA (eVar 4) (eLst aNil))) (eCallI 1 d__law_some_of (aCons (eVar 0) (aCons (eVar 1) (aCons (eVar 4) (aCons (eCallI 1 d__law_draw (aCons (eVar 0) (aCons (eVar 1) (aCons (eOp dAdd (eVar 3) (eC (.int 1))) aNil)))) aNil))))) (eTup aNil)))
noncomputable def f__law_some_acts : FS := sSeq f__law_some_acts_1 (f__law_some_acts_2)
noncomputable def d__law_some_acts : FD := runD 5 4 f__law_some_acts
noncomputable def f_check_acts : FS := (sIf (tNo (tV (eCall d_are_acts (aCons (eVar 0) (aCons (eVar 1) aNil))))) (sRz "InvalidActs") sNx)
noncomputable def d_check_acts : FD := runD 2 2 f_check_acts
noncomputable def f_numbers_under : FS := (sRet (eLc (fiR1 (aCons (eB dLen (aCons (eOp dIx (eVar 0) (eC (.int 1))) aNil)) aNil)) [2] (.one 2) (tV (eOp (dInA true) (eTup (aCons (eC (.str "off")) (aCons (eVar 2) aNil))) (eVar 1))) (eVar 2)))
noncomputable def d_numbers_under : FD := runD 3 2 f_numbers_under
noncomputable def f_rule_under_1 : FS := (sAsg (eOp dIx (eOp dIx (eVar 0) (eC (.int 1))) (eVar 2)) (gN 3))
noncomputable def f_rule_under_2 : FS := (sAsg (eLc (fiT (eVar 1)) [5] (.one 5) (tV (eOp dEqA (eSl (eVar 5) tNp (tPa (eC (.int 2)))) (eTup (aCons (eC (.str "most")) (aCons (eVar 2) aNil))))) (eOp dIx (eVar 5) (eC (.int 2)))) (gN 4))
noncomputable def f_rule_under_3 : FS := (sIf (tV (eOp dEqA (eB dLen (aCons (eVar 4) aNil)) (eC (.int 0)))) (sRet (eVar 3)) sNx)
noncomputable def f_rule_under_4 : FS := (sRet (eOp dAdd (eSl (eVar 3) tNp (tPa (eUn dNeg (eC (.int 1))))) (eTup (aCons (eB dMin1 (aCons (eVar 4) aNil)) aNil))))
noncomputable def f_rule_under : FS := sSeq f_rule_under_1 (sSeq f_rule_under_2 (sSeq f_rule_under_3 (f_rule_under_4)))
noncomputable def d_rule_under : FD := runD 6 3 f_rule_under
noncomputable def f_left_under_1 : FS := (sAsg (eCall d_numbers_under (aCons (eVar 0) (aCons (eVar 1) aNil))) (gN 2))
noncomputable def f_left_under_2 : FS := (sRet (eTup (aCons (eOp dIx (eVar 0) (eC (.int 0))) (aCons (eB dTuple (aCons (eLc (fiL false (eVar 2)) [3] (.one 3) tT (eCall d_rule_under (aCons (eVar 0) (aCons (eVar 1) (aCons (eVar 3) aNil))))) aNil)) aNil))))
noncomputable def f_left_under : FS := sSeq f_left_under_1 (f_left_under_2)
noncomputable def d_left_under : FD := runD 4 2 f_left_under
noncomputable def f_shop_under_1 : FS := (sDrop (eCall d_check_acts (aCons (eVar 0) (aCons (eVar 1) aNil))))
noncomputable def f_shop_under_2 : FS := (sRet (eCall d_left_under (aCons (eVar 0) (aCons (eVar 1) aNil))))
noncomputable def f_shop_under : FS := sSeq f_shop_under_1 (f_shop_under_2)
noncomputable def d_shop_under : FD := runD 2 2 f_shop_under
noncomputable def f_uses_under_1 : FS := (sAsg (eCall d_numbers_under (aCons (eVar 0) (aCons (eVar 1) aNil))) (gN 4))
noncomputable def f_uses_under_2 : FS := (sIf (tV (eOp (dInA true) (eVar 2) (eVar 4))) (sRet (eC (.int 0))) sNx)
noncomputable def f_uses_under_3 : FS := (sRet (eOp dIx (eCall d_uses_of (aCons (eCall d_left_under (aCons (eVar 0) (aCons (eVar 1) aNil))) (aCons (eVar 3) aNil))) (eMet kIdx (eVar 4) (aCons (eVar 2) aNil))))
noncomputable def f_uses_under : FS := sSeq f_uses_under_1 (sSeq f_uses_under_2 (f_uses_under_3))
noncomputable def d_uses_under : FD := runD 5 4 f_uses_under
noncomputable def f_touches_under_1 : FS := (sAsg (eCall d_uses_under (aCons (eVar 0) (aCons (eVar 1) (aCons (eOp dIx (eVar 2) (eC (.int 1))) (aCons (eVar 3) aNil))))) (gN 4))
noncomputable def f_touches_under_2 : FS := (sRet (eIf (tV (eOp dEqA (eOp dIx (eVar 2) (eC (.int 0))) (eC (.str "off")))) (eOp dGt (eVar 4) (eC (.int 0))) (eOp dGt (eVar 4) (eOp dIx (eVar 2) (eC (.int 2))))))
noncomputable def f_touches_under : FS := sSeq f_touches_under_1 (f_touches_under_2)
noncomputable def d_touches_under : FD := runD 5 4 f_touches_under
noncomputable def f_touches_1 : FS := (sDrop (eCall d_check_acts (aCons (eVar 0) (aCons (eVar 1) aNil))))
noncomputable def f_touches_2 : FS := (sIf (tNo (tV (eCall d_is_act (aCons (eVar 0) (aCons (eVar 2) aNil))))) (sRz "InvalidAct") sNx)
noncomputable def f_touches_3 : FS := (sDrop (eCall d_check_basket (aCons (eVar 0) (aCons (eVar 3) aNil))))
noncomputable def f_touches_4 : FS := (sRet (eCall d_touches_under (aCons (eVar 0) (aCons (eVar 1) (aCons (eVar 2) (aCons (eVar 3) aNil))))))
noncomputable def f_touches : FS := sSeq f_touches_1 (sSeq f_touches_2 (sSeq f_touches_3 (f_touches_4)))
noncomputable def d_touches : FD := runD 4 4 f_touches
end DL
namespace DL
open PySem PySem.Spec L2
def isBetween (v : D) (lo hi : Int) : Bool := match v with
  | .int i => decide (lo ≤ i) && decide (i ≤ hi)
  | _ => false
def isInt : D → Bool
  | .int _ => true
  | _ => false
theorem r_is_integer (v : D) : d_is_integer [.im v] = .ok (.im (.bl (isInt v))) [.no] := by
  cases v <;> simp [d_is_integer, f_is_integer, isInt, sEr, op2, op1, T.val, R.opt, toB, opL, vals, consT, disp, mvs, mkTup, callT, callI, argE, others, isAl, isAli, finT, outE, padE, runD, cpsOf, cpT, toI, slT, T.weak, metT, kApp, kExt, elemD, iT, iL, iR1, iR2, iE, iZ, onI]
theorem r_is_between (v : D) (lo hi : Int) : d_is_between [.im v, .im (.int lo), .im (.int hi)] = .ok (.im (.bl (isBetween v lo hi))) [.no, .no, .no] := by
  cases v <;> simp [d_is_between, f_is_between, isBetween, r_is_integer, isInt, sEr, op2, op1, T.val, R.opt, toB, opL, vals, consT, disp, mvs, mkTup, callT, callI, argE, others, isAl, isAli, finT, outE, padE, runD, cpsOf, cpT, toI, slT, T.weak, metT, kApp, kExt, elemD, iT, iL, iR1, iR2, iE, iZ, onI]
def isTupleOf (v : D) (n : Int) : Bool := match v with
  | .tup ds => (ds.length : Int) == n
  | _ => false
theorem r_is_tuple_of (v : D) (n : Int) : d_is_tuple_of [.im v, .im (.int n)] = .ok (.im (.bl (isTupleOf v n))) [.no, .no] := by
  cases v <;> simp [d_is_tuple_of, f_is_tuple_of, isTupleOf, sEr, op2, op1, T.val, R.opt, toB, opL, vals, consT, disp, mvs, mkTup, callT, callI, argE, others, isAl, isAli, finT, outE, padE, runD, cpsOf, cpT, toI, slT, T.weak, metT, kApp, kExt, elemD, iT, iL, iR1, iR2, iE, iZ, onI]
def isMost (v : D) : Bool := match v with
  | .non => true
  | v => isBetween v 1 2
theorem r_is_most (v : D) : d_is_most [.im v] = .ok (.im (.bl (isMost v))) [.no] := by
  cases v <;> simp [d_is_most, f_is_most, isMost, r_is_between, sEr, op2, op1, T.val, R.opt, toB, opL, vals, consT, disp, mvs, mkTup, callT, callI, argE, others, isAl, isAli, finT, outE, padE, runD, cpsOf, cpT, toI, slT, T.weak, metT, kApp, kExt, elemD, iT, iL, iR1, iR2, iE, iZ, onI]
def isGood (v : D) : Bool := match v with
  | .tup [p, c] => isBetween p 1 9 && isBetween c 0 9
  | _ => false
theorem r_is_good (v : D) : d_is_good [.im v] = .ok (.im (.bl (isGood v))) [.no] := by
  by_cases h : isTupleOf v 2 = true
  · obtain ⟨a, b, rfl⟩ : ∃ a b, v = .tup [a, b] := by
      cases v <;> simp [isTupleOf] at h
      rename_i ds
      match ds, h with
      | [a, b], _ => exact ⟨a, b, rfl⟩
    simp [d_is_good, f_is_good, isGood, r_is_tuple_of, r_is_between, h, sEr, op2, op1, T.val, R.opt, toB, opL, vals, consT, disp, mvs, mkTup, callT, callI, argE, others, isAl, isAli, finT, outE, padE, runD, cpsOf, cpT, toI, slT, T.weak, metT, kApp, kExt, elemD, iT, iL, iR1, iR2, iE, iZ, onI]
  · have e : isGood v = false := by
      unfold isGood
      split
      · simp [isTupleOf] at h
      · rfl
    simp [d_is_good, f_is_good, e, r_is_tuple_of, h, sEr, op2, op1, T.val, R.opt, toB, opL, vals, consT, disp, mvs, mkTup, callT, callI, argE, others, isAl, isAli, finT, outE, padE, runD, cpsOf, cpT, toI, slT, T.weak, metT, kApp, kExt, elemD, iT, iL, iR1, iR2, iE, iZ, onI]
theorem isBt_int {v : D} {a b : Int} (h : isBetween v a b = true) : ∃ i, v = .int i := by
  cases v <;> first | exact ⟨_, rfl⟩ | exact (Bool.false_ne_true h).elim
theorem isTup_get {v : D} {n : Int} (h : isTupleOf v n = true) : ∃ ds, v = .tup ds ∧ (ds.length : Int) = n := by
  cases v <;> simp [isTupleOf] at h
  exact ⟨_, rfl, h⟩
def isPack (v : D) (n : Int) : Bool := match v with
  | .tup [_, .int g, .int s, p, m] => isBetween (.int g) 0 (n - 1) && (isBetween (.int s) 2 3 && (isBetween p s 30 && isMost m))
  | _ => false
theorem r_is_pack (v : D) (n : Int) : d_is_pack [.im v, .im (.int n)] = .ok (.im (.bl (isPack v n))) [.no, .no] := by
  by_cases h : isTupleOf v 5 = true
  · obtain ⟨ds, rfl, hl⟩ := isTup_get h
    match ds, hl with
    | [a, g, s, p, m], _ =>
      by_cases hg : isBetween g 0 (n - 1) = true
      · by_cases hs : isBetween s 2 3 = true
        · obtain ⟨g, rfl⟩ := isBt_int hg
          obtain ⟨s, rfl⟩ := isBt_int hs
          simp [d_is_pack, f_is_pack, isPack, r_is_tuple_of, r_is_between, r_is_most, h, sEr, op2, op1, T.val, R.opt, toB, opL, vals, consT, disp, mvs, mkTup, callT, callI, argE, others, isAl, isAli, finT, outE, padE, runD, cpsOf, cpT, toI, slT, T.weak, metT, kApp, kExt, elemD, iT, iL, iR1, iR2, iE, iZ, onI]
        · have e : isPack (.tup [a, g, s, p, m]) n = false := by
            unfold isPack
            split
            · rename_i z; cases z; simp [hs]
            · rfl
          simp [d_is_pack, f_is_pack, e, r_is_tuple_of, r_is_between, r_is_most, h, hs, sEr, op2, op1, T.val, R.opt, toB, opL, vals, consT, disp, mvs, mkTup, callT, callI, argE, others, isAl, isAli, finT, outE, padE, runD, cpsOf, cpT, toI, slT, T.weak, metT, kApp, kExt, elemD, iT, iL, iR1, iR2, iE, iZ, onI]
      · have e : isPack (.tup [a, g, s, p, m]) n = false := by
          unfold isPack
          split
          · rename_i z; cases z; simp [hg]
          · rfl
        simp [d_is_pack, f_is_pack, e, r_is_tuple_of, r_is_between, r_is_most, h, hg, sEr, op2, op1, T.val, R.opt, toB, opL, vals, consT, disp, mvs, mkTup, callT, callI, argE, others, isAl, isAli, finT, outE, padE, runD, cpsOf, cpT, toI, slT, T.weak, metT, kApp, kExt, elemD, iT, iL, iR1, iR2, iE, iZ, onI]
  · have e : isPack v n = false := by
      unfold isPack
      split
      · simp [isTupleOf] at h
      · rfl
    simp [d_is_pack, f_is_pack, e, r_is_tuple_of, h, sEr, op2, op1, T.val, R.opt, toB, opL, vals, consT, disp, mvs, mkTup, callT, callI, argE, others, isAl, isAli, finT, outE, padE, runD, cpsOf, cpT, toI, slT, T.weak, metT, kApp, kExt, elemD, iT, iL, iR1, iR2, iE, iZ, onI]
def isFrom (v : D) (n : Int) : Bool := match v with
  | .tup [_, g, l, p] => isBetween g 0 (n - 1) && (isBetween l 2 4 && isBetween p 1 9)
  | _ => false
theorem r_is_from (v : D) (n : Int) : d_is_from [.im v, .im (.int n)] = .ok (.im (.bl (isFrom v n))) [.no, .no] := by
  by_cases h : isTupleOf v 4 = true
  · obtain ⟨ds, rfl, hl⟩ := isTup_get h
    match ds, hl with
    | [a, g, s, p], _ => simp [d_is_from, f_is_from, isFrom, r_is_tuple_of, r_is_between, h, sEr, op2, op1, T.val, R.opt, toB, opL, vals, consT, disp, mvs, mkTup, callT, callI, argE, others, isAl, isAli, finT, outE, padE, runD, cpsOf, cpT, toI, slT, T.weak, metT, kApp, kExt, elemD, iT, iL, iR1, iR2, iE, iZ, onI]
  · have e : isFrom v n = false := by
      unfold isFrom
      split
      · simp [isTupleOf] at h
      · rfl
    simp [d_is_from, f_is_from, e, r_is_tuple_of, h, sEr, op2, op1, T.val, R.opt, toB, opL, vals, consT, disp, mvs, mkTup, callT, callI, argE, others, isAl, isAli, finT, outE, padE, runD, cpsOf, cpT, toI, slT, T.weak, metT, kApp, kExt, elemD, iT, iL, iR1, iR2, iE, iZ, onI]
def isOver (v : D) : Bool := match v with
  | .tup [_, .int f, o] => isBetween (.int f) 2 12 && isBetween o 1 (if f < 6 then f else 6)
  | _ => false
theorem r_is_over (v : D) : d_is_over [.im v] = .ok (.im (.bl (isOver v))) [.no] := by
  by_cases h : isTupleOf v 3 = true
  · obtain ⟨ds, rfl, hl⟩ := isTup_get h
    match ds, hl with
    | [a, f, o], _ =>
      by_cases hf : isBetween f 2 12 = true
      · obtain ⟨f, rfl⟩ := isBt_int hf
        simp [d_is_over, f_is_over, isOver, r_is_tuple_of, r_is_between, h, dMin2, sEr, op2, op1, T.val, R.opt, toB, opL, vals, consT, disp, mvs, mkTup, callT, callI, argE, others, isAl, isAli, finT, outE, padE, runD, cpsOf, cpT, toI, slT, T.weak, metT, kApp, kExt, elemD, iT, iL, iR1, iR2, iE, iZ, onI]
      · have e : isOver (.tup [a, f, o]) = false := by
          unfold isOver
          split
          · rename_i z; cases z; simp [hf]
          · rfl
        simp [d_is_over, f_is_over, e, r_is_tuple_of, r_is_between, h, hf, sEr, op2, op1, T.val, R.opt, toB, opL, vals, consT, disp, mvs, mkTup, callT, callI, argE, others, isAl, isAli, finT, outE, padE, runD, cpsOf, cpT, toI, slT, T.weak, metT, kApp, kExt, elemD, iT, iL, iR1, iR2, iE, iZ, onI]
  · have e : isOver v = false := by
      unfold isOver
      split
      · simp [isTupleOf] at h
      · rfl
    simp [d_is_over, f_is_over, e, r_is_tuple_of, h, sEr, op2, op1, T.val, R.opt, toB, opL, vals, consT, disp, mvs, mkTup, callT, callI, argE, others, isAl, isAli, finT, outE, padE, runD, cpsOf, cpT, toI, slT, T.weak, metT, kApp, kExt, elemD, iT, iL, iR1, iR2, iE, iZ, onI]
def isNon : D → Bool
  | .non => true
  | _ => false
def isEach (v : D) : Bool := match v with
  | .tup [_, .int f, .int o, m] => isBetween (.int f) 2 6 && (isBetween (.int o) 1 f && (isMost m && (!isNon m || decide (2 * o ≤ f))))
  | _ => false
theorem dNis_non (m : D) : dNis m .non = some (.im (.bl (!isNon m))) := by cases m <;> rfl
theorem dIs_non (m : D) : dIs m .non = some (.im (.bl (isNon m))) := by cases m <;> rfl
theorem r_is_each (v : D) : d_is_each [.im v] = .ok (.im (.bl (isEach v))) [.no] := by
  by_cases h : isTupleOf v 4 = true
  · obtain ⟨ds, rfl, hl⟩ := isTup_get h
    match ds, hl with
    | [a, f, o, m], _ =>
      by_cases hf : isBetween f 2 6 = true
      · obtain ⟨f, rfl⟩ := isBt_int hf
        by_cases ho : isBetween o 1 f = true
        · obtain ⟨o, rfl⟩ := isBt_int ho
          have q : (-(2 ^ 64) < (2 : Int) ∧ (2 : Int) < 2 ^ 64) ∨ (-(2 ^ 64) < o ∧ o < 2 ^ 64) := .inl (by decide)
          simp [d_is_each, f_is_each, isEach, r_is_tuple_of, r_is_between, r_is_most, h, hf, ho, dNis_non, dMulA, sEr, op2, op1, T.val, R.opt, toB, opL, vals, consT, disp, mvs, mkTup, callT, callI, argE, others, isAl, isAli, finT, outE, padE, runD, cpsOf, cpT, toI, slT, T.weak, metT, kApp, kExt, elemD, iT, iL, iR1, iR2, iE, iZ, onI, -dNis]
        · have e : isEach (.tup [a, .int f, o, m]) = false := by
            unfold isEach
            split
            · rename_i z; cases z; simp [ho]
            · rfl
          simp [d_is_each, f_is_each, e, r_is_tuple_of, r_is_between, h, ho, hf, sEr, op2, op1, T.val, R.opt, toB, opL, vals, consT, disp, mvs, mkTup, callT, callI, argE, others, isAl, isAli, finT, outE, padE, runD, cpsOf, cpT, toI, slT, T.weak, metT, kApp, kExt, elemD, iT, iL, iR1, iR2, iE, iZ, onI]
      · have e : isEach (.tup [a, f, o, m]) = false := by
          unfold isEach
          split
          · rename_i z; cases z; simp [hf]
          · rfl
        simp [d_is_each, f_is_each, e, r_is_tuple_of, r_is_between, h, hf, sEr, op2, op1, T.val, R.opt, toB, opL, vals, consT, disp, mvs, mkTup, callT, callI, argE, others, isAl, isAli, finT, outE, padE, runD, cpsOf, cpT, toI, slT, T.weak, metT, kApp, kExt, elemD, iT, iL, iR1, iR2, iE, iZ, onI]
  · have e : isEach v = false := by
      unfold isEach
      split
      · simp [isTupleOf] at h
      · rfl
    simp [d_is_each, f_is_each, e, r_is_tuple_of, h, sEr, op2, op1, T.val, R.opt, toB, opL, vals, consT, disp, mvs, mkTup, callT, callI, argE, others, isAl, isAli, finT, outE, padE, runD, cpsOf, cpT, toI, slT, T.weak, metT, kApp, kExt, elemD, iT, iL, iR1, iR2, iE, iZ, onI]
def isRule (v : D) (n : Int) : Bool := match v with
  | .tup (.str x :: ds) => bif x == "pack" then isPack v n else bif x == "from" then isFrom v n else bif x == "over" then isOver v else (x == "each" && isEach v)
  | _ => false
theorem r_is_rule (v : D) (n : Int) : d_is_rule [.im v, .im (.int n)] = .ok (.im (.bl (isRule v n))) [.no, .no] := by
  have q : ∀ k : Nat, ((k : Int) + 1 == 0) = false := fun k => by simp; omega
  rcases v with _ | _ | _ | _ | ds | _ | _ <;> try (simp [d_is_rule, f_is_rule, isRule, sEr, op2, op1, T.val, R.opt, toB, opL, vals, consT, disp, mvs, mkTup, callT, callI, argE, others, isAl, isAli, finT, outE, padE, runD, cpsOf, cpT, toI, slT, T.weak, metT, kApp, kExt, elemD, iT, iL, iR1, iR2, iE, iZ, onI]; done)
  cases ds with
  | nil => simp [d_is_rule, f_is_rule, isRule, sEr, op2, op1, T.val, R.opt, toB, opL, vals, consT, disp, mvs, mkTup, callT, callI, argE, others, isAl, isAli, finT, outE, padE, runD, cpsOf, cpT, toI, slT, T.weak, metT, kApp, kExt, elemD, iT, iL, iR1, iR2, iE, iZ, onI]
  | cons w ds =>
    cases w <;> simp [d_is_rule, f_is_rule, isRule, dIx, atI, ixN, q, r_is_pack, r_is_from, r_is_over, r_is_each, sEr, op2, op1, T.val, R.opt, toB, opL, vals, consT, disp, mvs, mkTup, callT, callI, argE, others, isAl, isAli, finT, outE, padE, runD, cpsOf, cpT, toI, slT, T.weak, metT, kApp, kExt, elemD, iT, iL, iR1, iR2, iE, iZ, onI]

end DL
namespace DL
open PySem PySem.Spec L2
def isEndless (v : D) : Bool := match v with
  | .tup [.str x, _, _, m] => x == "each" && isNon m
  | _ => false
theorem rule_word {v : D} {n : Int} (h : isRule v n = true) : ∃ x ds, v = .tup (.str x :: ds) := by
  unfold isRule at h
  split at h
  · exact ⟨_, _, rfl⟩
  · cases h
theorem each_form {ds : List D} (h : isEach (.tup ds) = true) : ∃ a b c m, ds = [a, b, c, m] := by
  unfold isEach at h
  split at h
  · rename_i z; cases z; exact ⟨_, _, _, _, rfl⟩
  · cases h
theorem rule_each {x : Str} {ds : List D} {n : Int} (h : isRule (.tup (.str x :: ds)) n = true) (e : x = "each") : ∃ b c m, ds = [b, c, m] := by
  subst e
  have h : isEach (.tup (.str "each" :: ds)) = true := h
  obtain ⟨a, b, c, m, e⟩ := each_form h
  cases e
  exact ⟨b, c, m, rfl⟩
theorem r_endless {v : D} {n : Int} (h : isRule v n = true) : d_is_endless_each [.im v] = .ok (.im (.bl (isEndless v))) [.no] := by
  obtain ⟨x, ds, rfl⟩ := rule_word h
  have q : ∀ k : Nat, (0 : Int) < (k : Int) + 1 := fun k => by omega
  by_cases e : x = "each"
  · obtain ⟨b, c, m, rfl⟩ := rule_each h e
    subst e
    simp [d_is_endless_each, f_is_endless_each, isEndless, dIx, atI, ixN, dIs_non, sEr, op2, op1, T.val, R.opt, toB, opL, vals, consT, disp, mvs, mkTup, callT, callI, argE, others, isAl, isAli, finT, outE, padE, runD, cpsOf, cpT, toI, slT, T.weak, metT, kApp, kExt, elemD, iT, iL, iR1, iR2, iE, iZ, onI, -dIs]
  · have e' : (x == "each") = false := by simpa using e
    have e2 : isEndless (.tup (.str x :: ds)) = false := by
      unfold isEndless
      split
      · rename_i z; cases z; simp [e']
      · rfl
    simp [d_is_endless_each, f_is_endless_each, e2, e', dIx, atI, ixN, q, sEr, op2, op1, T.val, R.opt, toB, opL, vals, consT, disp, mvs, mkTup, callT, callI, argE, others, isAl, isAli, finT, outE, padE, runD, cpsOf, cpT, toI, slT, T.weak, metT, kApp, kExt, elemD, iT, iL, iR1, iR2, iE, iZ, onI, -dIs]
def areGoods (v : D) : Bool := match v with
  | .tup ds => (decide (1 ≤ ds.length) && decide (ds.length ≤ 2)) && ds.all isGood
  | _ => false
theorem small_size {n : Nat} (h : n ≤ 1000) : n ≤ sizeLine := Nat.le_trans h (by decide)
theorem l_goods (ds : List D) (h : ds.length ≤ 1000) : eLc (fiT (eVar 0)) [1] (.one 1) tT (eCall d_is_good (aCons (eVar 1) aNil)) [.im (.tup ds), .no] = .ok (.fr (ds.map fun d => .bl (isGood d))) [.im (.tup ds), .no] := by
  have := lc_map (k := ⟨ds, none⟩) (vs := [1]) (t := .one 1) (fe := eCall d_is_good (aCons (eVar 1) aNil)) (h := fun d => .bl (isGood d)) (env := [.im (.tup ds), .no]) trivial ds [] (small_size (by simpa using h)) fun d _ =>
    ⟨_, _, _, rfl, by simp [r_is_good, sEr, op2, op1, T.val, R.opt, toB, opL, vals, consT, disp, mvs, mkTup, callT, callI, argE, others, isAl, isAli, finT, outE, padE, runD, cpsOf, cpT, toI, slT, T.weak, metT, kApp, kExt, elemD, iT, iL, iR1, iR2, iE, iZ, onI]; exact ⟨rfl, rfl⟩, rfl, rfl⟩
  rw [eLc_s]
  simp [wipeE, this, sEr, op2, op1, T.val, R.opt, toB, opL, vals, consT, disp, mvs, mkTup, callT, callI, argE, others, isAl, isAli, finT, outE, padE, runD, cpsOf, cpT, toI, slT, T.weak, metT, kApp, kExt, elemD, iT, iL, iR1, iR2, iE, iZ, onI]
theorem r_are_goods (v : D) : d_are_goods [.im v] = .ok (.im (.bl (areGoods v))) [.no] := by
  rcases v with _ | _ | _ | _ | ds | _ | _ <;> try (simp [d_are_goods, f_are_goods, areGoods, sEr, op2, op1, T.val, R.opt, toB, opL, vals, consT, disp, mvs, mkTup, callT, callI, argE, others, isAl, isAli, finT, outE, padE, runD, cpsOf, cpT, toI, slT, T.weak, metT, kApp, kExt, elemD, iT, iL, iR1, iR2, iE, iZ, onI]; done)
  by_cases h : 1 ≤ ds.length ∧ ds.length ≤ 2
  · have h1 : (1 : Int) ≤ ds.length := by omega
    have h2 : (ds.length : Int) ≤ 2 := by omega
    simp [d_are_goods, f_are_goods, areGoods, h, h1, h2, l_goods ds (by omega), sEr, op2, op1, T.val, R.opt, toB, opL, vals, consT, disp, mvs, mkTup, callT, callI, argE, others, isAl, isAli, finT, outE, padE, runD, cpsOf, cpT, toI, slT, T.weak, metT, kApp, kExt, elemD, iT, iL, iR1, iR2, iE, iZ, onI]
  · have e : (decide (1 ≤ ds.length) && decide (ds.length ≤ 2)) = false := by simpa using h
    have e2 : (!decide ((1 : Int) ≤ ds.length) || !decide ((ds.length : Int) ≤ 2)) = true := by simp; omega
    simp [d_are_goods, f_are_goods, areGoods, e, e2, sEr, op2, op1, T.val, R.opt, toB, opL, vals, consT, disp, mvs, mkTup, callT, callI, argE, others, isAl, isAli, finT, outE, padE, runD, cpsOf, cpT, toI, slT, T.weak, metT, kApp, kExt, elemD, iT, iL, iR1, iR2, iE, iZ, onI]
def rulesOk (ds : List D) (n : Int) : Bool := ds.all fun d => isRule d n
def areRules (v : D) (n : Int) : Bool := match v with
  | .tup ds => (decide (ds.length ≤ 4) && rulesOk ds n) && decide ((ds.filter isEndless).length ≤ 1)
  | _ => false
theorem l_rules1 (ds : List D) (n : Int) (h : ds.length ≤ 1000) : eLc (fiT (eVar 0)) [2] (.one 2) tT (eCall d_is_rule (aCons (eVar 2) (aCons (eVar 1) aNil))) [.im (.tup ds), .im (.int n), .no] = .ok (.fr (ds.map fun d => .bl (isRule d n))) [.im (.tup ds), .im (.int n), .no] := by
  have := lc_map (k := ⟨ds, none⟩) (vs := [2]) (t := .one 2) (fe := eCall d_is_rule (aCons (eVar 2) (aCons (eVar 1) aNil))) (h := fun d => .bl (isRule d n)) (env := [.im (.tup ds), .im (.int n), .no]) trivial ds [] (small_size (by simpa using h)) fun d _ =>
    ⟨_, _, _, rfl, by simp [r_is_rule, sEr, op2, op1, T.val, R.opt, toB, opL, vals, consT, disp, mvs, mkTup, callT, callI, argE, others, isAl, isAli, finT, outE, padE, runD, cpsOf, cpT, toI, slT, T.weak, metT, kApp, kExt, elemD, iT, iL, iR1, iR2, iE, iZ, onI]; exact ⟨rfl, rfl⟩, rfl, rfl⟩
  rw [eLc_s]
  simp [wipeE, this, sEr, op2, op1, T.val, R.opt, toB, opL, vals, consT, disp, mvs, mkTup, callT, callI, argE, others, isAl, isAli, finT, outE, padE, runD, cpsOf, cpT, toI, slT, T.weak, metT, kApp, kExt, elemD, iT, iL, iR1, iR2, iE, iZ, onI]
theorem l_rules2 (ds : List D) (n : Int) (h : ds.length ≤ 1000) (hr : rulesOk ds n = true) : eLc (fiT (eVar 0)) [2] (.one 2) (tV (eCall d_is_endless_each (aCons (eVar 2) aNil))) (eVar 2) [.im (.tup ds), .im (.int n), .no] = .ok (.fr (ds.filter isEndless)) [.im (.tup ds), .im (.int n), .no] := by
  have hr : ∀ d ∈ ds, isRule d n = true := by simpa [rulesOk] using hr
  have := lc_filter (k := ⟨ds, none⟩) (vs := [2]) (t := .one 2) (ft := tV (eCall d_is_endless_each (aCons (eVar 2) aNil))) (fe := eVar 2) (p := isEndless) (h := id) (env := [.im (.tup ds), .im (.int n), .no]) trivial ds [] (small_size (by simpa using h)) fun d z =>
    ⟨_, _, rfl, by simp [r_endless (hr d z), sEr, op2, op1, T.val, R.opt, toB, opL, vals, consT, disp, mvs, mkTup, callT, callI, argE, others, isAl, isAli, finT, outE, padE, runD, cpsOf, cpT, toI, slT, T.weak, metT, kApp, kExt, elemD, iT, iL, iR1, iR2, iE, iZ, onI]; exact rfl, rfl, fun _ => ⟨_, _, rfl, rfl, rfl⟩⟩
  rw [eLc_s]
  simp [wipeE, this, sEr, op2, op1, T.val, R.opt, toB, opL, vals, consT, disp, mvs, mkTup, callT, callI, argE, others, isAl, isAli, finT, outE, padE, runD, cpsOf, cpT, toI, slT, T.weak, metT, kApp, kExt, elemD, iT, iL, iR1, iR2, iE, iZ, onI]
theorem r_are_rules (v : D) (n : Int) : d_are_rules [.im v, .im (.int n)] = .ok (.im (.bl (areRules v n))) [.no, .no] := by
  rcases v with _ | _ | _ | _ | ds | _ | _ <;> try (simp [d_are_rules, f_are_rules, areRules, sEr, op2, op1, T.val, R.opt, toB, opL, vals, consT, disp, mvs, mkTup, callT, callI, argE, others, isAl, isAli, finT, outE, padE, runD, cpsOf, cpT, toI, slT, T.weak, metT, kApp, kExt, elemD, iT, iL, iR1, iR2, iE, iZ, onI]; done)
  by_cases h : ds.length ≤ 4
  · have h1 : ¬ (4 : Int) < ds.length := by omega
    by_cases hr : rulesOk ds n = true
    · have hr' : (ds.all fun d => isRule d n) = true := hr
      have e2 : decide (((ds.filter isEndless).length : Int) ≤ 1) = decide ((ds.filter isEndless).length ≤ 1) := by
        rw [Bool.eq_iff_iff]; simp; omega
      simp [d_are_rules, f_are_rules, areRules, h, h1, hr', hr, l_rules1 ds n (by omega), l_rules2 ds n (by omega) hr, e2, sEr, op2, op1, T.val, R.opt, toB, opL, vals, consT, disp, mvs, mkTup, callT, callI, argE, others, isAl, isAli, finT, outE, padE, runD, cpsOf, cpT, toI, slT, T.weak, metT, kApp, kExt, elemD, iT, iL, iR1, iR2, iE, iZ, onI]
    · have hr' : (ds.all fun d => isRule d n) = false := by simpa [rulesOk] using hr
      simp [d_are_rules, f_are_rules, areRules, h, h1, hr', hr, l_rules1 ds n (by omega), sEr, op2, op1, T.val, R.opt, toB, opL, vals, consT, disp, mvs, mkTup, callT, callI, argE, others, isAl, isAli, finT, outE, padE, runD, cpsOf, cpT, toI, slT, T.weak, metT, kApp, kExt, elemD, iT, iL, iR1, iR2, iE, iZ, onI]
  · have h1 : (4 : Int) < ds.length := by omega
    simp [d_are_rules, f_are_rules, areRules, h, h1, sEr, op2, op1, T.val, R.opt, toB, opL, vals, consT, disp, mvs, mkTup, callT, callI, argE, others, isAl, isAli, finT, outE, padE, runD, cpsOf, cpT, toI, slT, T.weak, metT, kApp, kExt, elemD, iT, iL, iR1, iR2, iE, iZ, onI]
def isShop (v : D) : Bool := match v with
  | .tup [.tup gs, rs] => areGoods (.tup gs) && areRules rs gs.length
  | _ => false
theorem goods_tup {v : D} (h : areGoods v = true) : ∃ gs, v = .tup gs := by
  cases v <;> first | exact ⟨_, rfl⟩ | exact (Bool.false_ne_true h).elim
theorem r_is_shop (v : D) : d_is_shop [.im v] = .ok (.im (.bl (isShop v))) [.no] := by
  by_cases h : isTupleOf v 2 = true
  · obtain ⟨ds, rfl, hl⟩ := isTup_get h
    match ds, hl with
    | [g, r], _ =>
      by_cases hg : areGoods g = true
      · obtain ⟨gs, rfl⟩ := goods_tup hg
        simp [d_is_shop, f_is_shop, isShop, r_is_tuple_of, r_are_goods, r_are_rules, h, hg, sEr, op2, op1, T.val, R.opt, toB, opL, vals, consT, disp, mvs, mkTup, callT, callI, argE, others, isAl, isAli, finT, outE, padE, runD, cpsOf, cpT, toI, slT, T.weak, metT, kApp, kExt, elemD, iT, iL, iR1, iR2, iE, iZ, onI]
      · have e : isShop (.tup [g, r]) = false := by
          unfold isShop
          split
          · rename_i z; cases z; simp [hg]
          · rfl
        simp [d_is_shop, f_is_shop, e, r_is_tuple_of, r_are_goods, h, hg, sEr, op2, op1, T.val, R.opt, toB, opL, vals, consT, disp, mvs, mkTup, callT, callI, argE, others, isAl, isAli, finT, outE, padE, runD, cpsOf, cpT, toI, slT, T.weak, metT, kApp, kExt, elemD, iT, iL, iR1, iR2, iE, iZ, onI]
  · have e : isShop v = false := by
      unfold isShop
      split
      · simp [isTupleOf] at h
      · rfl
    simp [d_is_shop, f_is_shop, e, r_is_tuple_of, h, sEr, op2, op1, T.val, R.opt, toB, opL, vals, consT, disp, mvs, mkTup, callT, callI, argE, others, isAl, isAli, finT, outE, padE, runD, cpsOf, cpT, toI, slT, T.weak, metT, kApp, kExt, elemD, iT, iL, iR1, iR2, iE, iZ, onI]
theorem fin4 {p0 : En} {r : D} {m : Nat} {rest : En} {n p : Nat} {f : FS} (hp : p0.length = p) (h : f (padE n p0) = .rt (.im r) rest) (o : En) (ho : outE p0 rest = some o) : runD n p f p0 = .ok (.im r) o := by
  show (if p0.length = p then finF p0 (f (padE n p0)) else .er) = _
  rw [if_pos hp, h]
  show (match outE p0 rest with
    | some o => R.ok (T.im r) o
    | none => .er) = _
  rw [ho]
theorem sFor_of {fi : FI} {g : FG} {f : FS} {env e : En} {its : List D} {x : Fl} (h1 : fi env = .ok ⟨its, none⟩ e) (h2 : loopF g f its e = x) : sFor fi g f env = x := by
  rw [sFor_s, h1]
  exact h2

end DL
namespace DL
open PySem PySem.Spec L2
abbrev scr (ns : List Int) : Sl := .im (.fz (ns.map D.int))
theorem atI_ok {ds : List D} {i : Int} (h0 : 0 ≤ i) (h : i < ds.length) : ∃ d, atI ds i = some d ∧ ds[i.toNat]? = some d := by
  have hi : i.toNat < ds.length := by omega
  refine ⟨ds[i.toNat], ?_, List.getElem?_eq_getElem hi⟩
  unfold atI ixN
  simp [h0, h, hi]
theorem at_ints {ns : List Int} {i : Int} (h0 : 0 ≤ i) (h : i < ns.length) : ∃ z, atI (ns.map D.int) i = some (.int z) := by
  obtain ⟨d, e, q⟩ := atI_ok (ds := ns.map D.int) h0 (by simpa using h)
  rw [List.getElem?_map] at q
  obtain ⟨z, q1, q2⟩ := Option.map_eq_some_iff.mp q
  exact ⟨z, by rw [e, q2]⟩
theorem lays_ints : ∀ ns : List Int, lays (ns.map D.int) = true
  | [] => rfl
  | n :: ns => by rw [List.map_cons]; unfold lays; rw [lays_ints ns]; rfl
theorem deps_ints : ∀ ns : List Int, deps (ns.map D.int) = 0
  | [] => rfl
  | n :: ns => by rw [List.map_cons]; unfold deps; rw [deps_ints ns]; rfl
theorem shp_ints (ns : List Int) : shp (.fz (ns.map D.int)) = true := by
  rw [shp_eq, lay, dep, lays_ints, deps_ints]
  rfl
theorem eq_nil (ns : List Int) : dEqA (.fz (ns.map D.int)) (.lst []) = some (.im (.bl ns.isEmpty)) := by
  have e : shp (.lst []) = true := by rfl
  unfold dEqA dEqS dEq
  simp [shp_ints, e]
  cases ns <;> rfl
theorem r_cell (ns : List Int) (k : Int) (hl : ns.length ≤ 63) (hk : 0 ≤ k) : ∃ z, d__law_cell_at [scr ns, .im (.int k)] = .ok (.im (.int z)) [.no, .no] := by
  by_cases h : k < ns.length
  · obtain ⟨z, e⟩ := at_ints hk h
    exact ⟨z, by simp [d__law_cell_at, f__law_cell_at, scr, h, e, dIx, sEr, op2, op1, T.val, R.opt, toB, opL, vals, consT, disp, mvs, mkTup, callT, callI, argE, others, isAl, isAli, finT, outE, padE, runD, cpsOf, cpT, toI, slT, T.weak, metT, kApp, kExt, elemD, iT, iL, iR1, iR2, iE, iZ, onI]⟩
  · by_cases he : ns = []
    · subst he
      have e := eq_nil []
      refine ⟨0, ?_⟩
      have hk' : ¬ k < 0 := by omega
      simp at e
      simp [d__law_cell_at, f__law_cell_at, scr, hk', e, sEr, op2, op1, T.val, R.opt, toB, opL, vals, consT, disp, mvs, mkTup, callT, callI, argE, others, isAl, isAli, finT, outE, padE, runD, cpsOf, cpT, toI, slT, T.weak, metT, kApp, kExt, elemD, iT, iL, iR1, iR2, iE, iZ, onI]
    · have hp : 0 < ns.length := List.length_pos_iff.mpr he
      have hp' : (0 : Int) < ns.length := by omega
      have hp2 : (ns.length : Int) < 1073741824 := by omega
      obtain ⟨s, es⟩ := at_ints (ns := ns) (i := k % ns.length) (Int.emod_nonneg _ (by omega)) (Int.emod_lt_of_pos _ hp')
      have e := eq_nil ns
      have hne : ns.isEmpty = false := by cases ns <;> first | rfl | exact (he rfl).elim
      rw [hne] at e
      have hq : 0 ≤ k / ns.length := Int.ediv_nonneg hk (by omega)
      -- the loop
      obtain ⟨n, en⟩ : ∃ n : Int, n = if 60 < k / (ns.length : Int) then 60 else k / (ns.length : Int) := ⟨_, rfl⟩
      have hb : (-4611686018427387904 ≤ n) ∧ n < 4611686018427387904 := by
        rw [en]
        split <;> omega
      obtain ⟨e2, q1, s2, a2, q2⟩ := loop_all (g := gN 3) (f := sAsg (eOp dFdiv (eVar 2) (eC (.int 1000003))) (gN 2)) (ds := rngD 0 n) (env := [scr ns, .im (.int k), .im (.int s), .no]) (I := fun _ e => ∃ (s : Int) (a : Sl), e = [scr ns, .im (.int k), .im (.int s), a]) ⟨s, .no, rfl⟩ (by
        rintro i d _ hd ⟨s, a, rfl⟩
        exact ⟨_, [scr ns, .im (.int k), .im (.int (s / 1000003)), .im d], rfl, .inl (by simp [scr, sEr, op2, op1, T.val, R.opt, toB, opL, vals, consT, disp, mvs, mkTup, callT, callI, argE, others, isAl, isAli, finT, outE, padE, runD, cpsOf, cpT, toI, slT, T.weak, metT, kApp, kExt, elemD, iT, iL, iR1, iR2, iE, iZ, onI]), _, _, rfl⟩)
      subst q2
      have fl : sFor (fiR1 (aCons (eB dMin2 (aCons (eOp dFdiv (eVar 1) (eB dLen (aCons (eVar 0) aNil))) (aCons (eC (.int 60)) aNil))) aNil)) (gN 3) (sAsg (eOp dFdiv (eVar 2) (eC (.int 1000003))) (gN 2)) [scr ns, .im (.int k), .im (.int s), .no] = .nx [scr ns, .im (.int k), .im (.int s2), a2] := by
        rw [sFor_s]
        simp [scr, hp, hp', hp2, dMin2, sEr, op2, op1, T.val, R.opt, toB, opL, vals, consT, disp, mvs, mkTup, callT, callI, argE, others, isAl, isAli, finT, outE, padE, runD, cpsOf, cpT, toI, slT, T.weak, metT, kApp, kExt, elemD, iT, iL, iR1, iR2, iE, iZ, onI]
        rw [← en, if_pos hb]
        exact q1
      refine ⟨s * 31 + k + s2 * 101, ?_⟩
      simp [d__law_cell_at, f__law_cell_at, scr, h, e, es, dIx, hp, hp', fl, dMulA, sEr, op2, op1, T.val, R.opt, toB, opL, vals, consT, disp, mvs, mkTup, callT, callI, argE, others, isAl, isAli, finT, outE, padE, runD, cpsOf, cpT, toI, slT, T.weak, metT, kApp, kExt, elemD, iT, iL, iR1, iR2, iE, iZ, onI]

end DL
namespace DL
open PySem PySem.Spec L2
theorem r_mixed (ns : List Int) (k m : Int) (hl : ns.length ≤ 63) (hk : 0 ≤ k) (hm : 0 < m) : ∃ v, d__law_mixed [scr ns, .im (.int k), .im (.int m)] = .ok (.im (.int v)) [.no, .no, .no] ∧ 0 ≤ v ∧ v < m := by
  obtain ⟨z, e⟩ := r_cell ns k hl hk
  have b1 : 0 ≤ (z * 1103515245 + 7919 * k + 12345) % 2147483647 := Int.emod_nonneg _ (by decide)
  have b2 : (z * 1103515245 + 7919 * k + 12345) % 2147483647 < 2147483647 := Int.emod_lt_of_pos _ (by decide)
  obtain ⟨s, es⟩ : ∃ s, s = (z * 1103515245 + 7919 * k + 12345) % 2147483647 := ⟨_, rfl⟩
  rw [← es] at b1 b2
  have b3 : s.natAbs < 18446744073709551616 := by omega
  refine ⟨s ^ 5 % 2147483647 % 999983 % m, ?_, Int.emod_nonneg _ (by omega), Int.emod_lt_of_pos _ hm⟩
  unfold scr at e
  simp [d__law_mixed, f__law_mixed, scr, e, dMulA, hm, ← es, b3, sEr, op2, op1, T.val, R.opt, toB, opL, vals, consT, disp, mvs, mkTup, callT, callI, argE, others, isAl, isAli, finT, outE, padE, runD, cpsOf, cpT, toI, slT, T.weak, metT, kApp, kExt, elemD, iT, iL, iR1, iR2, iE, iZ, onI]
abbrev rep0 (n : Nat) : List D := List.replicate n (.int 0)
theorem rep0_app (n : Nat) : rep0 n ++ [.int 0] = rep0 (n + 1) := by
  unfold rep0
  rw [List.replicate_succ', ]
theorem r_draw (ns : List Int) (n : Nat) (m : Int) (hl : ns.length ≤ 63) (hn : n < 999999) (hm : 0 < m) : ∃ v, d__law_draw [scr ns, .own true (rep0 n), .im (.int m)] = .ok (.im (.int v)) [.no, .own true (rep0 (n + 1)), .no] ∧ 0 ≤ v ∧ v < m := by
  obtain ⟨v, e, h⟩ := r_mixed ns (n + 1 : Nat) m hl (by omega) hm
  refine ⟨v, ?_, h⟩
  have hn' : n < 1000000 := by omega
  unfold scr at e
  have a := rep0_app n
  unfold rep0 at a
  simp at e
  simp [d__law_draw, f__law_draw, scr, rep0, a, hn', e, sEr, op2, op1, T.val, R.opt, toB, opL, vals, consT, disp, mvs, mkTup, callT, callI, argE, others, isAl, isAli, finT, outE, padE, runD, cpsOf, cpT, toI, slT, T.weak, metT, kApp, kExt, elemD, iT, iL, iR1, iR2, iE, iZ, onI]
theorem r_pick (ns : List Int) (n : Nat) (d : D) (ds : List D) (hd : d = .lst ds ∨ d = .tup ds) (hl : ns.length ≤ 63) (hn : n < 999999) (h0 : 0 < ds.length) : ∃ x ∈ ds, d__law_pick [scr ns, .own true (rep0 n), .im d] = .ok (.im x) [.no, .own true (rep0 (n + 1)), .no] := by
  obtain ⟨v, e, h1, h2⟩ := r_draw ns n ds.length hl hn (by omega)
  obtain ⟨x, e1, e2⟩ := atI_ok h1 h2
  refine ⟨x, List.mem_of_getElem? e2, ?_⟩
  unfold scr rep0 at e
  rcases hd with rfl | rfl <;> simp [d__law_pick, f__law_pick, scr, rep0, e, dIx, e1, sEr, op2, op1, T.val, R.opt, toB, opL, vals, consT, disp, mvs, mkTup, callT, callI, argE, others, isAl, isAli, finT, outE, padE, runD, cpsOf, cpT, toI, slT, T.weak, metT, kApp, kExt, elemD, iT, iL, iR1, iR2, iE, iZ, onI]

end DL
namespace DL
open PySem PySem.Spec L2
structure GoodGs (gs : List D) : Prop where
  len : 1 ≤ gs.length ∧ gs.length ≤ 2
  all : ∀ g ∈ gs, ∃ p c : Int, g = .tup [.int p, .int c] ∧ (3 ≤ p ∧ p ≤ 9) ∧ (0 ≤ c ∧ c ≤ 7)
abbrev Er (ns : List Int) (n : Nat) (gs : List D) (cap : Bool) (a b c d e f g : Sl) : En := [scr ns, .own true (rep0 n), .im (.tup gs), .im (.bl cap), a, b, c, d, e, f, g]
theorem isPack_of {g s p n : Int} {m : D} (h1 : 0 ≤ g ∧ g < n) (h2 : 2 ≤ s ∧ s ≤ 3) (h3 : s ≤ p ∧ p ≤ 30) (h4 : isMost m = true) : isRule (.tup [.str "pack", .int g, .int s, .int p, m]) n = true := by
  show isPack (.tup [.str "pack", .int g, .int s, .int p, m]) n = true
  simp [isPack, isBetween, h4, h1.1, h2, h3]
  omega
theorem isFrom_of {g s p n : Int} (h1 : 0 ≤ g ∧ g < n) (h2 : 2 ≤ s ∧ s ≤ 4) (h3 : 1 ≤ p ∧ p ≤ 9) : isRule (.tup [.str "from", .int g, .int s, .int p]) n = true := by
  show isFrom (.tup [.str "from", .int g, .int s, .int p]) n = true
  simp [isFrom, isBetween, h1.1, h2, h3]
  omega
theorem isOver_of {f o n : Int} (h1 : 2 ≤ f ∧ f ≤ 12) (h2 : 1 ≤ o ∧ o ≤ 6) (h3 : o ≤ f) : isRule (.tup [.str "over", .int f, .int o]) n = true := by
  show isOver (.tup [.str "over", .int f, .int o]) = true
  simp [isOver, isBetween, h1, h2.1]
  split <;> omega
theorem isEach_of {f o n : Int} {m : D} (h1 : 2 ≤ f ∧ f ≤ 6) (h2 : 1 ≤ o) (h3 : 2 * o ≤ f) (h4 : isMost m = true) : isRule (.tup [.str "each", .int f, .int o, m]) n = true := by
  show isEach (.tup [.str "each", .int f, .int o, m]) = true
  have h5 : o ≤ f := by omega
  simp [isEach, isBetween, h1, h2, h3, h4, h5]
theorem most_mem {x : D} (h : x ∈ [D.non, .non, .int 1, .int 2]) : isMost x = true := by
  simp at h
  rcases h with rfl | rfl | rfl <;> rfl
def drawnR (gs : List D) (r : D) : Prop := ∀ (g s p : Int) (m : D), r = .tup [.str "pack", .int g, .int s, .int p, m] → ∃ pr c : Int, atI gs g = some (.tup [.int pr, .int c]) ∧ s * pr - (2 * s + 1) ≤ p
def widD : D → Nat
  | .tup l => l.length
  | _ => 0
theorem drawn_not {gs : List D} {r : D} (h : widD r ≠ 5) : drawnR gs r := fun g s p m z => (h (by rw [z]; rfl)).elim
theorem r_some_rule2 (ns : List Int) (n : Nat) (gs : List D) (cap : Bool) (hl : ns.length ≤ 63) (hn : n < 900000) (hg : GoodGs gs) : ∃ (r : D) (m : Nat), d__law_some_rule [scr ns, .own true (rep0 n), .im (.tup gs), .im (.bl cap)] = .ok (.im r) [.no, .own true (rep0 m), .no, .no] ∧ n ≤ m ∧ m ≤ n + 6 ∧ isRule r gs.length = true ∧ (cap = true → isEndless r = false) ∧ D.flat r = true ∧ drawnR gs r := by
  obtain ⟨l1, l2⟩ := hg.len
  obtain ⟨kind, e1, k1, k2⟩ := r_draw ns n 5 hl (by omega) (by decide)
  obtain ⟨good, e2, g1, g2⟩ := r_draw ns (n + 1) gs.length hl (by omega) (by omega)
  obtain ⟨gd, e3, e4⟩ := atI_ok g1 g2
  obtain ⟨p, c, rfl, hp, hc⟩ := hg.all gd (List.mem_of_getElem? e4)
  have s1 : f__law_some_rule_1 (Er ns n gs cap .no .no .no .no .no .no .no) = .nx (Er ns (n + 1) gs cap (.im (.int kind)) .no .no .no .no .no .no) := by
    simp [scr] at e1
    simp [f__law_some_rule_1, scr, e1, sEr, op2, op1, T.val, R.opt, toB, opL, vals, consT, disp, mvs, mkTup, callT, callI, argE, others, isAl, isAli, finT, outE, padE, runD, cpsOf, cpT, toI, slT, T.weak, metT, kApp, kExt, elemD, iT, iL, iR1, iR2, iE, iZ, onI]
  have s2 : f__law_some_rule_2 (Er ns (n + 1) gs cap (.im (.int kind)) .no .no .no .no .no .no) = .nx (Er ns (n + 2) gs cap (.im (.int kind)) (.im (.int good)) .no .no .no .no .no) := by
    simp [scr] at e2
    simp [f__law_some_rule_2, scr, e2, sEr, op2, op1, T.val, R.opt, toB, opL, vals, consT, disp, mvs, mkTup, callT, callI, argE, others, isAl, isAli, finT, outE, padE, runD, cpsOf, cpT, toI, slT, T.weak, metT, kApp, kExt, elemD, iT, iL, iR1, iR2, iE, iZ, onI]
  have s3 : f__law_some_rule_3 (Er ns (n + 2) gs cap (.im (.int kind)) (.im (.int good)) .no .no .no .no .no) = .nx (Er ns (n + 2) gs cap (.im (.int kind)) (.im (.int good)) (.im (.int p)) .no .no .no .no) := by
    simp [f__law_some_rule_3, scr, dIx, e3, sEr, op2, op1, T.val, R.opt, toB, opL, vals, consT, disp, mvs, mkTup, callT, callI, argE, others, isAl, isAli, finT, outE, padE, runD, cpsOf, cpT, toI, slT, T.weak, metT, kApp, kExt, elemD, iT, iL, iR1, iR2, iE, iZ, onI]
    simp [atI, ixN]
  -- from the body's end to the whole
  have fin : ∀ {r : D} {m : Nat} {a b c d e f g : Sl}, f__law_some_rule (Er ns n gs cap .no .no .no .no .no .no .no) = .rt (.im r) (Er ns m gs cap a b c d e f g) → d__law_some_rule [scr ns, .own true (rep0 n), .im (.tup gs), .im (.bl cap)] = .ok (.im r) [.no, .own true (rep0 m), .no, .no] := fun {r m a b c d e f g} h => by
    show (if [scr ns, .own true (rep0 n), .im (.tup gs), .im (.bl cap)].length = 4 then finF [scr ns, .own true (rep0 n), .im (.tup gs), .im (.bl cap)] (f__law_some_rule (Er ns n gs cap .no .no .no .no .no .no .no)) else .er) = _
    rw [if_pos (show [scr ns, Sl.own true (rep0 n), .im (.tup gs), .im (.bl cap)].length = 4 from rfl), h]
    rfl
  have whole : ∀ {x : Fl}, sSeq f__law_some_rule_4 (sSeq f__law_some_rule_5 (sSeq f__law_some_rule_6 (sSeq f__law_some_rule_7 (sSeq f__law_some_rule_8 f__law_some_rule_9)))) (Er ns (n + 2) gs cap (.im (.int kind)) (.im (.int good)) (.im (.int p)) .no .no .no .no) = x → f__law_some_rule (Er ns n gs cap .no .no .no .no .no .no .no) = x := fun {x} h => by
    unfold f__law_some_rule
    rw [sSeq_s, s1, seq_nx, sSeq_s, s2, seq_nx, sSeq_s, s3, seq_nx]
    exact h
  by_cases c1 : kind < 2
  · -- pack
    obtain ⟨sz, e5, z1, z2⟩ := r_draw ns (n + 2) 2 hl (by omega) (by decide)
    obtain ⟨off, e6, o1, o2⟩ := r_draw ns (n + 3) (2 * (2 + sz) + 2) hl (by omega) (by omega)
    obtain ⟨mo, hm, e7⟩ := r_pick ns (n + 4) (.tup [.non, .non, .int 1, .int 2]) _ (.inr rfl) hl (by omega) (by decide)
    have pr : (2 + sz) * p ≤ 27 := by
      have : (2 + sz) * p ≤ 3 * 9 := Int.mul_le_mul (by omega) (by omega) (by omega) (by decide)
      omega
    obtain ⟨pri, ep⟩ : ∃ pri : Int, pri = if (2 + sz) * p - off > 2 + sz then (2 + sz) * p - off else 2 + sz := ⟨_, rfl⟩
    have hpri : 2 + sz ≤ pri ∧ pri ≤ 30 := by rw [ep]; split <;> omega
    have bb : -18446744073709551616 < 2 + sz ∧ 2 + sz < 18446744073709551616 := by omega
    have bb2 : -18446744073709551616 < p ∧ p < 18446744073709551616 := by omega
    have q : sSeq f__law_some_rule_4 (sSeq f__law_some_rule_5 (sSeq f__law_some_rule_6 (sSeq f__law_some_rule_7 (sSeq f__law_some_rule_8 f__law_some_rule_9)))) (Er ns (n + 2) gs cap (.im (.int kind)) (.im (.int good)) (.im (.int p)) .no .no .no .no) = .rt (.im (.tup [.str "pack", .int good, .int (2 + sz), .int pri, mo])) (Er ns (n + 5) gs cap (.im (.int kind)) (.im (.int good)) (.im (.int p)) .no .no (.im (.int (2 + sz))) (.im (.int pri))) := by
      rw [sSeq_s]
      simp [scr] at e5 e6 e7
      simp [f__law_some_rule_4, scr, c1, e5, e6, e7, dMulA, bb, bb2, dMax2, ← ep, sEr, op2, op1, T.val, R.opt, toB, opL, vals, consT, disp, mvs, mkTup, callT, callI, argE, others, isAl, isAli, finT, outE, padE, runD, cpsOf, cpT, toI, slT, T.weak, metT, kApp, kExt, elemD, iT, iL, iR1, iR2, iE, iZ, onI]
    have hf : D.flat mo = true := by
      simp at hm
      rcases hm with rfl | rfl | rfl <;> rfl
    exact ⟨_, n + 5, fin (whole q), by omega, by omega, isPack_of ⟨g1, g2⟩ (by omega) hpri (most_mem hm), fun _ => rfl, by simp [D.flat, D.flats, hf], fun g' s' p' m' z => by
      injection z with z
      injection z with _ z
      injection z with z1 z
      injection z with z2 z
      injection z with z3 z
      injection z1 with z1
      injection z2 with z2
      injection z3 with z3
      refine ⟨p, c, by rw [← z1]; exact e3, ?_⟩
      rw [← z2, ← z3, ep]
      split <;> omega⟩
  · have s4 : f__law_some_rule_4 (Er ns (n + 2) gs cap (.im (.int kind)) (.im (.int good)) (.im (.int p)) .no .no .no .no) = .nx (Er ns (n + 2) gs cap (.im (.int kind)) (.im (.int good)) (.im (.int p)) .no .no .no .no) := by
      simp [f__law_some_rule_4, scr, c1, sEr, op2, op1, T.val, R.opt, toB, opL, vals, consT, disp, mvs, mkTup, callT, callI, argE, others, isAl, isAli, finT, outE, padE, runD, cpsOf, cpT, toI, slT, T.weak, metT, kApp, kExt, elemD, iT, iL, iR1, iR2, iE, iZ, onI]
    by_cases c2 : kind = 2
    · -- from
      subst c2
      obtain ⟨le, e5, z1, z2⟩ := r_draw ns (n + 2) 3 hl (by omega) (by decide)
      obtain ⟨off, e6, o1, o2⟩ := r_draw ns (n + 3) 4 hl (by omega) (by decide)
      obtain ⟨pri, ep⟩ : ∃ pri : Int, pri = if p - off > 1 then p - off else 1 := ⟨_, rfl⟩
      have hpri : 1 ≤ pri ∧ pri ≤ 9 := by rw [ep]; split <;> omega
      have q : sSeq f__law_some_rule_5 (sSeq f__law_some_rule_6 (sSeq f__law_some_rule_7 (sSeq f__law_some_rule_8 f__law_some_rule_9))) (Er ns (n + 2) gs cap (.im (.int 2)) (.im (.int good)) (.im (.int p)) .no .no .no .no) = .rt (.im (.tup [.str "from", .int good, .int (2 + le), .int pri])) (Er ns (n + 4) gs cap (.im (.int 2)) (.im (.int good)) (.im (.int p)) .no .no .no .no) := by
        rw [sSeq_s]
        simp [scr] at e5 e6
        simp [f__law_some_rule_5, scr, e5, e6, dMax2, ← ep, sEr, op2, op1, T.val, R.opt, toB, opL, vals, consT, disp, mvs, mkTup, callT, callI, argE, others, isAl, isAli, finT, outE, padE, runD, cpsOf, cpT, toI, slT, T.weak, metT, kApp, kExt, elemD, iT, iL, iR1, iR2, iE, iZ, onI]
      exact ⟨_, n + 4, fin (whole (by rw [sSeq_s, s4, seq_nx]; exact q)), by omega, by omega, isFrom_of ⟨g1, g2⟩ (by omega) hpri, fun _ => rfl, by simp [D.flat, D.flats], drawn_not (by simp [widD])⟩
    · have s5 : f__law_some_rule_5 (Er ns (n + 2) gs cap (.im (.int kind)) (.im (.int good)) (.im (.int p)) .no .no .no .no) = .nx (Er ns (n + 2) gs cap (.im (.int kind)) (.im (.int good)) (.im (.int p)) .no .no .no .no) := by
        have c2' : (kind == 2) = false := by simpa using c2
        simp [f__law_some_rule_5, scr, c2', sEr, op2, op1, T.val, R.opt, toB, opL, vals, consT, disp, mvs, mkTup, callT, callI, argE, others, isAl, isAli, finT, outE, padE, runD, cpsOf, cpT, toI, slT, T.weak, metT, kApp, kExt, elemD, iT, iL, iR1, iR2, iE, iZ, onI]
      by_cases c3 : kind = 3
      · -- over
        subst c3
        obtain ⟨wh, e5, z1, z2⟩ := r_draw ns (n + 2) 9 hl (by omega) (by decide)
        obtain ⟨off, e6, o1, o2⟩ := r_draw ns (n + 3) 4 hl (by omega) (by decide)
        have q : sSeq f__law_some_rule_6 (sSeq f__law_some_rule_7 (sSeq f__law_some_rule_8 f__law_some_rule_9)) (Er ns (n + 2) gs cap (.im (.int 3)) (.im (.int good)) (.im (.int p)) .no .no .no .no) = .rt (.im (.tup [.str "over", .int (4 + wh), .int (1 + off)])) (Er ns (n + 4) gs cap (.im (.int 3)) (.im (.int good)) (.im (.int p)) (.im (.int (4 + wh))) .no .no .no) := by
          rw [sSeq_s]
          simp [scr] at e5 e6
          simp [f__law_some_rule_6, scr, e5, e6, sEr, op2, op1, T.val, R.opt, toB, opL, vals, consT, disp, mvs, mkTup, callT, callI, argE, others, isAl, isAli, finT, outE, padE, runD, cpsOf, cpT, toI, slT, T.weak, metT, kApp, kExt, elemD, iT, iL, iR1, iR2, iE, iZ, onI]
        exact ⟨_, n + 4, fin (whole (by rw [sSeq_s, s4, seq_nx, sSeq_s, s5, seq_nx]; exact q)), by omega, by omega, isOver_of (by omega) (by omega) (by omega), fun _ => rfl, by simp [D.flat, D.flats], drawn_not (by simp [widD])⟩
      · -- each
        have s6 : f__law_some_rule_6 (Er ns (n + 2) gs cap (.im (.int kind)) (.im (.int good)) (.im (.int p)) .no .no .no .no) = .nx (Er ns (n + 2) gs cap (.im (.int kind)) (.im (.int good)) (.im (.int p)) .no .no .no .no) := by
          have c3' : (kind == 3) = false := by simpa using c3
          simp [f__law_some_rule_6, scr, c3', sEr, op2, op1, T.val, R.opt, toB, opL, vals, consT, disp, mvs, mkTup, callT, callI, argE, others, isAl, isAli, finT, outE, padE, runD, cpsOf, cpT, toI, slT, T.weak, metT, kApp, kExt, elemD, iT, iL, iR1, iR2, iE, iZ, onI]
        obtain ⟨wh, e5, z1, z2⟩ := r_draw ns (n + 2) 5 hl (by omega) (by decide)
        obtain ⟨ms, ems⟩ : ∃ ms : List D, ms = if cap = true then [.int 1, .int 2] else [.non, .non, .int 1, .int 2] := ⟨_, rfl⟩
        have hms : 0 < ms.length ∧ (∀ x ∈ ms, x ∈ [D.non, .non, .int 1, .int 2] ∧ (cap = true → isNon x = false)) := by
          rw [ems]
          cases cap with
          | true => exact ⟨by decide, fun x hx => by simp at hx; rcases hx with rfl | rfl <;> exact ⟨by simp, fun _ => rfl⟩⟩
          | false => exact ⟨by decide, fun x hx => ⟨hx, fun z => nomatch z⟩⟩
        obtain ⟨mo, hm, e6⟩ := r_pick ns (n + 3) (.tup ms) _ (.inr rfl) hl (by omega) hms.1
        have hw : 0 < (2 + wh) / 2 := by omega
        obtain ⟨off, e7, o1, o2⟩ := r_draw ns (n + 4) ((2 + wh) / 2) hl (by omega) hw
        have s7 : f__law_some_rule_7 (Er ns (n + 2) gs cap (.im (.int kind)) (.im (.int good)) (.im (.int p)) .no .no .no .no) = .nx (Er ns (n + 3) gs cap (.im (.int kind)) (.im (.int good)) (.im (.int p)) (.im (.int (2 + wh))) .no .no .no) := by
          simp [scr] at e5
          simp [f__law_some_rule_7, scr, e5, sEr, op2, op1, T.val, R.opt, toB, opL, vals, consT, disp, mvs, mkTup, callT, callI, argE, others, isAl, isAli, finT, outE, padE, runD, cpsOf, cpT, toI, slT, T.weak, metT, kApp, kExt, elemD, iT, iL, iR1, iR2, iE, iZ, onI]
        have s8 : f__law_some_rule_8 (Er ns (n + 3) gs cap (.im (.int kind)) (.im (.int good)) (.im (.int p)) (.im (.int (2 + wh))) .no .no .no) = .nx (Er ns (n + 4) gs cap (.im (.int kind)) (.im (.int good)) (.im (.int p)) (.im (.int (2 + wh))) (.im mo) .no .no) := by
          simp [scr] at e6
          cases cap with
          | true => rw [if_pos rfl] at ems; subst ems; simp [f__law_some_rule_8, scr, e6, sEr, op2, op1, T.val, R.opt, toB, opL, vals, consT, disp, mvs, mkTup, callT, callI, argE, others, isAl, isAli, finT, outE, padE, runD, cpsOf, cpT, toI, slT, T.weak, metT, kApp, kExt, elemD, iT, iL, iR1, iR2, iE, iZ, onI]
          | false => rw [if_neg (by decide)] at ems; subst ems; simp [f__law_some_rule_8, scr, e6, sEr, op2, op1, T.val, R.opt, toB, opL, vals, consT, disp, mvs, mkTup, callT, callI, argE, others, isAl, isAli, finT, outE, padE, runD, cpsOf, cpT, toI, slT, T.weak, metT, kApp, kExt, elemD, iT, iL, iR1, iR2, iE, iZ, onI]
        have q : f__law_some_rule_9 (Er ns (n + 4) gs cap (.im (.int kind)) (.im (.int good)) (.im (.int p)) (.im (.int (2 + wh))) (.im mo) .no .no) = .rt (.im (.tup [.str "each", .int (2 + wh), .int (1 + off), mo])) (Er ns (n + 5) gs cap (.im (.int kind)) (.im (.int good)) (.im (.int p)) (.im (.int (2 + wh))) (.im mo) .no .no) := by
          simp [scr] at e7
          simp [f__law_some_rule_9, scr, e7, sEr, op2, op1, T.val, R.opt, toB, opL, vals, consT, disp, mvs, mkTup, callT, callI, argE, others, isAl, isAli, finT, outE, padE, runD, cpsOf, cpT, toI, slT, T.weak, metT, kApp, kExt, elemD, iT, iL, iR1, iR2, iE, iZ, onI]
        have hf : D.flat mo = true := by
          have := (hms.2 mo hm).1
          simp at this
          rcases this with rfl | rfl | rfl <;> rfl
        refine ⟨_, n + 5, fin (whole (by rw [sSeq_s, s4, seq_nx, sSeq_s, s5, seq_nx, sSeq_s, s6, seq_nx, sSeq_s, s7, seq_nx, sSeq_s, s8, seq_nx]; exact q)), by omega, by omega, isEach_of (by omega) (by omega) (by omega) (most_mem (hms.2 mo hm).1), fun z => ?_, by simp [D.flat, D.flats, hf], drawn_not (by simp [widD])⟩
        show (("each" : Str) == "each" && isNon mo) = false
        rw [(hms.2 mo hm).2 z]
        decide
end DL
namespace DL
open PySem PySem.Spec L2
def GoodD (y : D) : Prop := ∃ p c : Int, y = .tup [.int p, .int c] ∧ (3 ≤ p ∧ p ≤ 9) ∧ (0 ≤ c ∧ c ≤ 7)
theorem flats_mem : ∀ {ds : List D}, (∀ d ∈ ds, D.flat d = true) → D.flats ds = true
  | [], _ => rfl
  | d :: ds, h => by
    unfold D.flats
    rw [h d List.mem_cons_self, flats_mem fun x z => h x (List.mem_cons_of_mem _ z)]
    rfl
theorem flats_app : ∀ {ds es : List D}, D.flats ds = true → D.flats es = true → D.flats (ds ++ es) = true
  | [], es, _, h => h
  | d :: ds, es, h1, h2 => by
    simp [D.flats] at h1
    show (D.flat d && D.flats (ds ++ es)) = true
    rw [h1.1, flats_app h1.2 h2]
    rfl
theorem GoodGs.flat {gs : List D} (h : GoodGs gs) : D.flats gs = true := flats_mem fun d z => by
  obtain ⟨p, c, rfl, _⟩ := h.all d z
  rfl
theorem GoodGs.are {gs : List D} (h : GoodGs gs) : areGoods (.tup gs) = true := by
  have : gs.all isGood = true := by
    rw [List.all_eq_true]
    intro d z
    obtain ⟨p, c, rfl, h1, h2⟩ := h.all d z
    simp [isGood, isBetween]
    omega
  simp [areGoods, this, h.len]
theorem r_some_goods (ns : List Int) (n : Nat) (hl : ns.length ≤ 63) (hn : n < 900000) : ∃ (gs : List D) (m : Nat), d__law_some_goods [scr ns, .own true (rep0 n)] = .ok (.im (.tup gs)) [.no, .own true (rep0 m)] ∧ n ≤ m ∧ m ≤ n + 5 ∧ GoodGs gs := by
  obtain ⟨d0, e1, k1, k2⟩ := r_draw ns n 3 hl (by omega) (by decide)
  obtain ⟨k, ek⟩ : ∃ k : Int, k = bif d0 == 0 then 2 else 1 := ⟨_, rfl⟩
  have hk : 1 ≤ k ∧ k ≤ 2 := by
    rw [ek]
    cases d0 == 0 <;> decide
  have hlen : (rngD 0 k).length = k.toNat := by simp [rngD]
  obtain ⟨ys, q, h1, h2⟩ := lc_some (k := ⟨rngD 0 k, none⟩) (vs := [3]) (t := .one 3) (fe := eTup (aCons (eOp dAdd (eC (.int 3)) (eCallI 1 d__law_draw (aCons (eVar 0) (aCons (eVar 1) (aCons (eC (.int 7)) aNil))))) (aCons (eCallI 1 d__law_draw (aCons (eVar 0) (aCons (eVar 1) (aCons (eC (.int 8)) aNil)))) aNil))) (Pd := fun _ y => GoodD y) (E := fun i => [scr ns, .own true (rep0 (n + 1 + 2 * i)), .im (.int k), .no]) (fun j => trivial) (rngD 0 k) [] 0 (small_size (by rw [hlen]; show 0 + k.toNat ≤ 1000; omega)) (fun d _ i hi => by
    have hi : i < 2 := by rw [hlen] at hi; omega
    obtain ⟨a, ea, a1, a2⟩ := r_draw ns (n + 1 + 2 * i) 7 hl (by omega) (by decide)
    obtain ⟨b, eb, b1, b2⟩ := r_draw ns (n + 1 + 2 * i + 1) 8 hl (by omega) (by decide)
    refine ⟨_, .im (.tup [.int (3 + a), .int b]), [scr ns, .own true (rep0 (n + 1 + 2 * i + 1 + 1)), .im (.int k), .im d], _, rfl, ?_, rfl, ⟨3 + a, b, rfl, by omega, by omega⟩, rfl⟩
    simp [scr] at ea eb
    simp [scr, ea, eb, sEr, op2, op1, T.val, R.opt, toB, opL, vals, consT, disp, mvs, mkTup, callT, callI, argE, others, isAl, isAli, finT, outE, padE, runD, cpsOf, cpT, toI, slT, T.weak, metT, kApp, kExt, elemD, iT, iL, iR1, iR2, iE, iZ, onI])
  have hm : n + 1 + 2 * (0 + (rngD 0 k).length) ≤ n + 5 := by rw [hlen]; omega
  refine ⟨ys, n + 1 + 2 * (0 + (rngD 0 k).length), ?_, by omega, hm, by rw [h1, hlen]; omega, fun g hg => ?_⟩
  · have q2 := eLc_of (fi := fiR1 (aCons (eVar 2) aNil)) (env := [scr ns, .own true (rep0 (n + 1)), .im (.int k), .no]) (k := ⟨rngD 0 k, none⟩) (e := [scr ns, .own true (rep0 (n + 1)), .im (.int k), .no]) (by
      have b : (-4611686018427387904 ≤ k) ∧ k < 4611686018427387904 := by omega
      simp [b, sEr, op2, op1, T.val, R.opt, toB, opL, vals, consT, disp, mvs, mkTup, callT, callI, argE, others, isAl, isAli, finT, outE, padE, runD, cpsOf, cpT, toI, slT, T.weak, metT, kApp, kExt, elemD, iT, iL, iR1, iR2, iE, iZ, onI]) q
    refine fin4 (rest := [scr ns, .own true (rep0 (n + 1 + 2 * (0 + (rngD 0 k).length))), .im (.int k), .no]) (m := 0) rfl ?_ _ rfl
    unfold f__law_some_goods
    have q2' : eLc (fiR1 (aCons (eVar 2) aNil)) [3] (.one 3) tT _ [scr ns, .own true (rep0 (n + 1)), .im (.int k), .no] = .ok (.fr ys) [scr ns, .own true (rep0 (n + 1 + 2 * (0 + (rngD 0 k).length))), .im (.int k), .no] := q2
    simp [scr] at e1
    simp only [scr, rep0] at q2'
    simp [scr, e1, ← ek, q2', sEr, op2, op1, T.val, R.opt, toB, opL, vals, consT, disp, mvs, mkTup, callT, callI, argE, others, isAl, isAli, finT, outE, padE, runD, cpsOf, cpT, toI, slT, T.weak, metT, kApp, kExt, elemD, iT, iL, iR1, iR2, iE, iZ, onI]
  · obtain ⟨i, hi⟩ := List.getElem?_of_mem hg
    have hil : i < (rngD 0 k).length := by
      rw [← h1]
      exact (List.getElem?_eq_some_iff.mp hi).1
    obtain ⟨y', e1, e2⟩ := h2 i _ (List.getElem?_eq_getElem hil)
    rw [hi] at e1
    cases e1
    exact e2

end DL
namespace DL
open PySem PySem.Spec L2
theorem eLst_rule {v : D} {n : Int} (h : isRule v n = true) : ∃ x a ds, v = .tup (.str x :: ds) ∧ (x = "each" → ∃ b m, ds = [a, b, m]) := by
  obtain ⟨x, ds, rfl⟩ := rule_word h
  by_cases e : x = "each"
  · obtain ⟨a, b, m, rfl⟩ := rule_each h e
    exact ⟨x, a, _, rfl, fun _ => ⟨b, m, rfl⟩⟩
  · exact ⟨x, .non, ds, rfl, fun z => (e z).elim⟩
structure GoodRs (rs : List D) (n : Nat) : Prop where
  len : rs.length ≤ 4
  all : ∀ r ∈ rs, isRule r n = true
  one : (rs.filter isEndless).length ≤ 1
  flat : D.flats rs = true
theorem l_capped (i j : Nat) (rs : List D) (n : Nat) (env : En) (hr : ∀ r ∈ rs, isRule r n = true) (hl : rs.length ≤ 1000) (hi : env[i]? = some (.own false rs)) (hw : wipeE env [j] = env) (hj : j < env.length) (hij : ∀ d, wipeE (env.set j (.im d)) [j] = env) :
    eLc (fiL false (eVar i)) [j] (.one j) tT (eAn (eOp dEqA (eOp dIx (eVar j) (eC (.int 0))) (eC (.str "each"))) (eOp dIs (eOp dIx (eVar j) (eC (.int 3))) (eC .non))) env = .ok (.fr (rs.map fun d => .bl (isEndless d))) env := by
  refine eLc_of (k := ⟨rs, some (i, rs)⟩) (e := env) (by simp [hi, sEr, op2, op1, T.val, R.opt, toB, opL, vals, consT, disp, mvs, mkTup, callT, callI, argE, others, isAl, isAli, finT, outE, padE, runD, cpsOf, cpT, toI, slT, T.weak, metT, kApp, kExt, elemD, iT, iL, iR1, iR2, iE, iZ, onI]) ?_
  rw [hw]
  refine lc_map (k := ⟨rs, some (i, rs)⟩) (h := fun d => .bl (isEndless d)) ⟨false, hi⟩ rs [] (small_size (by simpa using hl)) fun d z => ?_
  refine ⟨_, .im (.bl (isEndless d)), env.set j (.im d), rfl, ?_, rfl, hij d⟩
  have hg : (env.set j (.im d))[j]? = some (.im d) := List.getElem?_set_self hj
  obtain ⟨x, a, ds, rfl, he⟩ := eLst_rule (hr d z)
  have q : ∀ k : Nat, (0 : Int) < (k : Int) + 1 := fun k => by omega
  by_cases e : x = "each"
  · obtain ⟨b, m, rfl⟩ := he e
    subst e
    simp [hg, dIx, atI, ixN, isEndless, dIs_non, sEr, op2, op1, T.val, R.opt, toB, opL, vals, consT, disp, mvs, mkTup, callT, callI, argE, others, isAl, isAli, finT, outE, padE, runD, cpsOf, cpT, toI, slT, T.weak, metT, kApp, kExt, elemD, iT, iL, iR1, iR2, iE, iZ, onI, -dIs]
  · have e' : (x == "each") = false := by simpa using e
    have e2 : isEndless (.tup (.str x :: ds)) = false := by
      unfold isEndless
      split
      · rename_i z; cases z; simp [e']
      · rfl
    simp [hg, dIx, atI, ixN, e2, e', q, sEr, op2, op1, T.val, R.opt, toB, opL, vals, consT, disp, mvs, mkTup, callT, callI, argE, others, isAl, isAli, finT, outE, padE, runD, cpsOf, cpT, toI, slT, T.weak, metT, kApp, kExt, elemD, iT, iL, iR1, iR2, iE, iZ, onI, -dIs]
theorem any_endless {rs : List D} (h : rs.any isEndless = false) : rs.filter isEndless = [] := by
  rw [List.filter_eq_nil_iff]
  intro a z
  rw [List.any_eq_false] at h
  exact h a z
theorem r_some_shop2 (ns : List Int) (n : Nat) (hl : ns.length ≤ 63) (hn : n < 800000) : ∃ (gs rs : List D) (m : Nat), d__law_some_shop [scr ns, .own true (rep0 n)] = .ok (.im (.tup [.tup gs, .tup rs])) [.no, .own true (rep0 m)] ∧ n ≤ m ∧ m ≤ n + 40 ∧ GoodGs gs ∧ GoodRs rs gs.length ∧ ∀ r ∈ rs, drawnR gs r := by
  obtain ⟨gs, m1, e1, n1, n2, hg⟩ := r_some_goods ns n hl (by omega)
  obtain ⟨k, e2, k1, k2⟩ := r_draw ns m1 5 hl (by omega) (by decide)
  have hlen : (rngD 0 k).length = k.toNat := by simp [rngD]
  obtain ⟨e3, q1, m2, a2, rs, c2, i1, i2, i3, i4, i5, i6, i7⟩ := loop_all (g := gN 2) (f := sSeq (sAsg (eB dAny (aCons (eLc (fiL false (eVar 4)) [6] (.one 6) tT (eAn (eOp dEqA (eOp dIx (eVar 6) (eC (.int 0))) (eC (.str "each"))) (eOp dIs (eOp dIx (eVar 6) (eC (.int 3))) (eC .non)))) aNil)) (gN 5))
    (sDrop (eMet kApp (eVar 4) (aCons (eCallI 1 d__law_some_rule (aCons (eVar 0) (aCons (eVar 1) (aCons (eVar 3) (aCons (eVar 5) aNil))))) aNil)))) (ds := rngD 0 k) (env := [scr ns, .own true (rep0 (m1 + 1)), .no, .im (.tup gs), .own false [], .no, .no])
    (I := fun i e => ∃ (m : Nat) (a : Sl) (rs : List D) (c : Sl), e = [scr ns, .own true (rep0 m), a, .im (.tup gs), .own false rs, c, .no] ∧ m1 + 1 ≤ m ∧ m ≤ m1 + 1 + 6 * i ∧ rs.length = i ∧ ((∀ r ∈ rs, isRule r gs.length = true) ∧ (rs.filter isEndless).length ≤ 1) ∧ D.flats rs = true ∧ ∀ r ∈ rs, drawnR gs r)
    ⟨m1 + 1, .no, [], .no, rfl, by omega, by omega, rfl, ⟨fun r z => (by cases z), Nat.zero_le _⟩, rfl, fun r z => (by cases z)⟩ (by
    rintro i d _ hd ⟨m, a, rs, c, rfl, j1, j2, j3, ⟨j4, j5⟩, j6, j7⟩
    have hi : i < k.toNat := by
      rw [← hlen]
      exact (List.getElem?_eq_some_iff.mp hd).1
    have lc := l_capped 4 6 rs gs.length [scr ns, .own true (rep0 m), .im d, .im (.tup gs), .own false rs, c, .no] j4 (by omega) rfl rfl (by simp) (fun _ => rfl)
    obtain ⟨r, m', e4, p1, p2, p3, p4, p5, p6⟩ := r_some_rule2 ns m gs (rs.any isEndless) hl (by omega) hg
    refine ⟨_, [scr ns, .own true (rep0 m'), .im d, .im (.tup gs), .own false (rs ++ [r]), .im (.bl (rs.any isEndless)), .no], rfl, .inl ?_, m', _, rs ++ [r], _, rfl, by omega, by omega, by simp [j3], ⟨fun x z => ?_, ?_⟩, flats_app j6 (by simp [D.flats, p5]), fun x z => ?_⟩
    · have hlen2 : rs.length < 1000000 := by omega
      simp only [scr, rep0] at lc e4
      try simp at e4
      simp [lc, e4, hlen2, scr, p5, flatT, hg.flat, sEr, op2, op1, T.val, R.opt, toB, opL, vals, consT, disp, mvs, mkTup, callT, callI, argE, others, isAl, isAli, finT, outE, padE, runD, cpsOf, cpT, toI, slT, T.weak, metT, kApp, kExt, elemD, iT, iL, iR1, iR2, iE, iZ, onI]
    · rcases List.mem_append.mp z with z | z
      · exact j4 x z
      · simp at z
        subst z
        exact p3
    · rw [List.filter_append]
      cases hc : rs.any isEndless with
      | true => simp [p4 hc, j5]
      | false =>
        rw [any_endless hc]
        simp
        exact Nat.le_trans (List.length_filter_le _ _) (by simp)
    · rcases List.mem_append.mp z with z | z
      · exact j7 x z
      · simp at z
        subst z
        exact p6)
  subst i1
  refine ⟨gs, rs, m2, ?_, by omega, by rw [hlen] at i3; omega, hg, ⟨by rw [i4, hlen]; omega, i5.1, i5.2, i6⟩, i7⟩
  refine fin4 (rest := [scr ns, .own true (rep0 m2), a2, .im (.tup gs), .own false rs, c2, .no]) (m := 0) rfl ?_ _ rfl
  have s2 := sFor_of (fi := fiR1 (aCons (eCallI 1 d__law_draw (aCons (eVar 0) (aCons (eVar 1) (aCons (eC (.int 5)) aNil)))) aNil)) (env := [scr ns, .own true (rep0 m1), .no, .im (.tup gs), .own false [], .no, .no]) (by
    have b : (-4611686018427387904 ≤ k) ∧ k < 4611686018427387904 := by omega
    try simp [scr] at e2
    simp [scr, e2, b, sEr, op2, op1, T.val, R.opt, toB, opL, vals, consT, disp, mvs, mkTup, callT, callI, argE, others, isAl, isAli, finT, outE, padE, runD, cpsOf, cpT, toI, slT, T.weak, metT, kApp, kExt, elemD, iT, iL, iR1, iR2, iE, iZ, onI]) q1
  unfold f__law_some_shop
  simp only [scr, rep0] at s2 e1
  try simp at e1
  simp [scr, e1, s2, hg.flat, flatT, sEr, op2, op1, T.val, R.opt, toB, opL, vals, consT, disp, mvs, mkTup, callT, callI, argE, others, isAl, isAli, finT, outE, padE, runD, cpsOf, cpT, toI, slT, T.weak, metT, kApp, kExt, elemD, iT, iL, iR1, iR2, iE, iZ, onI]
end DL
namespace DL
open PySem PySem.Spec L2
@[simp] theorem at_0 (a : D) (ds : List D) : atI (a :: ds) 0 = some a := by
  have q : (0 : Int) < (ds.length : Int) + 1 := by omega
  simp [atI, ixN, q]
@[simp] theorem at_1 (a b : D) (ds : List D) : atI (a :: b :: ds) 1 = some b := by
  have q : (1 : Int) < (ds.length : Int) + 1 + 1 := by omega
  simp [atI, ixN, q]
@[simp] theorem at_2 (a b c : D) (ds : List D) : atI (a :: b :: c :: ds) 2 = some c := by
  have q : (2 : Int) < (ds.length : Int) + 1 + 1 + 1 := by omega
  simp [atI, ixN, q]
@[simp] theorem at_3 (a b c d : D) (ds : List D) : atI (a :: b :: c :: d :: ds) 3 = some d := by
  have q : (3 : Int) < (ds.length : Int) + 1 + 1 + 1 + 1 := by omega
  simp [atI, ixN, q]
@[simp] theorem at_4 (a b c d e : D) (ds : List D) : atI (a :: b :: c :: d :: e :: ds) 4 = some e := by
  have q : (4 : Int) < (ds.length : Int) + 1 + 1 + 1 + 1 + 1 := by omega
  simp [atI, ixN, q]
inductive Ru where
  | pack (g s p : Int) (m : Option Int) | frm (g l p : Int) | over (f o : Int) | each (f o : Int) (m : Option Int)
def oD : Option Int → D
  | none => .non
  | some i => .int i
def Ru.d : Ru → D
  | .pack g s p m => .tup [.str "pack", .int g, .int s, .int p, oD m]
  | .frm g l p => .tup [.str "from", .int g, .int l, .int p]
  | .over f o => .tup [.str "over", .int f, .int o]
  | .each f o m => .tup [.str "each", .int f, .int o, oD m]
def okM : Option Int → Prop
  | none => True
  | some k => 1 ≤ k ∧ k ≤ 2
def Ru.ok : Ru → Int → Prop
  | .pack g s p m, n => (0 ≤ g ∧ g < n) ∧ (2 ≤ s ∧ s ≤ 3) ∧ (s ≤ p ∧ p ≤ 30) ∧ okM m
  | .frm g l p, n => (0 ≤ g ∧ g < n) ∧ (2 ≤ l ∧ l ≤ 4) ∧ (1 ≤ p ∧ p ≤ 9)
  | .over f o, _ => (2 ≤ f ∧ f ≤ 12) ∧ 1 ≤ o ∧ o ≤ 6 ∧ o ≤ f
  | .each f o m, _ => (2 ≤ f ∧ f ≤ 6) ∧ (1 ≤ o ∧ o ≤ f) ∧ okM m ∧ (m = none → 2 * o ≤ f)
theorem isBt_of {i a b : Int} (h : isBetween (.int i) a b = true) : a ≤ i ∧ i ≤ b := by simpa [isBetween] using h
theorem most_of {m : D} (h : isMost m = true) : ∃ o, m = oD o ∧ okM o := by
  cases m with
  | non => exact ⟨none, rfl, trivial⟩
  | int i => exact ⟨some i, rfl, isBt_of h⟩
  | _ => exact (Bool.false_ne_true h).elim
theorem rule_ru {v : D} {n : Int} (h : isRule v n = true) : ∃ r : Ru, v = r.d ∧ r.ok n := by
  obtain ⟨x, ds, rfl⟩ := rule_word h
  by_cases e1 : x = "pack"
  · subst e1
    replace h : isPack (.tup (.str "pack" :: ds)) n = true := h
    unfold isPack at h
    split at h
    · rename_i z
      cases z
      simp only [Bool.and_eq_true] at h
      obtain ⟨h1, h2, h3, h4⟩ := h
      obtain ⟨p, rfl⟩ := isBt_int h3
      obtain ⟨o, rfl, h5⟩ := most_of h4
      have := isBt_of h1
      exact ⟨.pack _ _ p o, rfl, by omega, isBt_of h2, isBt_of h3, h5⟩
    · cases h
  · by_cases e2 : x = "from"
    · subst e2
      replace h : isFrom (.tup (.str "from" :: ds)) n = true := h
      unfold isFrom at h
      split at h
      · rename_i z
        cases z
        simp only [Bool.and_eq_true] at h
        obtain ⟨h1, h2, h3⟩ := h
        obtain ⟨g, rfl⟩ := isBt_int h1
        obtain ⟨l, rfl⟩ := isBt_int h2
        obtain ⟨p, rfl⟩ := isBt_int h3
        have := isBt_of h1
        exact ⟨.frm g l p, rfl, by omega, isBt_of h2, isBt_of h3⟩
      · cases h
    · by_cases e3 : x = "over"
      · subst e3
        replace h : isOver (.tup (.str "over" :: ds)) = true := h
        unfold isOver at h
        split at h
        · rename_i z
          cases z
          simp only [Bool.and_eq_true] at h
          obtain ⟨h1, h2⟩ := h
          obtain ⟨o, rfl⟩ := isBt_int h2
          have a1 := isBt_of h1
          have a2 := isBt_of h2
          refine ⟨.over _ o, rfl, a1, a2.1, ?_, ?_⟩ <;> (have := a2.2; split at this <;> omega)
        · cases h
      · by_cases e4 : x = "each"
        · subst e4
          replace h : isEach (.tup (.str "each" :: ds)) = true := h
          unfold isEach at h
          split at h
          · rename_i z
            cases z
            simp only [Bool.and_eq_true] at h
            obtain ⟨h1, h2, h3, h4⟩ := h
            obtain ⟨o, rfl, h5⟩ := most_of h3
            refine ⟨.each _ _ o, rfl, isBt_of h1, isBt_of h2, h5, fun z => ?_⟩
            subst z
            simpa [isNon, oD] using h4
          · cases h
        · have q1 : (x == "pack") = false := by simpa using e1
          have q2 : (x == "from") = false := by simpa using e2
          have q3 : (x == "over") = false := by simpa using e3
          have q4 : (x == "each") = false := by simpa using e4
          simp [isRule, q1, q2, q3, q4] at h
theorem rules_ru {n : Int} : ∀ {rs : List D}, (∀ r ∈ rs, isRule r n = true) → ∃ us : List Ru, rs = us.map Ru.d ∧ ∀ u ∈ us, u.ok n
  | [], _ => ⟨[], rfl, fun u z => by cases z⟩
  | r :: rs, h => by
    obtain ⟨u, rfl, q⟩ := rule_ru (h r List.mem_cons_self)
    obtain ⟨us, rfl, qs⟩ := rules_ru fun x z => h x (List.mem_cons_of_mem _ z)
    exact ⟨u :: us, rfl, fun x z => (List.mem_cons.mp z).elim (fun z => z ▸ q) (qs x)⟩
def Ru.fits : Ru → Int → Int → Bool
  | .pack g s _ _, k, x => g == k && decide (s ≤ x)
  | .frm g l _, k, x => g == k && decide (l ≤ x)
  | _, _, _ => false
def Ru.onGood : Ru → Bool
  | .pack .. => true
  | .frm .. => true
  | _ => false
@[simp] theorem w1 : (("over" : Str) == "pack") = false := by decide +kernel
@[simp] theorem w2 : (("over" : Str) == "from") = false := by decide +kernel
@[simp] theorem w3 : (("over" : Str) == "each") = false := by decide +kernel
@[simp] theorem w4 : (("each" : Str) == "pack") = false := by decide +kernel
@[simp] theorem w5 : (("each" : Str) == "from") = false := by decide +kernel
@[simp] theorem w6 : (("each" : Str) == "over") = false := by decide +kernel
@[simp] theorem w7 : (("pack" : Str) == "over") = false := by decide +kernel
@[simp] theorem w8 : (("pack" : Str) == "each") = false := by decide +kernel
@[simp] theorem w9' : (("pack" : Str) == "from") = false := by decide +kernel
@[simp] theorem w10' : (("from" : Str) == "over") = false := by decide +kernel
@[simp] theorem w11' : (("from" : Str) == "each") = false := by decide +kernel
@[simp] theorem w12' : (("from" : Str) == "pack") = false := by decide +kernel
theorem loop_find {g : FG} {f : FS} {I : Nat → En → Prop} {p : Nat → Bool} {t : Nat → T} {ds : List D} {env : En} (h0 : I 0 env)
    (step : ∀ (i : Nat) (d : D) e, ds[i]? = some d → I i e → ∃ e1, g (.im d) e = .nx e1 ∧ ((p i = true ∧ ∃ e2, f e1 = .rt (t i) e2 ∧ I (i + 1) e2) ∨ (p i = false ∧ ∃ e2, f e1 = .nx e2 ∧ I (i + 1) e2))) :
    (∃ i e j, i < ds.length ∧ p i = true ∧ (∀ m, m < i → p m = false) ∧ loopF g f ds env = .rt (t i) e ∧ I j e) ∨ ((∀ m, m < ds.length → p m = false) ∧ ∃ e, loopF g f ds env = .nx e ∧ I ds.length e) := by
  have key : ∀ (rs : List D) (i : Nat) (e : En), ds.drop i = rs → I i e → (∃ k e' j, k < rs.length ∧ p (i + k) = true ∧ (∀ m, m < k → p (i + m) = false) ∧ loopF g f rs e = .rt (t (i + k)) e' ∧ I j e') ∨ ((∀ m, m < rs.length → p (i + m) = false) ∧ ∃ e', loopF g f rs e = .nx e' ∧ I (i + rs.length) e') := by
    intro rs
    induction rs with
    | nil => exact fun i e _ h => .inr ⟨fun m z => absurd z (Nat.not_lt_zero _), e, rfl, h⟩
    | cons d rs ih =>
      intro i e hd h
      have hi : ds[i]? = some d := by
        have := List.getElem?_drop (xs := ds) (i := i) (j := 0)
        rw [hd] at this
        simpa using this.symm
      obtain ⟨e1, q1, q2⟩ := step i d e hi h
      rcases q2 with ⟨hp, e2, q2, q3⟩ | ⟨hp, e2, q2, q3⟩
      · refine .inl ⟨0, e2, i + 1, by simp, hp, fun m z => absurd z (Nat.not_lt_zero _), ?_, q3⟩
        unfold loopF
        simp only [q1, q2]
        rfl
      · have hd' : ds.drop (i + 1) = rs := by
          rw [← List.drop_drop, hd]
          rfl
        have ex : ∀ m, i + 1 + m = i + (m + 1) := fun m => by omega
        rcases ih (i + 1) e2 hd' q3 with ⟨k, e', j, r1, r2, r3, r4, r5⟩ | ⟨r1, e', r2, r3⟩
        · refine .inl ⟨k + 1, e', j, by simp; exact r1, by rw [← ex]; exact r2, fun m z => ?_, ?_, r5⟩
          · cases m with
            | zero => exact hp
            | succ m => rw [← ex]; exact r3 m (by omega)
          · unfold loopF
            simp only [q1, q2]
            rw [r4, ex]
        · refine .inr ⟨fun m z => ?_, e', ?_, by rw [List.length_cons, show i + (rs.length + 1) = i + 1 + rs.length by omega]; exact r3⟩
          · cases m with
            | zero => exact hp
            | succ m => rw [← ex]; exact r1 m (by simpa using z)
          · unfold loopF
            simp only [q1, q2]
            exact r2
  rcases key ds 0 env (by simp) h0 with ⟨k, e, j, r1, r2, r3, r4, r5⟩ | ⟨r1, e, r2, r3⟩
  · exact .inl ⟨k, e, j, r1, by simpa using r2, fun m z => by simpa using r3 m z, by simpa using r4, r5⟩
  · exact .inr ⟨fun m z => by simpa using r1 m z, e, r2, by simpa using r3⟩
theorem first_ix {α : Type} {q : α → Bool} {us : List α} {p : Nat → Bool} (hp : ∀ i u, us[i]? = some u → p i = q u) :
    (∀ i, i < us.length → p i = true → (∀ m, m < i → p m = false) → us.findIdx? q = some i) ∧ ((∀ m, m < us.length → p m = false) → us.findIdx? q = none) := by
  constructor
  · intro i hi h1 h2
    rw [List.findIdx?_eq_some_iff_getElem]
    refine ⟨hi, ?_, fun j hj => ?_⟩
    · rw [← hp i us[i] (List.getElem?_eq_getElem hi)]
      exact h1
    · have hjl : j < us.length := by omega
      rw [← hp j us[j] (List.getElem?_eq_getElem hjl), h2 j hj]
      decide
  · intro h
    rw [List.findIdx?_eq_none_iff]
    intro x hx
    obtain ⟨i, hi⟩ := List.getElem?_of_mem hx
    rw [← hp i x hi]
    exact h i (List.getElem?_eq_some_iff.mp hi).1
theorem find_ix {α : Type} {q : α → Bool} : ∀ {us : List α}, us.find? q = (us.findIdx? q).bind fun i => us[i]?
  | [] => rfl
  | u :: us => by
    rw [List.find?_cons, List.findIdx?_cons]
    cases q u with
    | true => rfl
    | false =>
      simp only [find_ix (us := us)]
      cases us.findIdx? q <;> simp

end DL
namespace DL
open PySem PySem.Spec L2
def full (w p : Int) : Option Int → Int
  | none => w / p
  | some k => if k < w / p then k else w / p
def oN : Option Nat → D
  | none => .non
  | some i => .int (i : Int)
theorem r_full {w p : Int} {m : Option Int} (hp : 0 < p ∧ p < 1073741824) : d_full_times [.im (.int w), .im (.int p), .im (oD m)] = .ok (.im (.int (full w p m))) [.no, .no, .no] := by
  cases m with
  | none => simp [d_full_times, f_full_times, hp, full, oD, sEr, op2, op1, T.val, R.opt, toB, opL, vals, consT, disp, mvs, mkTup, callT, callI, argE, others, isAl, isAli, finT, outE, padE, runD, cpsOf, cpT, toI, slT, T.weak, metT, kApp, kExt, elemD, iT, iL, iR1, iR2, iE, iZ, onI]
  | some k => simp [d_full_times, f_full_times, hp, full, oD, dMin2, sEr, op2, op1, T.val, R.opt, toB, opL, vals, consT, disp, mvs, mkTup, callT, callI, argE, others, isAl, isAli, finT, outE, padE, runD, cpsOf, cpT, toI, slT, T.weak, metT, kApp, kExt, elemD, iT, iL, iR1, iR2, iE, iZ, onI]
theorem enum_get {us : List Ru} {i : Nat} {d : D} (h : (enumD (us.map Ru.d))[i]? = some d) : ∃ u, us[i]? = some u ∧ d = .tup [.int (i : Int), u.d] := by
  obtain ⟨d', e1, e2⟩ := enumD_get h
  rw [List.getElem?_map] at e1
  obtain ⟨u, e3, rfl⟩ := Option.map_eq_some_iff.mp e1
  exact ⟨u, e3, e2⟩
def fitsAt (us : List Ru) (k x : Int) (i : Nat) : Bool := match us[i]? with
  | some u => u.fits k x
  | none => false
theorem fitsAt_is {us : List Ru} {k x : Int} : ∀ i u, us[i]? = some u → fitsAt us k x i = u.fits k x := fun i u h => by
  unfold fitsAt
  rw [h]
def fitIx (us : List Ru) (k x : Int) : Option Nat := us.findIdx? fun u => u.fits k x
def fit (us : List Ru) (k x : Int) : Option Ru := us.find? fun u => u.fits k x
theorem r_fitting (us : List Ru) (k x : Int) : d_fitting_rule [.im (.tup (us.map Ru.d)), .im (.int k), .im (.int x)] = .ok (.im (oN (fitIx us k x))) [.no, .no, .no] := by
  have hl : (enumD (us.map Ru.d)).length = us.length := by rw [enumD_len, List.length_map]
  obtain ⟨f1, f2⟩ := first_ix (q := fun u : Ru => u.fits k x) (us := us) (p := fitsAt us k x) fitsAt_is
  have sf : ∀ {x' : Fl}, loopF (gT 2 (gsCons (gN 3) (gsCons (gN 4) gsNil))) (sIf (tAn (tV (eOp (dIn true) (eOp dIx (eVar 4) (eC (.int 0))) (eC g_SUM_WORDS))) (tAn (tV (eOp dEqA (eOp dIx (eVar 4) (eC (.int 1))) (eVar 1))) (tV (eOp dGe (eVar 2) (eOp dIx (eVar 4) (eC (.int 2))))))) (sRet (eVar 3)) sNx) (enumD (us.map Ru.d)) [.im (.tup (us.map Ru.d)), .im (.int k), .im (.int x), .no, .no] = x' →
      f_fitting_rule [.im (.tup (us.map Ru.d)), .im (.int k), .im (.int x), .no, .no] = x'.seq (sRet (eC .non)) := fun {x'} h => by
    unfold f_fitting_rule
    rw [sSeq_s, sFor_of (its := enumD (us.map Ru.d)) (e := [.im (.tup (us.map Ru.d)), .im (.int k), .im (.int x), .no, .no]) (by simp [sEr, op2, op1, T.val, R.opt, toB, opL, vals, consT, disp, mvs, mkTup, callT, callI, argE, others, isAl, isAli, finT, outE, padE, runD, cpsOf, cpT, toI, slT, T.weak, metT, kApp, kExt, elemD, iT, iL, iR1, iR2, iE, iZ, onI]) h]
  rcases loop_find (g := gT 2 (gsCons (gN 3) (gsCons (gN 4) gsNil))) (f := sIf (tAn (tV (eOp (dIn true) (eOp dIx (eVar 4) (eC (.int 0))) (eC g_SUM_WORDS))) (tAn (tV (eOp dEqA (eOp dIx (eVar 4) (eC (.int 1))) (eVar 1))) (tV (eOp dGe (eVar 2) (eOp dIx (eVar 4) (eC (.int 2))))))) (sRet (eVar 3)) sNx) (I := fun _ e => ∃ a b, e = [.im (.tup (us.map Ru.d)), .im (.int k), .im (.int x), a, b]) (p := fitsAt us k x) (t := fun i => .im (.int (i : Int))) (ds := enumD (us.map Ru.d)) (env := [.im (.tup (us.map Ru.d)), .im (.int k), .im (.int x), .no, .no]) ⟨.no, .no, rfl⟩ (by
    rintro i d _ hd ⟨a, b, rfl⟩
    obtain ⟨u, hu, rfl⟩ := enum_get hd
    refine ⟨[.im (.tup (us.map Ru.d)), .im (.int k), .im (.int x), .im (.int i), .im u.d], rfl, ?_⟩
    rw [fitsAt_is i u hu]
    cases u with
    | pack g s p m =>
      cases hf : (Ru.pack g s p m).fits k x with
      | true =>
        simp [Ru.fits] at hf
        exact .inl ⟨rfl, [.im (.tup (us.map Ru.d)), .im (.int k), .im (.int x), .im (.int i), .im (Ru.pack g s p m).d], by simp [Ru.d, dIx, dIn, g_SUM_WORDS, sc, hf, sEr, op2, op1, T.val, R.opt, toB, opL, vals, consT, disp, mvs, mkTup, callT, callI, argE, others, isAl, isAli, finT, outE, padE, runD, cpsOf, cpT, toI, slT, T.weak, metT, kApp, kExt, elemD, iT, iL, iR1, iR2, iE, iZ, onI], _, _, rfl⟩
      | false =>
        refine .inr ⟨rfl, [.im (.tup (us.map Ru.d)), .im (.int k), .im (.int x), .im (.int i), .im (Ru.pack g s p m).d], ?_, _, _, rfl⟩
        by_cases hg : g = k
        · simp [Ru.fits, hg] at hf
          simp [Ru.d, dIx, dIn, g_SUM_WORDS, sc, hg, Int.not_le.mpr hf, sEr, op2, op1, T.val, R.opt, toB, opL, vals, consT, disp, mvs, mkTup, callT, callI, argE, others, isAl, isAli, finT, outE, padE, runD, cpsOf, cpT, toI, slT, T.weak, metT, kApp, kExt, elemD, iT, iL, iR1, iR2, iE, iZ, onI]
        · have hg' : (g == k) = false := by simpa using hg
          simp [Ru.d, dIx, dIn, g_SUM_WORDS, sc, hg', sEr, op2, op1, T.val, R.opt, toB, opL, vals, consT, disp, mvs, mkTup, callT, callI, argE, others, isAl, isAli, finT, outE, padE, runD, cpsOf, cpT, toI, slT, T.weak, metT, kApp, kExt, elemD, iT, iL, iR1, iR2, iE, iZ, onI]
    | frm g s p =>
      cases hf : (Ru.frm g s p).fits k x with
      | true =>
        simp [Ru.fits] at hf
        exact .inl ⟨rfl, [.im (.tup (us.map Ru.d)), .im (.int k), .im (.int x), .im (.int i), .im (Ru.frm g s p).d], by simp [Ru.d, dIx, dIn, g_SUM_WORDS, sc, hf, sEr, op2, op1, T.val, R.opt, toB, opL, vals, consT, disp, mvs, mkTup, callT, callI, argE, others, isAl, isAli, finT, outE, padE, runD, cpsOf, cpT, toI, slT, T.weak, metT, kApp, kExt, elemD, iT, iL, iR1, iR2, iE, iZ, onI], _, _, rfl⟩
      | false =>
        refine .inr ⟨rfl, [.im (.tup (us.map Ru.d)), .im (.int k), .im (.int x), .im (.int i), .im (Ru.frm g s p).d], ?_, _, _, rfl⟩
        by_cases hg : g = k
        · simp [Ru.fits, hg] at hf
          simp [Ru.d, dIx, dIn, g_SUM_WORDS, sc, hg, Int.not_le.mpr hf, sEr, op2, op1, T.val, R.opt, toB, opL, vals, consT, disp, mvs, mkTup, callT, callI, argE, others, isAl, isAli, finT, outE, padE, runD, cpsOf, cpT, toI, slT, T.weak, metT, kApp, kExt, elemD, iT, iL, iR1, iR2, iE, iZ, onI]
        · have hg' : (g == k) = false := by simpa using hg
          simp [Ru.d, dIx, dIn, g_SUM_WORDS, sc, hg', sEr, op2, op1, T.val, R.opt, toB, opL, vals, consT, disp, mvs, mkTup, callT, callI, argE, others, isAl, isAli, finT, outE, padE, runD, cpsOf, cpT, toI, slT, T.weak, metT, kApp, kExt, elemD, iT, iL, iR1, iR2, iE, iZ, onI]
    | over f o => exact .inr ⟨rfl, [.im (.tup (us.map Ru.d)), .im (.int k), .im (.int x), .im (.int i), .im (Ru.over f o).d], by simp [Ru.d, dIx, dIn, g_SUM_WORDS, sc, sEr, op2, op1, T.val, R.opt, toB, opL, vals, consT, disp, mvs, mkTup, callT, callI, argE, others, isAl, isAli, finT, outE, padE, runD, cpsOf, cpT, toI, slT, T.weak, metT, kApp, kExt, elemD, iT, iL, iR1, iR2, iE, iZ, onI], _, _, rfl⟩
    | each f o m => exact .inr ⟨rfl, [.im (.tup (us.map Ru.d)), .im (.int k), .im (.int x), .im (.int i), .im (Ru.each f o m).d], by simp [Ru.d, dIx, dIn, g_SUM_WORDS, sc, sEr, op2, op1, T.val, R.opt, toB, opL, vals, consT, disp, mvs, mkTup, callT, callI, argE, others, isAl, isAli, finT, outE, padE, runD, cpsOf, cpT, toI, slT, T.weak, metT, kApp, kExt, elemD, iT, iL, iR1, iR2, iE, iZ, onI], _, _, rfl⟩) with ⟨i, e, j, h1, h2, h3, h4, a, b, rfl⟩ | ⟨h1, e, h4, a, b, rfl⟩
  · have := f1 i (by rw [← hl]; exact h1) h2 h3
    exact fin4 (rest := [.im (.tup (us.map Ru.d)), .im (.int k), .im (.int x), a, b]) (m := 0) rfl (by rw [show padE 5 [Sl.im (.tup (us.map Ru.d)), .im (.int k), .im (.int x)] = [.im (.tup (us.map Ru.d)), .im (.int k), .im (.int x), .no, .no] from rfl, sf h4]; unfold fitIx; rw [this]; rfl) _ rfl
  · have := f2 (fun m hm => h1 m (by rw [hl]; exact hm))
    exact fin4 (rest := [.im (.tup (us.map Ru.d)), .im (.int k), .im (.int x), a, b]) (m := 0) rfl (by rw [show padE 5 [Sl.im (.tup (us.map Ru.d)), .im (.int k), .im (.int x)] = [.im (.tup (us.map Ru.d)), .im (.int k), .im (.int x), .no, .no] from rfl, sf h4]; unfold fitIx; rw [this]; rfl) _ rfl

theorem r_pack_times {g s p x : Int} {m : Option Int} (hs : 2 ≤ s ∧ s ≤ 3) : d_pack_times [.im (Ru.pack g s p m).d, .im (.int x)] = .ok (.im (.int (full x s m))) [.no, .no] := by
  have h := r_full (w := x) (p := s) (m := m) (by omega)
  simp [d_pack_times, f_pack_times, Ru.d, h, sEr, op2, op1, T.val, R.opt, toB, opL, vals, consT, disp, mvs, mkTup, callT, callI, argE, others, isAl, isAli, finT, outE, padE, runD, cpsOf, cpT, toI, slT, T.weak, metT, kApp, kExt, elemD, iT, iL, iR1, iR2, iE, iZ, onI]
def packAmt (s p price x : Int) (m : Option Int) : Int := full x s m * p + (x - full x s m * s) * price
theorem r_pack_amount {g s p x price : Int} {m : Option Int} (hs : 2 ≤ s ∧ s ≤ 3) (hp : 0 ≤ p ∧ p ≤ 30) (hr : 0 ≤ price ∧ price ≤ 9) : d_pack_amount [.im (Ru.pack g s p m).d, .im (.int price), .im (.int x)] = .ok (.im (.int (packAmt s p price x m))) [.no, .no, .no] := by
  have h := r_pack_times (g := g) (s := s) (p := p) (x := x) (m := m) hs
  have b1 : -18446744073709551616 < s ∧ s < 18446744073709551616 := by omega
  have b2 : -18446744073709551616 < p ∧ p < 18446744073709551616 := by omega
  have b3 : -18446744073709551616 < price ∧ price < 18446744073709551616 := by omega
  simp [Ru.d] at h
  simp [d_pack_amount, f_pack_amount, Ru.d, h, packAmt, dMulA, b1, b2, b3, sEr, op2, op1, T.val, R.opt, toB, opL, vals, consT, disp, mvs, mkTup, callT, callI, argE, others, isAl, isAli, finT, outE, padE, runD, cpsOf, cpT, toI, slT, T.weak, metT, kApp, kExt, elemD, iT, iL, iR1, iR2, iE, iZ, onI]
def amtBy (price x : Int) : Option Ru → Int
  | none => x * price
  | some (.pack _ s p m) => packAmt s p price x m
  | some (.frm _ _ p) => x * p
  | some _ => 0
theorem fit_some {us : List Ru} {k x : Int} {i : Nat} (h : fitIx us k x = some i) : ∃ u, us[i]? = some u ∧ u.fits k x = true ∧ fit us k x = some u := by
  have h' := h
  unfold fitIx at h'
  rw [List.findIdx?_eq_some_iff_getElem] at h'
  obtain ⟨hi, h1, _⟩ := h'
  refine ⟨us[i], List.getElem?_eq_getElem hi, h1, ?_⟩
  unfold fit
  rw [find_ix]
  unfold fitIx at h
  rw [h]
  exact List.getElem?_eq_getElem hi
theorem fit_none {us : List Ru} {k x : Int} (h : fitIx us k x = none) : fit us k x = none := by
  unfold fit
  rw [find_ix]
  unfold fitIx at h
  rw [h]
  rfl
theorem at_map {α : Type} {us : List α} {f : α → D} {i : Nat} {u : α} (h : us[i]? = some u) : atI (us.map f) (i : Int) = some (f u) := by
  have hi : i < us.length := (List.getElem?_eq_some_iff.mp h).1
  obtain ⟨d, e1, e2⟩ := atI_ok (ds := us.map f) (i := (i : Int)) (by omega) (by simpa using hi)
  rw [e1]
  rw [Int.toNat_natCast, List.getElem?_map, h] at e2
  exact e2.symm
def gd (g : Int × Int) : D := .tup [.int g.1, .int g.2]
theorem r_good_amount {gs : List (Int × Int)} {us : List Ru} {k : Nat} {g : Int × Int} {x n : Int} (hu : ∀ u ∈ us, u.ok n) (hk : gs[k]? = some g) (hg : 0 ≤ g.1 ∧ g.1 ≤ 9) :
    d_good_amount [.im (.tup [.tup (gs.map gd), .tup (us.map Ru.d)]), .im (.int k), .im (.int x)] = .ok (.im (.int (amtBy g.1 x (fit us k x)))) [.no, .no, .no] := by
  have a1 := at_map (f := gd) hk
  have f := r_fitting us k x
  have b3 : -18446744073709551616 < g.1 ∧ g.1 < 18446744073709551616 := by omega
  cases hx : fitIx us k x with
  | none =>
    rw [hx] at f
    simp [oN] at f
    simp [d_good_amount, f_good_amount, dIx, a1, gd, f, fit_none hx, amtBy, dMulA, b3, sEr, op2, op1, T.val, R.opt, toB, opL, vals, consT, disp, mvs, mkTup, callT, callI, argE, others, isAl, isAli, finT, outE, padE, runD, cpsOf, cpT, toI, slT, T.weak, metT, kApp, kExt, elemD, iT, iL, iR1, iR2, iE, iZ, onI]
  | some i =>
    rw [hx] at f
    obtain ⟨u, e1, e2, e3⟩ := fit_some hx
    have a2 := at_map (f := Ru.d) e1
    have ok := hu u (List.mem_of_getElem? e1)
    simp [oN] at f
    cases u with
    | pack g' s p m =>
      obtain ⟨_, h2, h3, _⟩ := ok
      have q := r_pack_amount (g := g') (x := x) (m := m) h2 (p := p) (by omega) hg
      simp [Ru.d] at q a2
      simp [d_good_amount, f_good_amount, dIx, a1, gd, f, a2, e3, amtBy, q, Ru.d, sEr, op2, op1, T.val, R.opt, toB, opL, vals, consT, disp, mvs, mkTup, callT, callI, argE, others, isAl, isAli, finT, outE, padE, runD, cpsOf, cpT, toI, slT, T.weak, metT, kApp, kExt, elemD, iT, iL, iR1, iR2, iE, iZ, onI]
    | frm g' l p =>
      obtain ⟨_, h2, h3⟩ := ok
      have b4 : -18446744073709551616 < p ∧ p < 18446744073709551616 := by omega
      simp [Ru.d] at a2
      simp [d_good_amount, f_good_amount, dIx, a1, gd, f, a2, e3, amtBy, dMulA, b4, Ru.d, sEr, op2, op1, T.val, R.opt, toB, opL, vals, consT, disp, mvs, mkTup, callT, callI, argE, others, isAl, isAli, finT, outE, padE, runD, cpsOf, cpT, toI, slT, T.weak, metT, kApp, kExt, elemD, iT, iL, iR1, iR2, iE, iZ, onI]
    | over f' o => simp [Ru.fits] at e2
    | each f' o m => simp [Ru.fits] at e2

end DL
namespace DL
open PySem PySem.Spec L2
def wr (u : Ru) (x : Int) : Int := match u with
  | .pack _ s _ m => full x s m
  | _ => 1
def wrO (x : Int) : Option Ru → Int
  | some u => wr u x
  | none => 0
end DL
namespace DL
open PySem PySem.Spec L2
theorem r_check_shop {v : D} (h : isShop v = true) : d_check_shop [.im v] = .ok (.im .non) [.no] := by
  simp [d_check_shop, f_check_shop, r_is_shop, h, sEr, op2, op1, T.val, R.opt, toB, opL, vals, consT, disp, mvs, mkTup, callT, callI, argE, others, isAl, isAli, finT, outE, padE, runD, cpsOf, cpT, toI, slT, T.weak, metT, kApp, kExt, elemD, iT, iL, iR1, iR2, iE, iZ, onI]
def isPiece (v : D) : Bool := match v with
  | .int i => decide (0 ≤ i)
  | _ => false
def arePieces (n : Nat) (v : D) : Bool := match v with
  | .tup ps => ((ps.length : Int) == n) && ps.all isPiece
  | _ => false
theorem l_pieces (s : D) (ds : List D) (h : ds.length ≤ 1000) : eLc (fiT (eVar 1)) [2] (.one 2) tT (eAn (eCall d_is_integer (aCons (eVar 2) aNil)) (eOp dGe (eVar 2) (eC (.int 0)))) [.im s, .im (.tup ds), .no] = .ok (.fr (ds.map fun d => .bl (isPiece d))) [.im s, .im (.tup ds), .no] := by
  have := lc_map (k := ⟨ds, none⟩) (vs := [2]) (t := .one 2) (fe := eAn (eCall d_is_integer (aCons (eVar 2) aNil)) (eOp dGe (eVar 2) (eC (.int 0)))) (h := fun d => .bl (isPiece d)) (env := [.im s, .im (.tup ds), .no]) trivial ds [] (small_size (by simpa using h)) fun d _ =>
    ⟨_, .im (.bl (isPiece d)), [.im s, .im (.tup ds), .im d], rfl, by cases d <;> simp [r_is_integer, isInt, isPiece, sEr, op2, op1, T.val, R.opt, toB, opL, vals, consT, disp, mvs, mkTup, callT, callI, argE, others, isAl, isAli, finT, outE, padE, runD, cpsOf, cpT, toI, slT, T.weak, metT, kApp, kExt, elemD, iT, iL, iR1, iR2, iE, iZ, onI], rfl, rfl⟩
  rw [eLc_s]
  simp [wipeE, this, sEr, op2, op1, T.val, R.opt, toB, opL, vals, consT, disp, mvs, mkTup, callT, callI, argE, others, isAl, isAli, finT, outE, padE, runD, cpsOf, cpT, toI, slT, T.weak, metT, kApp, kExt, elemD, iT, iL, iR1, iR2, iE, iZ, onI]
theorem shop_len {gs : List D} {rs : D} (h : isShop (.tup [.tup gs, rs]) = true) : 1 ≤ gs.length ∧ gs.length ≤ 2 := by
  have h : (areGoods (.tup gs) && areRules rs gs.length) = true := h
  simp [areGoods] at h
  exact h.1.1
theorem r_are_pieces {gs : List D} {rs v : D} (hl : gs.length ≤ 1000) : d_are_pieces [.im (.tup [.tup gs, rs]), .im v] = .ok (.im (.bl (arePieces gs.length v))) [.no, .no] := by
  by_cases ht : isTupleOf v gs.length = true
  · obtain ⟨ds, rfl, hd⟩ := isTup_get ht
    have hd' : ds.length ≤ 1000 := by omega
    have hd2 : (ds.length : Int) = gs.length := hd
    simp [d_are_pieces, f_are_pieces, f_are_pieces_1, f_are_pieces_2, r_is_tuple_of, arePieces, dIx, atI, ixN, ht, hd2, l_pieces _ ds hd', sEr, op2, op1, T.val, R.opt, toB, opL, vals, consT, disp, mvs, mkTup, callT, callI, argE, others, isAl, isAli, finT, outE, padE, runD, cpsOf, cpT, toI, slT, T.weak, metT, kApp, kExt, elemD, iT, iL, iR1, iR2, iE, iZ, onI]
  · have e : arePieces gs.length v = false := by
      cases v <;> first | rfl | skip
      simp [isTupleOf] at ht
      simp [arePieces, ht]
    simp [d_are_pieces, f_are_pieces, f_are_pieces_1, f_are_pieces_2, r_is_tuple_of, e, dIx, atI, ixN, ht, sEr, op2, op1, T.val, R.opt, toB, opL, vals, consT, disp, mvs, mkTup, callT, callI, argE, others, isAl, isAli, finT, outE, padE, runD, cpsOf, cpT, toI, slT, T.weak, metT, kApp, kExt, elemD, iT, iL, iR1, iR2, iE, iZ, onI]
theorem pieces_ints {n : Nat} {v : D} (h : arePieces n v = true) : ∃ bs : List Int, v = .tup (bs.map D.int) ∧ bs.length = n ∧ ∀ b ∈ bs, 0 ≤ b := by
  cases v <;> try (simp [arePieces] at h; done)
  rename_i ps
  simp [arePieces] at h
  obtain ⟨h1, h2⟩ := h
  have key : ∀ ps : List D, (∀ x ∈ ps, isPiece x = true) → ∃ bs : List Int, ps = bs.map D.int ∧ ∀ b ∈ bs, 0 ≤ b := by
    intro ps
    induction ps with
    | nil => exact fun _ => ⟨[], rfl, fun b z => by cases z⟩
    | cons p ps ih =>
      intro h
      obtain ⟨bs, e, q⟩ := ih fun x z => h x (List.mem_cons_of_mem _ z)
      have hp := h p List.mem_cons_self
      cases p <;> try (simp [isPiece] at hp; done)
      rename_i i
      refine ⟨i :: bs, by rw [e]; rfl, fun b z => ?_⟩
      rcases List.mem_cons.mp z with rfl | z
      · simpa [isPiece] using hp
      · exact q b z
  obtain ⟨bs, rfl, q⟩ := key ps h2
  exact ⟨bs, rfl, by simp at h1; omega, q⟩
def isBasket (n : Nat) (v : D) : Bool := match v with
  | .tup ps => (ps.length : Int) == n && ps.all fun p => isBetween p 0 1000000
  | _ => false
theorem r_is_basket {gs : List D} {rs v : D} (h : isShop (.tup [.tup gs, rs]) = true) : d_is_basket [.im (.tup [.tup gs, rs]), .im v] = .ok (.im (.bl (isBasket gs.length v))) [.no, .no] := by
  have c := r_check_shop h
  have hl := shop_len h
  have q := r_are_pieces (gs := gs) (rs := rs) (v := v) (by omega)
  cases ha : arePieces gs.length v with
  | false =>
    rw [ha] at q
    have e : isBasket gs.length v = false := by
      cases v <;> first | rfl | skip
      rename_i ps
      cases hb : isBasket gs.length (.tup ps) with
      | false => rfl
      | true =>
        simp [isBasket] at hb
        rw [← ha]
        simp [arePieces, hb.1]
        intro x hx
        have := hb.2 x hx
        cases x <;> simp [isBetween, isPiece] at this ⊢
        exact this.1
    simp [d_is_basket, f_is_basket, c, q, e, sEr, op2, op1, T.val, R.opt, toB, opL, vals, consT, disp, mvs, mkTup, callT, callI, argE, others, isAl, isAli, finT, outE, padE, runD, cpsOf, cpT, toI, slT, T.weak, metT, kApp, kExt, elemD, iT, iL, iR1, iR2, iE, iZ, onI]
  | true =>
    rw [ha] at q
    obtain ⟨bs, rfl, hb, h0⟩ := pieces_ints ha
    cases bs with
    | nil => simp at hb; omega
    | cons b bs =>
      have m := dMax1_tup b bs
      have e : isBasket gs.length (.tup ((b :: bs).map D.int)) = decide (bs.foldl max b ≤ 1000000) := by
        have e1 : (((b :: bs).map D.int).length : Int) = gs.length := by rw [List.length_map, hb]
        have e2 : ((b :: bs).map D.int).all (fun p => isBetween p 0 1000000) = decide (bs.foldl max b ≤ 1000000) := by
          rw [Bool.eq_iff_iff, List.all_eq_true, decide_eq_true_eq]
          constructor
          · intro z
            have := z _ (List.mem_map_of_mem (fold_max_mem bs b))
            simp [isBetween] at this
            exact this.2
          · intro z d hd
            obtain ⟨y, hy, rfl⟩ := List.mem_map.mp hd
            have := fold_max_le bs b y hy
            have := h0 y hy
            simp [isBetween]
            omega
        show ((((b :: bs).map D.int).length : Int) == gs.length && ((b :: bs).map D.int).all (fun p => isBetween p 0 1000000)) = _
        rw [e1, e2]
        simp
      rw [e]
      generalize bs.foldl max b = mx at m
      generalize (b :: bs).map D.int = dsx at m q
      simp [d_is_basket, f_is_basket, c, q, m, sEr, op2, op1, T.val, R.opt, toB, opL, vals, consT, disp, mvs, mkTup, callT, callI, argE, others, isAl, isAli, finT, outE, padE, runD, cpsOf, cpT, toI, slT, T.weak, metT, kApp, kExt, elemD, iT, iL, iR1, iR2, iE, iZ, onI]

end DL
namespace DL
open PySem PySem.Spec L2
def Ru.endless : Ru → Bool
  | .each _ _ none => true
  | _ => false
theorem endless_is (u : Ru) : isEndless u.d = u.endless := by
  cases u with
  | pack g s p m => rfl
  | frm g l p => simp [Ru.d, isEndless, Ru.endless]
  | over f o => rfl
  | each f o m => cases m <;> rfl
structure Shp (gi : List (Int × Int)) (us : List Ru) : Prop where
  len : 1 ≤ gi.length ∧ gi.length ≤ 2
  pr : ∀ g ∈ gi, (1 ≤ g.1 ∧ g.1 ≤ 9) ∧ (0 ≤ g.2 ∧ g.2 ≤ 9)
  few : us.length ≤ 4
  ru : ∀ u ∈ us, u.ok gi.length ∧ isRule u.d gi.length = true
  one : (us.filter Ru.endless).length ≤ 1
abbrev shopD (gi : List (Int × Int)) (us : List Ru) : D := .tup [.tup (gi.map gd), .tup (us.map Ru.d)]
theorem Shp.is {gi : List (Int × Int)} {us : List Ru} (h : Shp gi us) : isShop (shopD gi us) = true := by
  have e1 : (gi.map gd).all isGood = true := by
    rw [List.all_eq_true]
    intro d hd
    obtain ⟨g, hg, rfl⟩ := List.mem_map.mp hd
    obtain ⟨h1, h2⟩ := h.pr g hg
    simp [gd, isGood, isBetween, h1, h2]
  have e2 : rulesOk (us.map Ru.d) gi.length = true := by
    unfold rulesOk
    rw [List.all_eq_true]
    intro d hd
    obtain ⟨u, hu, rfl⟩ := List.mem_map.mp hd
    exact (h.ru u hu).2
  have e3 : ((us.map Ru.d).filter isEndless).length = (us.filter Ru.endless).length := by
    rw [List.filter_map, List.length_map]
    congr 2
    funext u
    exact endless_is u
  show (areGoods (.tup (gi.map gd)) && areRules (.tup (us.map Ru.d)) (gi.map gd).length) = true
  rw [List.length_map]
  have h1 := h.one
  simp [areGoods, areRules, h.len, h.few, e1, e2, e3, h1]
theorem Shp.less {gi : List (Int × Int)} {us : List Ru} (h : Shp gi us) (p : Ru → Bool) : Shp gi (us.filter p) := by
  refine ⟨h.len, h.pr, Nat.le_trans (List.length_filter_le _ _) h.few, fun u z => h.ru u (List.mem_filter.mp z).1, ?_⟩
  rw [List.filter_filter]
  refine Nat.le_trans ?_ h.one
  rw [show (fun a => Ru.endless a && p a) = fun a => p a && Ru.endless a from funext fun a => Bool.and_comm _ _, ← List.filter_filter]
  exact List.length_filter_le _ _
theorem goods_gi {gs : List D} (h : ∀ g ∈ gs, ∃ p c : Int, g = .tup [.int p, .int c] ∧ (3 ≤ p ∧ p ≤ 9) ∧ (0 ≤ c ∧ c ≤ 7)) : ∃ gi : List (Int × Int), gs = gi.map gd ∧ ∀ g ∈ gi, (3 ≤ g.1 ∧ g.1 ≤ 9) ∧ (0 ≤ g.2 ∧ g.2 ≤ 7) := by
  induction gs with
  | nil => exact ⟨[], rfl, fun g z => by cases z⟩
  | cons g gs ih =>
    obtain ⟨p, c, rfl, h1, h2⟩ := h g List.mem_cons_self
    obtain ⟨gi, rfl, q⟩ := ih fun x z => h x (List.mem_cons_of_mem _ z)
    exact ⟨(p, c) :: gi, rfl, fun x z => (List.mem_cons.mp z).elim (fun z => by subst z; exact ⟨h1, h2⟩) (q x)⟩
theorem draw_shop2 (ns : List Int) (n : Nat) (hl : ns.length ≤ 63) (hn : n < 800000) : ∃ gi us m, d__law_some_shop [scr ns, .own true (rep0 n)] = .ok (.im (shopD gi us)) [.no, .own true (rep0 m)] ∧ n ≤ m ∧ m ≤ n + 40 ∧ Shp gi us ∧ (∀ g ∈ gi, (3 ≤ g.1 ∧ g.1 ≤ 9) ∧ (0 ≤ g.2 ∧ g.2 ≤ 7)) ∧ D.flats (us.map Ru.d) = true ∧ ∀ u ∈ us, drawnR (gi.map gd) u.d := by
  obtain ⟨gs, rs, m, e, h1, h2, hg, hr, hdr⟩ := r_some_shop2 ns n hl hn
  obtain ⟨gi, rfl, q⟩ := goods_gi hg.all
  have hlen := hg.len
  rw [List.length_map] at hlen
  have ha := hr.all
  rw [List.length_map] at ha
  obtain ⟨us, rfl, qu⟩ := rules_ru ha
  refine ⟨gi, us, m, e, h1, h2, ⟨hlen, fun g z => ?_, ?_, fun u z => ⟨qu u z, ha _ (List.mem_map_of_mem z)⟩, ?_⟩, q, hr.flat, fun u z => hdr _ (List.mem_map_of_mem z)⟩
  · have := q g z
    omega
  · have := hr.len
    rwa [List.length_map] at this
  · have := hr.one
    rw [List.filter_map, List.length_map] at this
    rw [show (isEndless ∘ Ru.d) = Ru.endless from funext endless_is] at this
    exact this
theorem draw_shop (ns : List Int) (n : Nat) (hl : ns.length ≤ 63) (hn : n < 800000) : ∃ gi us m, d__law_some_shop [scr ns, .own true (rep0 n)] = .ok (.im (shopD gi us)) [.no, .own true (rep0 m)] ∧ n ≤ m ∧ m ≤ n + 40 ∧ Shp gi us ∧ (∀ g ∈ gi, (3 ≤ g.1 ∧ g.1 ≤ 9) ∧ (0 ≤ g.2 ∧ g.2 ≤ 7)) ∧ D.flats (us.map Ru.d) = true := by
  obtain ⟨gi, us, m, h1, h2, h3, h4, h5, h6, _⟩ := draw_shop2 ns n hl hn
  exact ⟨gi, us, m, h1, h2, h3, h4, h5, h6⟩
abbrev basD (bs : List Int) : D := .tup (bs.map D.int)
theorem bas_is {gi : List (Int × Int)} {us : List Ru} {bs : List Int} (h : Shp gi us) (hl : bs.length = gi.length) (hb : ∀ b ∈ bs, 0 ≤ b ∧ b ≤ 1000000) : d_check_basket [.im (shopD gi us), .im (basD bs)] = .ok (.im .non) [.no, .no] := by
  have e := r_is_basket (v := basD bs) h.is
  have q : isBasket (gi.map gd).length (basD bs) = true := by
    have e1 : (bs.map D.int).all (fun p => isBetween p 0 1000000) = true := by
      rw [List.all_eq_true]
      intro d hd
      obtain ⟨b, hb', rfl⟩ := List.mem_map.mp hd
      simp [isBetween, hb b hb']
    simp only [isBasket, e1]
    simp [hl]
  rw [q] at e
  simp [d_check_basket, f_check_basket, e, sEr, op2, op1, T.val, R.opt, toB, opL, vals, consT, disp, mvs, mkTup, callT, callI, argE, others, isAl, isAli, finT, outE, padE, runD, cpsOf, cpT, toI, slT, T.weak, metT, kApp, kExt, elemD, iT, iL, iR1, iR2, iE, iZ, onI]
def amtAt (gi : List (Int × Int)) (us : List Ru) (k x : Int) : Int := amtBy ((gi[k.toNat]?).getD (0, 0)).1 x (fit us k x)
def amtD (gi : List (Int × Int)) (us : List Ru) : D → D
  | .tup [.int k, .int x] => .int (amtAt gi us k x)
  | d => d
def amtsD (gi : List (Int × Int)) (us : List Ru) (bs : List Int) : List D := (enumD (bs.map D.int)).map (amtD gi us)
theorem enum_int {bs : List Int} {d : D} (h : d ∈ enumD (bs.map D.int)) : ∃ (k : Nat) (x : Int), d = .tup [.int k, .int x] ∧ bs[k]? = some x := by
  obtain ⟨i, hi⟩ := List.getElem?_of_mem h
  obtain ⟨d', e1, rfl⟩ := enumD_get hi
  rw [List.getElem?_map] at e1
  obtain ⟨x, e2, rfl⟩ := Option.map_eq_some_iff.mp e1
  exact ⟨i, x, rfl, e2⟩
theorem amt_good {gi : List (Int × Int)} {us : List Ru} (h : Shp gi us) {k : Nat} {x : Int} (hk : k < gi.length) : d_good_amount [.im (shopD gi us), .im (.int k), .im (.int x)] = .ok (.im (.int (amtAt gi us k x))) [.no, .no, .no] := by
  have e := List.getElem?_eq_getElem hk
  have := r_good_amount (x := x) (us := us) (n := gi.length) (fun u z => (h.ru u z).1) e (by have := (h.pr _ (List.getElem_mem hk)).1; omega)
  rw [this]
  simp [amtAt, e]
theorem r_amounts_of {gi : List (Int × Int)} {us : List Ru} {bs : List Int} (h : Shp gi us) (hl : bs.length = gi.length) : d_amounts_of [.im (shopD gi us), .im (basD bs)] = .ok (.im (.tup (amtsD gi us bs))) [.no, .no] := by
  have h2 := h.len.2
  have q := eLc_of (fi := fiE false (aCons (eVar 1) aNil)) (vs := [2, 3]) (t := .tup [2, 3]) (ft := tT) (fe := eCall d_good_amount (aCons (eVar 0) (aCons (eVar 2) (aCons (eVar 3) aNil)))) (env := [.im (shopD gi us), .im (basD bs), .no, .no]) (k := ⟨enumD (bs.map D.int), none⟩) (e := [.im (shopD gi us), .im (basD bs), .no, .no]) (by simp [sEr, op2, op1, T.val, R.opt, toB, opL, vals, consT, disp, mvs, mkTup, callT, callI, argE, others, isAl, isAli, finT, outE, padE, runD, cpsOf, cpT, toI, slT, T.weak, metT, kApp, kExt, elemD, iT, iL, iR1, iR2, iE, iZ, onI])
    (lc_map (k := ⟨enumD (bs.map D.int), none⟩) (vs := [2, 3]) (t := .tup [2, 3]) (h := amtD gi us) (env := [.im (shopD gi us), .im (basD bs), .no, .no]) trivial (enumD (bs.map D.int)) [] (small_size (by rw [enumD_len, List.length_map]; show 0 + bs.length ≤ 1000; omega)) fun d z => by
      obtain ⟨k, x, rfl, e⟩ := enum_int z
      have hk : k < gi.length := by rw [← hl]; exact (List.getElem?_eq_some_iff.mp e).1
      refine ⟨[.im (shopD gi us), .im (basD bs), .im (.int k), .im (.int x)], .im (.int (amtAt gi us k x)), [.im (shopD gi us), .im (basD bs), .im (.int k), .im (.int x)], rfl, ?_, rfl, rfl⟩
      have := amt_good (x := x) h hk
      simp [this, sEr, op2, op1, T.val, R.opt, toB, opL, vals, consT, disp, mvs, mkTup, callT, callI, argE, others, isAl, isAli, finT, outE, padE, runD, cpsOf, cpT, toI, slT, T.weak, metT, kApp, kExt, elemD, iT, iL, iR1, iR2, iE, iZ, onI])
  refine fin4 (rest := [.im (shopD gi us), .im (basD bs), .no, .no]) (m := 0) rfl ?_ _ rfl
  show f_amounts_of [.im (shopD gi us), .im (basD bs), .no, .no] = _
  unfold f_amounts_of
  simp [q, amtsD, sEr, op2, op1, T.val, R.opt, toB, opL, vals, consT, disp, mvs, mkTup, callT, callI, argE, others, isAl, isAli, finT, outE, padE, runD, cpsOf, cpT, toI, slT, T.weak, metT, kApp, kExt, elemD, iT, iL, iR1, iR2, iE, iZ, onI]

end DL
namespace DL
open PySem PySem.Spec L2
def amts (gi : List (Int × Int)) (us : List Ru) (bs : List Int) : List Int := bs.mapIdx fun (i : Nat) x => amtAt gi us i x
theorem amtsD_is (gi : List (Int × Int)) (us : List Ru) (bs : List Int) : amtsD gi us bs = (amts gi us bs).map D.int := by
  apply List.ext_getElem?
  intro i
  unfold amtsD amts enumD
  simp only [List.getElem?_map, List.getElem?_mapIdx]
  cases bs[i]? <;> rfl
end DL
namespace DL
open PySem PySem.Spec L2
theorem fin5 {p0 : En} {t : T} {rest : En} {n p : Nat} {f : FS} (hp : p0.length = p) (h : f (padE n p0) = .rt t rest) (ht : isAl t = false) (o : En) (ho : outE p0 rest = some o) : runD n p f p0 = .ok t o := by
  show (if p0.length = p then finF p0 (f (padE n p0)) else .er) = _
  rw [if_pos hp, h]
  cases t with
  | al i => cases ht
  | im d =>
    show (match outE p0 rest with
      | some o => R.ok (T.im d) o
      | none => .er) = _
    rw [ho]
  | fr d =>
    show (match outE p0 rest with
      | some o => R.ok (T.fr d) o
      | none => .er) = _
    rw [ho]
  | ft d =>
    show (match outE p0 rest with
      | some o => R.ok (T.ft d) o
      | none => .er) = _
    rw [ho]
def Ru.off : Ru → Int → Int
  | .over f _, t => if f ≤ t then 1 else 0
  | .each f _ m, t => full t f m
  | _, _ => 0
def Ru.cut : Ru → Int
  | .pack _ s _ _ => s
  | .frm _ l _ => l
  | .over _ o => o
  | .each _ o _ => o
theorem Ru.at2 (u : Ru) : ∃ a b c, u.d = .tup (a :: b :: .int u.cut :: c) := by
  cases u <;> exact ⟨_, _, _, rfl⟩
theorem Ru.cut_ok {u : Ru} {n : Int} (h : u.ok n) : 1 ≤ u.cut ∧ u.cut ≤ 6 := by
  cases u with
  | pack g s p m => have := h.2.1; simp [Ru.cut]; omega
  | frm g l p => have := h.2.1; simp [Ru.cut]; omega
  | over f o => have := h.2; simp [Ru.cut]; omega
  | each f o m => have := h.1; have := h.2.1; simp [Ru.cut]; omega
theorem r_off {u : Ru} {n t : Int} (h : u.ok n) : d_off_times [.im u.d, .im (.int t)] = .ok (.im (.int (u.off t))) [.no, .no] := by
  cases u with
  | pack g s p m => simp [d_off_times, f_off_times, Ru.d, dIx, Ru.off, sEr, op2, op1, T.val, R.opt, toB, opL, vals, consT, disp, mvs, mkTup, callT, callI, argE, others, isAl, isAli, finT, outE, padE, runD, cpsOf, cpT, toI, slT, T.weak, metT, kApp, kExt, elemD, iT, iL, iR1, iR2, iE, iZ, onI]
  | frm g l p => simp [d_off_times, f_off_times, Ru.d, dIx, Ru.off, sEr, op2, op1, T.val, R.opt, toB, opL, vals, consT, disp, mvs, mkTup, callT, callI, argE, others, isAl, isAli, finT, outE, padE, runD, cpsOf, cpT, toI, slT, T.weak, metT, kApp, kExt, elemD, iT, iL, iR1, iR2, iE, iZ, onI]
  | over f o =>
    by_cases hf : f ≤ t
    · simp [d_off_times, f_off_times, Ru.d, dIx, Ru.off, hf, sEr, op2, op1, T.val, R.opt, toB, opL, vals, consT, disp, mvs, mkTup, callT, callI, argE, others, isAl, isAli, finT, outE, padE, runD, cpsOf, cpT, toI, slT, T.weak, metT, kApp, kExt, elemD, iT, iL, iR1, iR2, iE, iZ, onI]
    · simp [d_off_times, f_off_times, Ru.d, dIx, Ru.off, hf, sEr, op2, op1, T.val, R.opt, toB, opL, vals, consT, disp, mvs, mkTup, callT, callI, argE, others, isAl, isAli, finT, outE, padE, runD, cpsOf, cpT, toI, slT, T.weak, metT, kApp, kExt, elemD, iT, iL, iR1, iR2, iE, iZ, onI]
  | each f o m =>
    have q := r_full (w := t) (p := f) (m := m) (by have := h.1; omega)
    simp [d_off_times, f_off_times, Ru.d, dIx, Ru.off, q, sEr, op2, op1, T.val, R.opt, toB, opL, vals, consT, disp, mvs, mkTup, callT, callI, argE, others, isAl, isAli, finT, outE, padE, runD, cpsOf, cpT, toI, slT, T.weak, metT, kApp, kExt, elemD, iT, iL, iR1, iR2, iE, iZ, onI]
def stp (s : Int × List Int) (u : Ru) : Int × List Int := (s.1 - u.off s.1 * u.cut, s.2 ++ [u.off s.1])
def sums (us : List Ru) (t : Int) : Int × List Int := us.foldl stp (t, [])
theorem sums_len (us : List Ru) : ∀ s : Int × List Int, (us.foldl stp s).2.length = s.2.length + us.length := by
  induction us with
  | nil => exact fun s => rfl
  | cons u us ih => exact fun s => by rw [List.foldl_cons, ih]; simp [stp]; omega
theorem take_more {α : Type} {us : List α} {i : Nat} {u : α} (h : us[i]? = some u) : us.take (i + 1) = us.take i ++ [u] := by
  rw [List.take_add_one, h]
  rfl
theorem map_get {us : List Ru} {i : Nat} {d : D} (h : (us.map Ru.d)[i]? = some d) : ∃ u, us[i]? = some u ∧ d = u.d := by
  rw [List.getElem?_map] at h
  obtain ⟨u, e, rfl⟩ := Option.map_eq_some_iff.mp h
  exact ⟨u, e, rfl⟩
theorem r_apply {us : List Ru} {n t : Int} (h : ∀ u ∈ us, u.ok n) (hl : us.length ≤ 1000) : d_apply_sums [.im (.tup (us.map Ru.d)), .im (.int t)] = .ok (.ft [⟨false, .int (sums us t).1⟩, ⟨true, .lst ((sums us t).2.map D.int)⟩]) [.no, .no] := by
  obtain ⟨e, q, a, b, rfl⟩ := loop_all (g := gN 4) (f := b_apply_sums_1) (ds := us.map Ru.d) (env := [.im (.tup (us.map Ru.d)), .im (.int t), .im (.int t), .own false [], .no, .no])
    (I := fun i e => ∃ a b, e = [.im (.tup (us.map Ru.d)), .im (.int t), .im (.int (sums (us.take i) t).1), .own false ((sums (us.take i) t).2.map D.int), a, b]) ⟨.no, .no, rfl⟩ (by
    rintro i d _ hd ⟨a, b, rfl⟩
    obtain ⟨u, hu, rfl⟩ := map_get hd
    have ok := h u (List.mem_of_getElem? hu)
    have q := r_off (t := (sums (us.take i) t).1) ok
    obtain ⟨x, y, z, hx⟩ := u.at2
    have bc := Ru.cut_ok ok
    have b1 : -18446744073709551616 < u.cut ∧ u.cut < 18446744073709551616 := by omega
    have hi : i < us.length := (List.getElem?_eq_some_iff.mp hu).1
    have l1 : ((sums (us.take i) t).2).length < 1000000 := by
      unfold sums
      rw [sums_len]
      simp
      omega
    have e1 : sums (us.take (i + 1)) t = ((sums (us.take i) t).1 - u.off (sums (us.take i) t).1 * u.cut, (sums (us.take i) t).2 ++ [u.off (sums (us.take i) t).1]) := by
      rw [take_more hu]
      unfold sums
      rw [List.foldl_append]
      rfl
    refine ⟨[.im (.tup (us.map Ru.d)), .im (.int t), .im (.int (sums (us.take i) t).1), .own false ((sums (us.take i) t).2.map D.int), .im u.d, b], [.im (.tup (us.map Ru.d)), .im (.int t), .im (.int (sums (us.take (i + 1)) t).1), .own false ((sums (us.take (i + 1)) t).2.map D.int), .im u.d, .im (.int (u.off (sums (us.take i) t).1))], rfl, .inl ?_, _, _, rfl⟩
    rw [hx] at q
    rw [e1, hx]
    simp [b_apply_sums_1, b_apply_sums_1_1, b_apply_sums_1_2, b_apply_sums_1_3, q, dIx, dMulA, b1, l1, sEr, op2, op1, T.val, R.opt, toB, opL, vals, consT, disp, mvs, mkTup, callT, callI, argE, others, isAl, isAli, finT, outE, padE, runD, cpsOf, cpT, toI, slT, T.weak, metT, kApp, kExt, elemD, iT, iL, iR1, iR2, iE, iZ, onI])
  have s3 := sFor_of (fi := fiT (eVar 0)) (env := [.im (.tup (us.map Ru.d)), .im (.int t), .im (.int t), .own false [], .no, .no]) (e := [.im (.tup (us.map Ru.d)), .im (.int t), .im (.int t), .own false [], .no, .no]) (by simp [sEr, op2, op1, T.val, R.opt, toB, opL, vals, consT, disp, mvs, mkTup, callT, callI, argE, others, isAl, isAli, finT, outE, padE, runD, cpsOf, cpT, toI, slT, T.weak, metT, kApp, kExt, elemD, iT, iL, iR1, iR2, iE, iZ, onI]) q
  have ht : us.take (us.map Ru.d).length = us := by rw [List.length_map, List.take_length]
  rw [ht] at s3
  refine fin5 (rest := [.im (.tup (us.map Ru.d)), .im (.int t), .im (.int (sums us t).1), .no, a, b]) rfl ?_ rfl _ rfl
  show f_apply_sums [.im (.tup (us.map Ru.d)), .im (.int t), .no, .no, .no, .no] = _
  simp [f_apply_sums, f_apply_sums_1, f_apply_sums_2, f_apply_sums_3, f_apply_sums_4, s3, sEr, op2, op1, T.val, R.opt, toB, opL, vals, consT, disp, mvs, mkTup, callT, callI, argE, others, isAl, isAli, finT, outE, padE, runD, cpsOf, cpT, toI, slT, T.weak, metT, kApp, kExt, elemD, iT, iL, iR1, iR2, iE, iZ, onI]
theorem intsOf_amts (gi : List (Int × Int)) (us : List Ru) (bs : List Int) : dSum [.tup (amtsD gi us bs)] = some (.im (.int (amts gi us bs).sum)) := by
  rw [amtsD_is, dSum_tup, intsOf_map]
  rfl
def chg (gi : List (Int × Int)) (us : List Ru) (bs : List Int) : Int := (sums us (amts gi us bs).sum).1
theorem r_left_of {us : List Ru} {n t : Int} (h : ∀ u ∈ us, u.ok n) (hl : us.length ≤ 1000) : d_left_of [.im (.tup (us.map Ru.d)), .im (.int t)] = .ok (.im (.int (sums us t).1)) [.no, .no] := by
  have e3 := r_apply (t := t) h hl
  refine fin5 (rest := [.im (.tup (us.map Ru.d)), .im (.int t), .im (.int (sums us t).1), .own false ((sums us t).2.map D.int)]) rfl ?_ rfl _ rfl
  show f_left_of [.im (.tup (us.map Ru.d)), .im (.int t), .no, .no] = _
  simp [f_left_of, f_left_of_1, f_left_of_2, e3, sEr, op2, op1, T.val, R.opt, toB, opL, vals, consT, disp, mvs, mkTup, callT, callI, argE, others, isAl, isAli, finT, outE, padE, runD, cpsOf, cpT, toI, slT, T.weak, metT, kApp, kExt, elemD, iT, iL, iR1, iR2, iE, iZ, onI]
theorem r_charge_of {gi : List (Int × Int)} {us : List Ru} {bs : List Int} (h : Shp gi us) (hl : bs.length = gi.length) : d_charge_of [.im (shopD gi us), .im (basD bs)] = .ok (.im (.int (chg gi us bs))) [.no, .no] := by
  have e1 := r_amounts_of (us := us) h hl
  have e2 := intsOf_amts gi us bs
  have e3 := r_left_of (t := (amts gi us bs).sum) (fun u z => (h.ru u z).1) (by have := h.few; omega)
  simp [d_charge_of, f_charge_of, e1, e2, e3, dIx, chg, sEr, op2, op1, T.val, R.opt, toB, opL, vals, consT, disp, mvs, mkTup, callT, callI, argE, others, isAl, isAli, finT, outE, padE, runD, cpsOf, cpT, toI, slT, T.weak, metT, kApp, kExt, elemD, iT, iL, iR1, iR2, iE, iZ, onI]
theorem r_charge {gi : List (Int × Int)} {us : List Ru} {bs : List Int} (h : Shp gi us) (hl : bs.length = gi.length) (hb : ∀ b ∈ bs, 0 ≤ b ∧ b ≤ 1000000) : d_charge [.im (shopD gi us), .im (basD bs)] = .ok (.im (.int (chg gi us bs))) [.no, .no] := by
  have e1 := bas_is h hl hb
  have e2 := r_charge_of (us := us) h hl
  simp [d_charge, f_charge, e1, e2, sEr, op2, op1, T.val, R.opt, toB, opL, vals, consT, disp, mvs, mkTup, callT, callI, argE, others, isAl, isAli, finT, outE, padE, runD, cpsOf, cpT, toI, slT, T.weak, metT, kApp, kExt, elemD, iT, iL, iR1, iR2, iE, iZ, onI]

end DL
namespace DL
open PySem PySem.Spec L2
def gset (us : List Ru) (l : List Int) (p : Int × Int) : List Int := match fitIx us p.1 p.2 with
  | some i => l.set i (wrO p.2 (fit us p.1 p.2))
  | none => l
def enumI (bs : List Int) : List (Int × Int) := bs.mapIdx fun (i : Nat) x => ((i : Int), x)
def gAll (us : List Ru) (bs : List Int) (l : List Int) : List Int := (enumI bs).foldl (gset us) l
theorem gset_len (us : List Ru) (l : List Int) (p : Int × Int) : (gset us l p).length = l.length := by
  unfold gset
  split
  · rw [List.length_set]
  · rfl
theorem gAll_len (us : List Ru) : ∀ (ps : List (Int × Int)) (l : List Int), (ps.foldl (gset us) l).length = l.length
  | [], l => rfl
  | p :: ps, l => by rw [List.foldl_cons, gAll_len us ps, gset_len]
theorem ixN_nat {n i : Nat} (h : i < n) : ixN n (i : Int) = some i := by
  unfold ixN
  simp [h]
theorem fitIx_lt {us : List Ru} {k x : Int} {i : Nat} (h : fitIx us k x = some i) : i < us.length := by
  obtain ⟨u, e, _⟩ := fit_some h
  exact (List.getElem?_eq_some_iff.mp e).1
end DL
namespace DL
open PySem PySem.Spec L2
theorem full_le {t f : Int} {m : Option Int} (ht : 0 ≤ t) (hf : 0 < f) (hm : okM m) : 0 ≤ full t f m ∧ full t f m * f ≤ t := by
  have h0 : 0 ≤ t / f := Int.ediv_nonneg ht (by omega)
  have h1 : t / f * f ≤ t := by
    have := Int.mul_ediv_add_emod t f
    have h2 := Int.emod_nonneg t (by omega : f ≠ 0)
    rw [Int.mul_comm]
    omega
  cases m with
  | none => exact ⟨h0, h1⟩
  | some k =>
    by_cases hk : k < t / f
    · rw [show full t f (some k) = k from if_pos hk]
      exact ⟨by have := hm.1; omega, Int.le_trans (Int.mul_le_mul_of_nonneg_right (by omega) (by omega)) h1⟩
    · rw [show full t f (some k) = t / f from if_neg hk]
      exact ⟨h0, h1⟩
theorem off_le {u : Ru} {n t : Int} (h : u.ok n) (ht : 0 ≤ t) : 0 ≤ u.off t * u.cut ∧ u.off t * u.cut ≤ t := by
  cases u with
  | pack g s p m => simp [Ru.off]; exact ht
  | frm g l p => simp [Ru.off]; exact ht
  | over f o =>
    obtain ⟨h1, h2⟩ := h
    unfold Ru.off Ru.cut
    dsimp only
    split <;> omega
  | each f o m =>
    obtain ⟨h1, h2, h3, _⟩ := h
    obtain ⟨a, b⟩ := full_le (m := m) ht (by omega : 0 < f) h3
    refine ⟨Int.mul_nonneg a (by show 0 ≤ o; omega), Int.le_trans (Int.mul_le_mul_of_nonneg_left ?_ a) b⟩
    show o ≤ f
    omega
theorem amtBy_pos {u : Option Ru} {price x n : Int} (hu : ∀ r, u = some r → r.ok n) (hp : 0 ≤ price) (hx : 0 ≤ x) : 0 ≤ amtBy price x u := by
  cases u with
  | none => exact Int.mul_nonneg hx hp
  | some r =>
    have ok := hu r rfl
    cases r with
    | pack g s p m =>
      obtain ⟨_, h2, h3, h4⟩ := ok
      obtain ⟨a, b⟩ := full_le (m := m) hx (by omega : 0 < s) h4
      show 0 ≤ packAmt s p price x m
      unfold packAmt
      have e1 : 0 ≤ full x s m * p := Int.mul_nonneg a (by omega)
      have e2 : 0 ≤ (x - full x s m * s) * price := Int.mul_nonneg (by omega) hp
      omega
    | frm g l p => exact Int.mul_nonneg hx (by have := ok.2.2; omega)
    | over f o => exact Int.le_refl _
    | each f o m => exact Int.le_refl _
theorem amts_pos {gi : List (Int × Int)} {us : List Ru} {bs : List Int} (h : Shp gi us) (hl : bs.length = gi.length) (hb : ∀ b ∈ bs, 0 ≤ b) : 0 ≤ (amts gi us bs).sum := by
  have key : ∀ l : List Int, (∀ x ∈ l, 0 ≤ x) → 0 ≤ l.sum := fun l => by
    induction l with
    | nil => exact fun _ => Int.le_refl _
    | cons x l ih =>
      intro h
      rw [List.sum_cons]
      have := h x List.mem_cons_self
      have := ih fun y z => h y (List.mem_cons_of_mem _ z)
      omega
  refine key _ fun x hx => ?_
  obtain ⟨i, hi⟩ := List.getElem?_of_mem hx
  unfold amts at hi
  rw [List.getElem?_mapIdx] at hi
  obtain ⟨b, e1, rfl⟩ := Option.map_eq_some_iff.mp hi
  have hk : i < gi.length := by rw [← hl]; exact (List.getElem?_eq_some_iff.mp e1).1
  have eg := List.getElem?_eq_getElem hk
  unfold amtAt
  refine amtBy_pos (n := gi.length) (fun r hr => ?_) ?_ (hb b (List.mem_of_getElem? e1))
  · unfold fit at hr
    exact (h.ru r (List.mem_of_find?_eq_some hr)).1
  · have := (h.pr _ (List.getElem_mem hk)).1
    simp [eg]
    omega
end DL
namespace DL
open PySem PySem.Spec L2
def usesL (gi : List (Int × Int)) (us : List Ru) (bs : List Int) : List Int := gAll us bs (sums us (amts gi us bs).sum).2
theorem uses_1 {us : List Ru} {n : Int} (ok : ∀ u ∈ us, u.ok n) {i : Nat} {x : Int} (L : List Int) (hL : L.length = us.length) (z y w a b : Sl) :
    ∃ a' b', b_uses_of_1 [z, y, .im (.tup (us.map Ru.d)), w, .own false (L.map D.int), .im (.int i), .im (.int x), a, b] = .nx [z, y, .im (.tup (us.map Ru.d)), w, .own false ((gset us L ((i : Int), x)).map D.int), .im (.int i), .im (.int x), a', b'] := by
  have q := r_fitting us i x
  cases hx : fitIx us i x with
  | none =>
    rw [hx] at q
    simp [oN] at q
    exact ⟨.im .non, b, by simp [b_uses_of_1, b_uses_of_1_1, b_uses_of_1_2, q, gset, hx, sEr, op2, op1, T.val, R.opt, toB, opL, vals, consT, disp, mvs, mkTup, callT, callI, argE, others, isAl, isAli, finT, outE, padE, runD, cpsOf, cpT, toI, slT, T.weak, metT, kApp, kExt, elemD, iT, iL, iR1, iR2, iE, iZ, onI]⟩
  | some j =>
    rw [hx] at q
    obtain ⟨u, e1, e2, e3⟩ := fit_some hx
    have hj := fitIx_lt hx
    have r := ixN_nat (n := L.length) (i := j) (by omega)
    have a2 := at_map (f := Ru.d) e1
    have oku := ok u (List.mem_of_getElem? e1)
    simp [oN] at q
    cases u with
    | pack g s p m =>
      have q2 := r_pack_times (g := g) (p := p) (x := x) (m := m) oku.2.1
      simp [Ru.d] at a2 q2
      exact ⟨.im (.int j), .im (Ru.pack g s p m).d, by simp [b_uses_of_1, b_uses_of_1_1, b_uses_of_1_2, q, gset, hx, e3, wrO, wr, a2, q2, dIx, Ru.d, r, List.map_set, sEr, op2, op1, T.val, R.opt, toB, opL, vals, consT, disp, mvs, mkTup, callT, callI, argE, others, isAl, isAli, finT, outE, padE, runD, cpsOf, cpT, toI, slT, T.weak, metT, kApp, kExt, elemD, iT, iL, iR1, iR2, iE, iZ, onI]⟩
    | frm g l p =>
      simp [Ru.d] at a2
      exact ⟨.im (.int j), .im (Ru.frm g l p).d, by simp [b_uses_of_1, b_uses_of_1_1, b_uses_of_1_2, q, gset, hx, e3, wrO, wr, a2, dIx, Ru.d, r, List.map_set, sEr, op2, op1, T.val, R.opt, toB, opL, vals, consT, disp, mvs, mkTup, callT, callI, argE, others, isAl, isAli, finT, outE, padE, runD, cpsOf, cpT, toI, slT, T.weak, metT, kApp, kExt, elemD, iT, iL, iR1, iR2, iE, iZ, onI]⟩
    | over f' o => simp [Ru.fits] at e2
    | each f' o m => simp [Ru.fits] at e2
theorem uses_2 (gs rs bs : List D) (t : Int) (as l : List D) (am : d_amounts_of [.im (.tup [.tup gs, .tup rs]), .im (.tup bs)] = .ok (.im (.tup as)) [.no, .no]) (su : dSum [.tup as] = some (.im (.int t))) (z : Int) (ap : d_apply_sums [.im (.tup rs), .im (.int t)] = .ok (.ft [⟨false, .int z⟩, ⟨true, .lst l⟩]) [.no, .no]) :
    sSeq f_uses_of_1 f_uses_of_2 [.im (.tup [.tup gs, .tup rs]), .im (.tup bs), .no, .no, .no, .no, .no, .no, .no] = .nx [.im (.tup [.tup gs, .tup rs]), .im (.tup bs), .im (.tup rs), .im (.int z), .own false l, .no, .no, .no, .no] := by
  simp [f_uses_of_1, f_uses_of_2, am, su, ap, dIx, sEr, op2, op1, T.val, R.opt, toB, opL, vals, consT, disp, mvs, mkTup, callT, callI, argE, others, isAl, isAli, finT, outE, padE, runD, cpsOf, cpT, toI, slT, T.weak, metT, kApp, kExt, elemD, iT, iL, iR1, iR2, iE, iZ, onI]
theorem r_uses_of {gi : List (Int × Int)} {us : List Ru} {bs : List Int} (h : Shp gi us) (hl : bs.length = gi.length) : d_uses_of [.im (shopD gi us), .im (basD bs)] = .ok (.im (.tup ((usesL gi us bs).map D.int))) [.no, .no] := by
  have ok : ∀ u ∈ us, u.ok gi.length := fun u z => (h.ru u z).1
  have few := h.few
  have s12 := uses_2 (gi.map gd) (us.map Ru.d) (bs.map D.int) _ _ _ (r_amounts_of (us := us) h hl) (intsOf_amts gi us bs) _ (r_apply (t := (amts gi us bs).sum) ok (by omega))
  have hs : (sums us (amts gi us bs).sum).2.length = us.length := by
    unfold sums
    rw [sums_len]
    simp
  generalize hS : sums us (amts gi us bs).sum = S at s12 hs
  obtain ⟨tt, L0⟩ := S
  obtain ⟨e, q, a, b, c, d, rfl⟩ := loop_all (g := gT 2 (gsCons (gN 5) (gsCons (gN 6) gsNil))) (f := b_uses_of_1) (ds := enumD (bs.map D.int)) (env := [.im (shopD gi us), .im (basD bs), .im (.tup (us.map Ru.d)), .im (.int tt), .own false (L0.map D.int), .no, .no, .no, .no])
    (I := fun i e => ∃ a b c d, e = [.im (shopD gi us), .im (basD bs), .im (.tup (us.map Ru.d)), .im (.int tt), .own false ((((enumI bs).take i).foldl (gset us) L0).map D.int), a, b, c, d]) ⟨.no, .no, .no, .no, rfl⟩ (by
    rintro i d0 _ hd ⟨a, b, c, d, rfl⟩
    obtain ⟨d', e1, rfl⟩ := enumD_get hd
    rw [List.getElem?_map] at e1
    obtain ⟨x, e2, rfl⟩ := Option.map_eq_some_iff.mp e1
    have ei : (enumI bs)[i]? = some ((i : Int), x) := by
      unfold enumI
      rw [List.getElem?_mapIdx, e2]
      rfl
    obtain ⟨c', d', q⟩ := uses_1 ok (i := i) (x := x) (((enumI bs).take i).foldl (gset us) L0) (by rw [gAll_len]; exact hs) (.im (shopD gi us)) (.im (basD bs)) (.im (.int tt)) c d
    refine ⟨_, _, rfl, .inl q, .im (.int i), .im (.int x), c', d', ?_⟩
    rw [take_more ei, List.foldl_append]
    rfl)
  have hL1 : (enumI bs).take (enumD (bs.map D.int)).length = enumI bs := by
    rw [enumD_len, List.length_map]
    exact List.take_of_length_le (by simp [enumI])
  rw [hL1] at q
  have s3 := sFor_of (fi := fiE true (aCons (eVar 1) aNil)) (env := [.im (shopD gi us), .im (basD bs), .im (.tup (us.map Ru.d)), .im (.int tt), .own false (L0.map D.int), .no, .no, .no, .no]) (e := [.im (shopD gi us), .im (basD bs), .im (.tup (us.map Ru.d)), .im (.int tt), .own false (L0.map D.int), .no, .no, .no, .no]) (by simp [sEr, op2, op1, T.val, R.opt, toB, opL, vals, consT, disp, mvs, mkTup, callT, callI, argE, others, isAl, isAli, finT, outE, padE, runD, cpsOf, cpT, toI, slT, T.weak, metT, kApp, kExt, elemD, iT, iL, iR1, iR2, iE, iZ, onI]) q
  have s4 : ∀ (l : List D) (a b c d : Sl), f_uses_of_4 [.im (shopD gi us), .im (basD bs), .im (.tup (us.map Ru.d)), .im (.int tt), .own false l, a, b, c, d] = .rt (.im (.tup l)) [.im (shopD gi us), .im (basD bs), .im (.tup (us.map Ru.d)), .im (.int tt), .own false l, a, b, c, d] := fun l a b c d => by
    simp [f_uses_of_4, sEr, op2, op1, T.val, R.opt, toB, opL, vals, consT, disp, mvs, mkTup, callT, callI, argE, others, isAl, isAli, finT, outE, padE, runD, cpsOf, cpT, toI, slT, T.weak, metT, kApp, kExt, elemD, iT, iL, iR1, iR2, iE, iZ, onI]
  have hu : usesL gi us bs = (enumI bs).foldl (gset us) L0 := by
    unfold usesL gAll
    rw [hS]
  rw [hu]
  refine fin4 (m := 0) (rest := [.im (shopD gi us), .im (basD bs), .im (.tup (us.map Ru.d)), .im (.int tt), .own false (((enumI bs).foldl (gset us) L0).map D.int), a, b, c, d]) rfl ?_ _ rfl
  have assoc : ∀ (f g h : FS) (e : En), sSeq f (sSeq g h) e = sSeq (sSeq f g) h e := fun f g h e => by
    simp only [sSeq_s]
    cases f e <;> rfl
  show f_uses_of [.im (shopD gi us), .im (basD bs), .no, .no, .no, .no, .no, .no, .no] = _
  unfold f_uses_of f_uses_of_3
  rw [assoc, sSeq_s, s12, seq_nx, sSeq_s, s3, seq_nx]
  exact s4 _ _ _ _ _
end DL
namespace DL
open PySem PySem.Spec L2
inductive Ac where
  | off (n : Nat) | most (n : Nat) (m : Int)
deriving DecidableEq
def Ac.d : Ac → D
  | .off n => .tup [.str "off", .int n]
  | .most n m => .tup [.str "most", .int n, .int m]
def Ru.lessM : Ru → Int → Bool
  | .pack _ _ _ none, _ => true
  | .pack _ _ _ (some k), m => decide (m < k)
  | .each _ _ none, _ => true
  | .each _ _ (some k), m => decide (m < k)
  | _, _ => false
def Ru.capD (u : Ru) (m : D) : Bool := match m with
  | .int m => isBetween (.int m) 1 2 && u.lessM m
  | _ => false
def isMostAct (us : List Ru) (rest : List D) : Bool := match rest with
  | [.int n, m] => isBetween (.int n) 0 (us.length - 1) && (match us[n.toNat]? with
    | some u => u.capD m
    | none => false)
  | _ => false
def isOffAct (us : List Ru) (rest : List D) : Bool := match rest with
  | [n] => isBetween n 0 (us.length - 1)
  | _ => false
def isAct (us : List Ru) (v : D) : Bool := match v with
  | .tup (.str w :: rest) => bif w == "off" then isOffAct us rest else (w == "most" && isMostAct us rest)
  | _ => false
@[simp] theorem at_m3 (a b c : D) : atI [a, b, c] (-1) = some c := rfl
@[simp] theorem at_m4 (a b c d : D) : atI [a, b, c, d] (-1) = some d := rfl
@[simp] theorem at_m5 (a b c d e : D) : atI [a, b, c, d, e] (-1) = some e := rfl
theorem pe_words (x : Str) : dIn true (.str x) (.tup [.str "pack", .str "each"]) = some (.im (.bl (!(("pack" : Str) == x || (("each" : Str) == x || false))))) := by
  simp [dIn, sc]
theorem r_is_most_act (g0 : D) {us : List Ru} (hu : us.length ≤ 4) (w : Str) (rest : List D) : d_is_most_act [.im (.tup [g0, .tup (us.map Ru.d)]), .im (.tup (.str w :: rest))] = .ok (.im (.bl (isMostAct us rest))) [.no, .no] := by
  by_cases ht : isTupleOf (.tup (.str w :: rest)) 3 = true
  · rcases rest with _ | ⟨n, _ | ⟨m, _ | ⟨x, rest⟩⟩⟩ <;> try (simp [isTupleOf] at ht; done)
    · by_cases hn : isBetween n 0 (us.length - 1) = true
      · obtain ⟨n, rfl⟩ := isBt_int hn
        have hn' := hn
        simp [isBetween] at hn'
        obtain ⟨k, rfl⟩ : ∃ k : Nat, n = (k : Int) := ⟨n.toNat, by omega⟩
        have hk : k < us.length := by omega
        obtain ⟨u, eu⟩ : ∃ u, us[k]? = some u := ⟨us[k], List.getElem?_eq_getElem hk⟩
        have a1 := at_map (f := Ru.d) eu
        have e : isMostAct us [.int (k : Int), m] = u.capD m := by
          unfold isMostAct
          dsimp only
          rw [hn, Int.toNat_natCast, eu]
          rfl
        rw [e]
        generalize ((k : Nat) : Int) = kk at hn a1 ht
        generalize hL : (us.length : Int) = L at hn
        generalize hU : us.map Ru.d = ud at a1
        have hL' : (ud.length : Int) = L := by rw [← hU, List.length_map, hL]
        cases u with
        | pack g s p mm =>
          cases mm with
          | none =>
            by_cases hm : isBetween m 1 2 = true
            · obtain ⟨m, rfl⟩ := isBt_int hm
              simp [Ru.d, oD] at a1
              simp [d_is_most_act, f_is_most_act, f_is_most_act_1, f_is_most_act_2, f_is_most_act_3, f_is_most_act_4, f_is_most_act_5, r_is_tuple_of, r_is_between, ht, hn, hL', dIx, a1, pe_words, Ru.d, oD, Ru.capD, Ru.lessM, hm, sEr, op2, op1, T.val, R.opt, toB, opL, vals, consT, disp, mvs, mkTup, callT, callI, argE, others, isAl, isAli, finT, outE, padE, runD, cpsOf, cpT, toI, slT, T.weak, metT, kApp, kExt, elemD, iT, iL, iR1, iR2, iE, iZ, onI]
            · have hc : (Ru.pack g s p none).capD m = false := by cases m <;> first | rfl | (simp [Ru.capD, hm])
              simp [Ru.d, oD] at a1
              simp [d_is_most_act, f_is_most_act, f_is_most_act_1, f_is_most_act_2, f_is_most_act_3, f_is_most_act_4, f_is_most_act_5, r_is_tuple_of, r_is_between, ht, hn, hL', dIx, a1, pe_words, Ru.d, oD, hc, hm, sEr, op2, op1, T.val, R.opt, toB, opL, vals, consT, disp, mvs, mkTup, callT, callI, argE, others, isAl, isAli, finT, outE, padE, runD, cpsOf, cpT, toI, slT, T.weak, metT, kApp, kExt, elemD, iT, iL, iR1, iR2, iE, iZ, onI]
          | some k =>
            by_cases hm : isBetween m 1 2 = true
            · obtain ⟨m, rfl⟩ := isBt_int hm
              simp [Ru.d, oD] at a1
              simp [d_is_most_act, f_is_most_act, f_is_most_act_1, f_is_most_act_2, f_is_most_act_3, f_is_most_act_4, f_is_most_act_5, r_is_tuple_of, r_is_between, ht, hn, hL', dIx, a1, pe_words, Ru.d, oD, Ru.capD, Ru.lessM, hm, sEr, op2, op1, T.val, R.opt, toB, opL, vals, consT, disp, mvs, mkTup, callT, callI, argE, others, isAl, isAli, finT, outE, padE, runD, cpsOf, cpT, toI, slT, T.weak, metT, kApp, kExt, elemD, iT, iL, iR1, iR2, iE, iZ, onI]
            · have hc : (Ru.pack g s p (some k)).capD m = false := by cases m <;> first | rfl | (simp [Ru.capD, hm])
              simp [Ru.d, oD] at a1
              simp [d_is_most_act, f_is_most_act, f_is_most_act_1, f_is_most_act_2, f_is_most_act_3, f_is_most_act_4, f_is_most_act_5, r_is_tuple_of, r_is_between, ht, hn, hL', dIx, a1, pe_words, Ru.d, oD, hc, hm, sEr, op2, op1, T.val, R.opt, toB, opL, vals, consT, disp, mvs, mkTup, callT, callI, argE, others, isAl, isAli, finT, outE, padE, runD, cpsOf, cpT, toI, slT, T.weak, metT, kApp, kExt, elemD, iT, iL, iR1, iR2, iE, iZ, onI]
        | each f o mm =>
          cases mm with
          | none =>
            by_cases hm : isBetween m 1 2 = true
            · obtain ⟨m, rfl⟩ := isBt_int hm
              simp [Ru.d, oD] at a1
              simp [d_is_most_act, f_is_most_act, f_is_most_act_1, f_is_most_act_2, f_is_most_act_3, f_is_most_act_4, f_is_most_act_5, r_is_tuple_of, r_is_between, ht, hn, hL', dIx, a1, pe_words, Ru.d, oD, Ru.capD, Ru.lessM, hm, sEr, op2, op1, T.val, R.opt, toB, opL, vals, consT, disp, mvs, mkTup, callT, callI, argE, others, isAl, isAli, finT, outE, padE, runD, cpsOf, cpT, toI, slT, T.weak, metT, kApp, kExt, elemD, iT, iL, iR1, iR2, iE, iZ, onI]
            · have hc : (Ru.each f o none).capD m = false := by cases m <;> first | rfl | (simp [Ru.capD, hm])
              simp [Ru.d, oD] at a1
              simp [d_is_most_act, f_is_most_act, f_is_most_act_1, f_is_most_act_2, f_is_most_act_3, f_is_most_act_4, f_is_most_act_5, r_is_tuple_of, r_is_between, ht, hn, hL', dIx, a1, pe_words, Ru.d, oD, hc, hm, sEr, op2, op1, T.val, R.opt, toB, opL, vals, consT, disp, mvs, mkTup, callT, callI, argE, others, isAl, isAli, finT, outE, padE, runD, cpsOf, cpT, toI, slT, T.weak, metT, kApp, kExt, elemD, iT, iL, iR1, iR2, iE, iZ, onI]
          | some k =>
            by_cases hm : isBetween m 1 2 = true
            · obtain ⟨m, rfl⟩ := isBt_int hm
              simp [Ru.d, oD] at a1
              simp [d_is_most_act, f_is_most_act, f_is_most_act_1, f_is_most_act_2, f_is_most_act_3, f_is_most_act_4, f_is_most_act_5, r_is_tuple_of, r_is_between, ht, hn, hL', dIx, a1, pe_words, Ru.d, oD, Ru.capD, Ru.lessM, hm, sEr, op2, op1, T.val, R.opt, toB, opL, vals, consT, disp, mvs, mkTup, callT, callI, argE, others, isAl, isAli, finT, outE, padE, runD, cpsOf, cpT, toI, slT, T.weak, metT, kApp, kExt, elemD, iT, iL, iR1, iR2, iE, iZ, onI]
            · have hc : (Ru.each f o (some k)).capD m = false := by cases m <;> first | rfl | (simp [Ru.capD, hm])
              simp [Ru.d, oD] at a1
              simp [d_is_most_act, f_is_most_act, f_is_most_act_1, f_is_most_act_2, f_is_most_act_3, f_is_most_act_4, f_is_most_act_5, r_is_tuple_of, r_is_between, ht, hn, hL', dIx, a1, pe_words, Ru.d, oD, hc, hm, sEr, op2, op1, T.val, R.opt, toB, opL, vals, consT, disp, mvs, mkTup, callT, callI, argE, others, isAl, isAli, finT, outE, padE, runD, cpsOf, cpT, toI, slT, T.weak, metT, kApp, kExt, elemD, iT, iL, iR1, iR2, iE, iZ, onI]
        | frm g l p =>
          have hc : (Ru.frm g l p).capD m = false := by cases m <;> simp [Ru.capD, Ru.lessM]
          simp [Ru.d] at a1
          simp [d_is_most_act, f_is_most_act, f_is_most_act_1, f_is_most_act_2, f_is_most_act_3, f_is_most_act_4, f_is_most_act_5, r_is_tuple_of, r_is_between, ht, hn, hL', dIx, a1, pe_words, Ru.d, hc, sEr, op2, op1, T.val, R.opt, toB, opL, vals, consT, disp, mvs, mkTup, callT, callI, argE, others, isAl, isAli, finT, outE, padE, runD, cpsOf, cpT, toI, slT, T.weak, metT, kApp, kExt, elemD, iT, iL, iR1, iR2, iE, iZ, onI]
        | over f o =>
          have hc : (Ru.over f o).capD m = false := by cases m <;> simp [Ru.capD, Ru.lessM]
          simp [Ru.d] at a1
          simp [d_is_most_act, f_is_most_act, f_is_most_act_1, f_is_most_act_2, f_is_most_act_3, f_is_most_act_4, f_is_most_act_5, r_is_tuple_of, r_is_between, ht, hn, hL', dIx, a1, pe_words, Ru.d, hc, sEr, op2, op1, T.val, R.opt, toB, opL, vals, consT, disp, mvs, mkTup, callT, callI, argE, others, isAl, isAli, finT, outE, padE, runD, cpsOf, cpT, toI, slT, T.weak, metT, kApp, kExt, elemD, iT, iL, iR1, iR2, iE, iZ, onI]
      · have e : isMostAct us [n, m] = false := by
          unfold isMostAct
          split
          · rename_i z; cases z; simp [hn]
          · rfl
        simp [d_is_most_act, f_is_most_act, f_is_most_act_1, f_is_most_act_2, r_is_tuple_of, r_is_between, ht, hn, e, dIx, atI, ixN, sEr, op2, op1, T.val, R.opt, toB, opL, vals, consT, disp, mvs, mkTup, callT, callI, argE, others, isAl, isAli, finT, outE, padE, runD, cpsOf, cpT, toI, slT, T.weak, metT, kApp, kExt, elemD, iT, iL, iR1, iR2, iE, iZ, onI]
    · simp [isTupleOf] at ht
      omega
  · have e : isMostAct us rest = false := by
      unfold isMostAct
      split
      · simp [isTupleOf] at ht
      · rfl
    simp [d_is_most_act, f_is_most_act, f_is_most_act_1, f_is_most_act_2, r_is_tuple_of, ht, e, dIx, atI, ixN, sEr, op2, op1, T.val, R.opt, toB, opL, vals, consT, disp, mvs, mkTup, callT, callI, argE, others, isAl, isAli, finT, outE, padE, runD, cpsOf, cpT, toI, slT, T.weak, metT, kApp, kExt, elemD, iT, iL, iR1, iR2, iE, iZ, onI]
theorem r_is_act (g0 : D) {us : List Ru} (hu : us.length ≤ 4) (v : D) : d_is_act [.im (.tup [g0, .tup (us.map Ru.d)]), .im v] = .ok (.im (.bl (isAct us v))) [.no, .no] := by
  have q : ∀ k : Nat, ((k : Int) + 1 == 0) = false := fun k => by simp; omega
  rcases v with _ | _ | _ | _ | ds | _ | _ <;> try (simp [d_is_act, f_is_act, f_is_act_1, isAct, sEr, op2, op1, T.val, R.opt, toB, opL, vals, consT, disp, mvs, mkTup, callT, callI, argE, others, isAl, isAli, finT, outE, padE, runD, cpsOf, cpT, toI, slT, T.weak, metT, kApp, kExt, elemD, iT, iL, iR1, iR2, iE, iZ, onI]; done)
  cases ds with
  | nil => simp [d_is_act, f_is_act, f_is_act_1, isAct, sEr, op2, op1, T.val, R.opt, toB, opL, vals, consT, disp, mvs, mkTup, callT, callI, argE, others, isAl, isAli, finT, outE, padE, runD, cpsOf, cpT, toI, slT, T.weak, metT, kApp, kExt, elemD, iT, iL, iR1, iR2, iE, iZ, onI]
  | cons w rest =>
    cases w with
    | str w =>
      have m := r_is_most_act g0 hu w rest
      by_cases h1 : w = "off"
      · subst h1
        have e : isAct us (.tup (.str "off" :: rest)) = isOffAct us rest := by simp [isAct]
        rw [e]
        by_cases ht : isTupleOf (.tup (.str "off" :: rest)) 2 = true
        · rcases rest with _ | ⟨n, _ | ⟨m, rest⟩⟩ <;> try (simp [isTupleOf] at ht; done)
          · simp [d_is_act, f_is_act, f_is_act_1, f_is_act_2, f_is_act_3, f_is_act_4, isOffAct, r_is_tuple_of, r_is_between, ht, dIx, atI, ixN, sEr, op2, op1, T.val, R.opt, toB, opL, vals, consT, disp, mvs, mkTup, callT, callI, argE, others, isAl, isAli, finT, outE, padE, runD, cpsOf, cpT, toI, slT, T.weak, metT, kApp, kExt, elemD, iT, iL, iR1, iR2, iE, iZ, onI]
          · simp [isTupleOf] at ht
            omega
        · have e2 : isOffAct us rest = false := by
            unfold isOffAct
            split
            · simp [isTupleOf] at ht
            · rfl
          simp [d_is_act, f_is_act, f_is_act_1, f_is_act_2, f_is_act_3, f_is_act_4, q, e2, r_is_tuple_of, ht, dIx, atI, ixN, sEr, op2, op1, T.val, R.opt, toB, opL, vals, consT, disp, mvs, mkTup, callT, callI, argE, others, isAl, isAli, finT, outE, padE, runD, cpsOf, cpT, toI, slT, T.weak, metT, kApp, kExt, elemD, iT, iL, iR1, iR2, iE, iZ, onI]
      · have h1' : (w == "off") = false := by simpa using h1
        have e : isAct us (.tup (.str w :: rest)) = (w == "most" && isMostAct us rest) := by simp [isAct, h1']
        rw [e]
        simp [d_is_act, f_is_act, f_is_act_1, f_is_act_2, f_is_act_3, f_is_act_4, f_is_act_5, q, h1', m, dIx, atI, ixN, sEr, op2, op1, T.val, R.opt, toB, opL, vals, consT, disp, mvs, mkTup, callT, callI, argE, others, isAl, isAli, finT, outE, padE, runD, cpsOf, cpT, toI, slT, T.weak, metT, kApp, kExt, elemD, iT, iL, iR1, iR2, iE, iZ, onI]
    | _ => simp [d_is_act, f_is_act, f_is_act_1, f_is_act_2, f_is_act_3, q, isAct, dIx, atI, ixN, sEr, op2, op1, T.val, R.opt, toB, opL, vals, consT, disp, mvs, mkTup, callT, callI, argE, others, isAl, isAli, finT, outE, padE, runD, cpsOf, cpT, toI, slT, T.weak, metT, kApp, kExt, elemD, iT, iL, iR1, iR2, iE, iZ, onI]

end DL
namespace DL
open PySem PySem.Spec L2
def mosts (as : List Ac) (n : Nat) : List Int := as.filterMap fun a => match a with
  | .most k m => if k = n then some m else none
  | _ => none
def Ru.setM : Ru → Int → Ru
  | .pack g s p _, m => .pack g s p (some m)
  | .each f o _, m => .each f o (some m)
  | u, _ => u
def Ru.capped : Ru → Bool
  | .pack .. => true
  | .each .. => true
  | _ => false
def ruU (u : Ru) (as : List Ac) (n : Nat) : Ru := match mosts as n with
  | [] => u
  | m :: ms => u.setM (ms.foldl min m)
def keep (as : List Ac) (n : Nat) : Bool := !as.any fun a => decide (a = Ac.off n)
def Ac.ok (us : List Ru) : Ac → Prop
  | .off n => n < us.length
  | .most n m => (1 ≤ m ∧ m ≤ 2) ∧ ∃ u, us[n]? = some u ∧ u.lessM m = true
theorem lessM_cap {u : Ru} {m : Int} (h : u.lessM m = true) : u.capped = true := by
  cases u <;> first | rfl | exact (Bool.noConfusion h)
theorem ok_off : PyData.strOk ("off" : Str) = true := by decide +kernel
theorem ok_most : PyData.strOk ("most" : Str) = true := by decide +kernel
@[simp] theorem v1 : (("off" : Str) == "most") = false := by decide +kernel
@[simp] theorem v2 : (("most" : Str) == "off") = false := by decide +kernel
theorem shp_off (k : Int) : shp (.tup [.str "off", .int k]) = true := by
  rw [shp_eq]
  simp [lay, lays, dep, deps, ok_off]
theorem shp_most2 (k : Int) : shp (.tup [.str "most", .int k]) = true := by
  rw [shp_eq]
  simp [lay, lays, dep, deps, ok_most]
theorem shp_most (k m : Int) : shp (.tup [.str "most", .int k, .int m]) = true := by
  rw [shp_eq]
  simp [lay, lays, dep, deps, ok_most]
theorem Ac.shp (a : Ac) : DL.shp a.d = true := by
  cases a with
  | off n => exact shp_off n
  | most n m => exact shp_most n m
theorem Ac.lay1 (a : Ac) : lay a.d = true ∧ dep a.d = 1 := by
  cases a with
  | off n => simp [Ac.d, lay, lays, dep, deps, ok_off]
  | most n m => simp [Ac.d, lay, lays, dep, deps, ok_most]
theorem lays_acts : ∀ as : List Ac, lays (as.map Ac.d) = true
  | [] => rfl
  | a :: as => by rw [List.map_cons]; unfold lays; rw [a.lay1.1, lays_acts as]; rfl
theorem deps_acts : ∀ as : List Ac, deps (as.map Ac.d) ≤ 1
  | [] => by simp [deps]
  | a :: as => by
    rw [List.map_cons]
    unfold deps
    have := deps_acts as
    have := a.lay1.2
    omega
theorem shp_acts (as : List Ac) : shp (.tup (as.map Ac.d)) = true := by
  rw [shp_eq, lay, dep, lays_acts]
  have := deps_acts as
  simp
  omega
theorem shp_actsL (as : List Ac) : shp (.lst (as.map Ac.d)) = true := by
  rw [shp_eq, lay, dep, lays_acts]
  have := deps_acts as
  simp
  omega
theorem eqv_ac (a b : Ac) : eqv a.d b.d = decide (a = b) := by
  cases a <;> cases b <;> rw [Bool.eq_iff_iff] <;> simp [Ac.d] <;> try omega
theorem has_acts (x : Ac) : ∀ as : List Ac, hasD x.d (as.map Ac.d) = as.any fun a => decide (a = x)
  | [] => rfl
  | a :: as => by
    rw [List.map_cons, hasD_cons, has_acts x as, eqv_ac, List.any_cons]
theorem in_acts (neg : Bool) (x : Ac) (as : List Ac) : dInA neg x.d (.tup (as.map Ac.d)) = some (.im (.bl (if neg then !(as.any fun a => decide (a = x)) else as.any fun a => decide (a = x)))) := by
  have e : dIn neg x.d (.tup (as.map Ac.d)) = none := by
    have : sc x.d = false := by cases x <;> rfl
    simp [dIn, this]
  unfold dInA
  rw [e]
  unfold dInD
  rw [if_pos ⟨x.shp, shp_acts as⟩]
  dsimp only
  rw [has_acts]
theorem off_in (as : List Ac) (i : Nat) : dInA true (.tup [.str "off", .int i]) (.tup (as.map Ac.d)) = some (.im (.bl (keep as i))) := in_acts true (.off i) as
def keepD (as : List Ac) : D → Bool
  | .int i => keep as i.toNat
  | _ => false
def numsU (n : Nat) (as : List Ac) : List Nat := (List.range n).filter (keep as)
theorem rng_is (n : Nat) : rngD 0 n = (List.range n).map fun (i : Nat) => D.int (i : Int) := by
  unfold rngD
  rw [Int.sub_zero, Int.toNat_natCast]
  apply List.map_congr_left
  intro a _
  rw [Int.zero_add]
theorem l_numbers (s : D) (n : Nat) (hn : n ≤ 1000) (as : List Ac) (e1 : fiR1 (aCons (eB dLen (aCons (eOp dIx (eVar 0) (eC (.int 1))) aNil)) aNil) [.im s, .im (.tup (as.map Ac.d)), .no] = .ok ⟨rngD 0 n, none⟩ [.im s, .im (.tup (as.map Ac.d)), .no]) :
    eLc (fiR1 (aCons (eB dLen (aCons (eOp dIx (eVar 0) (eC (.int 1))) aNil)) aNil)) [2] (.one 2) (tV (eOp (dInA true) (eTup (aCons (eC (.str "off")) (aCons (eVar 2) aNil))) (eVar 1))) (eVar 2) [.im s, .im (.tup (as.map Ac.d)), .no] = .ok (.fr ((numsU n as).map fun (i : Nat) => D.int (i : Int))) [.im s, .im (.tup (as.map Ac.d)), .no] := by
  have q := eLc_of (vs := [2]) (t := .one 2) (ft := tV (eOp (dInA true) (eTup (aCons (eC (.str "off")) (aCons (eVar 2) aNil))) (eVar 1))) (fe := eVar 2) (k := ⟨rngD 0 n, none⟩) e1
    (lc_filter (k := ⟨rngD 0 n, none⟩) (vs := [2]) (t := .one 2) (p := keepD as) (h := id) (env := [.im s, .im (.tup (as.map Ac.d)), .no]) trivial (rngD 0 n) [] (small_size (by simp [rngD]; omega)) fun d z => by
      rw [rng_is] at z
      obtain ⟨i, _, rfl⟩ := List.mem_map.mp z
      have o := off_in as i
      refine ⟨[.im s, .im (.tup (as.map Ac.d)), .im (.int i)], [.im s, .im (.tup (as.map Ac.d)), .im (.int i)], rfl, ?_, rfl, fun _ => ⟨.im (.int i), _, rfl, rfl, rfl⟩⟩
      have ek : keepD as (.int (i : Int)) = keep as i := by simp [keepD]
      rw [ek]
      generalize ((i : Nat) : Int) = ii at o
      simp [o, sEr, op2, op1, T.val, R.opt, toB, opL, vals, consT, disp, mvs, mkTup, callT, callI, argE, others, isAl, isAli, finT, outE, padE, runD, cpsOf, cpT, toI, slT, T.weak, metT, kApp, kExt, elemD, iT, iL, iR1, iR2, iE, iZ, onI])
  rw [q, List.nil_append, List.map_id, rng_is, List.filter_map]
  congr 3
theorem rng_len (g0 : D) (ud ad : List D) (L : Int) (hl : (ud.length : Int) = L) (b : (-4611686018427387904 ≤ L) ∧ L < 4611686018427387904) : fiR1 (aCons (eB dLen (aCons (eOp dIx (eVar 0) (eC (.int 1))) aNil)) aNil) [.im (.tup [g0, .tup ud]), .im (.tup ad), .no] = .ok ⟨rngD 0 L, none⟩ [.im (.tup [g0, .tup ud]), .im (.tup ad), .no] := by
  simp [dIx, hl, b, sEr, op2, op1, T.val, R.opt, toB, opL, vals, consT, disp, mvs, mkTup, callT, callI, argE, others, isAl, isAli, finT, outE, padE, runD, cpsOf, cpT, toI, slT, T.weak, metT, kApp, kExt, elemD, iT, iL, iR1, iR2, iE, iZ, onI]
theorem r_numbers (g0 : D) {us : List Ru} (hu : us.length ≤ 4) (as : List Ac) : d_numbers_under [.im (.tup [g0, .tup (us.map Ru.d)]), .im (.tup (as.map Ac.d))] = .ok (.fr ((numsU us.length as).map fun (i : Nat) => D.int (i : Int))) [.no, .no] := by
  have b : (-4611686018427387904 ≤ (us.length : Int)) ∧ (us.length : Int) < 4611686018427387904 := by omega
  have e1 := rng_len g0 (us.map Ru.d) (as.map Ac.d) us.length (by rw [List.length_map]) b
  have q := l_numbers (.tup [g0, .tup (us.map Ru.d)]) us.length (by omega) as e1
  refine fin5 (rest := [.im (.tup [g0, .tup (us.map Ru.d)]), .im (.tup (as.map Ac.d)), .no]) rfl ?_ rfl _ rfl
  show f_numbers_under [.im (.tup [g0, .tup (us.map Ru.d)]), .im (.tup (as.map Ac.d)), .no] = _
  unfold f_numbers_under
  rw [sRet_s, q]
  rfl
def mostD (n : Nat) : D → Bool
  | .tup [_, .int k, _] => k == (n : Int)
  | _ => false
def thirdD : D → D
  | .tup [_, _, x] => x
  | d => d
theorem mosts_is (n : Nat) : ∀ as : List Ac, ((as.map Ac.d).filter (mostD n)).map thirdD = (mosts as n).map D.int
  | [] => rfl
  | .off k :: as => by
    have ih := mosts_is n as
    rw [List.map_cons, List.filter_cons_of_neg (by simp [Ac.d, mostD]), ih]
    rfl
  | .most k m :: as => by
    have ih := mosts_is n as
    unfold mosts at ih ⊢
    rw [List.map_cons, List.filterMap_cons]
    by_cases h : k = n
    · subst h
      rw [List.filter_cons_of_pos (by simp [Ac.d, mostD]), List.map_cons, ih]
      simp [Ac.d, thirdD]
    · rw [List.filter_cons_of_neg (by simp [Ac.d, mostD]; omega), ih]
      simp [h]
theorem st_most (s r : D) (ad : List D) (kk nn m : Int) (bb : Bool) (eq : dEqA (.tup [.str "most", .int kk]) (.tup [.str "most", .int nn]) = some (.im (.bl bb))) :
    (tV (eOp dEqA (eSl (eVar 5) tNp (tPa (eC (.int 2)))) (eTup (aCons (eC (.str "most")) (aCons (eVar 2) aNil))))) [.im s, .im (.tup ad), .im (.int nn), .im r, .no, .im (.tup [.str "most", .int kk, .int m])] = .ok bb [.im s, .im (.tup ad), .im (.int nn), .im r, .no, .im (.tup [.str "most", .int kk, .int m])] := by
  simp [cutD, HT.sIx, eq, sEr, op2, op1, T.val, R.opt, toB, opL, vals, consT, disp, mvs, mkTup, callT, callI, argE, others, isAl, isAli, finT, outE, padE, runD, cpsOf, cpT, toI, slT, T.weak, metT, kApp, kExt, elemD, iT, iL, iR1, iR2, iE, iZ, onI]
theorem st_off (s r : D) (ad : List D) (kk nn : Int) (eq : dEqA (.tup [.str "off", .int kk]) (.tup [.str "most", .int nn]) = some (.im (.bl false))) :
    (tV (eOp dEqA (eSl (eVar 5) tNp (tPa (eC (.int 2)))) (eTup (aCons (eC (.str "most")) (aCons (eVar 2) aNil))))) [.im s, .im (.tup ad), .im (.int nn), .im r, .no, .im (.tup [.str "off", .int kk])] = .ok false [.im s, .im (.tup ad), .im (.int nn), .im r, .no, .im (.tup [.str "off", .int kk])] := by
  simp [cutD, HT.sIx, eq, sEr, op2, op1, T.val, R.opt, toB, opL, vals, consT, disp, mvs, mkTup, callT, callI, argE, others, isAl, isAli, finT, outE, padE, runD, cpsOf, cpT, toI, slT, T.weak, metT, kApp, kExt, elemD, iT, iL, iR1, iR2, iE, iZ, onI]
theorem l_mosts (s r : D) (n : Nat) (as : List Ac) (ha : as.length ≤ 1000) :
    eLc (fiT (eVar 1)) [5] (.one 5) (tV (eOp dEqA (eSl (eVar 5) tNp (tPa (eC (.int 2)))) (eTup (aCons (eC (.str "most")) (aCons (eVar 2) aNil))))) (eOp dIx (eVar 5) (eC (.int 2))) [.im s, .im (.tup (as.map Ac.d)), .im (.int n), .im r, .no, .no] = .ok (.fr ((mosts as n).map D.int)) [.im s, .im (.tup (as.map Ac.d)), .im (.int n), .im r, .no, .no] := by
  have q := eLc_of (fi := fiT (eVar 1)) (vs := [5]) (t := .one 5) (ft := tV (eOp dEqA (eSl (eVar 5) tNp (tPa (eC (.int 2)))) (eTup (aCons (eC (.str "most")) (aCons (eVar 2) aNil))))) (fe := eOp dIx (eVar 5) (eC (.int 2))) (env := [.im s, .im (.tup (as.map Ac.d)), .im (.int n), .im r, .no, .no]) (k := ⟨as.map Ac.d, none⟩) (e := [.im s, .im (.tup (as.map Ac.d)), .im (.int n), .im r, .no, .no]) (by simp [sEr, op2, op1, T.val, R.opt, toB, opL, vals, consT, disp, mvs, mkTup, callT, callI, argE, others, isAl, isAli, finT, outE, padE, runD, cpsOf, cpT, toI, slT, T.weak, metT, kApp, kExt, elemD, iT, iL, iR1, iR2, iE, iZ, onI])
    (lc_filter (k := ⟨as.map Ac.d, none⟩) (vs := [5]) (t := .one 5) (p := mostD n) (h := thirdD) (env := [.im s, .im (.tup (as.map Ac.d)), .im (.int n), .im r, .no, .no]) trivial (as.map Ac.d) [] (small_size (by simpa using ha)) fun d z => by
      obtain ⟨a, _, rfl⟩ := List.mem_map.mp z
      generalize as.map Ac.d = ad
      refine ⟨[.im s, .im (.tup ad), .im (.int n), .im r, .no, .im a.d], [.im s, .im (.tup ad), .im (.int n), .im r, .no, .im a.d], rfl, ?_, rfl, fun h => ?_⟩
      · cases a with
        | off k =>
          have e : mostD n (Ac.off k).d = false := rfl
          have eq : dEqA (.tup [.str "off", .int k]) (.tup [.str "most", .int n]) = some (.im (.bl false)) := by
            unfold dEqA dEqS dEq
            simp [shp_off, shp_most2]
          rw [e]
          exact st_off s r ad k n eq
        | most k m =>
          have e : mostD n (Ac.most k m).d = ((k : Int) == n) := rfl
          have eq : dEqA (.tup [.str "most", .int k]) (.tup [.str "most", .int n]) = some (.im (.bl ((k : Int) == n))) := by
            unfold dEqA dEqS dEq
            simp [shp_most2]
          rw [e]
          exact st_most s r ad k n m _ eq
      · cases a with
        | off k => exact (Bool.false_ne_true h).elim
        | most k m => exact ⟨.im (.int m), _, by simp [Ac.d, dIx, atI, ixN, sEr, op2, op1, T.val, R.opt, toB, opL, vals, consT, disp, mvs, mkTup, callT, callI, argE, others, isAl, isAli, finT, outE, padE, runD, cpsOf, cpT, toI, slT, T.weak, metT, kApp, kExt, elemD, iT, iL, iR1, iR2, iE, iZ, onI]; exact rfl, rfl, rfl⟩)
  rw [List.nil_append, mosts_is] at q
  exact q
theorem ru0 (g0 dd : D) (ud ad : List D) (nn : Int) (q : eLc (fiT (eVar 1)) [5] (.one 5) (tV (eOp dEqA (eSl (eVar 5) tNp (tPa (eC (.int 2)))) (eTup (aCons (eC (.str "most")) (aCons (eVar 2) aNil))))) (eOp dIx (eVar 5) (eC (.int 2))) [.im (.tup [g0, .tup ud]), .im (.tup ad), .im (.int nn), .im dd, .no, .no] = .ok (.fr []) [.im (.tup [g0, .tup ud]), .im (.tup ad), .im (.int nn), .im dd, .no, .no]) (a1 : atI ud nn = some dd) :
    d_rule_under [.im (.tup [g0, .tup ud]), .im (.tup ad), .im (.int nn)] = .ok (.im dd) [.no, .no, .no] := by
  simp [d_rule_under, f_rule_under, f_rule_under_1, f_rule_under_2, f_rule_under_3, q, dIx, a1, sEr, op2, op1, T.val, R.opt, toB, opL, vals, consT, disp, mvs, mkTup, callT, callI, argE, others, isAl, isAli, finT, outE, padE, runD, cpsOf, cpT, toI, slT, T.weak, metT, kApp, kExt, elemD, iT, iL, iR1, iR2, iE, iZ, onI]
theorem ru5 (g0 : D) (ud ad md : List D) (nn mm : Int) (a b c d e : D) (q : eLc (fiT (eVar 1)) [5] (.one 5) (tV (eOp dEqA (eSl (eVar 5) tNp (tPa (eC (.int 2)))) (eTup (aCons (eC (.str "most")) (aCons (eVar 2) aNil))))) (eOp dIx (eVar 5) (eC (.int 2))) [.im (.tup [g0, .tup ud]), .im (.tup ad), .im (.int nn), .im (.tup [a, b, c, d, e]), .no, .no] = .ok (.fr md) [.im (.tup [g0, .tup ud]), .im (.tup ad), .im (.int nn), .im (.tup [a, b, c, d, e]), .no, .no]) (a1 : atI ud nn = some (.tup [a, b, c, d, e])) (mn : dMin1 [.lst md] = some (.im (.int mm))) (ll : ((md.length : Int) == 0) = false) :
    d_rule_under [.im (.tup [g0, .tup ud]), .im (.tup ad), .im (.int nn)] = .ok (.im (.tup [a, b, c, d, .int mm])) [.no, .no, .no] := by
  simp [d_rule_under, f_rule_under, f_rule_under_1, f_rule_under_2, f_rule_under_3, f_rule_under_4, q, dIx, a1, mn, ll, cutD, HT.sIx, sEr, op2, op1, T.val, R.opt, toB, opL, vals, consT, disp, mvs, mkTup, callT, callI, argE, others, isAl, isAli, finT, outE, padE, runD, cpsOf, cpT, toI, slT, T.weak, metT, kApp, kExt, elemD, iT, iL, iR1, iR2, iE, iZ, onI]
theorem ru4 (g0 : D) (ud ad md : List D) (nn mm : Int) (a b c e : D) (q : eLc (fiT (eVar 1)) [5] (.one 5) (tV (eOp dEqA (eSl (eVar 5) tNp (tPa (eC (.int 2)))) (eTup (aCons (eC (.str "most")) (aCons (eVar 2) aNil))))) (eOp dIx (eVar 5) (eC (.int 2))) [.im (.tup [g0, .tup ud]), .im (.tup ad), .im (.int nn), .im (.tup [a, b, c, e]), .no, .no] = .ok (.fr md) [.im (.tup [g0, .tup ud]), .im (.tup ad), .im (.int nn), .im (.tup [a, b, c, e]), .no, .no]) (a1 : atI ud nn = some (.tup [a, b, c, e])) (mn : dMin1 [.lst md] = some (.im (.int mm))) (ll : ((md.length : Int) == 0) = false) :
    d_rule_under [.im (.tup [g0, .tup ud]), .im (.tup ad), .im (.int nn)] = .ok (.im (.tup [a, b, c, .int mm])) [.no, .no, .no] := by
  simp [d_rule_under, f_rule_under, f_rule_under_1, f_rule_under_2, f_rule_under_3, f_rule_under_4, q, dIx, a1, mn, ll, cutD, HT.sIx, sEr, op2, op1, T.val, R.opt, toB, opL, vals, consT, disp, mvs, mkTup, callT, callI, argE, others, isAl, isAli, finT, outE, padE, runD, cpsOf, cpT, toI, slT, T.weak, metT, kApp, kExt, elemD, iT, iL, iR1, iR2, iE, iZ, onI]
theorem r_rule_under (g0 : D) {us : List Ru} {as : List Ac} (ha : as.length ≤ 1000) {n : Nat} {u : Ru} (hu : us[n]? = some u) (hc : mosts as n ≠ [] → u.capped = true) :
    d_rule_under [.im (.tup [g0, .tup (us.map Ru.d)]), .im (.tup (as.map Ac.d)), .im (.int n)] = .ok (.im (ruU u as n).d) [.no, .no, .no] := by
  have a1 := at_map (f := Ru.d) hu
  have q := l_mosts (.tup [g0, .tup (us.map Ru.d)]) u.d n as ha
  unfold ruU
  cases hm : mosts as n with
  | nil =>
    rw [hm] at q
    exact ru0 g0 u.d _ _ n q a1
  | cons m ms =>
    rw [hm] at q
    have cap := hc (by rw [hm]; exact fun z => nomatch z)
    have mn := dMin1_lst m ms
    have ll : ((((m :: ms).map D.int).length : Int) == 0) = false := by simp; omega
    cases u with
    | pack g s p k => exact ru5 g0 _ _ _ n _ _ _ _ _ _ q a1 mn ll
    | each f o k => exact ru4 g0 _ _ _ n _ _ _ _ _ q a1 mn ll
    | frm g l p => exact (Bool.false_ne_true cap).elim
    | over f o => exact (Bool.false_ne_true cap).elim
def underL (us : List Ru) (as : List Ac) : List Ru := (numsU us.length as).map fun i => ruU (us.getD i (.over 2 1)) as i
theorem mosts_ok {us : List Ru} {as : List Ac} (h : ∀ a ∈ as, a.ok us) {n : Nat} {u : Ru} (hu : us[n]? = some u) : ∀ m ∈ mosts as n, (1 ≤ m ∧ m ≤ 2) ∧ u.lessM m = true := by
  intro m hm
  unfold mosts at hm
  rw [List.mem_filterMap] at hm
  obtain ⟨a, ha, e⟩ := hm
  cases a with
  | off k => cases e
  | most k m' =>
    simp at e
    obtain ⟨rfl, rfl⟩ := e
    obtain ⟨h1, u', e1, e2⟩ := h _ ha
    rw [hu] at e1
    cases e1
    exact ⟨h1, e2⟩
theorem mosts_cap {us : List Ru} {as : List Ac} (h : ∀ a ∈ as, a.ok us) {n : Nat} {u : Ru} (hu : us[n]? = some u) : mosts as n ≠ [] → u.capped = true := by
  intro hne
  obtain ⟨m, hm⟩ := List.exists_mem_of_ne_nil _ hne
  exact lessM_cap (mosts_ok h hu m hm).2
theorem lu1 (sh rd : D) (ad nd : List D) (ii : Int) (r : d_rule_under [.im sh, .im (.tup ad), .im (.int ii)] = .ok (.im rd) [.no, .no, .no]) :
    eCall d_rule_under (aCons (eVar 0) (aCons (eVar 1) (aCons (eVar 3) aNil))) [.im sh, .im (.tup ad), .own false nd, .im (.int ii)] = .ok (.im rd) [.im sh, .im (.tup ad), .own false nd, .im (.int ii)] := by
  simp [r, sEr, op2, op1, T.val, R.opt, toB, opL, vals, consT, disp, mvs, mkTup, callT, callI, argE, others, isAl, isAli, finT, outE, padE, runD, cpsOf, cpT, toI, slT, T.weak, metT, kApp, kExt, elemD, iT, iL, iR1, iR2, iE, iZ, onI]
theorem lu2 (sh gdd : D) (ad nd ld : List D) (q1 : d_numbers_under [.im sh, .im (.tup ad)] = .ok (.fr nd) [.no, .no]) (q2 : eLc (fiL false (eVar 2)) [3] (.one 3) tT (eCall d_rule_under (aCons (eVar 0) (aCons (eVar 1) (aCons (eVar 3) aNil)))) [.im sh, .im (.tup ad), .own false nd, .no] = .ok (.fr ld) [.im sh, .im (.tup ad), .own false nd, .no]) (d0 : dIx sh (.int 0) = some (.im gdd)) :
    f_left_under [.im sh, .im (.tup ad), .no, .no] = .rt (.im (.tup [gdd, .tup ld])) [.im sh, .im (.tup ad), .own false nd, .no] := by
  simp [f_left_under, f_left_under_1, f_left_under_2, q1, q2, d0, sEr, op2, op1, T.val, R.opt, toB, opL, vals, consT, disp, mvs, mkTup, callT, callI, argE, others, isAl, isAli, finT, outE, padE, runD, cpsOf, cpT, toI, slT, T.weak, metT, kApp, kExt, elemD, iT, iL, iR1, iR2, iE, iZ, onI]
theorem l_left (sh : D) (us : List Ru) (as : List Ac) (ns : List Nat) (nl : ns.length ≤ 4) (r : ∀ i ∈ ns, d_rule_under [.im sh, .im (.tup (as.map Ac.d)), .im (.int i)] = .ok (.im (ruU (us.getD i (.over 2 1)) as i).d) [.no, .no, .no]) :
    eLc (fiL false (eVar 2)) [3] (.one 3) tT (eCall d_rule_under (aCons (eVar 0) (aCons (eVar 1) (aCons (eVar 3) aNil)))) [.im sh, .im (.tup (as.map Ac.d)), .own false (ns.map fun (i : Nat) => D.int (i : Int)), .no] = .ok (.fr ((ns.map fun i => ruU (us.getD i (.over 2 1)) as i).map Ru.d)) [.im sh, .im (.tup (as.map Ac.d)), .own false (ns.map fun (i : Nat) => D.int (i : Int)), .no] := by
  let hD : D → D := fun d => match d with
    | .int i => (ruU (us.getD i.toNat (.over 2 1)) as i.toNat).d
    | d => d
  have q := eLc_of (fi := fiL false (eVar 2)) (vs := [3]) (t := .one 3) (ft := tT) (fe := eCall d_rule_under (aCons (eVar 0) (aCons (eVar 1) (aCons (eVar 3) aNil)))) (env := [.im sh, .im (.tup (as.map Ac.d)), .own false (ns.map fun (i : Nat) => D.int (i : Int)), .no]) (k := ⟨ns.map fun (i : Nat) => D.int (i : Int), some (2, ns.map fun (i : Nat) => D.int (i : Int))⟩) (e := [.im sh, .im (.tup (as.map Ac.d)), .own false (ns.map fun (i : Nat) => D.int (i : Int)), .no]) (by simp [sEr, op2, op1, T.val, R.opt, toB, opL, vals, consT, disp, mvs, mkTup, callT, callI, argE, others, isAl, isAli, finT, outE, padE, runD, cpsOf, cpT, toI, slT, T.weak, metT, kApp, kExt, elemD, iT, iL, iR1, iR2, iE, iZ, onI])
    (lc_map (k := ⟨ns.map fun (i : Nat) => D.int (i : Int), some (2, ns.map fun (i : Nat) => D.int (i : Int))⟩) (vs := [3]) (t := .one 3) (h := hD) (env := [.im sh, .im (.tup (as.map Ac.d)), .own false (ns.map fun (i : Nat) => D.int (i : Int)), .no]) ⟨false, rfl⟩ (ns.map fun (i : Nat) => D.int (i : Int)) [] (small_size (by simp; omega)) fun d z => by
      obtain ⟨i, hi, rfl⟩ := List.mem_map.mp z
      have eh : hD (.int (i : Int)) = (ruU (us.getD i (.over 2 1)) as i).d := by
        show (ruU (us.getD ((i : Int)).toNat (.over 2 1)) as ((i : Int)).toNat).d = _
        rw [Int.toNat_natCast]
      refine ⟨[.im sh, .im (.tup (as.map Ac.d)), .own false (ns.map fun (i : Nat) => D.int (i : Int)), .im (.int i)], .im (hD (.int (i : Int))), [.im sh, .im (.tup (as.map Ac.d)), .own false (ns.map fun (i : Nat) => D.int (i : Int)), .im (.int i)], rfl, ?_, rfl, rfl⟩
      rw [eh]
      exact lu1 sh _ _ _ i (r i hi))
  rw [q, List.nil_append]
  congr 2
  rw [List.map_map, List.map_map]
  apply List.map_congr_left
  intro i _
  show (ruU (us.getD ((i : Int)).toNat (.over 2 1)) as ((i : Int)).toNat).d = _
  rw [Int.toNat_natCast]
  rfl
theorem r_left_under {gi : List (Int × Int)} {us : List Ru} (h : Shp gi us) {as : List Ac} (ha : as.length ≤ 1000) (hok : ∀ a ∈ as, a.ok us) : d_left_under [.im (shopD gi us), .im (.tup (as.map Ac.d))] = .ok (.im (shopD gi (underL us as))) [.no, .no] := by
  have few := h.few
  have q1 := r_numbers (.tup (gi.map gd)) (us := us) few as
  have nl : (numsU us.length as).length ≤ 4 := Nat.le_trans (List.length_filter_le _ _) (by simpa using few)
  have q2 := l_left (shopD gi us) us as (numsU us.length as) nl fun i hi => by
    have hi' : i < us.length := by
      unfold numsU at hi
      simpa using (List.mem_filter.mp hi).1
    have eu : us[i]? = some us[i] := List.getElem?_eq_getElem hi'
    have e2 : us.getD i (.over 2 1) = us[i] := by rw [List.getD_eq_getElem?_getD, eu]; rfl
    rw [e2]
    exact r_rule_under (.tup (gi.map gd)) ha eu (mosts_cap hok eu)
  have q3 := lu2 (shopD gi us) (.tup (gi.map gd)) _ _ _ q1 q2 rfl
  refine fin5 (rest := [.im (shopD gi us), .im (.tup (as.map Ac.d)), .own false ((numsU us.length as).map fun (i : Nat) => D.int (i : Int)), .no]) rfl ?_ rfl _ rfl
  exact q3

end DL
namespace DL
open PySem PySem.Spec L2
def Ac.lt : Ac → Ac → Bool
  | .most _ _, .off _ => true
  | .off _, .most _ _ => false
  | .off n, .off k => decide (n < k)
  | .most n m, .most k l => decide (n < k) || (decide (n = k) && decide (m < l))
theorem lt_words : PySem.W.dataLt (.str ("most" : Str)) (.str ("off" : Str)) = true ∧ PySem.W.dataLt (.str ("off" : Str)) (.str ("most" : Str)) = false := by
  rw [PySem.W.dataLt_str, PySem.W.dataLt_str]
  exact ⟨by decide +kernel, by decide +kernel⟩
theorem lex_nil : PyProof.Rows.lexLt PyProof.Rows.itemOrd (PySem.W.keyToksAll []) (PySem.W.keyToksAll []) = false := by decide +kernel
theorem int_dec (n k : Nat) : decide ((n : Int) < (k : Int)) = decide (n < k) := by
  rw [Bool.eq_iff_iff]; simp
theorem ltD_ac (a b : Ac) : ltD a.d b.d = a.lt b := by
  have al : ∀ x y : Str, PySem.W.alike (.str x) (.str y) = true := fun _ _ => rfl
  have ai : ∀ x y : Int, PySem.W.alike (.int x) (.int y) = true := fun _ _ => rfl
  have step : ∀ (x y : Int) (xs ys : List PyData), PyProof.Rows.lexLt PyProof.Rows.itemOrd (PySem.W.keyToksAll (.int x :: xs)) (PySem.W.keyToksAll (.int y :: ys)) = if x = y then PyProof.Rows.lexLt PyProof.Rows.itemOrd (PySem.W.keyToksAll xs) (PySem.W.keyToksAll ys) else decide (x < y) := fun x y xs ys => by
    by_cases h : x = y
    · rw [if_pos h, PySem.W.dataLt_all_yes (ai x y) (by rw [h]; exact beq_self_eq_true y)]
    · rw [if_neg h, PySem.W.dataLt_all_no (ai x y) (by exact beq_eq_false_iff_ne.mpr h), PySem.W.dataLt_int]
  cases a with
  | off n =>
    cases b with
    | off k =>
      show PySem.W.dataLt (.tuple [.str "off", .int n]) (.tuple [.str "off", .int k]) = _
      rw [PySem.W.dataLt_tuple, PySem.W.dataLt_all_yes (al _ _) (by exact beq_self_eq_true _), step, lex_nil, int_dec]
      simp only [Ac.lt]
      split <;> rename_i h
      · have : n = k := by omega
        subst this
        simp
      · rfl
    | most k l =>
      show PySem.W.dataLt (.tuple [.str "off", .int n]) (.tuple [.str "most", .int k, .int l]) = _
      rw [PySem.W.dataLt_tuple, PySem.W.dataLt_all_no (al _ _) (by exact v1), lt_words.2]
      rfl
  | most n m =>
    cases b with
    | off k =>
      show PySem.W.dataLt (.tuple [.str "most", .int n, .int m]) (.tuple [.str "off", .int k]) = _
      rw [PySem.W.dataLt_tuple, PySem.W.dataLt_all_no (al _ _) (by exact v2), lt_words.1]
      rfl
    | most k l =>
      show PySem.W.dataLt (.tuple [.str "most", .int n, .int m]) (.tuple [.str "most", .int k, .int l]) = _
      rw [PySem.W.dataLt_tuple, PySem.W.dataLt_all_yes (al _ _) (by exact beq_self_eq_true _), step, step, lex_nil, int_dec]
      simp only [Ac.lt]
      by_cases h : n = k
      · subst h
        by_cases h2 : m = l
        · subst h2
          simp
        · simp [h2]
      · have h' : ¬ ((n : Int) = (k : Int)) := by omega
        simp [h, h']
theorem alike_ac (a b : Ac) : alikeD a.d b.d = true := by
  cases a <;> cases b <;> rfl
theorem lt_acts (a b : Ac) : dLtA a.d b.d = some (.im (.bl (a.lt b))) := by
  have e : dLt a.d b.d = none := by cases a <;> cases b <;> rfl
  have n : isNonD a.d = false := by cases a <;> rfl
  have dp : dep a.d ≤ 60 := by rw [a.lay1.2]; decide
  unfold dLtA
  rw [e]
  have pl : ∀ a : Ac, (toP a.d).plain = true := fun a => plain_of_shp (by rw [shp_eq, a.lay1.1, a.lay1.2]; rfl)
  unfold dLtD
  rw [if_pos ⟨alike_ac a b, n, dp, pl a, pl b⟩, ltD_ac]
def asc : List Ac → Bool
  | a :: b :: r => a.lt b && asc (b :: r)
  | _ => true
def ltP : D → Bool
  | .tup [x, y] => ltD x y
  | _ => false
theorem asc_is : ∀ as : List Ac, (zipD (as.map Ac.d) (as.map Ac.d).tail).all ltP = asc as
  | [] => rfl
  | [a] => rfl
  | a :: b :: r => by
    have ih := asc_is (b :: r)
    have e : zipD ((a :: b :: r).map Ac.d) ((a :: b :: r).map Ac.d).tail = .tup [a.d, b.d] :: zipD ((b :: r).map Ac.d) ((b :: r).map Ac.d).tail := rfl
    rw [e, List.all_cons, ih]
    show (ltD a.d b.d && asc (b :: r)) = (a.lt b && asc (b :: r))
    rw [ltD_ac]
theorem zip_acts {as : List Ac} {d : D} (h : d ∈ zipD (as.map Ac.d) (as.map Ac.d).tail) : ∃ a b : Ac, d = .tup [a.d, b.d] := by
  obtain ⟨i, hi⟩ := List.getElem?_of_mem h
  obtain ⟨x, y, e1, e2, rfl⟩ := zipD_get hi
  rw [List.getElem?_map] at e1
  obtain ⟨a, _, rfl⟩ := Option.map_eq_some_iff.mp e1
  have hy := List.mem_of_mem_tail (List.mem_of_getElem? e2)
  obtain ⟨b, _, rfl⟩ := List.mem_map.mp hy
  exact ⟨a, b, rfl⟩
theorem cut_tail (ds : List D) : cutD ds (some 1) none = ds.tail := by
  cases ds with
  | nil => rfl
  | cons d ds =>
    have : min 1 (ds.length + 1) = 1 := by omega
    simp [cutD, HT.sIx, this]
theorem r_is_ascending (as : List Ac) (hl : as.length ≤ 1000) : d_is_ascending [.im (.tup (as.map Ac.d))] = .ok (.im (.bl (asc as))) [.no] := by
  have e1 : fiZ false (aCons (eVar 0) (aCons (eSl (eVar 0) (tPa (eC (.int 1))) tNp) aNil)) [.im (.tup (as.map Ac.d)), .no, .no] = .ok ⟨zipD (as.map Ac.d) (as.map Ac.d).tail, none⟩ [.im (.tup (as.map Ac.d)), .no, .no] := by
    have ct := cut_tail (as.map Ac.d)
    generalize as.map Ac.d = ad at ct
    simp [ct, sEr, op2, op1, T.val, R.opt, toB, opL, vals, consT, disp, mvs, mkTup, callT, callI, argE, others, isAl, isAli, finT, outE, padE, runD, cpsOf, cpT, toI, slT, T.weak, metT, kApp, kExt, elemD, iT, iL, iR1, iR2, iE, iZ, onI]
  have q := eLc_of (vs := [1, 2]) (t := .tup [1, 2]) (ft := tT) (fe := eOp dLtA (eVar 1) (eVar 2)) e1
    (lc_map (k := ⟨zipD (as.map Ac.d) (as.map Ac.d).tail, none⟩) (vs := [1, 2]) (t := .tup [1, 2]) (h := fun d => .bl (ltP d)) (env := [.im (.tup (as.map Ac.d)), .no, .no]) trivial (zipD (as.map Ac.d) (as.map Ac.d).tail) [] (small_size (by rw [zipD_len]; simp; omega)) fun d z => by
      obtain ⟨a, b, rfl⟩ := zip_acts z
      have l := lt_acts a b
      refine ⟨[.im (.tup (as.map Ac.d)), .im a.d, .im b.d], .im (.bl (a.lt b)), [.im (.tup (as.map Ac.d)), .im a.d, .im b.d], rfl, ?_, ?_, rfl⟩
      · generalize as.map Ac.d = ad
        generalize a.d = x at l
        generalize b.d = y at l
        simp [l, sEr, op2, op1, T.val, R.opt, toB, opL, vals, consT, disp, mvs, mkTup, callT, callI, argE, others, isAl, isAli, finT, outE, padE, runD, cpsOf, cpT, toI, slT, T.weak, metT, kApp, kExt, elemD, iT, iL, iR1, iR2, iE, iZ, onI]
      · show T.im (D.bl (a.lt b)) = T.im (.bl (ltD a.d b.d))
        rw [ltD_ac])
  rw [List.nil_append] at q
  have al := dAll_map ltP (zipD (as.map Ac.d) (as.map Ac.d).tail)
  rw [asc_is] at al
  refine fin5 (rest := [.im (.tup (as.map Ac.d)), .no, .no]) rfl ?_ rfl _ rfl
  show f_is_ascending [.im (.tup (as.map Ac.d)), .no, .no] = _
  generalize (zipD (as.map Ac.d) (as.map Ac.d).tail).map (fun d => D.bl (ltP d)) = zz at q al
  generalize as.map Ac.d = ad at q
  simp [f_is_ascending, q, al, sEr, op2, op1, T.val, R.opt, toB, opL, vals, consT, disp, mvs, mkTup, callT, callI, argE, others, isAl, isAli, finT, outE, padE, runD, cpsOf, cpT, toI, slT, T.weak, metT, kApp, kExt, elemD, iT, iL, iR1, iR2, iE, iZ, onI]
theorem act_ac {us : List Ru} {v : D} (h : isAct us v = true) : ∃ a : Ac, v = a.d ∧ a.ok us := by
  unfold isAct at h
  split at h
  · rename_i w rest
    cases h1 : w == "off" with
    | true =>
      rw [h1] at h
      have : w = "off" := by simpa using h1
      subst this
      have h : isOffAct us rest = true := h
      unfold isOffAct at h
      split at h
      · rename_i n
        obtain ⟨i, rfl⟩ := isBt_int h
        have := isBt_of h
        refine ⟨.off i.toNat, ?_, ?_⟩
        · show _ = D.tup [.str "off", .int (i.toNat : Int)]
          rw [Int.toNat_of_nonneg this.1]
        · show i.toNat < us.length
          omega
      · cases h
    | false =>
      rw [h1] at h
      have hw : (w == "most" && isMostAct us rest) = true := h
      rw [Bool.and_eq_true] at hw
      have hm : w = "most" := by simpa using hw.1
      subst hm
      clear h
      have hr := hw.2
      clear hw h1
      match rest, hr with
      | [.int n, m], hr =>
        unfold isMostAct at hr
        dsimp only at hr
        rw [Bool.and_eq_true] at hr
        obtain ⟨h2, h3⟩ := hr
        have b := isBt_of h2
        cases eu : us[n.toNat]? with
        | none => rw [eu] at h3; cases h3
        | some u =>
          rw [eu] at h3
          cases m <;> try (cases h3; done)
          rename_i m
          simp only [Ru.capD, Bool.and_eq_true] at h3
          have b2 := isBt_of h3.1
          refine ⟨.most n.toNat m, ?_, b2, u, eu, h3.2⟩
          show _ = D.tup [.str "most", .int (n.toNat : Int), .int m]
          rw [Int.toNat_of_nonneg b.1]
  · cases h
theorem ac_act {us : List Ru} {a : Ac} (h : a.ok us) : isAct us a.d = true := by
  cases a with
  | off n =>
    have h : n < us.length := h
    have e : isAct us (Ac.off n).d = isOffAct us [.int n] := by simp [Ac.d, isAct]
    rw [e]
    simp [isOffAct, isBetween]
    omega
  | most n m =>
    obtain ⟨h1, u, eu, hu⟩ := h
    have hn : n < us.length := (List.getElem?_eq_some_iff.mp eu).1
    have e : isAct us (Ac.most n m).d = isMostAct us [.int n, .int m] := by simp [Ac.d, isAct]
    rw [e]
    have b1 : isBetween (.int (n : Int)) 0 (us.length - 1) = true := by simp [isBetween]; omega
    have b2 : isBetween (.int m) 1 2 = true := by simp [isBetween, h1]
    unfold isMostAct
    dsimp only
    rw [b1, Int.toNat_natCast, eu]
    simp [Ru.capD, b2, hu]
theorem all_acts {us : List Ru} : ∀ {ds : List D}, ds.all (isAct us) = true → ∃ as : List Ac, ds = as.map Ac.d ∧ ∀ a ∈ as, a.ok us
  | [], _ => ⟨[], rfl, fun a z => by cases z⟩
  | d :: ds, h => by
    rw [List.all_cons, Bool.and_eq_true] at h
    obtain ⟨a, rfl, ok⟩ := act_ac h.1
    obtain ⟨as, rfl, oks⟩ := all_acts h.2
    exact ⟨a :: as, rfl, fun x z => (List.mem_cons.mp z).elim (fun z => z ▸ ok) (oks x)⟩
theorem acts_all {us : List Ru} {as : List Ac} (h : ∀ a ∈ as, a.ok us) : (as.map Ac.d).all (isAct us) = true := by
  rw [List.all_eq_true]
  intro d hd
  obtain ⟨a, ha, rfl⟩ := List.mem_map.mp hd
  exact ac_act (h a ha)
def areActs (us : List Ru) (v : D) : Prop := ∃ as : List Ac, v = .tup (as.map Ac.d) ∧ as.length ≤ 8 ∧ (∀ a ∈ as, a.ok us) ∧ asc as = true
theorem map_acd_inj {as bs : List Ac} (h : as.map Ac.d = bs.map Ac.d) : as = bs := by
  induction as generalizing bs with
  | nil => cases bs <;> first | rfl | cases h
  | cons a as ih =>
    cases bs with
    | nil => cases h
    | cons b bs =>
      rw [List.map_cons, List.map_cons] at h
      injection h with h1 h2
      have : a = b := by
        have := eqv_ac a b
        rw [h1, eqv_ac] at this
        simpa using this
      rw [this, ih h2]
theorem l_isacts (s : D) (us : List Ru) (ds : List D) (hl : ds.length ≤ 1000) (hs : ∀ d, d_is_act [.im s, .im d] = .ok (.im (.bl (isAct us d))) [.no, .no]) : eLc (fiT (eVar 1)) [2] (.one 2) tT (eCall d_is_act (aCons (eVar 0) (aCons (eVar 2) aNil))) [.im s, .im (.tup ds), .no] = .ok (.fr (ds.map fun d => .bl (isAct us d))) [.im s, .im (.tup ds), .no] := by
  have := lc_map (k := ⟨ds, none⟩) (vs := [2]) (t := .one 2) (fe := eCall d_is_act (aCons (eVar 0) (aCons (eVar 2) aNil))) (h := fun d => .bl (isAct us d)) (env := [.im s, .im (.tup ds), .no]) trivial ds [] (small_size (by simpa using hl)) fun d _ =>
    ⟨_, _, _, rfl, by simp [hs d, sEr, op2, op1, T.val, R.opt, toB, opL, vals, consT, disp, mvs, mkTup, callT, callI, argE, others, isAl, isAli, finT, outE, padE, runD, cpsOf, cpT, toI, slT, T.weak, metT, kApp, kExt, elemD, iT, iL, iR1, iR2, iE, iZ, onI]; exact ⟨rfl, rfl⟩, rfl, rfl⟩
  rw [eLc_s]
  simp [wipeE, this, sEr, op2, op1, T.val, R.opt, toB, opL, vals, consT, disp, mvs, mkTup, callT, callI, argE, others, isAl, isAli, finT, outE, padE, runD, cpsOf, cpT, toI, slT, T.weak, metT, kApp, kExt, elemD, iT, iL, iR1, iR2, iE, iZ, onI]
open Classical in
theorem r_are_acts {gi : List (Int × Int)} {us : List Ru} (h : Shp gi us) (v : D) : d_are_acts [.im (shopD gi us), .im v] = .ok (.im (.bl (decide (areActs us v)))) [.no, .no] := by
  have c := r_check_shop h.is
  have few := h.few
  have no : (∀ ds, v ≠ .tup ds) → decide (areActs us v) = false := fun z => decide_eq_false fun ⟨as, e, _⟩ => z _ e
  rcases v with _ | _ | _ | _ | ds | _ | _ <;> try (rw [no (fun _ z => nomatch z)]; simp [d_are_acts, f_are_acts, f_are_acts_1, f_are_acts_2, c, sEr, op2, op1, T.val, R.opt, toB, opL, vals, consT, disp, mvs, mkTup, callT, callI, argE, others, isAl, isAli, finT, outE, padE, runD, cpsOf, cpT, toI, slT, T.weak, metT, kApp, kExt, elemD, iT, iL, iR1, iR2, iE, iZ, onI]; done)
  by_cases hl : ds.length ≤ 8
  · have hl' : ¬ (8 : Int) < ds.length := by omega
    have li := l_isacts (shopD gi us) us ds (by omega) (fun d => r_is_act (.tup (gi.map gd)) few d)
    have al := dAll_map (isAct us) ds
    cases ha : ds.all (isAct us) with
    | false =>
      have e : decide (areActs us (.tup ds)) = false := decide_eq_false fun ⟨as, e, _, ok, _⟩ => by
        cases e
        rw [acts_all ok] at ha
        cases ha
      rw [e]
      rw [ha] at al
      generalize ds.map (fun d => D.bl (isAct us d)) = zz at li al
      generalize shopD gi us = sh at c li
      simp [d_are_acts, f_are_acts, f_are_acts_1, f_are_acts_2, f_are_acts_3, c, hl', li, al, sEr, op2, op1, T.val, R.opt, toB, opL, vals, consT, disp, mvs, mkTup, callT, callI, argE, others, isAl, isAli, finT, outE, padE, runD, cpsOf, cpT, toI, slT, T.weak, metT, kApp, kExt, elemD, iT, iL, iR1, iR2, iE, iZ, onI]
    | true =>
      obtain ⟨as, rfl, ok⟩ := all_acts ha
      rw [List.length_map] at hl
      have as' := r_is_ascending as (by omega)
      have e : decide (areActs us (.tup (as.map Ac.d))) = asc as := by
        rw [Bool.eq_iff_iff, decide_eq_true_eq]
        constructor
        · rintro ⟨bs, e, _, _, h4⟩
          have e' : as.map Ac.d = bs.map Ac.d := by injection e
          rw [map_acd_inj e']
          exact h4
        · exact fun z => ⟨as, rfl, hl, ok, z⟩
      rw [e]
      rw [ha] at al
      generalize (as.map Ac.d).map (fun d => D.bl (isAct us d)) = zz at li al
      generalize shopD gi us = sh at c li
      generalize as.map Ac.d = ad at li as' hl'
      simp [d_are_acts, f_are_acts, f_are_acts_1, f_are_acts_2, f_are_acts_3, c, hl', li, al, as', sEr, op2, op1, T.val, R.opt, toB, opL, vals, consT, disp, mvs, mkTup, callT, callI, argE, others, isAl, isAli, finT, outE, padE, runD, cpsOf, cpT, toI, slT, T.weak, metT, kApp, kExt, elemD, iT, iL, iR1, iR2, iE, iZ, onI]
  · have hl' : (8 : Int) < ds.length := by omega
    have e : decide (areActs us (.tup ds)) = false := decide_eq_false fun ⟨as, e, h2, _⟩ => by
      cases e
      rw [List.length_map] at hl
      exact hl h2
    rw [e]
    generalize shopD gi us = sh at c
    simp [d_are_acts, f_are_acts, f_are_acts_1, f_are_acts_2, c, hl', sEr, op2, op1, T.val, R.opt, toB, opL, vals, consT, disp, mvs, mkTup, callT, callI, argE, others, isAl, isAli, finT, outE, padE, runD, cpsOf, cpT, toI, slT, T.weak, metT, kApp, kExt, elemD, iT, iL, iR1, iR2, iE, iZ, onI]
structure Acts (us : List Ru) (as : List Ac) : Prop where
  len : as.length ≤ 8
  ok : ∀ a ∈ as, a.ok us
  asc : asc as = true
open Classical in
theorem r_are_ok {gi : List (Int × Int)} {us : List Ru} (h : Shp gi us) {as : List Ac} (a : Acts us as) : d_are_acts [.im (shopD gi us), .im (.tup (as.map Ac.d))] = .ok (.im (.bl true)) [.no, .no] := by
  rw [r_are_acts h, decide_eq_true (show areActs us _ from ⟨as, rfl, a.len, a.ok, a.asc⟩)]
theorem ca1 (sh ad : D) (q : d_are_acts [.im sh, .im ad] = .ok (.im (.bl true)) [.no, .no]) : d_check_acts [.im sh, .im ad] = .ok (.im .non) [.no, .no] := by
  simp [d_check_acts, f_check_acts, q, sEr, op2, op1, T.val, R.opt, toB, opL, vals, consT, disp, mvs, mkTup, callT, callI, argE, others, isAl, isAli, finT, outE, padE, runD, cpsOf, cpT, toI, slT, T.weak, metT, kApp, kExt, elemD, iT, iL, iR1, iR2, iE, iZ, onI]
theorem su1 (sh ad sh2 : D) (q : d_check_acts [.im sh, .im ad] = .ok (.im .non) [.no, .no]) (q2 : d_left_under [.im sh, .im ad] = .ok (.im sh2) [.no, .no]) : d_shop_under [.im sh, .im ad] = .ok (.im sh2) [.no, .no] := by
  simp [d_shop_under, f_shop_under, f_shop_under_1, f_shop_under_2, q, q2, sEr, op2, op1, T.val, R.opt, toB, opL, vals, consT, disp, mvs, mkTup, callT, callI, argE, others, isAl, isAli, finT, outE, padE, runD, cpsOf, cpT, toI, slT, T.weak, metT, kApp, kExt, elemD, iT, iL, iR1, iR2, iE, iZ, onI]
theorem r_check_acts {gi : List (Int × Int)} {us : List Ru} (h : Shp gi us) {as : List Ac} (a : Acts us as) : d_check_acts [.im (shopD gi us), .im (.tup (as.map Ac.d))] = .ok (.im .non) [.no, .no] := ca1 _ _ (r_are_ok h a)
theorem r_shop_under {gi : List (Int × Int)} {us : List Ru} (h : Shp gi us) {as : List Ac} (a : Acts us as) : d_shop_under [.im (shopD gi us), .im (.tup (as.map Ac.d))] = .ok (.im (shopD gi (underL us as))) [.no, .no] :=
  su1 _ _ _ (r_check_acts h a) (r_left_under h (by have := a.len; omega) a.ok)

end DL
namespace DL
open PySem PySem.Spec L2
theorem ok_isRule {u : Ru} {n : Int} (h : u.ok n) : isRule u.d n = true := by
  cases u with
  | pack g s p m =>
    obtain ⟨h1, h2, h3, h4⟩ := h
    refine isPack_of h1 h2 h3 ?_
    cases m with
    | none => rfl
    | some k => simp [oD, isMost, isBetween]; exact h4
  | frm g l p => exact isFrom_of h.1 h.2.1 h.2.2
  | over f o => exact isOver_of h.1 ⟨h.2.1, h.2.2.1⟩ h.2.2.2
  | each f o m =>
    obtain ⟨h1, h2, h3, h4⟩ := h
    show isEach (.tup [.str "each", .int f, .int o, oD m]) = true
    cases m with
    | none =>
      have := h4 rfl
      simp [isEach, isBetween, oD, isMost, isNon, h1, h2, this]
    | some k =>
      have h3 : 1 ≤ k ∧ k ≤ 2 := h3
      simp [isEach, isBetween, oD, isMost, isNon, h1, h2, h3]
theorem setM_ok {u : Ru} {n m : Int} (h : u.ok n) (hm : 1 ≤ m ∧ m ≤ 2) : (u.setM m).ok n := by
  cases u with
  | pack g s p k => exact ⟨h.1, h.2.1, h.2.2.1, hm⟩
  | frm g l p => exact h
  | over f o => exact h
  | each f o k => exact ⟨h.1, h.2.1, hm, fun z => by cases z⟩
theorem ruU_ok {us : List Ru} {as : List Ac} (ha : ∀ a ∈ as, a.ok us) {n : Nat} {u : Ru} (hu : us[n]? = some u) {k : Int} (h : u.ok k) : (ruU u as n).ok k := by
  have hm := mosts_ok ha hu
  unfold ruU
  cases e : mosts as n with
  | nil => exact h
  | cons m ms =>
    rw [e] at hm
    exact setM_ok h (hm _ (fold_min_mem ms m)).1
theorem ruU_endless {u : Ru} {as : List Ac} {n : Nat} (h : (ruU u as n).endless = true) : u.endless = true := by
  unfold ruU at h
  split at h
  · exact h
  · cases u <;> first | exact h | (simp [Ru.setM, Ru.endless] at h)
theorem getD_rng (us : List Ru) (d : Ru) : (List.range us.length).map (fun i => us.getD i d) = us := by
  apply List.ext_getElem?
  intro i
  rw [List.getElem?_map]
  by_cases h : i < us.length
  · rw [List.getElem?_range h, List.getElem?_eq_getElem h]
    simp [List.getD_eq_getElem?_getD, List.getElem?_eq_getElem h]
  · rw [List.getElem?_eq_none (by simpa using h), List.getElem?_eq_none (by omega)]
    rfl
theorem under_shp {gi : List (Int × Int)} {us : List Ru} (h : Shp gi us) {as : List Ac} (ha : ∀ a ∈ as, a.ok us) : Shp gi (underL us as) := by
  have mem : ∀ u ∈ underL us as, u.ok gi.length := fun u hu => by
    unfold underL at hu
    obtain ⟨i, hi, rfl⟩ := List.mem_map.mp hu
    have hi' : i < us.length := by
      unfold numsU at hi
      simpa using (List.mem_filter.mp hi).1
    have eu : us[i]? = some us[i] := List.getElem?_eq_getElem hi'
    have e2 : us.getD i (.over 2 1) = us[i] := by rw [List.getD_eq_getElem?_getD, eu]; rfl
    rw [e2]
    exact ruU_ok ha eu (h.ru _ (List.getElem_mem hi')).1
  refine ⟨h.len, h.pr, ?_, fun u hu => ⟨mem u hu, ok_isRule (mem u hu)⟩, ?_⟩
  · unfold underL numsU
    rw [List.length_map]
    exact Nat.le_trans (List.length_filter_le _ _) (by simpa using h.few)
  · refine Nat.le_trans ?_ h.one
    rw [← List.countP_eq_length_filter, ← List.countP_eq_length_filter]
    conv => rhs; rw [← getD_rng us (.over 2 1)]
    unfold underL numsU
    rw [List.countP_map, List.countP_map]
    refine Nat.le_trans (List.countP_mono_left (q := Ru.endless ∘ fun i => us.getD i (.over 2 1)) fun i _ z => ruU_endless z) ?_
    exact List.Sublist.countP_le List.filter_sublist
end DL
namespace DL
open PySem PySem.Spec L2
theorem seq_of {f g : FS} {e e1 : En} {x : Fl} (h : f e = .nx e1) (k : g e1 = x) : sSeq f g e = x := by
  rw [sSeq_s, h, seq_nx]
  exact k

end DL
namespace DL
open PySem PySem.Spec L2
def lessO (m : Int) : Option Int → Prop
  | none => True
  | some k => m < k
theorem full_min {w p m : Int} {k : Option Int} (h : lessO m k) : full w p (some m) = min (full w p k) m := by
  cases k with
  | none => simp only [full]; split <;> omega
  | some k => simp only [full]; have h : m < k := h; split <;> split <;> omega
theorem setM_fits (u : Ru) (m k x : Int) : (u.setM m).fits k x = u.fits k x := by cases u <;> rfl
theorem setM_cut (u : Ru) (m : Int) : (u.setM m).cut = u.cut := by cases u <;> rfl
section
variable {us : List Ru} {i : Nat} {u : Ru} {m : Int}
theorem set_fitIx (hu : us[i]? = some u) (k x : Int) : fitIx (us.set i (u.setM m)) k x = fitIx us k x := by
  have hi : i < us.length := (List.getElem?_eq_some_iff.mp hu).1
  have e : (us.set i (u.setM m)).map (fun v => v.fits k x) = us.map fun v => v.fits k x := by
    rw [List.map_set, setM_fits]
    apply List.ext_getElem?
    intro j
    by_cases h : i = j
    · subst h
      rw [List.getElem?_set_self (by rw [List.length_map]; exact hi), List.getElem?_map, hu]
      rfl
    · rw [List.getElem?_set_ne h]
  have f : ∀ vs : List Ru, fitIx vs k x = (vs.map fun v => v.fits k x).findIdx? id := fun vs => by
    unfold fitIx
    rw [List.findIdx?_map]
    rfl
  rw [f, f, e]
theorem set_fit_eq (hu : us[i]? = some u) {k x : Int} (h : fitIx us k x = some i) : fit (us.set i (u.setM m)) k x = some (u.setM m) ∧ fit us k x = some u ∧ u.fits k x = true := by
  have e := set_fitIx (m := m) hu k x
  have f : ∀ vs : List Ru, fit vs k x = (fitIx vs k x).bind fun j => vs[j]? := fun vs => find_ix
  have hi : i < us.length := (List.getElem?_eq_some_iff.mp hu).1
  obtain ⟨u', e1, e2, _⟩ := fit_some h
  rw [hu] at e1
  cases e1
  refine ⟨?_, ?_, e2⟩
  · rw [f, e, h]
    show (us.set i (u.setM m))[i]? = _
    rw [List.getElem?_set_self hi]
  · rw [f, h]
    exact hu
theorem set_wr (hu : us[i]? = some u) (hl : u.lessM m = true) {k x : Int} (h : fitIx us k x = some i) : wrO x (fit (us.set i (u.setM m)) k x) = min (wrO x (fit us k x)) m ∧ ∀ price, wrO x (fit us k x) ≤ m → amtBy price x (fit (us.set i (u.setM m)) k x) = amtBy price x (fit us k x) := by
  obtain ⟨e1, e2, e3⟩ := set_fit_eq (m := m) hu h
  rw [e1, e2]
  cases u with
  | pack g s p k' =>
    have hk : lessO m k' := by
      cases k' with
      | none => trivial
      | some k' => exact (by simpa [Ru.lessM] using hl : m < k')
    have q := full_min (w := x) (p := s) hk
    refine ⟨q, fun price hle => ?_⟩
    have hle : full x s k' ≤ m := hle
    show packAmt s p price x (some m) = packAmt s p price x k'
    unfold packAmt
    rw [q, Int.min_eq_left hle]
  | frm g l p => exact (Bool.false_ne_true hl).elim
  | over f o => exact (Bool.false_ne_true hl).elim
  | each f o k' => exact (Bool.false_ne_true e3).elim
theorem set_off {L : Int} (hl : u.lessM m = true) (h0 : 0 ≤ m) : (u.setM m).off L = min (u.off L) m := by
  cases u with
  | pack g s p k => simp [Ru.setM, Ru.off]; omega
  | frm g l p => exact (Bool.false_ne_true hl).elim
  | over f o => exact (Bool.false_ne_true hl).elim
  | each f o k =>
    have hk : lessO m k := by
      cases k with
      | none => trivial
      | some k' => exact (by simpa [Ru.lessM] using hl : m < k')
    exact full_min hk
def gAt (us : List Ru) (i : Nat) (k x : Int) : Option Int := if fitIx us k x = some i then some (wrO x (fit us k x)) else none
theorem gset_at (l : List Int) (hl : i < l.length) (k x : Int) : (gset us l (k, x))[i]? = (gAt us i k x).or l[i]? := by
  unfold gset gAt
  dsimp only
  cases e : fitIx us k x with
  | none => simp
  | some j =>
    by_cases h : j = i
    · subst h
      simp [List.getElem?_set_self hl]
    · rw [List.getElem?_set_ne h]
      have : ¬ (some j = some i) := fun z => h (Option.some.inj z)
      simp [this]
end
theorem usesL_at {gi : List (Int × Int)} {us : List Ru} {bs : List Int} {i : Nat} (hi : i < us.length) (hb : bs.length = 1 ∨ bs.length = 2) :
    (usesL gi us bs)[i]? = (match bs with
      | [a] => (gAt us i 0 a).or (sums us (amts gi us bs).sum).2[i]?
      | [a, b] => (gAt us i 1 b).or ((gAt us i 0 a).or (sums us (amts gi us bs).sum).2[i]?)
      | _ => none) := by
  have hl : (sums us (amts gi us bs).sum).2.length = us.length := by
    unfold sums
    rw [sums_len]
    simp
  unfold usesL gAll enumI
  rcases bs with _ | ⟨a, _ | ⟨b, _ | ⟨c, bs⟩⟩⟩
  · simp at hb
  · exact gset_at _ (by omega) _ _
  · show (gset us (gset us _ (0, a)) (1, b))[i]? = _
    rw [gset_at _ (by rw [gset_len]; omega), gset_at _ (by omega)]
  · simp at hb
section
variable {gi : List (Int × Int)} {us : List Ru} {i : Nat} {u : Ru} {m : Int}
theorem usesL_len (gi : List (Int × Int)) (us : List Ru) (bs : List Int) : (usesL gi us bs).length = us.length := by
  unfold usesL
  unfold gAll
  rw [gAll_len]
  unfold sums
  rw [sums_len]
  simp
end
end DL
namespace DL
open PySem PySem.Spec L2
theorem has_nat (n : Nat) : ∀ ns : List Nat, hasD (.int n) (ns.map fun (i : Nat) => D.int (i : Int)) = decide (n ∈ ns)
  | [] => rfl
  | i :: ns => by
    rw [List.map_cons, hasD_cons, has_nat n ns]
    have : eqv (.int (i : Int)) (.int (n : Int)) = decide (i = n) := by
      rw [Bool.eq_iff_iff]
      simp
      omega
    rw [this, Bool.eq_iff_iff]
    simp
    constructor
    · rintro (h | h)
      · exact .inl h.symm
      · exact .inr h
    · rintro (h | h)
      · exact .inl h.symm
      · exact .inr h
theorem idx_nat (n : Nat) : ∀ ns : List Nat, n ∈ ns → (ns.map fun (i : Nat) => D.int (i : Int)).findIdx? (fun y => eqv y (.int n)) = some (ns.idxOf n)
  | [], h => by cases h
  | i :: ns, h => by
    rw [List.map_cons, List.findIdx?_cons, List.idxOf_cons]
    have e : eqv (.int (i : Int)) (.int (n : Int)) = (i == n) := by
      rw [Bool.eq_iff_iff]
      simp
      omega
    rw [e]
    cases hb : (i == n) with
    | true => rfl
    | false =>
      have hne : i ≠ n := by simpa using hb
      have hn : n ∈ ns := by
        rcases List.mem_cons.mp h with z | z
        · exact (hne z.symm).elim
        · exact z
      rw [idx_nat n ns hn]
      rfl
theorem lays_nats : ∀ ns : List Nat, lays (ns.map fun (i : Nat) => D.int (i : Int)) = true
  | [] => rfl
  | n :: ns => by rw [List.map_cons]; unfold lays; rw [lays_nats ns]; rfl
theorem deps_nats : ∀ ns : List Nat, deps (ns.map fun (i : Nat) => D.int (i : Int)) = 0
  | [] => rfl
  | n :: ns => by rw [List.map_cons]; unfold deps; rw [deps_nats ns]; rfl
theorem shp_nats (ns : List Nat) : shp (.lst (ns.map fun (i : Nat) => D.int (i : Int))) = true := by
  rw [shp_eq, lay, dep, lays_nats, deps_nats]
  rfl
theorem in_nats (n : Nat) (ns : List Nat) : dInA true (.int n) (.lst (ns.map fun (i : Nat) => D.int (i : Int))) = some (.im (.bl (!decide (n ∈ ns)))) := by
  have a : (ns.map fun (i : Nat) => D.int (i : Int)).all sc = true := by
    rw [List.all_map, List.all_eq_true]
    intro _ _
    rfl
  unfold dInA
  have : dIn true (.int n) (.lst (ns.map fun (i : Nat) => D.int (i : Int))) = some (.im (.bl (!decide (n ∈ ns)))) := by
    unfold dIn
    dsimp only [items]
    rw [if_pos ⟨rfl, a⟩, has_nat]
    rfl
  rw [this]
def usedU (gi : List (Int × Int)) (us : List Ru) (as : List Ac) (n : Nat) (bs : List Int) : Int :=
  if n ∈ numsU us.length as then ((usesL gi (underL us as) bs)[(numsU us.length as).idxOf n]?).getD 0 else 0
abbrev Eu (sh ac nu ba ns : Sl) : En := [sh, ac, nu, ba, ns]
theorem uu1 (sh : D) (ad nd : List D) (nu ba : Sl) (q : d_numbers_under [.im sh, .im (.tup ad)] = .ok (.fr nd) [.no, .no]) : f_uses_under_1 (Eu (.im sh) (.im (.tup ad)) nu ba .no) = .nx (Eu (.im sh) (.im (.tup ad)) nu ba (.own false nd)) := by
  simp [f_uses_under_1, q, sEr, op2, op1, T.val, R.opt, toB, opL, vals, consT, disp, mvs, mkTup, callT, callI, argE, others, isAl, isAli, finT, outE, padE, runD, cpsOf, cpT, toI, slT, T.weak, metT, kApp, kExt, elemD, iT, iL, iR1, iR2, iE, iZ, onI]
theorem uu2a (sh ac ba : Sl) (nd : List D) (n : Int) (q : dInA true (.int n) (.lst nd) = some (.im (.bl true))) : f_uses_under_2 (Eu sh ac (.im (.int n)) ba (.own false nd)) = .rt (.im (.int 0)) (Eu sh ac (.im (.int n)) ba (.own false nd)) := by
  simp [f_uses_under_2, q, sEr, op2, op1, T.val, R.opt, toB, opL, vals, consT, disp, mvs, mkTup, callT, callI, argE, others, isAl, isAli, finT, outE, padE, runD, cpsOf, cpT, toI, slT, T.weak, metT, kApp, kExt, elemD, iT, iL, iR1, iR2, iE, iZ, onI]
theorem uu2b (sh ac ba : Sl) (nd : List D) (n : Int) (q : dInA true (.int n) (.lst nd) = some (.im (.bl false))) : f_uses_under_2 (Eu sh ac (.im (.int n)) ba (.own false nd)) = .nx (Eu sh ac (.im (.int n)) ba (.own false nd)) := by
  simp [f_uses_under_2, q, sEr, op2, op1, T.val, R.opt, toB, opL, vals, consT, disp, mvs, mkTup, callT, callI, argE, others, isAl, isAli, finT, outE, padE, runD, cpsOf, cpT, toI, slT, T.weak, metT, kApp, kExt, elemD, iT, iL, iR1, iR2, iE, iZ, onI]
theorem uu3 (sh sh2 bb x : D) (ad nd ud : List D) (n : Int) (j : Nat) (q1 : d_left_under [.im sh, .im (.tup ad)] = .ok (.im sh2) [.no, .no]) (q2 : d_uses_of [.im sh2, .im bb] = .ok (.im (.tup ud)) [.no, .no]) (s1 : shp (.lst nd) = true) (q3 : nd.findIdx? (fun y => eqv y (.int n)) = some j) (q4 : atI ud j = some x) :
    f_uses_under_3 (Eu (.im sh) (.im (.tup ad)) (.im (.int n)) (.im bb) (.own false nd)) = .rt (.im x) (Eu (.im sh) (.im (.tup ad)) (.im (.int n)) (.im bb) (.own false nd)) := by
  simp [f_uses_under_3, q1, q2, kIdx, s1, q3, dIx, q4, sEr, op2, op1, T.val, R.opt, toB, opL, vals, consT, disp, mvs, mkTup, callT, callI, argE, others, isAl, isAli, finT, outE, padE, runD, cpsOf, cpT, toI, slT, T.weak, metT, kApp, kExt, elemD, iT, iL, iR1, iR2, iE, iZ, onI]
theorem r_uses_under {gi : List (Int × Int)} {us : List Ru} (h : Shp gi us) {as : List Ac} (ha : as.length ≤ 1000) (hok : ∀ a ∈ as, a.ok us) (n : Nat) {bs : List Int} (hl : bs.length = gi.length) :
    d_uses_under [.im (shopD gi us), .im (.tup (as.map Ac.d)), .im (.int n), .im (basD bs)] = .ok (.im (.int (usedU gi us as n bs))) [.no, .no, .no, .no] := by
  have few := h.few
  have q1 := uu1 (shopD gi us) (as.map Ac.d) _ (.im (.int n)) (.im (basD bs)) (r_numbers (.tup (gi.map gd)) (us := us) few as)
  have inn := in_nats n (numsU us.length as)
  unfold usedU
  by_cases hn : n ∈ numsU us.length as
  · rw [if_pos hn]
    have h' := under_shp h hok
    have ul : (usesL gi (underL us as) bs).length = (numsU us.length as).length := by
      rw [usesL_len]
      unfold underL
      rw [List.length_map]
    have hj : (numsU us.length as).idxOf n < (usesL gi (underL us as) bs).length := by
      rw [ul]
      exact List.idxOf_lt_length_of_mem hn
    have ex := List.getElem?_eq_getElem hj
    have a4 := at_map (f := D.int) ex
    rw [ex]
    rw [decide_eq_true hn] at inn
    have q2 := r_left_under h ha hok
    have q3 := r_uses_of h' hl
    refine fin4 (m := 0) (rest := Eu (.im (shopD gi us)) (.im (.tup (as.map Ac.d))) (.im (.int n)) (.im (basD bs)) (.own false ((numsU us.length as).map fun (i : Nat) => D.int (i : Int)))) rfl ?_ _ rfl
    show f_uses_under (Eu (.im (shopD gi us)) (.im (.tup (as.map Ac.d))) (.im (.int n)) (.im (basD bs)) .no) = _
    unfold f_uses_under
    exact seq_of q1 (seq_of (uu2b _ _ _ _ n inn) (uu3 _ _ _ _ _ _ _ n _ q2 q3 (shp_nats _) (idx_nat n _ hn) a4))
  · rw [if_neg hn]
    rw [decide_eq_false hn] at inn
    refine fin4 (m := 0) (rest := Eu (.im (shopD gi us)) (.im (.tup (as.map Ac.d))) (.im (.int n)) (.im (basD bs)) (.own false ((numsU us.length as).map fun (i : Nat) => D.int (i : Int)))) rfl ?_ _ rfl
    show f_uses_under (Eu (.im (shopD gi us)) (.im (.tup (as.map Ac.d))) (.im (.int n)) (.im (basD bs)) .no) = _
    unfold f_uses_under
    refine seq_of q1 ?_
    rw [sSeq_s, uu2a _ _ _ _ n inn]
    rfl
def touched (gi : List (Int × Int)) (us : List Ru) (as : List Ac) (a : Ac) (bs : List Int) : Bool := match a with
  | .off n => decide (0 < usedU gi us as n bs)
  | .most n m => decide (m < usedU gi us as n bs)
theorem tu1 (sh bb : D) (ad : List D) (n w : Int) (q : d_uses_under [.im sh, .im (.tup ad), .im (.int n), .im bb] = .ok (.im (.int w)) [.no, .no, .no, .no]) : d_touches_under [.im sh, .im (.tup ad), .im (.tup [.str "off", .int n]), .im bb] = .ok (.im (.bl (decide (0 < w)))) [.no, .no, .no, .no] := by
  simp [d_touches_under, f_touches_under, f_touches_under_1, f_touches_under_2, dIx, atI, ixN, q, sEr, op2, op1, T.val, R.opt, toB, opL, vals, consT, disp, mvs, mkTup, callT, callI, argE, others, isAl, isAli, finT, outE, padE, runD, cpsOf, cpT, toI, slT, T.weak, metT, kApp, kExt, elemD, iT, iL, iR1, iR2, iE, iZ, onI]
theorem tu2 (sh bb : D) (ad : List D) (n m w : Int) (q : d_uses_under [.im sh, .im (.tup ad), .im (.int n), .im bb] = .ok (.im (.int w)) [.no, .no, .no, .no]) : d_touches_under [.im sh, .im (.tup ad), .im (.tup [.str "most", .int n, .int m]), .im bb] = .ok (.im (.bl (decide (m < w)))) [.no, .no, .no, .no] := by
  simp [d_touches_under, f_touches_under, f_touches_under_1, f_touches_under_2, dIx, atI, ixN, q, sEr, op2, op1, T.val, R.opt, toB, opL, vals, consT, disp, mvs, mkTup, callT, callI, argE, others, isAl, isAli, finT, outE, padE, runD, cpsOf, cpT, toI, slT, T.weak, metT, kApp, kExt, elemD, iT, iL, iR1, iR2, iE, iZ, onI]
theorem r_touches_under {gi : List (Int × Int)} {us : List Ru} (h : Shp gi us) {as : List Ac} (ha : as.length ≤ 1000) (hok : ∀ a ∈ as, a.ok us) (a : Ac) {bs : List Int} (hl : bs.length = gi.length) :
    d_touches_under [.im (shopD gi us), .im (.tup (as.map Ac.d)), .im a.d, .im (basD bs)] = .ok (.im (.bl (touched gi us as a bs))) [.no, .no, .no, .no] := by
  cases a with
  | off n => exact tu1 _ _ _ n _ (r_uses_under h ha hok n hl)
  | most n m => exact tu2 _ _ _ n m _ (r_uses_under h ha hok n hl)
theorem to1 (sh bb a : D) (ad : List D) (b : Bool) (q1 : d_check_acts [.im sh, .im (.tup ad)] = .ok (.im .non) [.no, .no]) (q2 : d_is_act [.im sh, .im a] = .ok (.im (.bl true)) [.no, .no]) (q3 : d_check_basket [.im sh, .im bb] = .ok (.im .non) [.no, .no]) (q4 : d_touches_under [.im sh, .im (.tup ad), .im a, .im bb] = .ok (.im (.bl b)) [.no, .no, .no, .no]) :
    d_touches [.im sh, .im (.tup ad), .im a, .im bb] = .ok (.im (.bl b)) [.no, .no, .no, .no] := by
  simp [d_touches, f_touches, f_touches_1, f_touches_2, f_touches_3, f_touches_4, q1, q2, q3, q4, sEr, op2, op1, T.val, R.opt, toB, opL, vals, consT, disp, mvs, mkTup, callT, callI, argE, others, isAl, isAli, finT, outE, padE, runD, cpsOf, cpT, toI, slT, T.weak, metT, kApp, kExt, elemD, iT, iL, iR1, iR2, iE, iZ, onI]
theorem r_touches {gi : List (Int × Int)} {us : List Ru} (h : Shp gi us) {as : List Ac} (ac : Acts us as) {a : Ac} (ok : a.ok us) {bs : List Int} (hl : bs.length = gi.length) (hb : ∀ b ∈ bs, 0 ≤ b ∧ b ≤ 1000000) :
    d_touches [.im (shopD gi us), .im (.tup (as.map Ac.d)), .im a.d, .im (basD bs)] = .ok (.im (.bl (touched gi us as a bs))) [.no, .no, .no, .no] := by
  have q2 := r_is_act (.tup (gi.map gd)) h.few a.d
  rw [ac_act ok] at q2
  exact to1 _ _ _ _ _ (r_check_acts h ac) q2 (bas_is h hl hb) (r_touches_under h (by have := ac.len; omega) ac.ok a hl)

end DL
namespace DL
open PySem PySem.Spec L2
end DL
namespace DL
open PySem PySem.Spec L2
theorem fits_good {u : Ru} {k x : Int} (h : u.fits k x = true) : u.onGood = true := by
  cases u <;> first | rfl | (simp [Ru.fits] at h; done)
theorem off_good {u : Ru} {t : Int} (h : u.onGood = true) : u.off t = 0 := by
  cases u <;> first | rfl | (simp [Ru.onGood] at h; done)
def sr : List Ru → Int → Int × List Int
  | [], t => (t, [])
  | u :: us, t => ((sr us (t - u.off t * u.cut)).1, u.off t :: (sr us (t - u.off t * u.cut)).2)
theorem sr_is : ∀ (us : List Ru) (t : Int) (l : List Int), us.foldl stp (t, l) = ((sr us t).1, l ++ (sr us t).2)
  | [], t, l => by simp [sr]
  | u :: us, t, l => by
    rw [List.foldl_cons]
    show us.foldl stp (t - u.off t * u.cut, l ++ [u.off t]) = _
    rw [sr_is us]
    simp [sr]
def Ru.good : Ru → Int
  | .pack g _ _ _ => g
  | .frm g _ _ => g
  | _ => 0
end DL
namespace DL
open PySem PySem.Spec L2
theorem lt_irr (a : Ac) : a.lt a = false := by cases a <;> simp [Ac.lt]
theorem lt_tr {a b c : Ac} (h1 : a.lt b = true) (h2 : b.lt c = true) : a.lt c = true := by
  cases a <;> cases b <;> cases c <;> simp_all [Ac.lt] <;> omega
theorem lt_tot {a b : Ac} (h : a ≠ b) : a.lt b = true ∨ b.lt a = true := by
  cases a <;> cases b <;> simp_all [Ac.lt] <;> omega
def Ac.le (a b : Ac) : Bool := !b.lt a
theorem le_tr (a b c : Ac) (h1 : a.le b = true) (h2 : b.le c = true) : a.le c = true := by
  cases h : a.le c with
  | true => rfl
  | false =>
    have h3 : c.lt a = true := by simpa [Ac.le] using h
    have h1 : b.lt a = false := by simpa [Ac.le] using h1
    have h2 : c.lt b = false := by simpa [Ac.le] using h2
    by_cases e : a = b
    · subst e; rw [h2] at h3; cases h3
    · rcases lt_tot e with z | z
      · rw [lt_tr h3 z] at h2; cases h2
      · rw [h1] at z; cases z
theorem le_tot (a b : Ac) : (a.le b || b.le a) = true := by
  unfold Ac.le
  cases h : a.lt b with
  | false => simp
  | true =>
    cases h2 : b.lt a with
    | false => rfl
    | true =>
      have := lt_tr h h2
      rw [lt_irr] at this
      cases this
noncomputable def sortA (as : List Ac) : List Ac := as.mergeSort Ac.le
theorem sort_is (as : List Ac) : sortD (as.map Ac.d) = (sortA as).map Ac.d := by
  unfold sortD sortA
  rw [List.map_mergeSort]
  intro a _ b _
  rw [PySem.W.dataLe_eq]
  show (!b.lt a) = (!PySem.W.dataLt (toP b.d) (toP a.d))
  rw [← ltD_ac]
theorem ok_sort (as : List Ac) (h : as.length ≤ 1000) : okSort (as.map Ac.d) := by
  refine ⟨fun x hx y hy => ?_, .inl fun d hd => ?_, fun x hx => ?_, by rw [List.length_map]; omega⟩
  · obtain ⟨a, _, rfl⟩ := List.mem_map.mp hx
    obtain ⟨b, _, rfl⟩ := List.mem_map.mp hy
    exact alike_ac a b
  · obtain ⟨x, hx, rfl⟩ := List.mem_map.mp hd
    obtain ⟨a, _, rfl⟩ := List.mem_map.mp hx
    cases a <;> exact ⟨_, _, rfl⟩
  · obtain ⟨a, _, rfl⟩ := List.mem_map.mp hx
    rw [a.lay1.2]
    decide
theorem sorted_acts (as : List Ac) (h : as.length ≤ 1000) : dSorted [.lst (as.map Ac.d)] = some (.fr ((sortA as).map Ac.d)) := by
  rw [dSorted_lst (ok_sort as h), sort_is]
theorem sortA_perm (as : List Ac) : (sortA as).Perm as := List.mergeSort_perm _ _
theorem asc_of : ∀ {as : List Ac}, as.Pairwise (fun a b => a.le b = true) → as.Nodup → asc as = true
  | [], _, _ => rfl
  | [a], _, _ => rfl
  | a :: b :: r, h, n => by
    have h' := List.pairwise_cons.mp h
    have n' := List.nodup_cons.mp n
    have l := h'.1 b List.mem_cons_self
    have ne : a ≠ b := fun z => n'.1 (z ▸ List.mem_cons_self)
    show (a.lt b && asc (b :: r)) = true
    rw [asc_of h'.2 n'.2, Bool.and_true]
    rcases lt_tot ne with z | z
    · exact z
    · unfold Ac.le at l; rw [z] at l; cases l
theorem sortA_asc {as : List Ac} (h : as.Nodup) : asc (sortA as) = true :=
  asc_of (List.pairwise_mergeSort le_tr le_tot as) ((sortA_perm as).nodup_iff.mpr h)
theorem sortA_len (as : List Ac) : (sortA as).length = as.length := (sortA_perm as).length_eq
def mostsOf (i : Nat) (u : Ru) : List Ac := if u.capped = true then (([1, 2] : List Int).filter u.lessM).map (Ac.most i) else []
def actsAt (i : Nat) (u : Ru) : List Ac := Ac.off i :: mostsOf i u
def foundA (us : List Ru) : List Ac := (us.mapIdx actsAt).flatten
theorem mem_at {i : Nat} {u : Ru} {a : Ac} (h : a ∈ actsAt i u) : a = .off i ∨ ∃ m : Int, a = .most i m ∧ (m = 1 ∨ m = 2) ∧ u.lessM m = true := by
  unfold actsAt mostsOf at h
  rcases List.mem_cons.mp h with z | z
  · exact .inl z
  · split at z
    · obtain ⟨m, hm, rfl⟩ := List.mem_map.mp z
      obtain ⟨h1, h2⟩ := List.mem_filter.mp hm
      exact .inr ⟨m, rfl, by simpa using h1, h2⟩
    · cases z
theorem found_mem {us : List Ru} {a : Ac} : a ∈ foundA us ↔ a.ok us := by
  unfold foundA
  rw [List.mem_flatten]
  constructor
  · rintro ⟨l, hl, ha⟩
    obtain ⟨i, h, rfl⟩ := List.mem_mapIdx.mp hl
    rcases mem_at ha with rfl | ⟨m, rfl, hm, hc⟩
    · exact h
    · exact ⟨by omega, _, List.getElem?_eq_getElem h, hc⟩
  · intro h
    cases a with
    | off n =>
      have h : n < us.length := h
      exact ⟨_, List.mem_mapIdx.mpr ⟨n, h, rfl⟩, List.mem_cons_self⟩
    | most n m =>
      obtain ⟨hm, u, hu, hc⟩ := h
      have hn := (List.getElem?_eq_some_iff.mp hu)
      refine ⟨_, List.mem_mapIdx.mpr ⟨n, hn.1, rfl⟩, List.mem_cons_of_mem _ ?_⟩
      unfold mostsOf
      rw [hn.2, if_pos (lessM_cap hc)]
      refine List.mem_map.mpr ⟨m, List.mem_filter.mpr ⟨?_, hc⟩, rfl⟩
      have : m = 1 ∨ m = 2 := by omega
      simpa using this
theorem at_nodup (i : Nat) (u : Ru) : (actsAt i u).Nodup := by
  unfold actsAt
  refine List.nodup_cons.mpr ⟨fun z => ?_, ?_⟩
  · unfold mostsOf at z
    split at z
    · obtain ⟨m, _, e⟩ := List.mem_map.mp z
      cases e
    · cases z
  · unfold mostsOf
    split
    · simp [List.filter]
      cases u.lessM 1 <;> cases u.lessM 2 <;> simp
    · exact List.nodup_nil
theorem found_nodup (us : List Ru) : (foundA us).Nodup := by
  unfold foundA List.Nodup
  rw [List.pairwise_flatten]
  refine ⟨fun l hl => ?_, ?_⟩
  · obtain ⟨i, h, rfl⟩ := List.mem_mapIdx.mp hl
    exact at_nodup i _
  · rw [List.pairwise_iff_getElem]
    intro i j hi hj hij x hx y hy e
    subst e
    rw [List.getElem_mapIdx] at hx hy
    rcases mem_at hx with rfl | ⟨m, rfl, _⟩ <;> rcases mem_at hy with z | ⟨m', z, _⟩ <;> cases z <;> omega
theorem at_len (i : Nat) (u : Ru) : (actsAt i u).length ≤ 3 := by
  unfold actsAt mostsOf
  split
  · simp [List.filter]
    cases u.lessM 1 <;> cases u.lessM 2 <;> simp
  · simp
theorem found_take {us : List Ru} {i : Nat} {u : Ru} (h : us[i]? = some u) : foundA (us.take (i + 1)) = foundA (us.take i) ++ actsAt i u := by
  unfold foundA
  have hi := (List.getElem?_eq_some_iff.mp h).1
  rw [List.take_add_one, h]
  show (List.mapIdx actsAt (us.take i ++ [u])).flatten = _
  rw [List.mapIdx_concat, List.flatten_append, List.length_take, show min i us.length = i by omega]
  simp
theorem found_len : ∀ {us : List Ru} {i : Nat}, i ≤ us.length → (foundA (us.take i)).length ≤ 3 * i
  | us, 0, _ => by simp [foundA]
  | us, i + 1, h => by
    have e := List.getElem?_eq_getElem (show i < us.length by omega)
    rw [found_take e, List.length_append]
    have := found_len (us := us) (i := i) (by omega)
    have := at_len i us[i]
    omega
noncomputable def allActs (us : List Ru) : List Ac := sortA (foundA us)
theorem all_mem {us : List Ru} {a : Ac} : a ∈ allActs us ↔ a.ok us := by
  unfold allActs
  rw [(sortA_perm _).mem_iff, found_mem]
theorem all_nodup (us : List Ru) : (allActs us).Nodup := (sortA_perm _).nodup_iff.mpr (found_nodup us)
theorem all_len {us : List Ru} : (allActs us).length ≤ 3 * us.length := by
  unfold allActs
  rw [sortA_len]
  have := found_len (us := us) (i := us.length) (Nat.le_refl _)
  rwa [List.take_length] at this
abbrev Ea (sh fo nu ru mo : Sl) : En := [sh, fo, nu, ru, mo]
theorem a_cnd (sh fo nu : Sl) (u : Ru) (hc : u.capped = true) (mm : Int) : (tOr' (tV (eOp dIs (eOp dIx (eVar 3) (eUn dNeg (eC (.int 1)))) (eC .non))) (tV (eOp dLt (eVar 4) (eOp dIx (eVar 3) (eUn dNeg (eC (.int 1))))))) (Ea sh fo nu (.im u.d) (.im (.int mm))) = .ok (u.lessM mm) (Ea sh fo nu (.im u.d) (.im (.int mm))) := by
  cases u with
  | pack g s p k => cases k <;> simp [Ru.d, oD, Ru.lessM, dIx, sEr, op2, op1, T.val, R.opt, toB, opL, vals, consT, disp, mvs, mkTup, callT, callI, argE, others, isAl, isAli, finT, outE, padE, runD, cpsOf, cpT, toI, slT, T.weak, metT, kApp, kExt, elemD, iT, iL, iR1, iR2, iE, iZ, onI]
  | each f o k => cases k <;> simp [Ru.d, oD, Ru.lessM, dIx, sEr, op2, op1, T.val, R.opt, toB, opL, vals, consT, disp, mvs, mkTup, callT, callI, argE, others, isAl, isAli, finT, outE, padE, runD, cpsOf, cpT, toI, slT, T.weak, metT, kApp, kExt, elemD, iT, iL, iR1, iR2, iE, iZ, onI]
  | frm g l p => exact (Bool.false_ne_true hc).elim
  | over f o => exact (Bool.false_ne_true hc).elim
theorem a_el (sh fo : Sl) (ru : Sl) (i mm : Int) : (eTup (aCons (eC (.str "most")) (aCons (eVar 2) (aCons (eVar 4) aNil)))) (Ea sh fo (.im (.int i)) ru (.im (.int mm))) = .ok (.im (.tup [.str "most", .int i, .int mm])) (Ea sh fo (.im (.int i)) ru (.im (.int mm))) := by
  simp [sEr, op2, op1, T.val, R.opt, toB, opL, vals, consT, disp, mvs, mkTup, callT, callI, argE, others, isAl, isAli, finT, outE, padE, runD, cpsOf, cpT, toI, slT, T.weak, metT, kApp, kExt, elemD, iT, iL, iR1, iR2, iE, iZ, onI]
def lessD (u : Ru) : D → Bool
  | .int m => u.lessM m
  | _ => false
def mostX (i : Nat) : D → D
  | .int m => .tup [.str "most", .int i, .int m]
  | d => d
theorem a_lc (sh fo : Sl) (i : Nat) (u : Ru) (hc : u.capped = true) (x : Sl) : (eLc (fiT (eTup (aCons (eC (.int 1)) (aCons (eC (.int 2)) aNil)))) [4] (.one 4) (tOr' (tV (eOp dIs (eOp dIx (eVar 3) (eUn dNeg (eC (.int 1)))) (eC .non))) (tV (eOp dLt (eVar 4) (eOp dIx (eVar 3) (eUn dNeg (eC (.int 1))))))) (eTup (aCons (eC (.str "most")) (aCons (eVar 2) (aCons (eVar 4) aNil))))) (Ea sh fo (.im (.int i)) (.im u.d) x) = .ok (.fr ((mostsOf i u).map Ac.d)) (Ea sh fo (.im (.int i)) (.im u.d) .no) := by
  have e : (mostsOf i u).map Ac.d = (([.int 1, .int 2] : List D).filter (lessD u)).map (mostX i) := by
    unfold mostsOf
    rw [if_pos hc]
    simp [List.filter, lessD]
    cases u.lessM 1 <;> cases u.lessM 2 <;> rfl
  rw [e]
  refine eLc_of (k := ⟨[.int 1, .int 2], none⟩) (e := Ea sh fo (.im (.int i)) (.im u.d) x) (by simp [sEr, op2, op1, T.val, R.opt, toB, opL, vals, consT, disp, mvs, mkTup, callT, callI, argE, others, isAl, isAli, finT, outE, padE, runD, cpsOf, cpT, toI, slT, T.weak, metT, kApp, kExt, elemD, iT, iL, iR1, iR2, iE, iZ, onI]) ?_
  refine lc_filter (k := ⟨[.int 1, .int 2], none⟩) (p := lessD u) (h := mostX i) (env := Ea sh fo (.im (.int i)) (.im u.d) .no) trivial [.int 1, .int 2] [] (by show 2 ≤ _; decide) fun d hd => ?_
  obtain ⟨m, rfl⟩ : ∃ m : Int, d = .int m := by
    simp at hd
    rcases hd with rfl | rfl <;> exact ⟨_, rfl⟩
  exact ⟨Ea sh fo (.im (.int i)) (.im u.d) (.im (.int m)), Ea sh fo (.im (.int i)) (.im u.d) (.im (.int m)), rfl, a_cnd _ _ _ u hc m, rfl, fun _ => ⟨_, Ea sh fo (.im (.int i)) (.im u.d) (.im (.int m)), a_el _ _ _ i m, rfl, rfl⟩⟩
theorem a_s1 (sh ru x : Sl) (fd : List D) (hl : fd.length < 1000000) (i : Int) : b__law_all_acts_1_1 (Ea sh (.own false fd) (.im (.int i)) ru x) = .nx (Ea sh (.own false (fd ++ [.tup [.str "off", .int i]])) (.im (.int i)) ru x) := by
  simp [b__law_all_acts_1_1, hl, sEr, op2, op1, T.val, R.opt, toB, opL, vals, consT, disp, mvs, mkTup, callT, callI, argE, others, isAl, isAli, finT, outE, padE, runD, cpsOf, cpT, toI, slT, T.weak, metT, kApp, kExt, elemD, iT, iL, iR1, iR2, iE, iZ, onI]
theorem a_s2 (sh x y nu ru : Sl) (fd es : List D) (hl : fd.length + es.length ≤ 1000000) (q : (eLc (fiT (eTup (aCons (eC (.int 1)) (aCons (eC (.int 2)) aNil)))) [4] (.one 4) (tOr' (tV (eOp dIs (eOp dIx (eVar 3) (eUn dNeg (eC (.int 1)))) (eC .non))) (tV (eOp dLt (eVar 4) (eOp dIx (eVar 3) (eUn dNeg (eC (.int 1))))))) (eTup (aCons (eC (.str "most")) (aCons (eVar 2) (aCons (eVar 4) aNil))))) (Ea sh (.own false fd) nu ru x) = .ok (.fr es) (Ea sh (.own false fd) nu ru y)) :
    (sDrop (eMet kExt (eVar 1) (aCons (eLc (fiT (eTup (aCons (eC (.int 1)) (aCons (eC (.int 2)) aNil)))) [4] (.one 4) (tOr' (tV (eOp dIs (eOp dIx (eVar 3) (eUn dNeg (eC (.int 1)))) (eC .non))) (tV (eOp dLt (eVar 4) (eOp dIx (eVar 3) (eUn dNeg (eC (.int 1))))))) (eTup (aCons (eC (.str "most")) (aCons (eVar 2) (aCons (eVar 4) aNil))))) aNil))) (Ea sh (.own false fd) nu ru x) = .nx (Ea sh (.own false (fd ++ es)) nu ru y) := by
  have q2 : (aCons (eLc (fiT (eTup (aCons (eC (.int 1)) (aCons (eC (.int 2)) aNil)))) [4] (.one 4) (tOr' (tV (eOp dIs (eOp dIx (eVar 3) (eUn dNeg (eC (.int 1)))) (eC .non))) (tV (eOp dLt (eVar 4) (eOp dIx (eVar 3) (eUn dNeg (eC (.int 1))))))) (eTup (aCons (eC (.str "most")) (aCons (eVar 2) (aCons (eVar 4) aNil))))) aNil) (Ea sh (.own false fd) nu ru x) = .ok [.fr es] (Ea sh (.own false fd) nu ru y) := by
    rw [aCons_s, q]
    simp [sEr, op2, op1, T.val, R.opt, toB, opL, vals, consT, disp, mvs, mkTup, callT, callI, argE, others, isAl, isAli, finT, outE, padE, runD, cpsOf, cpT, toI, slT, T.weak, metT, kApp, kExt, elemD, iT, iL, iR1, iR2, iE, iZ, onI]
  rw [sDrop_s, eMet_s]
  simp only [eVar_s, List.getElem?_cons_succ, List.getElem?_cons_zero, bind_ok, q2]
  simp [hl, sEr, op2, op1, T.val, R.opt, toB, opL, vals, consT, disp, mvs, mkTup, callT, callI, argE, others, isAl, isAli, finT, outE, padE, runD, cpsOf, cpT, toI, slT, T.weak, metT, kApp, kExt, elemD, iT, iL, iR1, iR2, iE, iZ, onI]
theorem a_cap (sh fo nu x : Sl) (u : Ru) : (tV (eOp (dIn false) (eOp dIx (eVar 3) (eC (.int 0))) (eTup (aCons (eC (.str "pack")) (aCons (eC (.str "each")) aNil))))) (Ea sh fo nu (.im u.d) x) = .ok u.capped (Ea sh fo nu (.im u.d) x) := by
  cases u <;> simp [Ru.d, Ru.capped, dIx, dIn, sc, atI, ixN, sEr, op2, op1, T.val, R.opt, toB, opL, vals, consT, disp, mvs, mkTup, callT, callI, argE, others, isAl, isAli, finT, outE, padE, runD, cpsOf, cpT, toI, slT, T.weak, metT, kApp, kExt, elemD, iT, iL, iR1, iR2, iE, iZ, onI]
theorem a_turn (sh x : Sl) (fd : List Ac) (hl : fd.length < 999000) (i : Nat) (u : Ru) : ∃ y, b__law_all_acts_1 (Ea sh (.own false (fd.map Ac.d)) (.im (.int i)) (.im u.d) x) = .nx (Ea sh (.own false ((fd ++ actsAt i u).map Ac.d)) (.im (.int i)) (.im u.d) y) := by
  have q1 := a_s1 sh (.im u.d) x (fd.map Ac.d) (by rw [List.length_map]; omega) i
  have c := a_cap sh (.own false (fd.map Ac.d ++ [.tup [.str "off", .int i]])) (.im (.int i)) x u
  have e0 : (fd ++ actsAt i u).map Ac.d = fd.map Ac.d ++ [.tup [.str "off", .int i]] ++ (mostsOf i u).map Ac.d := by
    unfold actsAt
    simp [Ac.d]
  rw [e0]
  cases hc : u.capped with
  | true =>
    rw [hc] at c
    have ml : (mostsOf i u).length ≤ 2 := by
      have := at_len i u
      unfold actsAt at this
      simp at this
      omega
    have q2 := a_s2 sh x .no (.im (.int i)) (.im u.d) (fd.map Ac.d ++ [.tup [.str "off", .int i]]) ((mostsOf i u).map Ac.d) (by rw [List.length_append, List.length_map, List.length_map]; simp; omega) (a_lc sh _ i u hc x)
    refine ⟨.no, seq_of q1 ?_⟩
    unfold b__law_all_acts_1_2
    rw [sIf_s, c]
    exact q2
  | false =>
    rw [hc] at c
    have em : mostsOf i u = [] := by unfold mostsOf; rw [hc, if_neg Bool.false_ne_true]
    rw [em, List.map_nil, List.append_nil]
    refine ⟨x, seq_of q1 ?_⟩
    unfold b__law_all_acts_1_2
    rw [sIf_s, c]
    rfl
theorem a_f1 (sh : Sl) : f__law_all_acts_1 (Ea sh .no .no .no .no) = .nx (Ea sh (.own false []) .no .no .no) := by
  simp [f__law_all_acts_1, sEr, op2, op1, T.val, R.opt, toB, opL, vals, consT, disp, mvs, mkTup, callT, callI, argE, others, isAl, isAli, finT, outE, padE, runD, cpsOf, cpT, toI, slT, T.weak, metT, kApp, kExt, elemD, iT, iL, iR1, iR2, iE, iZ, onI]
theorem a_f2 (g : D) (rs : List D) (e9 : En) (q : loopF (gT 2 (gsCons (gN 2) (gsCons (gN 3) gsNil))) b__law_all_acts_1 (enumD rs) (Ea (.im (.tup [g, .tup rs])) (.own false []) .no .no .no) = .nx e9) :
    f__law_all_acts_2 (Ea (.im (.tup [g, .tup rs])) (.own false []) .no .no .no) = .nx e9 := by
  unfold f__law_all_acts_2
  exact sFor_of (its := enumD rs) (e := Ea (.im (.tup [g, .tup rs])) (.own false []) .no .no .no) (by simp [dIx, atI, ixN, sEr, op2, op1, T.val, R.opt, toB, opL, vals, consT, disp, mvs, mkTup, callT, callI, argE, others, isAl, isAli, finT, outE, padE, runD, cpsOf, cpT, toI, slT, T.weak, metT, kApp, kExt, elemD, iT, iL, iR1, iR2, iE, iZ, onI]) q
theorem a_f3 (sh a b c : Sl) (fd zs : List D) (q : dSorted [.lst fd] = some (.fr zs)) : f__law_all_acts_3 (Ea sh (.own false fd) a b c) = .rt (.fr zs) (Ea sh (.own false fd) a b c) := by
  simp [f__law_all_acts_3, q, sEr, op2, op1, T.val, R.opt, toB, opL, vals, consT, disp, mvs, mkTup, callT, callI, argE, others, isAl, isAli, finT, outE, padE, runD, cpsOf, cpT, toI, slT, T.weak, metT, kApp, kExt, elemD, iT, iL, iR1, iR2, iE, iZ, onI]
theorem r_all_acts (g0 : D) {us : List Ru} (few : us.length ≤ 4) : d__law_all_acts [.im (.tup [g0, .tup (us.map Ru.d)])] = .ok (.fr ((allActs us).map Ac.d)) [.no] := by
  obtain ⟨e3, q, a, b, c, rfl⟩ := loop_all (g := gT 2 (gsCons (gN 2) (gsCons (gN 3) gsNil))) (f := b__law_all_acts_1) (ds := enumD (us.map Ru.d)) (env := Ea (.im (.tup [g0, .tup (us.map Ru.d)])) (.own false []) .no .no .no)
    (I := fun i e => ∃ a b c, e = Ea (.im (.tup [g0, .tup (us.map Ru.d)])) (.own false ((foundA (us.take i)).map Ac.d)) a b c) ⟨.no, .no, .no, rfl⟩ (by
    rintro i x _ hd ⟨a, b, c, rfl⟩
    obtain ⟨u, hu, rfl⟩ := enum_get hd
    have hi : i < us.length := (List.getElem?_eq_some_iff.mp hu).1
    have := found_len (us := us) (i := i) (by omega)
    obtain ⟨y, q⟩ := a_turn (.im (.tup [g0, .tup (us.map Ru.d)])) c (foundA (us.take i)) (by omega) i u
    rw [← found_take hu] at q
    exact ⟨_, _, rfl, .inl q, _, _, _, rfl⟩)
  have le : (enumD (us.map Ru.d)).length = us.length := by unfold enumD; rw [List.length_mapIdx, List.length_map]
  rw [le, List.take_length] at q
  have fl := found_len (us := us) (i := us.length) (Nat.le_refl _)
  rw [List.take_length] at fl
  have so := sorted_acts (foundA us) (by omega)
  refine fin5 (rest := Ea (.im (.tup [g0, .tup (us.map Ru.d)])) (.own false ((foundA us).map Ac.d)) a b c) rfl ?_ rfl _ rfl
  show f__law_all_acts (Ea (.im (.tup [g0, .tup (us.map Ru.d)])) .no .no .no .no) = _
  unfold f__law_all_acts
  exact seq_of (a_f1 _) (seq_of (a_f2 _ _ _ q) (a_f3 _ _ _ _ _ _ so))

end DL
namespace DL
open PySem PySem.Spec L2
abbrev Eo (s0 st so co le fo : Sl) : En := [s0, st, so, co, le, fo]
theorem ne_nil (as : List Ac) : dNeA (.lst (as.map Ac.d)) (.lst []) = some (.im (.bl (!as.isEmpty))) := by
  have e : shp (.lst []) = true := by rfl
  have l := shp_actsL as
  unfold dNeA dNeS dNe
  cases as with
  | nil => simp [e]
  | cons a as =>
    rw [List.map_cons] at l ⊢
    simp [l, e]
theorem o_cnd (s0 st so : Sl) (c : Int) (le fo : List Ac) :
    (tAn (tV (eOp dNeA (eVar 4) (eLst aNil))) (tV (eOp dLt (eB dLen (aCons (eVar 5) aNil)) (eVar 3)))) (Eo s0 st so (.im (.int c)) (.own false (le.map Ac.d)) (.own false (fo.map Ac.d))) = .ok (!le.isEmpty && decide ((fo.length : Int) < c)) (Eo s0 st so (.im (.int c)) (.own false (le.map Ac.d)) (.own false (fo.map Ac.d))) := by
  have n := ne_nil le
  have l2 : ((fo.map Ac.d).length : Int) = fo.length := by rw [List.length_map]
  generalize le.map Ac.d = ld at n
  generalize fo.map Ac.d = fd at l2
  generalize (fo.length : Int) = fl at l2
  generalize le.isEmpty = b at n
  cases b <;> simp [n, l2, sEr, op2, op1, T.val, R.opt, toB, opL, vals, consT, disp, mvs, mkTup, callT, callI, argE, others, isAl, isAli, finT, outE, padE, runD, cpsOf, cpT, toI, slT, T.weak, metT, kApp, kExt, elemD, iT, iL, iR1, iR2, iE, iZ, onI]
theorem o_body (ns : List Int) (m : Nat) (so co : Sl) (ld fd rest : List D) (L v : Int) (k : Nat) (x : D) (hL : (ld.length : Int) = L) (q : d__law_draw [scr ns, .own true (rep0 m), .im (.int L)] = .ok (.im (.int v)) [.no, .own true (rep0 (m + 1)), .no]) (hf : fd.length < 1000000)
    (hi : ixN ld.length v = some k) (hx : ld[k]? = some x) (hr : ld.eraseIdx k = rest) (v1 : -9223372036854775808 ≤ v) (v2 : v < 9223372036854775808) :
    b__law_some_of_1 (Eo (scr ns) (.own true (rep0 m)) so co (.own false ld) (.own false fd)) = .nx (Eo (scr ns) (.own true (rep0 (m + 1))) so co (.own false rest) (.own false (fd ++ [x]))) := by
  simp [scr] at q
  simp [b__law_some_of_1, b__law_some_of_1_1, scr, hL, q, hf, kPopAt, hi, hx, hr, v1, v2, sEr, op2, op1, T.val, R.opt, toB, opL, vals, consT, disp, mvs, mkTup, callT, callI, argE, others, isAl, isAli, finT, outE, padE, runD, cpsOf, cpT, toI, slT, T.weak, metT, kApp, kExt, elemD, iT, iL, iR1, iR2, iE, iZ, onI]
theorem er_map {α β : Type} (f : α → β) : ∀ (k : Nat) (l : List α), (l.map f).eraseIdx k = (l.eraseIdx k).map f
  | _, [] => rfl
  | 0, a :: l => rfl
  | k + 1, a :: l => by
    rw [List.map_cons, List.eraseIdx_cons_succ, List.eraseIdx_cons_succ, List.map_cons, er_map f k l]
theorem erase_perm {α : Type} {l : List α} {k : Nat} {x : α} (h : l[k]? = some x) : (l.eraseIdx k ++ [x]).Perm l := by
  induction l generalizing k with
  | nil => simp at h
  | cons a l ih =>
    cases k with
    | zero =>
      have : a = x := by simpa using h
      subst this
      rw [List.eraseIdx_cons_zero]
      exact List.perm_append_comm
    | succ k =>
      rw [List.getElem?_cons_succ] at h
      rw [List.eraseIdx_cons_succ, List.cons_append]
      exact (ih h).cons a
theorem o_while (ns : List Int) (hl : ns.length ≤ 63) (so : Sl) (c : Int) : ∀ (n m : Nat) (le fo : List Ac), le.length < n → le.length + fo.length ≤ 1000 → m + le.length < 900000 →
    ∃ m' le' fo', whileF (tAn (tV (eOp dNeA (eVar 4) (eLst aNil))) (tV (eOp dLt (eB dLen (aCons (eVar 5) aNil)) (eVar 3)))) b__law_some_of_1 n (Eo (scr ns) (.own true (rep0 m)) so (.im (.int c)) (.own false (le.map Ac.d)) (.own false (fo.map Ac.d))) = .nx (Eo (scr ns) (.own true (rep0 m')) so (.im (.int c)) (.own false (le'.map Ac.d)) (.own false (fo'.map Ac.d))) ∧
      m ≤ m' ∧ m' ≤ m + le.length ∧ (le' ++ fo').Perm (le ++ fo) ∧ ((fo'.length : Int) ≤ max c fo.length) ∧ (le' = [] ∨ c ≤ fo'.length) := by
  intro n
  induction n with
  | zero => intro m le fo h; omega
  | succ n ih =>
    intro m le fo h hs hm
    have cq := o_cnd (scr ns) (.own true (rep0 m)) so c le fo
    unfold whileF
    rw [cq]
    cases hb : (!le.isEmpty && decide ((fo.length : Int) < c)) with
    | false =>
      refine ⟨m, le, fo, rfl, by omega, by omega, .refl _, by omega, ?_⟩
      cases le with
      | nil => exact .inl rfl
      | cons a le =>
        simp at hb
        exact .inr hb
    | true =>
      have hb2 : le ≠ [] ∧ (fo.length : Int) < c := by
        simp at hb
        exact hb
      have hp : 0 < le.length := List.length_pos_iff.mpr hb2.1
      obtain ⟨v, ev, v0, v1⟩ := r_draw ns m (le.length : Int) hl (by omega) (by omega)
      obtain ⟨k, rfl⟩ : ∃ k : Nat, v = (k : Int) := ⟨v.toNat, by omega⟩
      have hk : k < le.length := by omega
      have hx := List.getElem?_eq_getElem hk
      have hi : ixN (le.map Ac.d).length (k : Int) = some k := by
        rw [List.length_map]
        unfold ixN
        simp [hk]
      have er : (le.map Ac.d).eraseIdx k = (le.eraseIdx k).map Ac.d := er_map Ac.d k le
      have q := o_body ns m so (.im (.int c)) (le.map Ac.d) (fo.map Ac.d) _ le.length k k _ (by rw [List.length_map]) ev (by rw [List.length_map]; omega) hi (by rw [List.getElem?_map, hx]; rfl) er (by omega) (by omega)
      have e2 : fo.map Ac.d ++ [Ac.d le[k]] = (fo ++ [le[k]]).map Ac.d := by simp
      rw [e2] at q
      have el : (le.eraseIdx k).length = le.length - 1 := by rw [List.length_eraseIdx, if_pos hk]
      obtain ⟨m', le', fo', q', r1, r2, r3, r4, r5⟩ := ih (m + 1) (le.eraseIdx k) (fo ++ [le[k]]) (by omega) (by rw [List.length_append]; simp; omega) (by omega)
      refine ⟨m', le', fo', ?_, by omega, by omega, r3.trans ?_, ?_, r5⟩
      · simp only [R.bindF, cond_true]
        rw [q]
        exact q'
      · rw [← List.append_assoc]
        have p1 := erase_perm hx
        have : (le.eraseIdx k ++ fo ++ [le[k]]).Perm (le.eraseIdx k ++ [le[k]] ++ fo) := by
          rw [List.append_assoc, List.append_assoc]
          exact List.perm_append_comm.append_left _
        exact this.trans (p1.append_right fo)
      · rw [List.length_append] at r4
        simp at r4
        omega
theorem o_f1 (s0 st co : Sl) (ld : List D) : f__law_some_of_1 (Eo s0 st (.im (.lst ld)) co .no .no) = .nx (Eo s0 st (.im (.lst ld)) co (.own false ld) (.own false [])) := by
  simp [f__law_some_of_1, sEr, op2, op1, T.val, R.opt, toB, opL, vals, consT, disp, mvs, mkTup, callT, callI, argE, others, isAl, isAli, finT, outE, padE, runD, cpsOf, cpT, toI, slT, T.weak, metT, kApp, kExt, elemD, iT, iL, iR1, iR2, iE, iZ, onI]
theorem o_f3 (s0 st so co le : Sl) (fd zs : List D) (q : dSorted [.lst fd] = some (.fr zs)) : f__law_some_of_3 (Eo s0 st so co le (.own false fd)) = .rt (.im (.tup zs)) (Eo s0 st so co le (.own false fd)) := by
  simp [f__law_some_of_3, q, sEr, op2, op1, T.val, R.opt, toB, opL, vals, consT, disp, mvs, mkTup, callT, callI, argE, others, isAl, isAli, finT, outE, padE, runD, cpsOf, cpT, toI, slT, T.weak, metT, kApp, kExt, elemD, iT, iL, iR1, iR2, iE, iZ, onI]
theorem r_some_ofN (ns : List Int) (hl : ns.length ≤ 63) (m : Nat) (hm : m < 800000) (L : List Ac) (hL : L.length ≤ 900) (hn : L.Nodup) (c : Int) (hc : 0 ≤ c) :
    ∃ m' as, d__law_some_of [scr ns, .own true (rep0 m), .im (.lst (L.map Ac.d)), .im (.int c)] = .ok (.im (.tup (as.map Ac.d))) [.no, .own true (rep0 m'), .no, .no] ∧ m ≤ m' ∧ m' ≤ m + L.length ∧ asc as = true ∧ (∀ a ∈ as, a ∈ L) ∧ (as.length : Int) ≤ c ∧ as.length ≤ L.length ∧ (as.length = L.length ∨ c ≤ as.length) := by
  obtain ⟨m', le, fo, q, r1, r2, r3, r4, r5⟩ := o_while ns hl (.im (.lst (L.map Ac.d))) c 1000 m L [] (by omega) (by simp; omega) (by omega)
  have hlen := r3.length_eq
  rw [List.append_nil, List.length_append] at hlen
  rw [List.append_nil] at r3
  have nd : fo.Nodup := by
    have := r3.nodup_iff.mpr hn
    exact (List.nodup_append.mp this).2.1
  refine ⟨m', sortA fo, ?_, r1, r2, sortA_asc nd, fun a ha => ?_, ?_, ?_, ?_⟩
  · have so := sorted_acts fo (by omega)
    refine fin4 (rest := Eo (scr ns) (.own true (rep0 m')) (.im (.lst (L.map Ac.d))) (.im (.int c)) (.own false (le.map Ac.d)) (.own false (fo.map Ac.d))) (m := 0) rfl ?_ _ rfl
    show f__law_some_of (Eo (scr ns) (.own true (rep0 m)) (.im (.lst (L.map Ac.d))) (.im (.int c)) .no .no) = _
    unfold f__law_some_of
    refine seq_of (o_f1 _ _ _ _) (seq_of ?_ (o_f3 _ _ _ _ _ _ _ so))
    unfold f__law_some_of_2 sWhile
    exact q
  · exact r3.mem_iff.mp (List.mem_append_right _ ((sortA_perm fo).mem_iff.mp ha))
  · rw [sortA_len]
    simp at r4
    omega
  · rw [sortA_len]
    omega
  · rw [sortA_len]
    rcases r5 with rfl | r5
    · left
      simp at hlen
      exact hlen
    · exact .inr r5
theorem r_some_of (ns : List Int) (hl : ns.length ≤ 63) (m : Nat) (hm : m < 800000) (L : List Ac) (hL : L.length ≤ 900) (hn : L.Nodup) (c : Int) (hc : 0 ≤ c) :
    ∃ m' as, d__law_some_of [scr ns, .own true (rep0 m), .im (.lst (L.map Ac.d)), .im (.int c)] = .ok (.im (.tup (as.map Ac.d))) [.no, .own true (rep0 m'), .no, .no] ∧ m ≤ m' ∧ m' ≤ m + L.length ∧ asc as = true ∧ (∀ a ∈ as, a ∈ L) ∧ (as.length : Int) ≤ c ∧ as.length ≤ L.length := by
  obtain ⟨m', as, q, r1, r2, r3, r4, r5, r6, _⟩ := r_some_ofN ns hl m hm L hL hn c hc
  exact ⟨m', as, q, r1, r2, r3, r4, r5, r6⟩

end DL
namespace DL
open PySem PySem.Spec L2
theorem ac_tr {a b c : Ac} (h1 : a.lt b = true) (h2 : b.lt c = true) : a.lt c = true := by
  cases a <;> cases b <;> cases c <;> simp [Ac.lt] at h1 h2 ⊢ <;> omega
theorem asc_pw : ∀ {as : List Ac}, asc as = true → as.Pairwise fun a b => a.lt b = true
  | [], _ => .nil
  | [a], _ => List.pairwise_singleton _ _
  | a :: b :: r, h => by
    unfold asc at h
    rw [Bool.and_eq_true] at h
    have ih := asc_pw h.2
    refine List.pairwise_cons.mpr ⟨fun c hc => ?_, ih⟩
    rcases List.mem_cons.mp hc with rfl | hc
    · exact h.1
    · exact ac_tr h.1 ((List.pairwise_cons.mp ih).1 c hc)
theorem keep_iff {as : List Ac} {k : Nat} : keep as k = false ↔ Ac.off k ∈ as := by
  unfold keep
  simp
def Ac.n : Ac → Nat
  | .off n => n
  | .most n _ => n
def Ru.free : Ru → Ru
  | .pack g s p _ => .pack g s p none
  | .each f o _ => .each f o none
  | u => u
theorem fold_le : ∀ (ms : List Int) (a : Int), ms.foldl min a ≤ a ∧ ∀ x ∈ ms, ms.foldl min a ≤ x
  | [], a => ⟨Int.le_refl _, fun x z => by cases z⟩
  | m :: ms, a => by
    obtain ⟨h1, h2⟩ := fold_le ms (min a m)
    rw [List.foldl_cons]
    refine ⟨by omega, fun x z => ?_⟩
    rcases List.mem_cons.mp z with rfl | z
    · omega
    · exact h2 x z
end DL
namespace DL
open PySem PySem.Spec L2
theorem wr_pos {u : Ru} {n k x : Int} (ok : u.ok n) (f : u.fits k x = true) : 1 ≤ wrO x (some u) := by
  cases u with
  | pack g s p m =>
    obtain ⟨_, h2, _, h4⟩ := ok
    have hx : s ≤ x := by simp [Ru.fits] at f; exact f.2
    show 1 ≤ full x s m
    have q : 1 ≤ x / s := (Int.le_ediv_iff_mul_le (by omega)).mpr (by omega)
    cases m with
    | none => exact q
    | some m =>
      have h4 : 1 ≤ m ∧ m ≤ 2 := h4
      simp only [full]
      split <;> omega
  | frm g l p => exact Int.le_refl _
  | over f' o => exact (Bool.false_ne_true f).elim
  | each f' o m => exact (Bool.false_ne_true f).elim
end DL
namespace DL
open PySem PySem.Spec L2
inductive Ed : List Ru → List Ru → List Int → Prop
  | nil : Ed [] [] []
  | same (u : Ru) (w : Int) {V V' W} (h : Ed V V' W) : Ed (u :: V) (u :: V') (w :: W)
  | cut (u : Ru) (w m : Int) {V V' W} (hl : u.lessM m = true) (h0 : 0 ≤ m) (hw : w ≤ m) (h : Ed V V' W) : Ed (u :: V) (u.setM m :: V') (w :: W)
  | gone (u : Ru) (w : Int) {V V' W} (hw : w ≤ 0) (h : Ed V V' W) : Ed (u :: V) V' (w :: W)
theorem fit_cons (u : Ru) (V : List Ru) (k x : Int) : fit (u :: V) k x = if u.fits k x = true then some u else fit V k x := by
  unfold fit
  rw [List.find?_cons]
  cases u.fits k x <;> rfl
theorem fitIx_cons (u : Ru) (V : List Ru) (k x : Int) : fitIx (u :: V) k x = if u.fits k x = true then some 0 else (fitIx V k x).map (· + 1) := by
  unfold fitIx
  rw [List.findIdx?_cons]
theorem ed_amt {n k x : Int} (price : Int) : ∀ {V V' : List Ru} {W : List Int}, Ed V V' W → (∀ u ∈ V, u.ok n) → (∀ (i : Nat) (u : Ru), fitIx V k x = some i → V[i]? = some u → W[i]? = some (wr u x)) → amtBy price x (fit V' k x) = amtBy price x (fit V k x)
  | _, _, _, .nil, _, _ => rfl
  | _, _, _, .same u w h, ok, hw => by
    rw [fit_cons, fit_cons]
    by_cases f : u.fits k x = true
    · rw [if_pos f, if_pos f]
    · rw [if_neg f, if_neg f]
      refine ed_amt price h (fun v hv => ok v (List.mem_cons_of_mem _ hv)) fun i v e1 e2 => ?_
      have := hw (i + 1) v (by rw [fitIx_cons, if_neg f, e1]; rfl) (by simpa using e2)
      simpa using this
  | _, _, _, .cut u w m hl h0 hwm h, ok, hw => by
    rw [fit_cons, fit_cons, setM_fits]
    by_cases f : u.fits k x = true
    · rw [if_pos f, if_pos f]
      have e := hw 0 u (by rw [fitIx_cons, if_pos f]) rfl
      have e : w = wr u x := Option.some.inj e
      have q := (set_wr (us := [u]) (i := 0) (m := m) rfl hl (k := k) (x := x) (by rw [fitIx_cons, if_pos f])).2 price
      have e1 : fit [u] k x = some u := by rw [fit_cons, if_pos f]
      have e2 : fit ([u].set 0 (u.setM m)) k x = some (u.setM m) := by
        show fit [u.setM m] k x = _
        rw [fit_cons, setM_fits, if_pos f]
      rw [e1, e2] at q
      exact q (by show wr u x ≤ m; omega)
    · rw [if_neg f, if_neg f]
      refine ed_amt price h (fun v hv => ok v (List.mem_cons_of_mem _ hv)) fun i v e1 e2 => ?_
      have := hw (i + 1) v (by rw [fitIx_cons, if_neg f, e1]; rfl) (by simpa using e2)
      simpa using this
  | _, _, _, .gone u w hw0 h, ok, hw => by
    rw [fit_cons u]
    by_cases f : u.fits k x = true
    · have e := hw 0 u (by rw [fitIx_cons, if_pos f]) rfl
      have e : w = wr u x := Option.some.inj e
      have q : 1 ≤ wr u x := wr_pos (ok u List.mem_cons_self) f
      omega
    · rw [if_neg f]
      refine ed_amt price h (fun v hv => ok v (List.mem_cons_of_mem _ hv)) fun i v e1 e2 => ?_
      have := hw (i + 1) v (by rw [fitIx_cons, if_neg f, e1]; rfl) (by simpa using e2)
      simpa using this
theorem off_gone {u : Ru} {n t : Int} (ok : u.ok n) (ht : 0 ≤ t) (h : u.off t ≤ 0) : u.off t * u.cut = 0 := by
  obtain ⟨a, _⟩ := off_le ok ht
  have c := Ru.cut_ok ok
  have := Int.mul_le_mul_of_nonneg_right h (show 0 ≤ u.cut by omega)
  omega
theorem ed_sum {n : Int} : ∀ {V V' : List Ru} {W : List Int} (t : Int), Ed V V' W → (∀ u ∈ V, u.ok n) → 0 ≤ t → (∀ (i : Nat) (u : Ru), V[i]? = some u → u.onGood = false → W[i]? = (sr V t).2[i]?) → (sr V' t).1 = (sr V t).1
  | _, _, _, t, .nil, _, _, _ => rfl
  | _, _, _, t, .same (V := V) (V' := V') u w h, ok, ht, hw => by
    have o := off_le (ok u List.mem_cons_self) ht
    show (sr V' (t - u.off t * u.cut)).1 = (sr V (t - u.off t * u.cut)).1
    refine ed_sum _ h (fun v hv => ok v (List.mem_cons_of_mem _ hv)) (by omega) fun i v e1 e2 => ?_
    have := hw (i + 1) v (by simpa using e1) e2
    simpa [sr] using this
  | _, _, _, t, .cut (V := V) (V' := V') u w m hl h0 hwm h, ok, ht, hw => by
    have o := off_le (ok u List.mem_cons_self) ht
    have e : (u.setM m).off t = u.off t := by
      rw [set_off hl h0]
      cases g : u.onGood with
      | true => rw [off_good g]; omega
      | false =>
        have q := hw 0 u rfl g
        have q : w = u.off t := Option.some.inj q
        omega
    show (sr V' (t - (u.setM m).off t * (u.setM m).cut)).1 = (sr V (t - u.off t * u.cut)).1
    rw [e, setM_cut]
    refine ed_sum _ h (fun v hv => ok v (List.mem_cons_of_mem _ hv)) (by omega) fun i v e1 e2 => ?_
    have := hw (i + 1) v (by simpa using e1) e2
    simpa [sr] using this
  | _, _, _, t, .gone (V := V) (V' := V') u w hw0 h, ok, ht, hw => by
    have e : u.off t * u.cut = 0 := by
      cases g : u.onGood with
      | true => rw [off_good g, Int.zero_mul]
      | false =>
        have q := hw 0 u rfl g
        have q : w = u.off t := Option.some.inj q
        exact off_gone (ok u List.mem_cons_self) ht (by omega)
    show (sr V' t).1 = (sr V (t - u.off t * u.cut)).1
    have hw' : ∀ (i : Nat) (v : Ru), (u :: V)[i + 1]? = some v → v.onGood = false → (w :: _)[i + 1]? = (sr (u :: V) t).2[i + 1]? := fun i v e1 e2 => hw (i + 1) v e1 e2
    rw [e, Int.sub_zero]
    refine ed_sum _ h (fun v hv => ok v (List.mem_cons_of_mem _ hv)) ht fun i v e1 e2 => ?_
    have := hw' i v (by simpa using e1) e2
    have s2 : (sr (u :: V) t).2 = u.off t :: (sr V t).2 := by
      show u.off t :: (sr V (t - u.off t * u.cut)).2 = _
      rw [e, Int.sub_zero]
    rw [s2] at this
    simpa using this
theorem fits_one {u : Ru} {a b : Int} (h : u.fits 0 a = true) (h2 : u.fits 1 b = true) : False := by
  cases u <;> simp [Ru.fits] at h h2 <;> omega
theorem ed_chg {gi : List (Int × Int)} {V V' : List Ru} {bs : List Int} (h : Shp gi V) (hl : bs.length = gi.length) (hb : ∀ b ∈ bs, 0 ≤ b) (e : Ed V V' (usesL gi V bs)) : chg gi V' bs = chg gi V bs := by
  have h2 := h.len
  have ok : ∀ u ∈ V, u.ok gi.length := fun u z => (h.ru u z).1
  have hb2 : bs.length = 1 ∨ bs.length = 2 := by omega
  have at_ : ∀ i : Nat, i < V.length → _ := fun i hi => usesL_at (gi := gi) (us := V) (bs := bs) (i := i) hi hb2
  have gsome : ∀ {i : Nat} {u : Ru} {k x : Int}, fitIx V k x = some i → V[i]? = some u → gAt V i k x = some (wr u x) ∧ u.fits k x = true := fun {i u k x} f hu => by
    obtain ⟨u', e1, e2, e3⟩ := fit_some f
    rw [hu] at e1
    cases e1
    unfold gAt
    rw [if_pos f, e3]
    exact ⟨rfl, e2⟩
  have gno : ∀ {i : Nat} {u : Ru} {k x : Int}, V[i]? = some u → u.fits k x = false → gAt V i k x = none := fun {i u k x} hu f => by
    unfold gAt
    refine if_neg fun z => ?_
    have := (gsome z hu).2
    rw [f] at this
    cases this
  have fitsok : ∀ (k : Nat) (x : Int), bs[k]? = some x → ∀ (i : Nat) (u : Ru), fitIx V k x = some i → V[i]? = some u → (usesL gi V bs)[i]? = some (wr u x) := fun k x hk i u f hu => by
    have hi : i < V.length := (List.getElem?_eq_some_iff.mp hu).1
    have q := at_ i hi
    rw [q]
    have hk2 : k < bs.length := (List.getElem?_eq_some_iff.mp hk).1
    rcases bs with _ | ⟨a, _ | ⟨b, _ | ⟨c, bs⟩⟩⟩
    · simp at hb2
    · have : k = 0 := by simpa using hk2
      subst this
      have hk : a = x := Option.some.inj hk
      subst hk
      dsimp only
      have g1 : gAt V i 0 a = _ := (gsome f hu).1
      rw [g1]
      rfl
    · rcases (by simp at hk2; omega : k = 0 ∨ k = 1) with rfl | rfl
      · have hk : a = x := Option.some.inj hk
        subst hk
        obtain ⟨g1, g2⟩ := gsome f hu
        dsimp only
        have : u.fits 1 b = false := by
          cases z : u.fits 1 b with
          | false => rfl
          | true => exact (fits_one g2 z).elim
        rw [gno hu this]
        have g1 : gAt V i 0 a = _ := g1
        rw [g1]
        rfl
      · have hk : b = x := Option.some.inj hk
        subst hk
        dsimp only
        have g1 : gAt V i 1 b = _ := (gsome f hu).1
        rw [g1]
        rfl
    · simp at hb2
  have ea : amts gi V' bs = amts gi V bs := by
    unfold amts
    apply List.ext_getElem?
    intro k
    rw [List.getElem?_mapIdx, List.getElem?_mapIdx]
    cases hk : bs[k]? with
    | none => rfl
    | some x =>
      show some (amtAt gi V' k x) = some (amtAt gi V k x)
      unfold amtAt
      rw [ed_amt _ e ok (fitsok k x hk)]
  unfold chg
  rw [ea]
  have tp : 0 ≤ (amts gi V bs).sum := amts_pos h hl hb
  generalize ht : (amts gi V bs).sum = t at tp at_
  unfold sums
  rw [sr_is, sr_is]
  refine ed_sum t e ok tp fun i u hu hg => ?_
  have hi : i < V.length := (List.getElem?_eq_some_iff.mp hu).1
  rw [at_ i hi]
  have no : ∀ k x, gAt V i k x = none := fun k x => gno hu (by
    cases z : u.fits k x with
    | false => rfl
    | true => rw [fits_good z] at hg; cases hg)
  have es : (sums V t).2[i]? = (sr V t).2[i]? := by
    unfold sums
    rw [sr_is]
    rfl
  rcases bs with _ | ⟨a, _ | ⟨b, _ | ⟨c, bs⟩⟩⟩
  · simp at hb2
  · dsimp only
    rw [no]
    exact es
  · dsimp only
    rw [no, no]
    exact es
  · simp at hb2
theorem mem_mosts {as : List Ac} {n : Nat} {m : Int} : m ∈ mosts as n ↔ Ac.most n m ∈ as := by
  unfold mosts
  rw [List.mem_filterMap]
  constructor
  · rintro ⟨a, ha, e⟩
    cases a with
    | off k => cases e
    | most k m' =>
      simp at e
      obtain ⟨rfl, rfl⟩ := e
      exact ha
  · exact fun h => ⟨_, h, by simp⟩
theorem setM_less {u : Ru} {m m' : Int} (h : u.capped = true) (hm : m < m') : (u.setM m').lessM m = true ∧ (u.setM m').setM m = u.setM m := by
  cases u <;> first | exact ⟨decide_eq_true hm, rfl⟩ | cases h
theorem uses_used {gi : List (Int × Int)} {us : List Ru} {as : List Ac} {bs : List Int} : usesL gi (underL us as) bs = (numsU us.length as).map fun n => usedU gi us as n bs := by
  have ul : (usesL gi (underL us as) bs).length = (numsU us.length as).length := by
    rw [usesL_len]
    unfold underL
    rw [List.length_map]
  have nd : (numsU us.length as).Nodup := List.nodup_range.filter _
  apply List.ext_getElem?
  intro j
  rw [List.getElem?_map]
  by_cases hj : j < (numsU us.length as).length
  · rw [List.getElem?_eq_getElem hj, List.getElem?_eq_getElem (by omega)]
    show _ = some (usedU gi us as (numsU us.length as)[j] bs)
    unfold usedU
    rw [if_pos (List.getElem_mem hj), List.Nodup.idxOf_getElem nd j hj, List.getElem?_eq_getElem (by omega)]
    rfl
  · rw [List.getElem?_eq_none (by omega), List.getElem?_eq_none (by omega)]
    rfl
theorem ed_under {gi : List (Int × Int)} {us : List Ru} {as cs : List Ac} {bs : List Int} (hs : ∀ a ∈ as, a ∈ cs) (hok : ∀ a ∈ cs, a.ok us) (ht : ∀ a ∈ cs, a ∉ as → touched gi us as a bs = false) : ∀ ns : List Nat, (∀ n ∈ ns, n < us.length) →
    Ed ((ns.filter (keep as)).map fun i => ruU (us.getD i (.over 2 1)) as i) ((ns.filter (keep cs)).map fun i => ruU (us.getD i (.over 2 1)) cs i) ((ns.filter (keep as)).map fun n => usedU gi us as n bs)
  | [], _ => .nil
  | n :: ns, hn => by
    have ih := ed_under hs hok ht ns fun k hk => hn k (List.mem_cons_of_mem _ hk)
    have hn0 := hn n List.mem_cons_self
    obtain ⟨u, hu⟩ : ∃ u, us[n]? = some u := ⟨_, List.getElem?_eq_getElem hn0⟩
    have e2 : us.getD n (.over 2 1) = u := by rw [List.getD_eq_getElem?_getD, hu]; rfl
    have oka : ∀ a ∈ as, a.ok us := fun a ha => hok a (hs a ha)
    cases ka : keep as n with
    | false =>
      have kc : keep cs n = false := keep_iff.mpr (hs _ (keep_iff.mp ka))
      rw [List.filter_cons_of_neg (by rw [ka]; decide), List.filter_cons_of_neg (by rw [kc]; decide)]
      exact ih
    | true =>
      rw [List.filter_cons_of_pos ka, List.map_cons, List.map_cons, e2]
      cases kc : keep cs n with
      | false =>
        rw [List.filter_cons_of_neg (by rw [kc]; decide)]
        refine .gone _ _ ?_ ih
        have := ht (.off n) (keep_iff.mp kc) fun z => by
          rw [keep_iff.mpr z] at ka
          cases ka
        have := of_decide_eq_false this
        omega
      | true =>
        rw [List.filter_cons_of_pos kc, List.map_cons, e2]
        cases ec : mosts cs n with
        | nil =>
          have ea : mosts as n = [] := by
            cases q : mosts as n with
            | nil => rfl
            | cons k ks =>
              have : k ∈ mosts cs n := mem_mosts.mpr (hs _ (mem_mosts.mp (by rw [q]; exact List.mem_cons_self)))
              rw [ec] at this
              cases this
          have r1 : ruU u cs n = u := by unfold ruU; rw [ec]
          have r2 : ruU u as n = u := by unfold ruU; rw [ea]
          rw [r1, r2]
          exact .same _ _ ih
        | cons k ks =>
          have r1 : ruU u cs n = u.setM (ks.foldl min k) := by unfold ruU; rw [ec]
          have mm : ks.foldl min k ∈ mosts cs n := by rw [ec]; exact fold_min_mem ks k
          have mle : ∀ x ∈ mosts cs n, ks.foldl min k ≤ x := fun x hx => by
            rw [ec] at hx
            rcases List.mem_cons.mp hx with rfl | z
            · exact (fold_le ks x).1
            · exact (fold_le ks k).2 _ z
          rw [r1]
          generalize ks.foldl min k = m at mm mle
          have hm := mosts_ok hok hu m mm
          have hc := lessM_cap hm.2
          cases ea : mosts as n with
          | nil =>
            have r2 : ruU u as n = u := by unfold ruU; rw [ea]
            rw [r2]
            refine .cut _ _ m hm.2 (by omega) ?_ ih
            have := ht (.most n m) (mem_mosts.mp mm) fun z => by
              have := mem_mosts.mpr z
              rw [ea] at this
              cases this
            have := of_decide_eq_false this
            omega
          | cons k' ks' =>
            have r2 : ruU u as n = u.setM (ks'.foldl min k') := by unfold ruU; rw [ea]
            have mm' : ks'.foldl min k' ∈ mosts as n := by rw [ea]; exact fold_min_mem ks' k'
            have mle' : ∀ x ∈ mosts as n, ks'.foldl min k' ≤ x := fun x hx => by
              rw [ea] at hx
              rcases List.mem_cons.mp hx with rfl | z
              · exact (fold_le ks' x).1
              · exact (fold_le ks' k').2 _ z
            rw [r2]
            generalize ks'.foldl min k' = m' at mm' mle'
            have le := mle m' (mem_mosts.mpr (hs _ (mem_mosts.mp mm')))
            by_cases e : m = m'
            · rw [e]
              exact .same _ _ ih
            · obtain ⟨l1, l2⟩ := setM_less (m := m) (m' := m') hc (by omega)
              rw [← l2]
              refine .cut _ _ m l1 (by omega) ?_ ih
              have := ht (.most n m) (mem_mosts.mp mm) fun z => by
                have := mle' m (mem_mosts.mpr z)
                omega
              have := of_decide_eq_false this
              omega
theorem untouched {gi : List (Int × Int)} {us : List Ru} (h : Shp gi us) {as cs : List Ac} (hs : ∀ a ∈ as, a ∈ cs) (hok : ∀ a ∈ cs, a.ok us) {bs : List Int} (hl : bs.length = gi.length) (hb : ∀ b ∈ bs, 0 ≤ b) (ht : ∀ a ∈ cs, a ∉ as → touched gi us as a bs = false) : chg gi (underL us cs) bs = chg gi (underL us as) bs := by
  refine ed_chg (under_shp h fun a ha => hok a (hs a ha)) hl hb ?_
  rw [uses_used]
  exact ed_under hs hok ht (List.range us.length) fun n hn => List.mem_range.mp hn

end DL
namespace DL
open PySem PySem.Spec L2
abbrev Es (s0 st sh co so : Sl) : En := [s0, st, sh, co, so]
theorem flats_rep : ∀ n : Nat, D.flats (rep0 n) = true
  | 0 => rfl
  | n + 1 => by
    unfold rep0
    rw [List.replicate_succ]
    unfold D.flats
    have := flats_rep n
    unfold rep0 at this
    rw [this]
    rfl
theorem flat_ac (a : Ac) : D.flat a.d = true := by cases a <;> rfl
theorem flats_acts : ∀ as : List Ac, D.flats (as.map Ac.d) = true
  | [] => rfl
  | a :: as => by
    rw [List.map_cons]
    unfold D.flats
    rw [flat_ac, flats_acts as]
    rfl
theorem sa1 (s0 st co : Sl) (sh : D) (ad : List D) (q : d__law_all_acts [.im sh] = .ok (.fr ad) [.no]) : f__law_some_acts_1 (Es s0 st (.im sh) co .no) = .nx (Es s0 st (.im sh) co (.own false ad)) := by
  simp [f__law_some_acts_1, q, sEr, op2, op1, T.val, R.opt, toB, opL, vals, consT, disp, mvs, mkTup, callT, callI, argE, others, isAl, isAli, finT, outE, padE, runD, cpsOf, cpT, toI, slT, T.weak, metT, kApp, kExt, elemD, iT, iL, iR1, iR2, iE, iZ, onI]
theorem sa2 (s0 st sh co : Sl) (ad : List D) (q : dNeA (.lst ad) (.lst []) = some (.im (.bl false))) : f__law_some_acts_2 (Es s0 st sh co (.own false ad)) = .rt (.im (.tup [])) (Es s0 st sh co (.own false ad)) := by
  simp [f__law_some_acts_2, q, sEr, op2, op1, T.val, R.opt, toB, opL, vals, consT, disp, mvs, mkTup, callT, callI, argE, others, isAl, isAli, finT, outE, padE, runD, cpsOf, cpT, toI, slT, T.weak, metT, kApp, kExt, elemD, iT, iL, iR1, iR2, iE, iZ, onI]
theorem sa3 (ns : List Int) (m m' : Nat) (sh : Sl) (ad zd : List D) (c v : Int) (q : dNeA (.lst ad) (.lst []) = some (.im (.bl true))) (q1 : d__law_draw [scr ns, .own true (rep0 m), .im (.int (c + 1))] = .ok (.im (.int v)) [.no, .own true (rep0 (m + 1)), .no]) (q2 : d__law_some_of [scr ns, .own true (rep0 (m + 1)), .im (.lst ad), .im (.int v)] = .ok (.im (.tup zd)) [.no, .own true (rep0 m'), .no, .no])
    (f1 : D.flats (rep0 m') = true) (f2 : D.flats zd = true) :
    f__law_some_acts_2 (Es (scr ns) (.own true (rep0 m)) sh (.im (.int c)) (.own false ad)) = .rt (.im (.tup zd)) (Es (scr ns) (.own true (rep0 m')) sh (.im (.int c)) (.own false ad)) := by
  simp [scr] at q1 q2
  have f3 : D.flat (.tup zd) = true := by unfold D.flat; exact f2
  simp [f__law_some_acts_2, scr, q, q1, q2, f1, f3, flatT, sEr, op2, op1, T.val, R.opt, toB, opL, vals, consT, disp, mvs, mkTup, callT, callI, argE, others, isAl, isAli, finT, outE, padE, runD, cpsOf, cpT, toI, slT, T.weak, metT, kApp, kExt, elemD, iT, iL, iR1, iR2, iE, iZ, onI]
theorem r_some_acts (ns : List Int) (hl : ns.length ≤ 63) (m : Nat) (hm : m < 700000) (g0 : D) {us : List Ru} (few : us.length ≤ 4) (c : Int) (hc : 0 ≤ c) :
    ∃ m' as, d__law_some_acts [scr ns, .own true (rep0 m), .im (.tup [g0, .tup (us.map Ru.d)]), .im (.int c)] = .ok (.im (.tup (as.map Ac.d))) [.no, .own true (rep0 m'), .no, .no] ∧ m ≤ m' ∧ m' ≤ m + 13 ∧ asc as = true ∧ (∀ a ∈ as, a.ok us) ∧ (as.length : Int) ≤ c := by
  have qa := r_all_acts g0 few
  have al := all_len (us := us)
  have nn := ne_nil (allActs us)
  cases he : (allActs us).isEmpty with
  | true =>
    rw [he] at nn
    refine ⟨m, [], ?_, by omega, by omega, rfl, fun _ z => (by cases z), by simpa using hc⟩
    refine fin4 (rest := Es (scr ns) (.own true (rep0 m)) (.im (.tup [g0, .tup (us.map Ru.d)])) (.im (.int c)) (.own false ((allActs us).map Ac.d))) (m := 0) rfl ?_ _ rfl
    show f__law_some_acts (Es (scr ns) (.own true (rep0 m)) (.im (.tup [g0, .tup (us.map Ru.d)])) (.im (.int c)) .no) = _
    unfold f__law_some_acts
    exact seq_of (sa1 _ _ _ _ _ qa) (sa2 _ _ _ _ _ nn)
  | false =>
    rw [he] at nn
    obtain ⟨v, ev, v0, v1⟩ := r_draw ns m (c + 1) hl (by omega) (by omega)
    obtain ⟨m', as, eo, m1, m2, a1, a2, a3, a4⟩ := r_some_of ns hl (m + 1) (by omega) (allActs us) (by omega) (all_nodup us) v v0
    refine ⟨m', as, ?_, by omega, by omega, a1, fun a z => all_mem.mp (a2 a z), by omega⟩
    refine fin4 (rest := Es (scr ns) (.own true (rep0 m')) (.im (.tup [g0, .tup (us.map Ru.d)])) (.im (.int c)) (.own false ((allActs us).map Ac.d))) (m := 0) rfl ?_ _ rfl
    show f__law_some_acts (Es (scr ns) (.own true (rep0 m)) (.im (.tup [g0, .tup (us.map Ru.d)])) (.im (.int c)) .no) = _
    unfold f__law_some_acts
    exact seq_of (sa1 _ _ _ _ _ qa) (sa3 ns m m' _ _ _ c v nn ev eo (flats_rep m') (flats_acts as))

end DL
namespace DL
open PySem PySem.Spec L2
theorem draw_basket (ns : List Int) (n : Nat) {gi : List (Int × Int)} {us : List Ru} (h : Shp gi us) (hl : ns.length ≤ 63) (hn : n < 900000) : ∃ (bs : List Int) (m : Nat), d__law_some_basket [scr ns, .own true (rep0 n), .im (shopD gi us)] = .ok (.im (basD bs)) [.no, .own true (rep0 m), .no] ∧ m ≤ n + 3 ∧ bs.length = gi.length ∧ ∀ b ∈ bs, 0 ≤ b ∧ b < 1000 := by
  have h2 := h.len.2
  obtain ⟨x, hx, e1⟩ := r_pick ns n (.tup [.int 3, .int 9, .int 30, .int 1000]) _ (.inr rfl) hl (by omega) (by decide)
  obtain ⟨k, rfl, k1, k2⟩ : ∃ k : Int, x = .int k ∧ 0 < k ∧ k ≤ 1000 := by
    simp at hx
    rcases hx with rfl | rfl | rfl | rfl <;> exact ⟨_, rfl, by decide, by decide⟩
  obtain ⟨ys, q, h3, h4⟩ := lc_some (k := ⟨gi.map gd, none⟩) (vs := [4]) (t := .one 4) (fe := eCallI 1 d__law_draw (aCons (eVar 0) (aCons (eVar 1) (aCons (eVar 3) aNil)))) (Pd := fun _ y => ∃ b : Int, y = .int b ∧ 0 ≤ b ∧ b < 1000) (E := fun i => [scr ns, .own true (rep0 (n + 1 + i)), .im (shopD gi us), .im (.int k), .no]) (fun j => trivial) (gi.map gd) [] 0 (small_size (by rw [List.length_map]; show 0 + gi.length ≤ 1000; omega)) (fun d _ i hi => by
    have hi : i < 2 := by rw [List.length_map] at hi; omega
    obtain ⟨b, eb, b1, b2⟩ := r_draw ns (n + 1 + i) k hl (by omega) k1
    refine ⟨_, .im (.int b), [scr ns, .own true (rep0 (n + 1 + i + 1)), .im (shopD gi us), .im (.int k), .im d], _, rfl, ?_, rfl, ⟨b, rfl, b1, by omega⟩, rfl⟩
    simp [scr] at eb
    simp [scr, eb, sEr, op2, op1, T.val, R.opt, toB, opL, vals, consT, disp, mvs, mkTup, callT, callI, argE, others, isAl, isAli, finT, outE, padE, runD, cpsOf, cpT, toI, slT, T.weak, metT, kApp, kExt, elemD, iT, iL, iR1, iR2, iE, iZ, onI])
  obtain ⟨bs, rfl, hbs⟩ : ∃ bs : List Int, ys = bs.map D.int ∧ ∀ b ∈ bs, 0 ≤ b ∧ b < 1000 := by
    have hy : ∀ y ∈ ys, ∃ b : Int, y = .int b ∧ 0 ≤ b ∧ b < 1000 := fun y hy => by
      obtain ⟨i, hi⟩ := List.getElem?_of_mem hy
      have hil : i < (gi.map gd).length := by
        rw [← h3]
        exact (List.getElem?_eq_some_iff.mp hi).1
      obtain ⟨y', e1, e2⟩ := h4 i _ (List.getElem?_eq_getElem hil)
      rw [hi] at e1
      cases e1
      exact e2
    clear q h3 h4
    induction ys with
    | nil => exact ⟨[], rfl, fun b z => by cases z⟩
    | cons y ys ih =>
      obtain ⟨b, rfl, hb⟩ := hy y List.mem_cons_self
      obtain ⟨bs, rfl, h⟩ := ih fun y z => hy y (List.mem_cons_of_mem _ z)
      exact ⟨b :: bs, rfl, fun x z => (List.mem_cons.mp z).elim (fun z => z ▸ hb) (h x)⟩
  rw [List.length_map, List.length_map] at h3
  refine ⟨bs, n + 1 + (0 + (gi.map gd).length), ?_, by rw [List.length_map]; omega, h3, hbs⟩
  have q2 := eLc_of (fi := fiT (eOp dIx (eVar 2) (eC (.int 0)))) (env := [scr ns, .own true (rep0 (n + 1)), .im (shopD gi us), .im (.int k), .no]) (k := ⟨gi.map gd, none⟩) (e := [scr ns, .own true (rep0 (n + 1)), .im (shopD gi us), .im (.int k), .no]) (by simp [dIx, sEr, op2, op1, T.val, R.opt, toB, opL, vals, consT, disp, mvs, mkTup, callT, callI, argE, others, isAl, isAli, finT, outE, padE, runD, cpsOf, cpT, toI, slT, T.weak, metT, kApp, kExt, elemD, iT, iL, iR1, iR2, iE, iZ, onI]) q
  refine fin4 (rest := [scr ns, .own true (rep0 (n + 1 + (0 + (gi.map gd).length))), .im (shopD gi us), .im (.int k), .no]) (m := 0) rfl ?_ _ rfl
  show f__law_some_basket [scr ns, .own true (rep0 n), .im (shopD gi us), .no, .no] = _
  unfold f__law_some_basket
  try simp [scr] at e1
  simp only [scr, rep0] at q2
  simp [scr, e1, q2, sEr, op2, op1, T.val, R.opt, toB, opL, vals, consT, disp, mvs, mkTup, callT, callI, argE, others, isAl, isAli, finT, outE, padE, runD, cpsOf, cpT, toI, slT, T.weak, metT, kApp, kExt, elemD, iT, iL, iR1, iR2, iE, iZ, onI]

end DL
namespace DL
open PySem PySem.Spec L2
variable [Wd]
def topS (i : Nat) : Stmt := PySem.Challenge.pw_sureprices_k16_whole_untouched_baskets.main.body.getD i (.Pass ⟨0, 0, 0, 0⟩)
structure Bl (K : PySem.W.Frag) (mg : Str → Option Value) : Prop where
  b_all : mg "all" = none
  b_any : mg "any" = none
  b_bool : mg "bool" = none
  b_enumerate : mg "enumerate" = none
  b_int : mg "int" = none
  b_isinstance : mg "isinstance" = none
  b_len : mg "len" = none
  b_list : mg "list" = none
  b_max : mg "max" = none
  b_min : mg "min" = none
  b_range : mg "range" = none
  b_set : mg "set" = none
  b_sorted : mg "sorted" = none
  b_str : mg "str" = none
  b_sum : mg "sum" = none
  b_tuple : mg "tuple" = none
  b_zip : mg "zip" = none
  g_MOST_ACTS : ∃ u, mg "MOST_ACTS" = some u ∧ RelV (.int 8) u
  g_MOST_GOODS : ∃ u, mg "MOST_GOODS" = some u ∧ RelV (.int 2) u
  g_MOST_PIECES : ∃ u, mg "MOST_PIECES" = some u ∧ RelV (.int 1000000) u
  g_MOST_RULES : ∃ u, mg "MOST_RULES" = some u ∧ RelV (.int 4) u
  g_SUM_WORDS : GlT K mg "SUM_WORDS" g_SUM_WORDS
  k_InvalidAct : ExcK K mg "InvalidAct"
  k_InvalidActs : ExcK K mg "InvalidActs"
  k_InvalidBasket : ExcK K mg "InvalidBasket"
  k_InvalidShop : ExcK K mg "InvalidShop"
abbrev s_is_integer : Stmt := topS 10
theorem sc_is_integer : FnScope ["value"] ["value"] (defScope s_is_integer) := ⟨rfl, rfl, rfl, by decide +kernel, rfl, by decide +kernel, by decide +kernel⟩
abbrev s_is_between : Stmt := topS 11
theorem sc_is_between : FnScope ["value", "low", "high"] ["value", "low", "high"] (defScope s_is_between) := ⟨rfl, rfl, rfl, by decide +kernel, rfl, by decide +kernel, by decide +kernel⟩
abbrev s_is_tuple_of : Stmt := topS 12
theorem sc_is_tuple_of : FnScope ["value", "length"] ["value", "length"] (defScope s_is_tuple_of) := ⟨rfl, rfl, rfl, by decide +kernel, rfl, by decide +kernel, by decide +kernel⟩
abbrev s_is_most : Stmt := topS 13
theorem sc_is_most : FnScope ["value"] ["value"] (defScope s_is_most) := ⟨rfl, rfl, rfl, by decide +kernel, rfl, by decide +kernel, by decide +kernel⟩
abbrev s_is_good : Stmt := topS 14
theorem sc_is_good : FnScope ["value", "price", "cost"] ["value"] (defScope s_is_good) := ⟨rfl, rfl, rfl, by decide +kernel, rfl, by decide +kernel, by decide +kernel⟩
abbrev s_is_pack : Stmt := topS 15
theorem sc_is_pack : FnScope ["value", "many_goods", "_", "good", "size", "price", "most"] ["value", "many_goods"] (defScope s_is_pack) := ⟨rfl, rfl, rfl, by decide +kernel, rfl, by decide +kernel, by decide +kernel⟩
abbrev s_is_from : Stmt := topS 16
theorem sc_is_from : FnScope ["value", "many_goods", "_", "good", "least", "price"] ["value", "many_goods"] (defScope s_is_from) := ⟨rfl, rfl, rfl, by decide +kernel, rfl, by decide +kernel, by decide +kernel⟩
abbrev s_is_over : Stmt := topS 17
theorem sc_is_over : FnScope ["value", "_", "full", "off"] ["value"] (defScope s_is_over) := ⟨rfl, rfl, rfl, by decide +kernel, rfl, by decide +kernel, by decide +kernel⟩
abbrev s_is_each : Stmt := topS 18
theorem sc_is_each : FnScope ["value", "_", "full", "off", "most"] ["value"] (defScope s_is_each) := ⟨rfl, rfl, rfl, by decide +kernel, rfl, by decide +kernel, by decide +kernel⟩
abbrev s_is_rule : Stmt := topS 19
theorem sc_is_rule : FnScope ["value", "many_goods", "word"] ["value", "many_goods"] (defScope s_is_rule) := ⟨rfl, rfl, rfl, by decide +kernel, rfl, by decide +kernel, by decide +kernel⟩
abbrev s_is_endless_each : Stmt := topS 20
theorem sc_is_endless_each : FnScope ["rule"] ["rule"] (defScope s_is_endless_each) := ⟨rfl, rfl, rfl, by decide +kernel, rfl, by decide +kernel, by decide +kernel⟩
abbrev s_are_goods : Stmt := topS 21
theorem sc_are_goods : FnScope ["value", "good"] ["value"] (defScope s_are_goods) := ⟨rfl, rfl, rfl, by decide +kernel, rfl, by decide +kernel, by decide +kernel⟩
abbrev s_are_rules : Stmt := topS 22
theorem sc_are_rules : FnScope ["value", "many_goods", "rule"] ["value", "many_goods"] (defScope s_are_rules) := ⟨rfl, rfl, rfl, by decide +kernel, rfl, by decide +kernel, by decide +kernel⟩
abbrev s_is_shop : Stmt := topS 23
theorem sc_is_shop : FnScope ["value", "goods", "rules"] ["value"] (defScope s_is_shop) := ⟨rfl, rfl, rfl, by decide +kernel, rfl, by decide +kernel, by decide +kernel⟩
abbrev s_check_shop : Stmt := topS 24
theorem sc_check_shop : FnScope ["shop"] ["shop"] (defScope s_check_shop) := ⟨rfl, rfl, rfl, by decide +kernel, rfl, by decide +kernel, by decide +kernel⟩
abbrev s_are_pieces : Stmt := topS 25
theorem sc_are_pieces : FnScope ["shop", "value", "pieces"] ["shop", "value"] (defScope s_are_pieces) := ⟨rfl, rfl, rfl, by decide +kernel, rfl, by decide +kernel, by decide +kernel⟩
abbrev s_is_basket : Stmt := topS 26
theorem sc_is_basket : FnScope ["shop", "value"] ["shop", "value"] (defScope s_is_basket) := ⟨rfl, rfl, rfl, by decide +kernel, rfl, by decide +kernel, by decide +kernel⟩
abbrev s_check_basket : Stmt := topS 27
theorem sc_check_basket : FnScope ["shop", "basket"] ["shop", "basket"] (defScope s_check_basket) := ⟨rfl, rfl, rfl, by decide +kernel, rfl, by decide +kernel, by decide +kernel⟩
abbrev s_full_times : Stmt := topS 30
theorem sc_full_times : FnScope ["whole", "part", "most", "times"] ["whole", "part", "most"] (defScope s_full_times) := ⟨rfl, rfl, rfl, by decide +kernel, rfl, by decide +kernel, by decide +kernel⟩
abbrev s_fitting_rule : Stmt := topS 31
theorem sc_fitting_rule : FnScope ["rules", "good", "pieces", "number", "rule"] ["rules", "good", "pieces"] (defScope s_fitting_rule) := ⟨rfl, rfl, rfl, by decide +kernel, rfl, by decide +kernel, by decide +kernel⟩
abbrev s_pack_times : Stmt := topS 32
theorem sc_pack_times : FnScope ["rule", "pieces", "_", "size", "most"] ["rule", "pieces"] (defScope s_pack_times) := ⟨rfl, rfl, rfl, by decide +kernel, rfl, by decide +kernel, by decide +kernel⟩
abbrev s_pack_amount : Stmt := topS 33
theorem sc_pack_amount : FnScope ["rule", "price", "pieces", "times", "_", "size", "pack_price"] ["rule", "price", "pieces"] (defScope s_pack_amount) := ⟨rfl, rfl, rfl, by decide +kernel, rfl, by decide +kernel, by decide +kernel⟩
abbrev s_good_amount : Stmt := topS 34
theorem sc_good_amount : FnScope ["shop", "good", "pieces", "number", "rule", "goods", "rules", "price", "_"] ["shop", "good", "pieces"] (defScope s_good_amount) := ⟨rfl, rfl, rfl, by decide +kernel, rfl, by decide +kernel, by decide +kernel⟩
abbrev s_off_times : Stmt := topS 35
theorem sc_off_times : FnScope ["rule", "left"] ["rule", "left"] (defScope s_off_times) := ⟨rfl, rfl, rfl, by decide +kernel, rfl, by decide +kernel, by decide +kernel⟩
abbrev s_apply_sums : Stmt := topS 36
theorem sc_apply_sums : FnScope ["rules", "total", "left", "taken", "rule", "times"] ["rules", "total"] (defScope s_apply_sums) := ⟨rfl, rfl, rfl, by decide +kernel, rfl, by decide +kernel, by decide +kernel⟩
abbrev s_amounts_of : Stmt := topS 37
theorem sc_amounts_of : FnScope ["shop", "basket", "good", "pieces"] ["shop", "basket"] (defScope s_amounts_of) := ⟨rfl, rfl, rfl, by decide +kernel, rfl, by decide +kernel, by decide +kernel⟩
abbrev s_left_of : Stmt := topS 38
theorem sc_left_of : FnScope ["rules", "total", "left", "_"] ["rules", "total"] (defScope s_left_of) := ⟨rfl, rfl, rfl, by decide +kernel, rfl, by decide +kernel, by decide +kernel⟩
abbrev s_charge_of : Stmt := topS 39
theorem sc_charge_of : FnScope ["shop", "basket"] ["shop", "basket"] (defScope s_charge_of) := ⟨rfl, rfl, rfl, by decide +kernel, rfl, by decide +kernel, by decide +kernel⟩
abbrev s_uses_of : Stmt := topS 40
theorem sc_uses_of : FnScope ["shop", "basket", "rules", "_", "counts", "good", "pieces", "number", "rule"] ["shop", "basket"] (defScope s_uses_of) := ⟨rfl, rfl, rfl, by decide +kernel, rfl, by decide +kernel, by decide +kernel⟩
abbrev s_charge : Stmt := topS 41
theorem sc_charge : FnScope ["shop", "basket"] ["shop", "basket"] (defScope s_charge) := ⟨rfl, rfl, rfl, by decide +kernel, rfl, by decide +kernel, by decide +kernel⟩
abbrev s_is_ascending : Stmt := topS 44
theorem sc_is_ascending : FnScope ["values", "one", "other"] ["values"] (defScope s_is_ascending) := ⟨rfl, rfl, rfl, by decide +kernel, rfl, by decide +kernel, by decide +kernel⟩
abbrev s_is_most_act : Stmt := topS 45
theorem sc_is_most_act : FnScope ["shop", "value", "rules", "rule"] ["shop", "value"] (defScope s_is_most_act) := ⟨rfl, rfl, rfl, by decide +kernel, rfl, by decide +kernel, by decide +kernel⟩
abbrev s_is_act : Stmt := topS 46
theorem sc_is_act : FnScope ["shop", "value", "word"] ["shop", "value"] (defScope s_is_act) := ⟨rfl, rfl, rfl, by decide +kernel, rfl, by decide +kernel, by decide +kernel⟩
abbrev s_are_acts : Stmt := topS 47
theorem sc_are_acts : FnScope ["shop", "value", "act"] ["shop", "value"] (defScope s_are_acts) := ⟨rfl, rfl, rfl, by decide +kernel, rfl, by decide +kernel, by decide +kernel⟩
abbrev s_check_acts : Stmt := topS 48
theorem sc_check_acts : FnScope ["shop", "acts"] ["shop", "acts"] (defScope s_check_acts) := ⟨rfl, rfl, rfl, by decide +kernel, rfl, by decide +kernel, by decide +kernel⟩
abbrev s_numbers_under : Stmt := topS 49
theorem sc_numbers_under : FnScope ["shop", "acts", "number"] ["shop", "acts"] (defScope s_numbers_under) := ⟨rfl, rfl, rfl, by decide +kernel, rfl, by decide +kernel, by decide +kernel⟩
abbrev s_rule_under : Stmt := topS 50
theorem sc_rule_under : FnScope ["shop", "acts", "number", "rule", "mosts", "act"] ["shop", "acts", "number"] (defScope s_rule_under) := ⟨rfl, rfl, rfl, by decide +kernel, rfl, by decide +kernel, by decide +kernel⟩
abbrev s_left_under : Stmt := topS 51
theorem sc_left_under : FnScope ["shop", "acts", "numbers", "number"] ["shop", "acts"] (defScope s_left_under) := ⟨rfl, rfl, rfl, by decide +kernel, rfl, by decide +kernel, by decide +kernel⟩
abbrev s_uses_under : Stmt := topS 52
theorem sc_uses_under : FnScope ["shop", "acts", "number", "basket", "numbers"] ["shop", "acts", "number", "basket"] (defScope s_uses_under) := ⟨rfl, rfl, rfl, by decide +kernel, rfl, by decide +kernel, by decide +kernel⟩
abbrev s_touches_under : Stmt := topS 53
theorem sc_touches_under : FnScope ["shop", "acts", "act", "basket", "used"] ["shop", "acts", "act", "basket"] (defScope s_touches_under) := ⟨rfl, rfl, rfl, by decide +kernel, rfl, by decide +kernel, by decide +kernel⟩
abbrev s_shop_under : Stmt := topS 54
theorem sc_shop_under : FnScope ["shop", "acts"] ["shop", "acts"] (defScope s_shop_under) := ⟨rfl, rfl, rfl, by decide +kernel, rfl, by decide +kernel, by decide +kernel⟩
abbrev s_touches : Stmt := topS 55
theorem sc_touches : FnScope ["shop", "acts", "act", "basket"] ["shop", "acts", "act", "basket"] (defScope s_touches) := ⟨rfl, rfl, rfl, by decide +kernel, rfl, by decide +kernel, by decide +kernel⟩
abbrev s__law_cell_at : Stmt := topS 57
theorem sc__law_cell_at : FnScope ["_law_script", "_law_k", "_law_spare", "_law_again"] ["_law_script", "_law_k"] (defScope s__law_cell_at) := ⟨rfl, rfl, rfl, by decide +kernel, rfl, by decide +kernel, by decide +kernel⟩
abbrev s__law_mixed : Stmt := topS 58
theorem sc__law_mixed : FnScope ["_law_script", "_law_k", "_law_many", "_law_spun"] ["_law_script", "_law_k", "_law_many"] (defScope s__law_mixed) := ⟨rfl, rfl, rfl, by decide +kernel, rfl, by decide +kernel, by decide +kernel⟩
abbrev s__law_draw : Stmt := topS 59
theorem sc__law_draw : FnScope ["_law_script", "_law_state", "_law_many"] ["_law_script", "_law_state", "_law_many"] (defScope s__law_draw) := ⟨rfl, rfl, rfl, by decide +kernel, rfl, by decide +kernel, by decide +kernel⟩
abbrev s__law_pick : Stmt := topS 60
theorem sc__law_pick : FnScope ["_law_script", "_law_state", "_law_some"] ["_law_script", "_law_state", "_law_some"] (defScope s__law_pick) := ⟨rfl, rfl, rfl, by decide +kernel, rfl, by decide +kernel, by decide +kernel⟩
abbrev s__law_some_rule : Stmt := topS 61
theorem sc__law_some_rule : FnScope ["_law_script", "_law_state", "_law_goods", "_law_capped", "_law_kind", "_law_good", "_law_single", "_law_whole", "_law_most", "_law_size", "_law_price"] ["_law_script", "_law_state", "_law_goods", "_law_capped"] (defScope s__law_some_rule) := ⟨rfl, rfl, rfl, by decide +kernel, rfl, by decide +kernel, by decide +kernel⟩
abbrev s__law_some_goods : Stmt := topS 62
theorem sc__law_some_goods : FnScope ["_law_script", "_law_state", "_law_count", "_law_again"] ["_law_script", "_law_state"] (defScope s__law_some_goods) := ⟨rfl, rfl, rfl, by decide +kernel, rfl, by decide +kernel, by decide +kernel⟩
abbrev s__law_some_shop : Stmt := topS 63
theorem sc__law_some_shop : FnScope ["_law_script", "_law_state", "_law_again", "_law_goods", "_law_rules", "_law_capped", "_law_rule"] ["_law_script", "_law_state"] (defScope s__law_some_shop) := ⟨rfl, rfl, rfl, by decide +kernel, rfl, by decide +kernel, by decide +kernel⟩
abbrev s__law_some_basket : Stmt := topS 64
theorem sc__law_some_basket : FnScope ["_law_script", "_law_state", "_law_shop", "_law_most", "_law_good"] ["_law_script", "_law_state", "_law_shop"] (defScope s__law_some_basket) := ⟨rfl, rfl, rfl, by decide +kernel, rfl, by decide +kernel, by decide +kernel⟩
abbrev s__law_all_acts : Stmt := topS 65
theorem sc__law_all_acts : FnScope ["_law_shop", "_law_found", "_law_number", "_law_rule", "_law_most"] ["_law_shop"] (defScope s__law_all_acts) := ⟨rfl, rfl, rfl, by decide +kernel, rfl, by decide +kernel, by decide +kernel⟩
abbrev s__law_some_of : Stmt := topS 66
theorem sc__law_some_of : FnScope ["_law_script", "_law_state", "_law_some", "_law_count", "_law_left", "_law_found"] ["_law_script", "_law_state", "_law_some", "_law_count"] (defScope s__law_some_of) := ⟨rfl, rfl, rfl, by decide +kernel, rfl, by decide +kernel, by decide +kernel⟩
abbrev s__law_some_acts : Stmt := topS 67
theorem sc__law_some_acts : FnScope ["_law_script", "_law_state", "_law_shop", "_law_most", "_law_some"] ["_law_script", "_law_state", "_law_shop", "_law_most"] (defScope s__law_some_acts) := ⟨rfl, rfl, rfl, by decide +kernel, rfl, by decide +kernel, by decide +kernel⟩
abbrev s_law : Stmt := topS 68
theorem sc_law : FnScope ["_law_script", "_law_state", "_law_shop", "_law_acts", "_law_again", "_law_basket", "_law_more", "_law_both", "_law_act", "_law_alone"] ["_law_script"] (defScope s_law) := ⟨rfl, rfl, rfl, by decide +kernel, rfl, by decide +kernel, by decide +kernel⟩
noncomputable def b_law_1_1 : FS := (sAsg (eCall d_charge (aCons (eCall d_shop_under (aCons (eVar 2) (aCons (eTup (aCons (eVar 8) aNil)) aNil))) (aCons (eVar 5) aNil))) (gN 9))
noncomputable def b_law_1_2 : FS := (sIf (tAn (tV (eOp dNeA (eVar 9) (eCall d_charge (aCons (eVar 2) (aCons (eVar 5) aNil))))) (tV (eOp dNis (eCall d_touches (aCons (eVar 2) (aCons (eTup aNil) (aCons (eVar 8) (aCons (eVar 5) aNil))))) (eC (.bl true))))) (sRet (eC (.bl false))) sNx)
noncomputable def b_law_1 : FS := sSeq b_law_1_1 (b_law_1_2)
noncomputable def b_law_2_1 : FS := (sAsg (eCallI 1 d__law_some_basket (aCons (eVar 0) (aCons (eVar 1) (aCons (eVar 2) aNil)))) (gN 5))
noncomputable def b_law_2_2 : FS := (sAsg (eLc (fiT (eCallI 1 d__law_some_acts (aCons (eVar 0) (aCons (eVar 1) (aCons (eVar 2) (aCons (eC (.int 5)) aNil)))))) [8] (.one 8) (tNo (tV (eCall d_touches (aCons (eVar 2) (aCons (eVar 3) (aCons (eVar 8) (aCons (eVar 5) aNil))))))) (eVar 8)) (gN 6))
noncomputable def b_law_2_3 : FS := (sAsg (eSl (eB dTuple (aCons (eB dSetSort (aCons (eOp dAdd (eB dList (aCons (eVar 3) aNil)) (eVar 6)) aNil)) aNil)) tNp (tPa (eC (.int 8)))) (gN 7))
noncomputable def b_law_2_4 : FS := (sIf (tNo (tV (eB dAll (aCons (eLc (fiT (eVar 3)) [8] (.one 8) tT (eOp (dInA false) (eVar 8) (eVar 7))) aNil)))) (sRet (eC (.bl true))) sNx)
noncomputable def b_law_2_5 : FS := (sIf (tV (eOp dNeA (eCall d_charge (aCons (eCall d_shop_under (aCons (eVar 2) (aCons (eVar 7) aNil))) (aCons (eVar 5) aNil))) (eCall d_charge (aCons (eCall d_shop_under (aCons (eVar 2) (aCons (eVar 3) aNil))) (aCons (eVar 5) aNil))))) (sRet (eC (.bl false))) sNx)
noncomputable def b_law_2_6 : FS := (sFor (fiL true (eCall d__law_all_acts (aCons (eVar 2) aNil))) (gN 8) b_law_1)
noncomputable def b_law_2 : FS := sSeq b_law_2_1 (sSeq b_law_2_2 (sSeq b_law_2_3 (sSeq b_law_2_4 (sSeq b_law_2_5 (b_law_2_6)))))
noncomputable def f_law_1 : FS := (sAsg (eLst aNil) (gN 1))
noncomputable def f_law_2 : FS := (sAsg (eCallI 1 d__law_some_shop (aCons (eVar 0) (aCons (eVar 1) aNil))) (gN 2))
noncomputable def f_law_3 : FS := (sAsg (eCallI 1 d__law_some_acts (aCons (eVar 0) (aCons (eVar 1) (aCons (eVar 2) (aCons (eC (.int 3)) aNil))))) (gN 3))
noncomputable def f_law_4 : FS := (sFor (fiR1 (aCons (eC (.int 4)) aNil)) (gN 4) b_law_2)
noncomputable def f_law_5 : FS := (sRet (eC (.bl true)))
noncomputable def f_law : FS := sSeq f_law_1 (sSeq f_law_2 (sSeq f_law_3 (sSeq f_law_4 (f_law_5))))
noncomputable def d_law : FD := runD 10 1 f_law
section
variable {P : Program} {K : PySem.W.Frag} {mg : Str → Option Value} {base : Heap}
theorem ok_is_integer {f : Addr} {fd : FuncData} (B : Bl K mg) (F : Fun K "is_integer" "is_integer" s_is_integer f fd) :
    FnOk P Wd.w K mg base (L2.CX P Wd.w) 1 f fd ["value"] (spD K mg d_is_integer) :=
  fn_ok F sc_is_integer rfl rfl fun cdv A outer s H vs E env0 hr => by
    exact (dss_one (ds_ret (de_and (de_isi (by rfl) B.b_isinstance (de_var 0 (pv 0)) (pe_bltn (by rfl) B.b_int bo_int rfl)) (de_one (de_not (de_isi (by rfl) B.b_isinstance (de_var 0 (pv 0)) (pe_bltn (by rfl) B.b_bool bo_bool rfl)))))))
theorem ok_is_between {f : Addr} {fd : FuncData} (B : Bl K mg) (F : Fun K "is_between" "is_between" s_is_between f fd)
    {a_is_integer : Addr} {e_is_integer : FuncData} (C_is_integer : Cd K mg "is_integer" s_is_integer ["value"] a_is_integer e_is_integer) (G_is_integer : FnOk P Wd.w K mg base (L2.CX P Wd.w) 1 a_is_integer e_is_integer ["value"] (spD K mg d_is_integer)) :
    FnOk P Wd.w K mg base (L2.CX P Wd.w) 2 f fd ["value", "low", "high"] (spD K mg d_is_between) :=
  fn_ok F sc_is_between rfl rfl fun cdv A outer s H vs E env0 hr => by
    exact (dss_one (ds_ret (de_and (de_call G_is_integer (hr.mono (by decide)) (by rfl) C_is_integer.g C_is_integer.F.kp C_is_integer.b (takes_of rfl rfl rfl rfl) (da_cons (de_var 0 (pv 0)) da_nil)) (de_one (de_chain op_le d_le op_le d_le (de_var 1 (pv 1)) (de_var 0 (pv 0)) (de_var 2 (pv 2)) (by rfl))))))
theorem ok_is_tuple_of {f : Addr} {fd : FuncData} (B : Bl K mg) (F : Fun K "is_tuple_of" "is_tuple_of" s_is_tuple_of f fd) :
    FnOk P Wd.w K mg base (L2.CX P Wd.w) 1 f fd ["value", "length"] (spD K mg d_is_tuple_of) :=
  fn_ok F sc_is_tuple_of rfl rfl fun cdv A outer s H vs E env0 hr => by
    exact (dss_one (ds_ret (de_and (de_isi (by rfl) B.b_isinstance (de_var 0 (pv 0)) (pe_bltn (by rfl) B.b_tuple bo_tuple rfl)) (de_one (de_cmp (op_eqA hr.units) d_eqA (de_b d_len call_lenA (by rfl) B.b_len bo_len (da_cons (de_var 0 (pv 0)) da_nil)) (de_var 1 (pv 1)) (nomark _))))))
theorem ok_is_most {f : Addr} {fd : FuncData} (B : Bl K mg) (F : Fun K "is_most" "is_most" s_is_most f fd)
    {a_is_between : Addr} {e_is_between : FuncData} (C_is_between : Cd K mg "is_between" s_is_between ["value", "low", "high"] a_is_between e_is_between) (G_is_between : FnOk P Wd.w K mg base (L2.CX P Wd.w) 2 a_is_between e_is_between ["value", "low", "high"] (spD K mg d_is_between)) :
    FnOk P Wd.w K mg base (L2.CX P Wd.w) 3 f fd ["value"] (spD K mg d_is_most) :=
  fn_ok F sc_is_most rfl rfl fun cdv A outer s H vs E env0 hr => by
    exact (dss_one (ds_ret (de_or (de_cmp op_is d_is (de_var 0 (pv 0)) de_non (nomark _)) (de_one (de_call G_is_between (hr.mono (by decide)) (by rfl) C_is_between.g C_is_between.F.kp C_is_between.b (takes_of rfl rfl rfl rfl) (da_cons (de_var 0 (pv 0)) (da_cons de_int (da_cons de_int da_nil))))))))
theorem ok_is_good {f : Addr} {fd : FuncData} (B : Bl K mg) (F : Fun K "is_good" "is_good" s_is_good f fd)
    {a_is_tuple_of : Addr} {e_is_tuple_of : FuncData} (C_is_tuple_of : Cd K mg "is_tuple_of" s_is_tuple_of ["value", "length"] a_is_tuple_of e_is_tuple_of) (G_is_tuple_of : FnOk P Wd.w K mg base (L2.CX P Wd.w) 1 a_is_tuple_of e_is_tuple_of ["value", "length"] (spD K mg d_is_tuple_of))
    {a_is_between : Addr} {e_is_between : FuncData} (C_is_between : Cd K mg "is_between" s_is_between ["value", "low", "high"] a_is_between e_is_between) (G_is_between : FnOk P Wd.w K mg base (L2.CX P Wd.w) 2 a_is_between e_is_between ["value", "low", "high"] (spD K mg d_is_between)) :
    FnOk P Wd.w K mg base (L2.CX P Wd.w) 3 f fd ["value"] (spD K mg d_is_good) :=
  fn_ok F sc_is_good rfl rfl fun cdv A outer s H vs E env0 hr => by
    exact (dss_cons (ds_if (dt_not (dt_val (de_call G_is_tuple_of (hr.mono (by decide)) (by rfl) C_is_tuple_of.g C_is_tuple_of.F.kp C_is_tuple_of.b (takes_of rfl rfl rfl rfl) (da_cons (de_var 0 (pv 0)) (da_cons de_int da_nil))))) (dss_one (ds_ret de_bl)) dss_nil)
    (dss_cons (ds_asg (de_var 0 (pv 0)) (dg_tup rfl (dgs_cons (dg_name (pg_name (i := 1) sc_is_good.nd rfl (by first | exact .inl rfl | exact .inr rfl))) (dgs_cons (dg_name (pg_name (i := 2) sc_is_good.nd rfl (by first | exact .inl rfl | exact .inr rfl))) dgs_nil))))
    (dss_one (ds_ret (de_and (de_call G_is_between (hr.mono (by decide)) (by rfl) C_is_between.g C_is_between.F.kp C_is_between.b (takes_of rfl rfl rfl rfl) (da_cons (de_var 1 (pv 1)) (da_cons de_int (da_cons de_int da_nil)))) (de_one (de_call G_is_between (hr.mono (by decide)) (by rfl) C_is_between.g C_is_between.F.kp C_is_between.b (takes_of rfl rfl rfl rfl) (da_cons (de_var 2 (pv 2)) (da_cons de_int (da_cons de_int da_nil))))))))))
theorem ok_is_pack {f : Addr} {fd : FuncData} (B : Bl K mg) (F : Fun K "is_pack" "is_pack" s_is_pack f fd)
    {a_is_tuple_of : Addr} {e_is_tuple_of : FuncData} (C_is_tuple_of : Cd K mg "is_tuple_of" s_is_tuple_of ["value", "length"] a_is_tuple_of e_is_tuple_of) (G_is_tuple_of : FnOk P Wd.w K mg base (L2.CX P Wd.w) 1 a_is_tuple_of e_is_tuple_of ["value", "length"] (spD K mg d_is_tuple_of))
    {a_is_between : Addr} {e_is_between : FuncData} (C_is_between : Cd K mg "is_between" s_is_between ["value", "low", "high"] a_is_between e_is_between) (G_is_between : FnOk P Wd.w K mg base (L2.CX P Wd.w) 2 a_is_between e_is_between ["value", "low", "high"] (spD K mg d_is_between))
    {a_is_most : Addr} {e_is_most : FuncData} (C_is_most : Cd K mg "is_most" s_is_most ["value"] a_is_most e_is_most) (G_is_most : FnOk P Wd.w K mg base (L2.CX P Wd.w) 3 a_is_most e_is_most ["value"] (spD K mg d_is_most)) :
    FnOk P Wd.w K mg base (L2.CX P Wd.w) 4 f fd ["value", "many_goods"] (spD K mg d_is_pack) :=
  fn_ok F sc_is_pack rfl rfl fun cdv A outer s H vs E env0 hr => by
    exact (dss_cons (ds_if (dt_not (dt_val (de_call G_is_tuple_of (hr.mono (by decide)) (by rfl) C_is_tuple_of.g C_is_tuple_of.F.kp C_is_tuple_of.b (takes_of rfl rfl rfl rfl) (da_cons (de_var 0 (pv 0)) (da_cons de_int da_nil))))) (dss_one (ds_ret de_bl)) dss_nil)
    (dss_cons (ds_asg (de_var 0 (pv 0)) (dg_tup rfl (dgs_cons (dg_name (pg_name (i := 2) sc_is_pack.nd rfl (by first | exact .inl rfl | exact .inr rfl))) (dgs_cons (dg_name (pg_name (i := 3) sc_is_pack.nd rfl (by first | exact .inl rfl | exact .inr rfl))) (dgs_cons (dg_name (pg_name (i := 4) sc_is_pack.nd rfl (by first | exact .inl rfl | exact .inr rfl))) (dgs_cons (dg_name (pg_name (i := 5) sc_is_pack.nd rfl (by first | exact .inl rfl | exact .inr rfl))) (dgs_cons (dg_name (pg_name (i := 6) sc_is_pack.nd rfl (by first | exact .inl rfl | exact .inr rfl))) dgs_nil)))))))
    (dss_one (ds_ret (de_and (de_call G_is_between (hr.mono (by decide)) (by rfl) C_is_between.g C_is_between.F.kp C_is_between.b (takes_of rfl rfl rfl rfl) (da_cons (de_var 3 (pv 3)) (da_cons de_int (da_cons (de_op op_sub d_sub (de_var 1 (pv 1)) de_int) da_nil)))) (de_and (de_call G_is_between (hr.mono (by decide)) (by rfl) C_is_between.g C_is_between.F.kp C_is_between.b (takes_of rfl rfl rfl rfl) (da_cons (de_var 4 (pv 4)) (da_cons de_int (da_cons de_int da_nil)))) (de_and (de_call G_is_between (hr.mono (by decide)) (by rfl) C_is_between.g C_is_between.F.kp C_is_between.b (takes_of rfl rfl rfl rfl) (da_cons (de_var 5 (pv 5)) (da_cons (de_var 4 (pv 4)) (da_cons de_int da_nil)))) (de_one (de_call G_is_most (hr.mono (by decide)) (by rfl) C_is_most.g C_is_most.F.kp C_is_most.b (takes_of rfl rfl rfl rfl) (da_cons (de_var 6 (pv 6)) da_nil))))))))))
theorem ok_is_from {f : Addr} {fd : FuncData} (B : Bl K mg) (F : Fun K "is_from" "is_from" s_is_from f fd)
    {a_is_tuple_of : Addr} {e_is_tuple_of : FuncData} (C_is_tuple_of : Cd K mg "is_tuple_of" s_is_tuple_of ["value", "length"] a_is_tuple_of e_is_tuple_of) (G_is_tuple_of : FnOk P Wd.w K mg base (L2.CX P Wd.w) 1 a_is_tuple_of e_is_tuple_of ["value", "length"] (spD K mg d_is_tuple_of))
    {a_is_between : Addr} {e_is_between : FuncData} (C_is_between : Cd K mg "is_between" s_is_between ["value", "low", "high"] a_is_between e_is_between) (G_is_between : FnOk P Wd.w K mg base (L2.CX P Wd.w) 2 a_is_between e_is_between ["value", "low", "high"] (spD K mg d_is_between)) :
    FnOk P Wd.w K mg base (L2.CX P Wd.w) 3 f fd ["value", "many_goods"] (spD K mg d_is_from) :=
  fn_ok F sc_is_from rfl rfl fun cdv A outer s H vs E env0 hr => by
    exact (dss_cons (ds_if (dt_not (dt_val (de_call G_is_tuple_of (hr.mono (by decide)) (by rfl) C_is_tuple_of.g C_is_tuple_of.F.kp C_is_tuple_of.b (takes_of rfl rfl rfl rfl) (da_cons (de_var 0 (pv 0)) (da_cons de_int da_nil))))) (dss_one (ds_ret de_bl)) dss_nil)
    (dss_cons (ds_asg (de_var 0 (pv 0)) (dg_tup rfl (dgs_cons (dg_name (pg_name (i := 2) sc_is_from.nd rfl (by first | exact .inl rfl | exact .inr rfl))) (dgs_cons (dg_name (pg_name (i := 3) sc_is_from.nd rfl (by first | exact .inl rfl | exact .inr rfl))) (dgs_cons (dg_name (pg_name (i := 4) sc_is_from.nd rfl (by first | exact .inl rfl | exact .inr rfl))) (dgs_cons (dg_name (pg_name (i := 5) sc_is_from.nd rfl (by first | exact .inl rfl | exact .inr rfl))) dgs_nil))))))
    (dss_one (ds_ret (de_and (de_call G_is_between (hr.mono (by decide)) (by rfl) C_is_between.g C_is_between.F.kp C_is_between.b (takes_of rfl rfl rfl rfl) (da_cons (de_var 3 (pv 3)) (da_cons de_int (da_cons (de_op op_sub d_sub (de_var 1 (pv 1)) de_int) da_nil)))) (de_and (de_call G_is_between (hr.mono (by decide)) (by rfl) C_is_between.g C_is_between.F.kp C_is_between.b (takes_of rfl rfl rfl rfl) (da_cons (de_var 4 (pv 4)) (da_cons de_int (da_cons de_int da_nil)))) (de_one (de_call G_is_between (hr.mono (by decide)) (by rfl) C_is_between.g C_is_between.F.kp C_is_between.b (takes_of rfl rfl rfl rfl) (da_cons (de_var 5 (pv 5)) (da_cons de_int (da_cons de_int da_nil)))))))))))
theorem ok_is_over {f : Addr} {fd : FuncData} (B : Bl K mg) (F : Fun K "is_over" "is_over" s_is_over f fd)
    {a_is_tuple_of : Addr} {e_is_tuple_of : FuncData} (C_is_tuple_of : Cd K mg "is_tuple_of" s_is_tuple_of ["value", "length"] a_is_tuple_of e_is_tuple_of) (G_is_tuple_of : FnOk P Wd.w K mg base (L2.CX P Wd.w) 1 a_is_tuple_of e_is_tuple_of ["value", "length"] (spD K mg d_is_tuple_of))
    {a_is_between : Addr} {e_is_between : FuncData} (C_is_between : Cd K mg "is_between" s_is_between ["value", "low", "high"] a_is_between e_is_between) (G_is_between : FnOk P Wd.w K mg base (L2.CX P Wd.w) 2 a_is_between e_is_between ["value", "low", "high"] (spD K mg d_is_between)) :
    FnOk P Wd.w K mg base (L2.CX P Wd.w) 3 f fd ["value"] (spD K mg d_is_over) :=
  fn_ok F sc_is_over rfl rfl fun cdv A outer s H vs E env0 hr => by
    exact (dss_cons (ds_if (dt_not (dt_val (de_call G_is_tuple_of (hr.mono (by decide)) (by rfl) C_is_tuple_of.g C_is_tuple_of.F.kp C_is_tuple_of.b (takes_of rfl rfl rfl rfl) (da_cons (de_var 0 (pv 0)) (da_cons de_int da_nil))))) (dss_one (ds_ret de_bl)) dss_nil)
    (dss_cons (ds_asg (de_var 0 (pv 0)) (dg_tup rfl (dgs_cons (dg_name (pg_name (i := 1) sc_is_over.nd rfl (by first | exact .inl rfl | exact .inr rfl))) (dgs_cons (dg_name (pg_name (i := 2) sc_is_over.nd rfl (by first | exact .inl rfl | exact .inr rfl))) (dgs_cons (dg_name (pg_name (i := 3) sc_is_over.nd rfl (by first | exact .inl rfl | exact .inr rfl))) dgs_nil)))))
    (dss_one (ds_ret (de_and (de_call G_is_between (hr.mono (by decide)) (by rfl) C_is_between.g C_is_between.F.kp C_is_between.b (takes_of rfl rfl rfl rfl) (da_cons (de_var 2 (pv 2)) (da_cons de_int (da_cons de_int da_nil)))) (de_one (de_call G_is_between (hr.mono (by decide)) (by rfl) C_is_between.g C_is_between.F.kp C_is_between.b (takes_of rfl rfl rfl rfl) (da_cons (de_var 3 (pv 3)) (da_cons de_int (da_cons (de_b d_min2 (call_min2 rfl) (by rfl) B.b_min bo_min (da_cons de_int (da_cons (de_var 2 (pv 2)) da_nil))) da_nil))))))))))
theorem ok_is_each {f : Addr} {fd : FuncData} (B : Bl K mg) (F : Fun K "is_each" "is_each" s_is_each f fd)
    {a_is_tuple_of : Addr} {e_is_tuple_of : FuncData} (C_is_tuple_of : Cd K mg "is_tuple_of" s_is_tuple_of ["value", "length"] a_is_tuple_of e_is_tuple_of) (G_is_tuple_of : FnOk P Wd.w K mg base (L2.CX P Wd.w) 1 a_is_tuple_of e_is_tuple_of ["value", "length"] (spD K mg d_is_tuple_of))
    {a_is_most : Addr} {e_is_most : FuncData} (C_is_most : Cd K mg "is_most" s_is_most ["value"] a_is_most e_is_most) (G_is_most : FnOk P Wd.w K mg base (L2.CX P Wd.w) 3 a_is_most e_is_most ["value"] (spD K mg d_is_most))
    {a_is_between : Addr} {e_is_between : FuncData} (C_is_between : Cd K mg "is_between" s_is_between ["value", "low", "high"] a_is_between e_is_between) (G_is_between : FnOk P Wd.w K mg base (L2.CX P Wd.w) 2 a_is_between e_is_between ["value", "low", "high"] (spD K mg d_is_between)) :
    FnOk P Wd.w K mg base (L2.CX P Wd.w) 4 f fd ["value"] (spD K mg d_is_each) :=
  fn_ok F sc_is_each rfl rfl fun cdv A outer s H vs E env0 hr => by
    exact (dss_cons (ds_if (dt_not (dt_val (de_call G_is_tuple_of (hr.mono (by decide)) (by rfl) C_is_tuple_of.g C_is_tuple_of.F.kp C_is_tuple_of.b (takes_of rfl rfl rfl rfl) (da_cons (de_var 0 (pv 0)) (da_cons de_int da_nil))))) (dss_one (ds_ret de_bl)) dss_nil)
    (dss_cons (ds_asg (de_var 0 (pv 0)) (dg_tup rfl (dgs_cons (dg_name (pg_name (i := 1) sc_is_each.nd rfl (by first | exact .inl rfl | exact .inr rfl))) (dgs_cons (dg_name (pg_name (i := 2) sc_is_each.nd rfl (by first | exact .inl rfl | exact .inr rfl))) (dgs_cons (dg_name (pg_name (i := 3) sc_is_each.nd rfl (by first | exact .inl rfl | exact .inr rfl))) (dgs_cons (dg_name (pg_name (i := 4) sc_is_each.nd rfl (by first | exact .inl rfl | exact .inr rfl))) dgs_nil))))))
    (dss_cons (ds_if (PW.pt (dt_or (dt_not (dt_val (de_call G_is_between (hr.mono (by decide)) (by rfl) C_is_between.g C_is_between.F.kp C_is_between.b (takes_of rfl rfl rfl rfl) (da_cons (de_var 2 (pv 2)) (da_cons de_int (da_cons de_int da_nil)))))) (dt_or1 (dt_not (dt_val (de_call G_is_between (hr.mono (by decide)) (by rfl) C_is_between.g C_is_between.F.kp C_is_between.b (takes_of rfl rfl rfl rfl) (da_cons (de_var 3 (pv 3)) (da_cons de_int (da_cons (de_var 2 (pv 2)) da_nil))))))))) (dss_one (ds_ret de_bl)) dss_nil)
    (dss_one (ds_ret (de_and (de_call G_is_most (hr.mono (by decide)) (by rfl) C_is_most.g C_is_most.F.kp C_is_most.b (takes_of rfl rfl rfl rfl) (da_cons (de_var 4 (pv 4)) da_nil)) (de_one (de_or (de_cmp op_nis d_nis (de_var 4 (pv 4)) de_non (nomark _)) (de_one (de_cmp op_le d_le (de_op op_mulA d_mulA de_int (de_var 3 (pv 3))) (de_var 2 (pv 2)) (nomark _)))))))))))
theorem ok_is_rule {f : Addr} {fd : FuncData} (B : Bl K mg) (F : Fun K "is_rule" "is_rule" s_is_rule f fd)
    {a_is_pack : Addr} {e_is_pack : FuncData} (C_is_pack : Cd K mg "is_pack" s_is_pack ["value", "many_goods"] a_is_pack e_is_pack) (G_is_pack : FnOk P Wd.w K mg base (L2.CX P Wd.w) 4 a_is_pack e_is_pack ["value", "many_goods"] (spD K mg d_is_pack))
    {a_is_from : Addr} {e_is_from : FuncData} (C_is_from : Cd K mg "is_from" s_is_from ["value", "many_goods"] a_is_from e_is_from) (G_is_from : FnOk P Wd.w K mg base (L2.CX P Wd.w) 3 a_is_from e_is_from ["value", "many_goods"] (spD K mg d_is_from))
    {a_is_over : Addr} {e_is_over : FuncData} (C_is_over : Cd K mg "is_over" s_is_over ["value"] a_is_over e_is_over) (G_is_over : FnOk P Wd.w K mg base (L2.CX P Wd.w) 3 a_is_over e_is_over ["value"] (spD K mg d_is_over))
    {a_is_each : Addr} {e_is_each : FuncData} (C_is_each : Cd K mg "is_each" s_is_each ["value"] a_is_each e_is_each) (G_is_each : FnOk P Wd.w K mg base (L2.CX P Wd.w) 4 a_is_each e_is_each ["value"] (spD K mg d_is_each)) :
    FnOk P Wd.w K mg base (L2.CX P Wd.w) 5 f fd ["value", "many_goods"] (spD K mg d_is_rule) :=
  fn_ok F sc_is_rule rfl rfl fun cdv A outer s H vs E env0 hr => by
    exact (dss_cons (ds_if (PW.pt (dt_or (dt_not (dt_val (de_isi (by rfl) B.b_isinstance (de_var 0 (pv 0)) (pe_bltn (by rfl) B.b_tuple bo_tuple rfl)))) (dt_or1 (dt_cmp (op_eqA hr.units) d_eqA (de_b d_len call_lenA (by rfl) B.b_len bo_len (da_cons (de_var 0 (pv 0)) da_nil)) de_int (nomark _))))) (dss_one (ds_ret de_bl)) dss_nil)
    (dss_cons (ds_set (i := 2) sc_is_rule.nd rfl (by first | exact .inl rfl | exact .inr rfl) (de_ix (de_var 0 (pv 0)) de_int (fun _ _ => rfl)))
    (dss_cons (ds_if (dt_not (dt_val (de_isi (by rfl) B.b_isinstance (de_var 2 (pv 2)) (pe_bltn (by rfl) B.b_str bo_str rfl)))) (dss_one (ds_ret de_bl)) dss_nil)
    (dss_cons (ds_if (dt_cmp (op_eqA hr.units) d_eqA (de_var 2 (pv 2)) de_str (nomark _)) (dss_one (ds_ret (de_call G_is_pack (hr.mono (by decide)) (by rfl) C_is_pack.g C_is_pack.F.kp C_is_pack.b (takes_of rfl rfl rfl rfl) (da_cons (de_var 0 (pv 0)) (da_cons (de_var 1 (pv 1)) da_nil))))) dss_nil)
    (dss_cons (ds_if (dt_cmp (op_eqA hr.units) d_eqA (de_var 2 (pv 2)) de_str (nomark _)) (dss_one (ds_ret (de_call G_is_from (hr.mono (by decide)) (by rfl) C_is_from.g C_is_from.F.kp C_is_from.b (takes_of rfl rfl rfl rfl) (da_cons (de_var 0 (pv 0)) (da_cons (de_var 1 (pv 1)) da_nil))))) dss_nil)
    (dss_cons (ds_if (dt_cmp (op_eqA hr.units) d_eqA (de_var 2 (pv 2)) de_str (nomark _)) (dss_one (ds_ret (de_call G_is_over (hr.mono (by decide)) (by rfl) C_is_over.g C_is_over.F.kp C_is_over.b (takes_of rfl rfl rfl rfl) (da_cons (de_var 0 (pv 0)) da_nil)))) dss_nil)
    (dss_one (ds_ret (de_and (de_cmp (op_eqA hr.units) d_eqA (de_var 2 (pv 2)) de_str (nomark _)) (de_one (de_call G_is_each (hr.mono (by decide)) (by rfl) C_is_each.g C_is_each.F.kp C_is_each.b (takes_of rfl rfl rfl rfl) (da_cons (de_var 0 (pv 0)) da_nil))))))))))))
theorem ok_is_endless_each {f : Addr} {fd : FuncData} (B : Bl K mg) (F : Fun K "is_endless_each" "is_endless_each" s_is_endless_each f fd) :
    FnOk P Wd.w K mg base (L2.CX P Wd.w) 1 f fd ["rule"] (spD K mg d_is_endless_each) :=
  fn_ok F sc_is_endless_each rfl rfl fun cdv A outer s H vs E env0 hr => by
    exact (dss_one (ds_ret (de_and (de_cmp (op_eqA hr.units) d_eqA (de_ix (de_var 0 (pv 0)) de_int (fun _ _ => rfl)) de_str (nomark _)) (de_one (de_cmp op_is d_is (de_ix (de_var 0 (pv 0)) de_int (fun _ _ => rfl)) de_non (nomark _))))))
theorem ok_are_goods {f : Addr} {fd : FuncData} (B : Bl K mg) (F : Fun K "are_goods" "are_goods" s_are_goods f fd)
    {a_is_good : Addr} {e_is_good : FuncData} (C_is_good : Cd K mg "is_good" s_is_good ["value"] a_is_good e_is_good) (G_is_good : FnOk P Wd.w K mg base (L2.CX P Wd.w) 3 a_is_good e_is_good ["value"] (spD K mg d_is_good)) :
    FnOk P Wd.w K mg base (L2.CX P Wd.w) 4 f fd ["value"] (spD K mg d_are_goods) :=
  fn_ok F sc_are_goods rfl rfl fun cdv A outer s H vs E env0 hr => by
    exact (dss_cons (ds_if (PW.pt (dt_or (dt_not (dt_val (de_isi (by rfl) B.b_isinstance (de_var 0 (pv 0)) (pe_bltn (by rfl) B.b_tuple bo_tuple rfl)))) (dt_or1 (dt_not (dt_chain op_le d_le op_le d_le de_int (de_b d_len call_lenA (by rfl) B.b_len bo_len (da_cons (de_var 0 (pv 0)) da_nil)) (de_gc (by rfl) B.g_MOST_GOODS fun _ _ => .int _) (by rfl)))))) (dss_one (ds_ret de_bl)) dss_nil)
    (dss_one (ds_ret (de_b d_all (cr_all rfl) (by rfl) B.b_all bo_all (da_cons (de_lc (own := [("good", 1)]) (t := (.one 1)) rfl sc_are_goods.nd (di_tup (de_var 0 (pv 0))) (blkOk_by (own := [("good", 1)]) (N := ["value", "good"]) (sc := defScope s_are_goods) (by first | decide +kernel | (dsimp only [Cx.blk, compEnvC]; rw [relabel_is]; dsimp only [cxOf, PyProof.Rows.envOfC]; decide +kernel))) (fun _ _ _ _ _ => (pg_name (i := 1) sc_are_goods.nd rfl (by first | exact .inl rfl | exact .inr rfl))) (fun _ _ _ _ _ => dts_nil) (fun _ _ _ _ _ => (de_call G_is_good (hr.mono (by decide)) (by rfl) C_is_good.g C_is_good.F.kp C_is_good.b takes0 (da_cons (de_var 1 (pv 1)) da_nil))) (by simp [CT.ins])) da_nil)))))
theorem ok_are_rules {f : Addr} {fd : FuncData} (B : Bl K mg) (F : Fun K "are_rules" "are_rules" s_are_rules f fd)
    {a_is_rule : Addr} {e_is_rule : FuncData} (C_is_rule : Cd K mg "is_rule" s_is_rule ["value", "many_goods"] a_is_rule e_is_rule) (G_is_rule : FnOk P Wd.w K mg base (L2.CX P Wd.w) 5 a_is_rule e_is_rule ["value", "many_goods"] (spD K mg d_is_rule))
    {a_is_endless_each : Addr} {e_is_endless_each : FuncData} (C_is_endless_each : Cd K mg "is_endless_each" s_is_endless_each ["rule"] a_is_endless_each e_is_endless_each) (G_is_endless_each : FnOk P Wd.w K mg base (L2.CX P Wd.w) 1 a_is_endless_each e_is_endless_each ["rule"] (spD K mg d_is_endless_each)) :
    FnOk P Wd.w K mg base (L2.CX P Wd.w) 6 f fd ["value", "many_goods"] (spD K mg d_are_rules) :=
  fn_ok F sc_are_rules rfl rfl fun cdv A outer s H vs E env0 hr => by
    exact (dss_cons (ds_if (PW.pt (dt_or (dt_not (dt_val (de_isi (by rfl) B.b_isinstance (de_var 0 (pv 0)) (pe_bltn (by rfl) B.b_tuple bo_tuple rfl)))) (dt_or1 (dt_cmp op_gt d_gt (de_b d_len call_lenA (by rfl) B.b_len bo_len (da_cons (de_var 0 (pv 0)) da_nil)) (de_gc (by rfl) B.g_MOST_RULES fun _ _ => .int _) (nomark _))))) (dss_one (ds_ret de_bl)) dss_nil)
    (dss_cons (ds_if (dt_not (dt_val (de_b d_all (cr_all rfl) (by rfl) B.b_all bo_all (da_cons (de_lc (own := [("rule", 2)]) (t := (.one 2)) rfl sc_are_rules.nd (di_tup (de_var 0 (pv 0))) (blkOk_by (own := [("rule", 2)]) (N := ["value", "many_goods", "rule"]) (sc := defScope s_are_rules) (by first | decide +kernel | (dsimp only [Cx.blk, compEnvC]; rw [relabel_is]; dsimp only [cxOf, PyProof.Rows.envOfC]; decide +kernel))) (fun _ _ _ _ _ => (pg_name (i := 2) sc_are_rules.nd rfl (by first | exact .inl rfl | exact .inr rfl))) (fun _ _ _ _ _ => dts_nil) (fun _ _ _ _ _ => (de_call G_is_rule (hr.mono (by decide)) (by rfl) C_is_rule.g C_is_rule.F.kp C_is_rule.b takes0 (da_cons (de_var 2 (pv 2)) (da_cons (de_var 1 (pv 1)) da_nil)))) (by simp [CT.ins])) da_nil)))) (dss_one (ds_ret de_bl)) dss_nil)
    (dss_one (ds_ret (de_cmp op_le d_le (de_b d_len call_lenA (by rfl) B.b_len bo_len (da_cons (de_lc (own := [("rule", 2)]) (t := (.one 2)) rfl sc_are_rules.nd (di_tup (de_var 0 (pv 0))) (blkOk_by (own := [("rule", 2)]) (N := ["value", "many_goods", "rule"]) (sc := defScope s_are_rules) (by first | decide +kernel | (dsimp only [Cx.blk, compEnvC]; rw [relabel_is]; dsimp only [cxOf, PyProof.Rows.envOfC]; decide +kernel))) (fun _ _ _ _ _ => (pg_name (i := 2) sc_are_rules.nd rfl (by first | exact .inl rfl | exact .inr rfl))) (fun _ _ _ _ _ => (dts_one (dt_val (de_call G_is_endless_each (hr.mono (by decide)) (by rfl) C_is_endless_each.g C_is_endless_each.F.kp C_is_endless_each.b takes0 (da_cons (de_var 2 (pv 2)) da_nil))))) (fun _ _ _ _ _ => (de_var 2 (pv 2))) (by simp [CT.ins])) da_nil)) de_int (nomark _))))))
theorem ok_is_shop {f : Addr} {fd : FuncData} (B : Bl K mg) (F : Fun K "is_shop" "is_shop" s_is_shop f fd)
    {a_is_tuple_of : Addr} {e_is_tuple_of : FuncData} (C_is_tuple_of : Cd K mg "is_tuple_of" s_is_tuple_of ["value", "length"] a_is_tuple_of e_is_tuple_of) (G_is_tuple_of : FnOk P Wd.w K mg base (L2.CX P Wd.w) 1 a_is_tuple_of e_is_tuple_of ["value", "length"] (spD K mg d_is_tuple_of))
    {a_are_goods : Addr} {e_are_goods : FuncData} (C_are_goods : Cd K mg "are_goods" s_are_goods ["value"] a_are_goods e_are_goods) (G_are_goods : FnOk P Wd.w K mg base (L2.CX P Wd.w) 4 a_are_goods e_are_goods ["value"] (spD K mg d_are_goods))
    {a_are_rules : Addr} {e_are_rules : FuncData} (C_are_rules : Cd K mg "are_rules" s_are_rules ["value", "many_goods"] a_are_rules e_are_rules) (G_are_rules : FnOk P Wd.w K mg base (L2.CX P Wd.w) 6 a_are_rules e_are_rules ["value", "many_goods"] (spD K mg d_are_rules)) :
    FnOk P Wd.w K mg base (L2.CX P Wd.w) 7 f fd ["value"] (spD K mg d_is_shop) :=
  fn_ok F sc_is_shop rfl rfl fun cdv A outer s H vs E env0 hr => by
    exact (dss_cons (ds_if (dt_not (dt_val (de_call G_is_tuple_of (hr.mono (by decide)) (by rfl) C_is_tuple_of.g C_is_tuple_of.F.kp C_is_tuple_of.b (takes_of rfl rfl rfl rfl) (da_cons (de_var 0 (pv 0)) (da_cons de_int da_nil))))) (dss_one (ds_ret de_bl)) dss_nil)
    (dss_cons (ds_asg (de_var 0 (pv 0)) (dg_tup rfl (dgs_cons (dg_name (pg_name (i := 1) sc_is_shop.nd rfl (by first | exact .inl rfl | exact .inr rfl))) (dgs_cons (dg_name (pg_name (i := 2) sc_is_shop.nd rfl (by first | exact .inl rfl | exact .inr rfl))) dgs_nil))))
    (dss_one (ds_ret (de_and (de_call G_are_goods (hr.mono (by decide)) (by rfl) C_are_goods.g C_are_goods.F.kp C_are_goods.b (takes_of rfl rfl rfl rfl) (da_cons (de_var 1 (pv 1)) da_nil)) (de_one (de_call G_are_rules (hr.mono (by decide)) (by rfl) C_are_rules.g C_are_rules.F.kp C_are_rules.b (takes_of rfl rfl rfl rfl) (da_cons (de_var 2 (pv 2)) (da_cons (de_b d_len call_lenA (by rfl) B.b_len bo_len (da_cons (de_var 1 (pv 1)) da_nil)) da_nil)))))))))
theorem ok_check_shop {f : Addr} {fd : FuncData} (B : Bl K mg) (F : Fun K "check_shop" "check_shop" s_check_shop f fd)
    {a_is_shop : Addr} {e_is_shop : FuncData} (C_is_shop : Cd K mg "is_shop" s_is_shop ["value"] a_is_shop e_is_shop) (G_is_shop : FnOk P Wd.w K mg base (L2.CX P Wd.w) 7 a_is_shop e_is_shop ["value"] (spD K mg d_is_shop)) :
    FnOk P Wd.w K mg base (L2.CX P Wd.w) 8 f fd ["shop"] (spD K mg d_check_shop) :=
  fn_ok F sc_check_shop rfl rfl fun cdv A outer s H vs E env0 hr => by
    exact (dss_one (ds_if (dt_not (dt_val (de_call G_is_shop (hr.mono (by decide)) (by rfl) C_is_shop.g C_is_shop.F.kp C_is_shop.b (takes_of rfl rfl rfl rfl) (da_cons (de_var 0 (pv 0)) da_nil)))) (dss_one (ds_raise rfl (takes_of rfl rfl rfl rfl) B.k_InvalidShop (by rfl))) dss_nil))
theorem ok_are_pieces {f : Addr} {fd : FuncData} (B : Bl K mg) (F : Fun K "are_pieces" "are_pieces" s_are_pieces f fd)
    {a_is_tuple_of : Addr} {e_is_tuple_of : FuncData} (C_is_tuple_of : Cd K mg "is_tuple_of" s_is_tuple_of ["value", "length"] a_is_tuple_of e_is_tuple_of) (G_is_tuple_of : FnOk P Wd.w K mg base (L2.CX P Wd.w) 1 a_is_tuple_of e_is_tuple_of ["value", "length"] (spD K mg d_is_tuple_of))
    {a_is_integer : Addr} {e_is_integer : FuncData} (C_is_integer : Cd K mg "is_integer" s_is_integer ["value"] a_is_integer e_is_integer) (G_is_integer : FnOk P Wd.w K mg base (L2.CX P Wd.w) 1 a_is_integer e_is_integer ["value"] (spD K mg d_is_integer)) :
    FnOk P Wd.w K mg base (L2.CX P Wd.w) 2 f fd ["shop", "value"] (spD K mg d_are_pieces) :=
  fn_ok F sc_are_pieces rfl rfl fun cdv A outer s H vs E env0 hr => by
    exact (dss_cons (ds_if (dt_not (dt_val (de_call G_is_tuple_of (hr.mono (by decide)) (by rfl) C_is_tuple_of.g C_is_tuple_of.F.kp C_is_tuple_of.b (takes_of rfl rfl rfl rfl) (da_cons (de_var 1 (pv 1)) (da_cons (de_b d_len call_lenA (by rfl) B.b_len bo_len (da_cons (de_ix (de_var 0 (pv 0)) de_int (fun _ _ => rfl)) da_nil)) da_nil))))) (dss_one (ds_ret de_bl)) dss_nil)
    (dss_one (ds_ret (de_b d_all (cr_all rfl) (by rfl) B.b_all bo_all (da_cons (de_lc (own := [("pieces", 2)]) (t := (.one 2)) rfl sc_are_pieces.nd (di_tup (de_var 1 (pv 1))) (blkOk_by (own := [("pieces", 2)]) (N := ["shop", "value", "pieces"]) (sc := defScope s_are_pieces) (by first | decide +kernel | (dsimp only [Cx.blk, compEnvC]; rw [relabel_is]; dsimp only [cxOf, PyProof.Rows.envOfC]; decide +kernel))) (fun _ _ _ _ _ => (pg_name (i := 2) sc_are_pieces.nd rfl (by first | exact .inl rfl | exact .inr rfl))) (fun _ _ _ _ _ => dts_nil) (fun _ _ _ _ _ => (de_and (de_call G_is_integer (hr.mono (by decide)) (by rfl) C_is_integer.g C_is_integer.F.kp C_is_integer.b takes0 (da_cons (de_var 2 (pv 2)) da_nil)) (de_one (de_cmp op_ge d_ge (de_var 2 (pv 2)) de_int (nomark _))))) (by simp [CT.ins])) da_nil)))))
theorem ok_is_basket {f : Addr} {fd : FuncData} (B : Bl K mg) (F : Fun K "is_basket" "is_basket" s_is_basket f fd)
    {a_check_shop : Addr} {e_check_shop : FuncData} (C_check_shop : Cd K mg "check_shop" s_check_shop ["shop"] a_check_shop e_check_shop) (G_check_shop : FnOk P Wd.w K mg base (L2.CX P Wd.w) 8 a_check_shop e_check_shop ["shop"] (spD K mg d_check_shop))
    {a_are_pieces : Addr} {e_are_pieces : FuncData} (C_are_pieces : Cd K mg "are_pieces" s_are_pieces ["shop", "value"] a_are_pieces e_are_pieces) (G_are_pieces : FnOk P Wd.w K mg base (L2.CX P Wd.w) 2 a_are_pieces e_are_pieces ["shop", "value"] (spD K mg d_are_pieces)) :
    FnOk P Wd.w K mg base (L2.CX P Wd.w) 9 f fd ["shop", "value"] (spD K mg d_is_basket) :=
  fn_ok F sc_is_basket rfl rfl fun cdv A outer s H vs E env0 hr => by
    exact (dss_cons (ds_expr (de_call G_check_shop (hr.mono (by decide)) (by rfl) C_check_shop.g C_check_shop.F.kp C_check_shop.b (takes_of rfl rfl rfl rfl) (da_cons (de_var 0 (pv 0)) da_nil)))
    (dss_one (ds_ret (de_and (de_call G_are_pieces (hr.mono (by decide)) (by rfl) C_are_pieces.g C_are_pieces.F.kp C_are_pieces.b (takes_of rfl rfl rfl rfl) (da_cons (de_var 0 (pv 0)) (da_cons (de_var 1 (pv 1)) da_nil))) (de_one (de_cmp op_le d_le (de_b d_max1 (call_maxA rfl hr.units) (by rfl) B.b_max bo_max (da_cons (de_var 1 (pv 1)) da_nil)) (de_gc (by rfl) B.g_MOST_PIECES fun _ _ => .int _) (nomark _)))))))
theorem ok_check_basket {f : Addr} {fd : FuncData} (B : Bl K mg) (F : Fun K "check_basket" "check_basket" s_check_basket f fd)
    {a_is_basket : Addr} {e_is_basket : FuncData} (C_is_basket : Cd K mg "is_basket" s_is_basket ["shop", "value"] a_is_basket e_is_basket) (G_is_basket : FnOk P Wd.w K mg base (L2.CX P Wd.w) 9 a_is_basket e_is_basket ["shop", "value"] (spD K mg d_is_basket)) :
    FnOk P Wd.w K mg base (L2.CX P Wd.w) 10 f fd ["shop", "basket"] (spD K mg d_check_basket) :=
  fn_ok F sc_check_basket rfl rfl fun cdv A outer s H vs E env0 hr => by
    exact (dss_one (ds_if (dt_not (dt_val (de_call G_is_basket (hr.mono (by decide)) (by rfl) C_is_basket.g C_is_basket.F.kp C_is_basket.b (takes_of rfl rfl rfl rfl) (da_cons (de_var 0 (pv 0)) (da_cons (de_var 1 (pv 1)) da_nil))))) (dss_one (ds_raise rfl (takes_of rfl rfl rfl rfl) B.k_InvalidBasket (by rfl))) dss_nil))
theorem ok_full_times {f : Addr} {fd : FuncData} (B : Bl K mg) (F : Fun K "full_times" "full_times" s_full_times f fd) :
    FnOk P Wd.w K mg base (L2.CX P Wd.w) 1 f fd ["whole", "part", "most"] (spD K mg d_full_times) :=
  fn_ok F sc_full_times rfl rfl fun cdv A outer s H vs E env0 hr => by
    exact (dss_cons (ds_set (i := 3) sc_full_times.nd rfl (by first | exact .inl rfl | exact .inr rfl) (de_op op_fdiv d_fdiv (de_var 0 (pv 0)) (de_var 1 (pv 1))))
    (dss_one (ds_ret (de_if (dt_cmp op_is d_is (de_var 2 (pv 2)) de_non (nomark _)) (de_var 3 (pv 3)) (de_b d_min2 (call_min2 rfl) (by rfl) B.b_min bo_min (da_cons (de_var 3 (pv 3)) (da_cons (de_var 2 (pv 2)) da_nil)))))))
theorem ok_fitting_rule {f : Addr} {fd : FuncData} (B : Bl K mg) (F : Fun K "fitting_rule" "fitting_rule" s_fitting_rule f fd) :
    FnOk P Wd.w K mg base (L2.CX P Wd.w) 1 f fd ["rules", "good", "pieces"] (spD K mg d_fitting_rule) :=
  fn_ok F sc_fitting_rule rfl rfl fun cdv A outer s H vs E env0 hr => by
    exact (dss_cons (ds_for (passes_of rfl) rfl (di_enum true (by rfl) B.b_enumerate (da_cons (de_var 0 (pv 0)) da_nil)) (dg_tup rfl (dgs_cons (dg_name (pg_name (i := 3) sc_fitting_rule.nd rfl (by first | exact .inl rfl | exact .inr rfl))) (dgs_cons (dg_name (pg_name (i := 4) sc_fitting_rule.nd rfl (by first | exact .inl rfl | exact .inr rfl))) dgs_nil))) (dss_one (ds_if (PW.pt (dt_and (dt_cmp op_notIn_seq (d_in true) (de_ix (de_var 4 (pv 4)) de_int (fun _ _ => rfl)) (de_gt (by rfl) B.g_SUM_WORDS) (by with_unfolding_all rfl)) (dt_and (dt_cmp (op_eqA hr.units) d_eqA (de_ix (de_var 4 (pv 4)) de_int (fun _ _ => rfl)) (de_var 1 (pv 1)) (nomark _)) (dt_and1 (dt_cmp op_ge d_ge (de_var 2 (pv 2)) (de_ix (de_var 4 (pv 4)) de_int (fun _ _ => rfl)) (nomark _)))))) (dss_one (ds_ret (de_var 3 (pv 3)))) dss_nil)))
    (dss_one (ds_ret de_non)))
theorem ok_pack_times {f : Addr} {fd : FuncData} (B : Bl K mg) (F : Fun K "pack_times" "pack_times" s_pack_times f fd)
    {a_full_times : Addr} {e_full_times : FuncData} (C_full_times : Cd K mg "full_times" s_full_times ["whole", "part", "most"] a_full_times e_full_times) (G_full_times : FnOk P Wd.w K mg base (L2.CX P Wd.w) 1 a_full_times e_full_times ["whole", "part", "most"] (spD K mg d_full_times)) :
    FnOk P Wd.w K mg base (L2.CX P Wd.w) 2 f fd ["rule", "pieces"] (spD K mg d_pack_times) :=
  fn_ok F sc_pack_times rfl rfl fun cdv A outer s H vs E env0 hr => by
    exact (dss_cons (ds_asg (de_var 0 (pv 0)) (dg_tup rfl (dgs_cons (dg_name (pg_name (i := 2) sc_pack_times.nd rfl (by first | exact .inl rfl | exact .inr rfl))) (dgs_cons (dg_name (pg_name (i := 2) sc_pack_times.nd rfl (by first | exact .inl rfl | exact .inr rfl))) (dgs_cons (dg_name (pg_name (i := 3) sc_pack_times.nd rfl (by first | exact .inl rfl | exact .inr rfl))) (dgs_cons (dg_name (pg_name (i := 2) sc_pack_times.nd rfl (by first | exact .inl rfl | exact .inr rfl))) (dgs_cons (dg_name (pg_name (i := 4) sc_pack_times.nd rfl (by first | exact .inl rfl | exact .inr rfl))) dgs_nil)))))))
    (dss_one (ds_ret (de_call G_full_times (hr.mono (by decide)) (by rfl) C_full_times.g C_full_times.F.kp C_full_times.b (takes_of rfl rfl rfl rfl) (da_cons (de_var 1 (pv 1)) (da_cons (de_var 3 (pv 3)) (da_cons (de_var 4 (pv 4)) da_nil)))))))
theorem ok_pack_amount {f : Addr} {fd : FuncData} (B : Bl K mg) (F : Fun K "pack_amount" "pack_amount" s_pack_amount f fd)
    {a_pack_times : Addr} {e_pack_times : FuncData} (C_pack_times : Cd K mg "pack_times" s_pack_times ["rule", "pieces"] a_pack_times e_pack_times) (G_pack_times : FnOk P Wd.w K mg base (L2.CX P Wd.w) 2 a_pack_times e_pack_times ["rule", "pieces"] (spD K mg d_pack_times)) :
    FnOk P Wd.w K mg base (L2.CX P Wd.w) 3 f fd ["rule", "price", "pieces"] (spD K mg d_pack_amount) :=
  fn_ok F sc_pack_amount rfl rfl fun cdv A outer s H vs E env0 hr => by
    exact (dss_cons (ds_asg (de_var 0 (pv 0)) (dg_tup rfl (dgs_cons (dg_name (pg_name (i := 4) sc_pack_amount.nd rfl (by first | exact .inl rfl | exact .inr rfl))) (dgs_cons (dg_name (pg_name (i := 4) sc_pack_amount.nd rfl (by first | exact .inl rfl | exact .inr rfl))) (dgs_cons (dg_name (pg_name (i := 5) sc_pack_amount.nd rfl (by first | exact .inl rfl | exact .inr rfl))) (dgs_cons (dg_name (pg_name (i := 6) sc_pack_amount.nd rfl (by first | exact .inl rfl | exact .inr rfl))) (dgs_cons (dg_name (pg_name (i := 4) sc_pack_amount.nd rfl (by first | exact .inl rfl | exact .inr rfl))) dgs_nil)))))))
    (dss_cons (ds_set (i := 3) sc_pack_amount.nd rfl (by first | exact .inl rfl | exact .inr rfl) (de_call G_pack_times (hr.mono (by decide)) (by rfl) C_pack_times.g C_pack_times.F.kp C_pack_times.b (takes_of rfl rfl rfl rfl) (da_cons (de_var 0 (pv 0)) (da_cons (de_var 2 (pv 2)) da_nil))))
    (dss_one (ds_ret (de_op op_addA d_add (de_op op_mulA d_mulA (de_var 3 (pv 3)) (de_var 6 (pv 6))) (de_op op_mulA d_mulA (de_op op_sub d_sub (de_var 2 (pv 2)) (de_op op_mulA d_mulA (de_var 3 (pv 3)) (de_var 5 (pv 5)))) (de_var 1 (pv 1))))))))
theorem ok_good_amount {f : Addr} {fd : FuncData} (B : Bl K mg) (F : Fun K "good_amount" "good_amount" s_good_amount f fd)
    {a_fitting_rule : Addr} {e_fitting_rule : FuncData} (C_fitting_rule : Cd K mg "fitting_rule" s_fitting_rule ["rules", "good", "pieces"] a_fitting_rule e_fitting_rule) (G_fitting_rule : FnOk P Wd.w K mg base (L2.CX P Wd.w) 1 a_fitting_rule e_fitting_rule ["rules", "good", "pieces"] (spD K mg d_fitting_rule))
    {a_pack_amount : Addr} {e_pack_amount : FuncData} (C_pack_amount : Cd K mg "pack_amount" s_pack_amount ["rule", "price", "pieces"] a_pack_amount e_pack_amount) (G_pack_amount : FnOk P Wd.w K mg base (L2.CX P Wd.w) 3 a_pack_amount e_pack_amount ["rule", "price", "pieces"] (spD K mg d_pack_amount)) :
    FnOk P Wd.w K mg base (L2.CX P Wd.w) 4 f fd ["shop", "good", "pieces"] (spD K mg d_good_amount) :=
  fn_ok F sc_good_amount rfl rfl fun cdv A outer s H vs E env0 hr => by
    exact (dss_cons (ds_asg (de_var 0 (pv 0)) (dg_tup rfl (dgs_cons (dg_name (pg_name (i := 5) sc_good_amount.nd rfl (by first | exact .inl rfl | exact .inr rfl))) (dgs_cons (dg_name (pg_name (i := 6) sc_good_amount.nd rfl (by first | exact .inl rfl | exact .inr rfl))) dgs_nil))))
    (dss_cons (ds_asg (de_ix (de_var 5 (pv 5)) (de_var 1 (pv 1)) (fun _ _ => rfl)) (dg_tup rfl (dgs_cons (dg_name (pg_name (i := 7) sc_good_amount.nd rfl (by first | exact .inl rfl | exact .inr rfl))) (dgs_cons (dg_name (pg_name (i := 8) sc_good_amount.nd rfl (by first | exact .inl rfl | exact .inr rfl))) dgs_nil))))
    (dss_cons (ds_set (i := 3) sc_good_amount.nd rfl (by first | exact .inl rfl | exact .inr rfl) (de_call G_fitting_rule (hr.mono (by decide)) (by rfl) C_fitting_rule.g C_fitting_rule.F.kp C_fitting_rule.b (takes_of rfl rfl rfl rfl) (da_cons (de_var 6 (pv 6)) (da_cons (de_var 1 (pv 1)) (da_cons (de_var 2 (pv 2)) da_nil)))))
    (dss_cons (ds_if (dt_cmp op_is d_is (de_var 3 (pv 3)) de_non (nomark _)) (dss_one (ds_ret (de_op op_mulA d_mulA (de_var 2 (pv 2)) (de_var 7 (pv 7))))) dss_nil)
    (dss_cons (ds_set (i := 4) sc_good_amount.nd rfl (by first | exact .inl rfl | exact .inr rfl) (de_ix (de_var 6 (pv 6)) (de_var 3 (pv 3)) (fun _ _ => rfl)))
    (dss_cons (ds_if (dt_cmp (op_eqA hr.units) d_eqA (de_ix (de_var 4 (pv 4)) de_int (fun _ _ => rfl)) de_str (nomark _)) (dss_one (ds_ret (de_call G_pack_amount (hr.mono (by decide)) (by rfl) C_pack_amount.g C_pack_amount.F.kp C_pack_amount.b (takes_of rfl rfl rfl rfl) (da_cons (de_var 4 (pv 4)) (da_cons (de_var 7 (pv 7)) (da_cons (de_var 2 (pv 2)) da_nil)))))) dss_nil)
    (dss_one (ds_ret (de_op op_mulA d_mulA (de_var 2 (pv 2)) (de_ix (de_var 4 (pv 4)) de_int (fun _ _ => rfl)))))))))))
theorem ok_off_times {f : Addr} {fd : FuncData} (B : Bl K mg) (F : Fun K "off_times" "off_times" s_off_times f fd)
    {a_full_times : Addr} {e_full_times : FuncData} (C_full_times : Cd K mg "full_times" s_full_times ["whole", "part", "most"] a_full_times e_full_times) (G_full_times : FnOk P Wd.w K mg base (L2.CX P Wd.w) 1 a_full_times e_full_times ["whole", "part", "most"] (spD K mg d_full_times)) :
    FnOk P Wd.w K mg base (L2.CX P Wd.w) 2 f fd ["rule", "left"] (spD K mg d_off_times) :=
  fn_ok F sc_off_times rfl rfl fun cdv A outer s H vs E env0 hr => by
    exact (dss_cons (ds_if (dt_cmp (op_eqA hr.units) d_eqA (de_ix (de_var 0 (pv 0)) de_int (fun _ _ => rfl)) de_str (nomark _)) (dss_one (ds_ret (de_if (dt_cmp op_ge d_ge (de_var 1 (pv 1)) (de_ix (de_var 0 (pv 0)) de_int (fun _ _ => rfl)) (nomark _)) de_int de_int))) dss_nil)
    (dss_cons (ds_if (dt_cmp (op_eqA hr.units) d_eqA (de_ix (de_var 0 (pv 0)) de_int (fun _ _ => rfl)) de_str (nomark _)) (dss_one (ds_ret (de_call G_full_times (hr.mono (by decide)) (by rfl) C_full_times.g C_full_times.F.kp C_full_times.b (takes_of rfl rfl rfl rfl) (da_cons (de_var 1 (pv 1)) (da_cons (de_ix (de_var 0 (pv 0)) de_int (fun _ _ => rfl)) (da_cons (de_ix (de_var 0 (pv 0)) de_int (fun _ _ => rfl)) da_nil)))))) dss_nil)
    (dss_one (ds_ret de_int))))
theorem ok_apply_sums {f : Addr} {fd : FuncData} (B : Bl K mg) (F : Fun K "apply_sums" "apply_sums" s_apply_sums f fd)
    {a_off_times : Addr} {e_off_times : FuncData} (C_off_times : Cd K mg "off_times" s_off_times ["rule", "left"] a_off_times e_off_times) (G_off_times : FnOk P Wd.w K mg base (L2.CX P Wd.w) 2 a_off_times e_off_times ["rule", "left"] (spD K mg d_off_times)) :
    FnOk P Wd.w K mg base (L2.CX P Wd.w) 3 f fd ["rules", "total"] (spD K mg d_apply_sums) :=
  fn_ok F sc_apply_sums rfl rfl fun cdv A outer s H vs E env0 hr => by
    exact (dss_cons (ds_set (i := 2) sc_apply_sums.nd rfl (by first | exact .inl rfl | exact .inr rfl) (de_var 1 (pv 1)))
    (dss_cons (ds_set (i := 3) sc_apply_sums.nd rfl (by first | exact .inl rfl | exact .inr rfl) (de_lst da_nil))
    (dss_cons (ds_for (passes_of rfl) rfl (di_tup (de_var 0 (pv 0))) (dg_name (pg_name (i := 4) sc_apply_sums.nd rfl (by first | exact .inl rfl | exact .inr rfl))) (dss_cons (ds_set (i := 5) sc_apply_sums.nd rfl (by first | exact .inl rfl | exact .inr rfl) (de_call G_off_times (hr.mono (by decide)) (by rfl) C_off_times.g C_off_times.F.kp C_off_times.b (takes_of rfl rfl rfl rfl) (da_cons (de_var 4 (pv 4)) (da_cons (de_var 2 (pv 2)) da_nil))))
    (dss_cons (ds_aug (i := 2) sc_apply_sums.nd rfl (by first | exact .inl rfl | exact .inr rfl) iop_sub d_sub (de_op op_mulA d_mulA (de_var 5 (pv 5)) (de_ix (de_var 4 (pv 4)) de_int (fun _ _ => rfl))))
    (dss_one (ds_expr (de_met m_app PySem.F.slot_list_append PySem.F.type_list_append mt_append (de_var 3 (pv 3)) (da_cons (de_var 5 (pv 5)) da_nil)))))))
    (dss_one (ds_ret (de_tup (da_cons (de_var 2 (pv 2)) (da_cons (de_var 3 (pv 3)) da_nil))))))))
theorem ok_amounts_of {f : Addr} {fd : FuncData} (B : Bl K mg) (F : Fun K "amounts_of" "amounts_of" s_amounts_of f fd)
    {a_good_amount : Addr} {e_good_amount : FuncData} (C_good_amount : Cd K mg "good_amount" s_good_amount ["shop", "good", "pieces"] a_good_amount e_good_amount) (G_good_amount : FnOk P Wd.w K mg base (L2.CX P Wd.w) 4 a_good_amount e_good_amount ["shop", "good", "pieces"] (spD K mg d_good_amount)) :
    FnOk P Wd.w K mg base (L2.CX P Wd.w) 5 f fd ["shop", "basket"] (spD K mg d_amounts_of) :=
  fn_ok F sc_amounts_of rfl rfl fun cdv A outer s H vs E env0 hr => by
    exact (dss_one (ds_ret (de_ty d_tuple call_tuple_of (by rfl) B.b_tuple bo_tuple (da_cons (de_lc (own := [("good", 2), ("pieces", 3)]) (t := (.tup [2, 3])) rfl sc_amounts_of.nd (di_enum false (by rfl) B.b_enumerate (da_cons (de_var 1 (pv 1)) da_nil)) (blkOk_by (own := [("good", 2), ("pieces", 3)]) (N := ["shop", "basket", "good", "pieces"]) (sc := defScope s_amounts_of) (by first | decide +kernel | (dsimp only [Cx.blk, compEnvC]; rw [relabel_is]; dsimp only [cxOf, PyProof.Rows.envOfC]; decide +kernel))) (fun _ _ _ _ _ => (pg_tup rfl (pgs_cons (pg_name (i := 2) sc_amounts_of.nd rfl (by first | exact .inl rfl | exact .inr rfl)) (pgs_cons (pg_name (i := 3) sc_amounts_of.nd rfl (by first | exact .inl rfl | exact .inr rfl)) pgs_nil)))) (fun _ _ _ _ _ => dts_nil) (fun _ _ _ _ _ => (de_call G_good_amount (hr.mono (by decide)) (by rfl) C_good_amount.g C_good_amount.F.kp C_good_amount.b takes0 (da_cons (de_var 0 (pv 0)) (da_cons (de_var 2 (pv 2)) (da_cons (de_var 3 (pv 3)) da_nil))))) (by simp [CT.ins])) da_nil))))
theorem ok_left_of {f : Addr} {fd : FuncData} (B : Bl K mg) (F : Fun K "left_of" "left_of" s_left_of f fd)
    {a_apply_sums : Addr} {e_apply_sums : FuncData} (C_apply_sums : Cd K mg "apply_sums" s_apply_sums ["rules", "total"] a_apply_sums e_apply_sums) (G_apply_sums : FnOk P Wd.w K mg base (L2.CX P Wd.w) 3 a_apply_sums e_apply_sums ["rules", "total"] (spD K mg d_apply_sums)) :
    FnOk P Wd.w K mg base (L2.CX P Wd.w) 4 f fd ["rules", "total"] (spD K mg d_left_of) :=
  fn_ok F sc_left_of rfl rfl fun cdv A outer s H vs E env0 hr => by
    exact (dss_cons (ds_asg (de_call G_apply_sums (hr.mono (by decide)) (by rfl) C_apply_sums.g C_apply_sums.F.kp C_apply_sums.b (takes_of rfl rfl rfl rfl) (da_cons (de_var 0 (pv 0)) (da_cons (de_var 1 (pv 1)) da_nil))) (dg_tup rfl (dgs_cons (dg_name (pg_name (i := 2) sc_left_of.nd rfl (by first | exact .inl rfl | exact .inr rfl))) (dgs_cons (dg_name (pg_name (i := 3) sc_left_of.nd rfl (by first | exact .inl rfl | exact .inr rfl))) dgs_nil))))
    (dss_one (ds_ret (de_var 2 (pv 2)))))
theorem ok_charge_of {f : Addr} {fd : FuncData} (B : Bl K mg) (F : Fun K "charge_of" "charge_of" s_charge_of f fd)
    {a_left_of : Addr} {e_left_of : FuncData} (C_left_of : Cd K mg "left_of" s_left_of ["rules", "total"] a_left_of e_left_of) (G_left_of : FnOk P Wd.w K mg base (L2.CX P Wd.w) 4 a_left_of e_left_of ["rules", "total"] (spD K mg d_left_of))
    {a_amounts_of : Addr} {e_amounts_of : FuncData} (C_amounts_of : Cd K mg "amounts_of" s_amounts_of ["shop", "basket"] a_amounts_of e_amounts_of) (G_amounts_of : FnOk P Wd.w K mg base (L2.CX P Wd.w) 5 a_amounts_of e_amounts_of ["shop", "basket"] (spD K mg d_amounts_of)) :
    FnOk P Wd.w K mg base (L2.CX P Wd.w) 6 f fd ["shop", "basket"] (spD K mg d_charge_of) :=
  fn_ok F sc_charge_of rfl rfl fun cdv A outer s H vs E env0 hr => by
    exact (dss_one (ds_ret (de_call G_left_of (hr.mono (by decide)) (by rfl) C_left_of.g C_left_of.F.kp C_left_of.b (takes_of rfl rfl rfl rfl) (da_cons (de_ix (de_var 0 (pv 0)) de_int (fun _ _ => rfl)) (da_cons (de_b d_sum (call_sumA rfl) (by rfl) B.b_sum bo_sum (da_cons (de_call G_amounts_of (hr.mono (by decide)) (by rfl) C_amounts_of.g C_amounts_of.F.kp C_amounts_of.b (takes_of rfl rfl rfl rfl) (da_cons (de_var 0 (pv 0)) (da_cons (de_var 1 (pv 1)) da_nil))) da_nil)) da_nil)))))
theorem ok_uses_of {f : Addr} {fd : FuncData} (B : Bl K mg) (F : Fun K "uses_of" "uses_of" s_uses_of f fd)
    {a_apply_sums : Addr} {e_apply_sums : FuncData} (C_apply_sums : Cd K mg "apply_sums" s_apply_sums ["rules", "total"] a_apply_sums e_apply_sums) (G_apply_sums : FnOk P Wd.w K mg base (L2.CX P Wd.w) 3 a_apply_sums e_apply_sums ["rules", "total"] (spD K mg d_apply_sums))
    {a_fitting_rule : Addr} {e_fitting_rule : FuncData} (C_fitting_rule : Cd K mg "fitting_rule" s_fitting_rule ["rules", "good", "pieces"] a_fitting_rule e_fitting_rule) (G_fitting_rule : FnOk P Wd.w K mg base (L2.CX P Wd.w) 1 a_fitting_rule e_fitting_rule ["rules", "good", "pieces"] (spD K mg d_fitting_rule))
    {a_amounts_of : Addr} {e_amounts_of : FuncData} (C_amounts_of : Cd K mg "amounts_of" s_amounts_of ["shop", "basket"] a_amounts_of e_amounts_of) (G_amounts_of : FnOk P Wd.w K mg base (L2.CX P Wd.w) 5 a_amounts_of e_amounts_of ["shop", "basket"] (spD K mg d_amounts_of))
    {a_pack_times : Addr} {e_pack_times : FuncData} (C_pack_times : Cd K mg "pack_times" s_pack_times ["rule", "pieces"] a_pack_times e_pack_times) (G_pack_times : FnOk P Wd.w K mg base (L2.CX P Wd.w) 2 a_pack_times e_pack_times ["rule", "pieces"] (spD K mg d_pack_times)) :
    FnOk P Wd.w K mg base (L2.CX P Wd.w) 6 f fd ["shop", "basket"] (spD K mg d_uses_of) :=
  fn_ok F sc_uses_of rfl rfl fun cdv A outer s H vs E env0 hr => by
    exact (dss_cons (ds_set (i := 2) sc_uses_of.nd rfl (by first | exact .inl rfl | exact .inr rfl) (de_ix (de_var 0 (pv 0)) de_int (fun _ _ => rfl)))
    (dss_cons (ds_asg (de_call G_apply_sums (hr.mono (by decide)) (by rfl) C_apply_sums.g C_apply_sums.F.kp C_apply_sums.b (takes_of rfl rfl rfl rfl) (da_cons (de_var 2 (pv 2)) (da_cons (de_b d_sum (call_sumA rfl) (by rfl) B.b_sum bo_sum (da_cons (de_call G_amounts_of (hr.mono (by decide)) (by rfl) C_amounts_of.g C_amounts_of.F.kp C_amounts_of.b (takes_of rfl rfl rfl rfl) (da_cons (de_var 0 (pv 0)) (da_cons (de_var 1 (pv 1)) da_nil))) da_nil)) da_nil))) (dg_tup rfl (dgs_cons (dg_name (pg_name (i := 3) sc_uses_of.nd rfl (by first | exact .inl rfl | exact .inr rfl))) (dgs_cons (dg_name (pg_name (i := 4) sc_uses_of.nd rfl (by first | exact .inl rfl | exact .inr rfl))) dgs_nil))))
    (dss_cons (ds_for (passes_of rfl) rfl (di_enum true (by rfl) B.b_enumerate (da_cons (de_var 1 (pv 1)) da_nil)) (dg_tup rfl (dgs_cons (dg_name (pg_name (i := 5) sc_uses_of.nd rfl (by first | exact .inl rfl | exact .inr rfl))) (dgs_cons (dg_name (pg_name (i := 6) sc_uses_of.nd rfl (by first | exact .inl rfl | exact .inr rfl))) dgs_nil))) (dss_cons (ds_set (i := 7) sc_uses_of.nd rfl (by first | exact .inl rfl | exact .inr rfl) (de_call G_fitting_rule (hr.mono (by decide)) (by rfl) C_fitting_rule.g C_fitting_rule.F.kp C_fitting_rule.b (takes_of rfl rfl rfl rfl) (da_cons (de_var 2 (pv 2)) (da_cons (de_var 5 (pv 5)) (da_cons (de_var 6 (pv 6)) da_nil)))))
    (dss_one (ds_if (dt_cmp op_nis d_nis (de_var 7 (pv 7)) de_non (nomark _)) (dss_cons (ds_set (i := 8) sc_uses_of.nd rfl (by first | exact .inl rfl | exact .inr rfl) (de_ix (de_var 2 (pv 2)) (de_var 7 (pv 7)) (fun _ _ => rfl)))
    (dss_one (ds_asg (de_if (dt_cmp (op_eqA hr.units) d_eqA (de_ix (de_var 8 (pv 8)) de_int (fun _ _ => rfl)) de_str (nomark _)) (de_call G_pack_times (hr.mono (by decide)) (by rfl) C_pack_times.g C_pack_times.F.kp C_pack_times.b (takes_of rfl rfl rfl rfl) (da_cons (de_var 8 (pv 8)) (da_cons (de_var 6 (pv 6)) da_nil))) de_int) (dg_sub (W := WF) (de_var 4 (pv 4)) (de_var 7 (pv 7)))))) dss_nil))))
    (dss_one (ds_ret (de_ty d_tuple call_tuple_of (by rfl) B.b_tuple bo_tuple (da_cons (de_var 4 (pv 4)) da_nil)))))))
theorem ok_charge {f : Addr} {fd : FuncData} (B : Bl K mg) (F : Fun K "charge" "charge" s_charge f fd)
    {a_check_basket : Addr} {e_check_basket : FuncData} (C_check_basket : Cd K mg "check_basket" s_check_basket ["shop", "basket"] a_check_basket e_check_basket) (G_check_basket : FnOk P Wd.w K mg base (L2.CX P Wd.w) 10 a_check_basket e_check_basket ["shop", "basket"] (spD K mg d_check_basket))
    {a_charge_of : Addr} {e_charge_of : FuncData} (C_charge_of : Cd K mg "charge_of" s_charge_of ["shop", "basket"] a_charge_of e_charge_of) (G_charge_of : FnOk P Wd.w K mg base (L2.CX P Wd.w) 6 a_charge_of e_charge_of ["shop", "basket"] (spD K mg d_charge_of)) :
    FnOk P Wd.w K mg base (L2.CX P Wd.w) 11 f fd ["shop", "basket"] (spD K mg d_charge) :=
  fn_ok F sc_charge rfl rfl fun cdv A outer s H vs E env0 hr => by
    exact (dss_cons (ds_expr (de_call G_check_basket (hr.mono (by decide)) (by rfl) C_check_basket.g C_check_basket.F.kp C_check_basket.b (takes_of rfl rfl rfl rfl) (da_cons (de_var 0 (pv 0)) (da_cons (de_var 1 (pv 1)) da_nil))))
    (dss_one (ds_ret (de_call G_charge_of (hr.mono (by decide)) (by rfl) C_charge_of.g C_charge_of.F.kp C_charge_of.b (takes_of rfl rfl rfl rfl) (da_cons (de_var 0 (pv 0)) (da_cons (de_var 1 (pv 1)) da_nil))))))
theorem ok_is_ascending {f : Addr} {fd : FuncData} (B : Bl K mg) (F : Fun K "is_ascending" "is_ascending" s_is_ascending f fd) :
    FnOk P Wd.w K mg base (L2.CX P Wd.w) 1 f fd ["values"] (spD K mg d_is_ascending) :=
  fn_ok F sc_is_ascending rfl rfl fun cdv A outer s H vs E env0 hr => by
    exact (dss_one (ds_ret (de_b d_all (cr_all rfl) (by rfl) B.b_all bo_all (da_cons (de_lc (own := [("one", 1), ("other", 2)]) (t := (.tup [1, 2])) rfl sc_is_ascending.nd (di_zip false (by rfl) B.b_zip (da_cons (de_var 0 (pv 0)) (da_cons (de_slice (de_var 0 (pv 0)) (do_some de_int) do_none) da_nil))) (blkOk_by (own := [("one", 1), ("other", 2)]) (N := ["values", "one", "other"]) (sc := defScope s_is_ascending) (by first | decide +kernel | (dsimp only [Cx.blk, compEnvC]; rw [relabel_is]; dsimp only [cxOf, PyProof.Rows.envOfC]; decide +kernel))) (fun _ _ _ _ _ => (pg_tup rfl (pgs_cons (pg_name (i := 1) sc_is_ascending.nd rfl (by first | exact .inl rfl | exact .inr rfl)) (pgs_cons (pg_name (i := 2) sc_is_ascending.nd rfl (by first | exact .inl rfl | exact .inr rfl)) pgs_nil)))) (fun _ _ _ _ _ => dts_nil) (fun _ _ _ _ _ => (de_cmp (op_ltA hr.units) d_ltA (de_var 1 (pv 1)) (de_var 2 (pv 2)) (nomark _))) (by simp [CT.ins])) da_nil))))
theorem ok_is_most_act {f : Addr} {fd : FuncData} (B : Bl K mg) (F : Fun K "is_most_act" "is_most_act" s_is_most_act f fd)
    {a_is_between : Addr} {e_is_between : FuncData} (C_is_between : Cd K mg "is_between" s_is_between ["value", "low", "high"] a_is_between e_is_between) (G_is_between : FnOk P Wd.w K mg base (L2.CX P Wd.w) 2 a_is_between e_is_between ["value", "low", "high"] (spD K mg d_is_between))
    {a_is_tuple_of : Addr} {e_is_tuple_of : FuncData} (C_is_tuple_of : Cd K mg "is_tuple_of" s_is_tuple_of ["value", "length"] a_is_tuple_of e_is_tuple_of) (G_is_tuple_of : FnOk P Wd.w K mg base (L2.CX P Wd.w) 1 a_is_tuple_of e_is_tuple_of ["value", "length"] (spD K mg d_is_tuple_of)) :
    FnOk P Wd.w K mg base (L2.CX P Wd.w) 3 f fd ["shop", "value"] (spD K mg d_is_most_act) :=
  fn_ok F sc_is_most_act rfl rfl fun cdv A outer s H vs E env0 hr => by
    exact (dss_cons (ds_set (i := 2) sc_is_most_act.nd rfl (by first | exact .inl rfl | exact .inr rfl) (de_ix (de_var 0 (pv 0)) de_int (fun _ _ => rfl)))
    (dss_cons (ds_if (PW.pt (dt_or (dt_not (dt_val (de_call G_is_tuple_of (hr.mono (by decide)) (by rfl) C_is_tuple_of.g C_is_tuple_of.F.kp C_is_tuple_of.b (takes_of rfl rfl rfl rfl) (da_cons (de_var 1 (pv 1)) (da_cons de_int da_nil))))) (dt_or1 (dt_not (dt_val (de_call G_is_between (hr.mono (by decide)) (by rfl) C_is_between.g C_is_between.F.kp C_is_between.b (takes_of rfl rfl rfl rfl) (da_cons (de_ix (de_var 1 (pv 1)) de_int (fun _ _ => rfl)) (da_cons de_int (da_cons (de_op op_sub d_sub (de_b d_len call_lenA (by rfl) B.b_len bo_len (da_cons (de_var 2 (pv 2)) da_nil)) de_int) da_nil))))))))) (dss_one (ds_ret de_bl)) dss_nil)
    (dss_cons (ds_set (i := 3) sc_is_most_act.nd rfl (by first | exact .inl rfl | exact .inr rfl) (de_ix (de_var 2 (pv 2)) (de_ix (de_var 1 (pv 1)) de_int (fun _ _ => rfl)) (fun _ _ => rfl)))
    (dss_cons (ds_if (dt_cmp op_notIn_seq (d_in true) (de_ix (de_var 3 (pv 3)) de_int (fun _ _ => rfl)) (de_tup (da_cons de_str (da_cons de_str da_nil))) (by with_unfolding_all rfl)) (dss_one (ds_ret de_bl)) dss_nil)
    (dss_one (ds_ret (de_and (de_call G_is_between (hr.mono (by decide)) (by rfl) C_is_between.g C_is_between.F.kp C_is_between.b (takes_of rfl rfl rfl rfl) (da_cons (de_ix (de_var 1 (pv 1)) de_int (fun _ _ => rfl)) (da_cons de_int (da_cons de_int da_nil)))) (de_one (de_or (de_cmp op_is d_is (de_ix (de_var 3 (pv 3)) (de_un un_neg d_neg de_int) (fun _ _ => rfl)) de_non (nomark _)) (de_one (de_cmp op_lt d_lt (de_ix (de_var 1 (pv 1)) de_int (fun _ _ => rfl)) (de_ix (de_var 3 (pv 3)) (de_un un_neg d_neg de_int) (fun _ _ => rfl)) (nomark _))))))))))))
theorem ok_is_act {f : Addr} {fd : FuncData} (B : Bl K mg) (F : Fun K "is_act" "is_act" s_is_act f fd)
    {a_is_most_act : Addr} {e_is_most_act : FuncData} (C_is_most_act : Cd K mg "is_most_act" s_is_most_act ["shop", "value"] a_is_most_act e_is_most_act) (G_is_most_act : FnOk P Wd.w K mg base (L2.CX P Wd.w) 3 a_is_most_act e_is_most_act ["shop", "value"] (spD K mg d_is_most_act))
    {a_is_tuple_of : Addr} {e_is_tuple_of : FuncData} (C_is_tuple_of : Cd K mg "is_tuple_of" s_is_tuple_of ["value", "length"] a_is_tuple_of e_is_tuple_of) (G_is_tuple_of : FnOk P Wd.w K mg base (L2.CX P Wd.w) 1 a_is_tuple_of e_is_tuple_of ["value", "length"] (spD K mg d_is_tuple_of))
    {a_is_between : Addr} {e_is_between : FuncData} (C_is_between : Cd K mg "is_between" s_is_between ["value", "low", "high"] a_is_between e_is_between) (G_is_between : FnOk P Wd.w K mg base (L2.CX P Wd.w) 2 a_is_between e_is_between ["value", "low", "high"] (spD K mg d_is_between)) :
    FnOk P Wd.w K mg base (L2.CX P Wd.w) 4 f fd ["shop", "value"] (spD K mg d_is_act) :=
  fn_ok F sc_is_act rfl rfl fun cdv A outer s H vs E env0 hr => by
    exact (dss_cons (ds_if (PW.pt (dt_or (dt_not (dt_val (de_isi (by rfl) B.b_isinstance (de_var 1 (pv 1)) (pe_bltn (by rfl) B.b_tuple bo_tuple rfl)))) (dt_or1 (dt_cmp (op_eqA hr.units) d_eqA (de_b d_len call_lenA (by rfl) B.b_len bo_len (da_cons (de_var 1 (pv 1)) da_nil)) de_int (nomark _))))) (dss_one (ds_ret de_bl)) dss_nil)
    (dss_cons (ds_set (i := 2) sc_is_act.nd rfl (by first | exact .inl rfl | exact .inr rfl) (de_ix (de_var 1 (pv 1)) de_int (fun _ _ => rfl)))
    (dss_cons (ds_if (dt_not (dt_val (de_isi (by rfl) B.b_isinstance (de_var 2 (pv 2)) (pe_bltn (by rfl) B.b_str bo_str rfl)))) (dss_one (ds_ret de_bl)) dss_nil)
    (dss_cons (ds_if (dt_cmp (op_eqA hr.units) d_eqA (de_var 2 (pv 2)) de_str (nomark _)) (dss_one (ds_ret (de_and (de_call G_is_tuple_of (hr.mono (by decide)) (by rfl) C_is_tuple_of.g C_is_tuple_of.F.kp C_is_tuple_of.b (takes_of rfl rfl rfl rfl) (da_cons (de_var 1 (pv 1)) (da_cons de_int da_nil))) (de_one (de_call G_is_between (hr.mono (by decide)) (by rfl) C_is_between.g C_is_between.F.kp C_is_between.b (takes_of rfl rfl rfl rfl) (da_cons (de_ix (de_var 1 (pv 1)) de_int (fun _ _ => rfl)) (da_cons de_int (da_cons (de_op op_sub d_sub (de_b d_len call_lenA (by rfl) B.b_len bo_len (da_cons (de_ix (de_var 0 (pv 0)) de_int (fun _ _ => rfl)) da_nil)) de_int) da_nil)))))))) dss_nil)
    (dss_one (ds_ret (de_and (de_cmp (op_eqA hr.units) d_eqA (de_var 2 (pv 2)) de_str (nomark _)) (de_one (de_call G_is_most_act (hr.mono (by decide)) (by rfl) C_is_most_act.g C_is_most_act.F.kp C_is_most_act.b (takes_of rfl rfl rfl rfl) (da_cons (de_var 0 (pv 0)) (da_cons (de_var 1 (pv 1)) da_nil)))))))))))
theorem ok_are_acts {f : Addr} {fd : FuncData} (B : Bl K mg) (F : Fun K "are_acts" "are_acts" s_are_acts f fd)
    {a_check_shop : Addr} {e_check_shop : FuncData} (C_check_shop : Cd K mg "check_shop" s_check_shop ["shop"] a_check_shop e_check_shop) (G_check_shop : FnOk P Wd.w K mg base (L2.CX P Wd.w) 8 a_check_shop e_check_shop ["shop"] (spD K mg d_check_shop))
    {a_is_ascending : Addr} {e_is_ascending : FuncData} (C_is_ascending : Cd K mg "is_ascending" s_is_ascending ["values"] a_is_ascending e_is_ascending) (G_is_ascending : FnOk P Wd.w K mg base (L2.CX P Wd.w) 1 a_is_ascending e_is_ascending ["values"] (spD K mg d_is_ascending))
    {a_is_act : Addr} {e_is_act : FuncData} (C_is_act : Cd K mg "is_act" s_is_act ["shop", "value"] a_is_act e_is_act) (G_is_act : FnOk P Wd.w K mg base (L2.CX P Wd.w) 4 a_is_act e_is_act ["shop", "value"] (spD K mg d_is_act)) :
    FnOk P Wd.w K mg base (L2.CX P Wd.w) 9 f fd ["shop", "value"] (spD K mg d_are_acts) :=
  fn_ok F sc_are_acts rfl rfl fun cdv A outer s H vs E env0 hr => by
    exact (dss_cons (ds_expr (de_call G_check_shop (hr.mono (by decide)) (by rfl) C_check_shop.g C_check_shop.F.kp C_check_shop.b (takes_of rfl rfl rfl rfl) (da_cons (de_var 0 (pv 0)) da_nil)))
    (dss_cons (ds_if (PW.pt (dt_or (dt_not (dt_val (de_isi (by rfl) B.b_isinstance (de_var 1 (pv 1)) (pe_bltn (by rfl) B.b_tuple bo_tuple rfl)))) (dt_or1 (dt_cmp op_gt d_gt (de_b d_len call_lenA (by rfl) B.b_len bo_len (da_cons (de_var 1 (pv 1)) da_nil)) (de_gc (by rfl) B.g_MOST_ACTS fun _ _ => .int _) (nomark _))))) (dss_one (ds_ret de_bl)) dss_nil)
    (dss_one (ds_ret (de_and (de_b d_all (cr_all rfl) (by rfl) B.b_all bo_all (da_cons (de_lc (own := [("act", 2)]) (t := (.one 2)) rfl sc_are_acts.nd (di_tup (de_var 1 (pv 1))) (blkOk_by (own := [("act", 2)]) (N := ["shop", "value", "act"]) (sc := defScope s_are_acts) (by first | decide +kernel | (dsimp only [Cx.blk, compEnvC]; rw [relabel_is]; dsimp only [cxOf, PyProof.Rows.envOfC]; decide +kernel))) (fun _ _ _ _ _ => (pg_name (i := 2) sc_are_acts.nd rfl (by first | exact .inl rfl | exact .inr rfl))) (fun _ _ _ _ _ => dts_nil) (fun _ _ _ _ _ => (de_call G_is_act (hr.mono (by decide)) (by rfl) C_is_act.g C_is_act.F.kp C_is_act.b takes0 (da_cons (de_var 0 (pv 0)) (da_cons (de_var 2 (pv 2)) da_nil)))) (by simp [CT.ins])) da_nil)) (de_one (de_call G_is_ascending (hr.mono (by decide)) (by rfl) C_is_ascending.g C_is_ascending.F.kp C_is_ascending.b (takes_of rfl rfl rfl rfl) (da_cons (de_var 1 (pv 1)) da_nil))))))))
theorem ok_check_acts {f : Addr} {fd : FuncData} (B : Bl K mg) (F : Fun K "check_acts" "check_acts" s_check_acts f fd)
    {a_are_acts : Addr} {e_are_acts : FuncData} (C_are_acts : Cd K mg "are_acts" s_are_acts ["shop", "value"] a_are_acts e_are_acts) (G_are_acts : FnOk P Wd.w K mg base (L2.CX P Wd.w) 9 a_are_acts e_are_acts ["shop", "value"] (spD K mg d_are_acts)) :
    FnOk P Wd.w K mg base (L2.CX P Wd.w) 10 f fd ["shop", "acts"] (spD K mg d_check_acts) :=
  fn_ok F sc_check_acts rfl rfl fun cdv A outer s H vs E env0 hr => by
    exact (dss_one (ds_if (dt_not (dt_val (de_call G_are_acts (hr.mono (by decide)) (by rfl) C_are_acts.g C_are_acts.F.kp C_are_acts.b (takes_of rfl rfl rfl rfl) (da_cons (de_var 0 (pv 0)) (da_cons (de_var 1 (pv 1)) da_nil))))) (dss_one (ds_raise rfl (takes_of rfl rfl rfl rfl) B.k_InvalidActs (by rfl))) dss_nil))
theorem ok_numbers_under {f : Addr} {fd : FuncData} (B : Bl K mg) (F : Fun K "numbers_under" "numbers_under" s_numbers_under f fd) :
    FnOk P Wd.w K mg base (L2.CX P Wd.w) 1 f fd ["shop", "acts"] (spD K mg d_numbers_under) :=
  fn_ok F sc_numbers_under rfl rfl fun cdv A outer s H vs E env0 hr => by
    exact (dss_one (ds_ret (de_lc (own := [("number", 2)]) (t := (.one 2)) rfl sc_numbers_under.nd (di_range1 (by rfl) B.b_range (da_cons (de_b d_len call_lenA (by rfl) B.b_len bo_len (da_cons (de_ix (de_var 0 (pv 0)) de_int (fun _ _ => rfl)) da_nil)) da_nil)) (blkOk_by (own := [("number", 2)]) (N := ["shop", "acts", "number"]) (sc := defScope s_numbers_under) (by first | decide +kernel | (dsimp only [Cx.blk, compEnvC]; rw [relabel_is]; dsimp only [cxOf, PyProof.Rows.envOfC]; decide +kernel))) (fun _ _ _ _ _ => (pg_name (i := 2) sc_numbers_under.nd rfl (by first | exact .inl rfl | exact .inr rfl))) (fun _ _ _ _ _ => (dts_one (dt_cmp (op_notInA (u66 hr)) (d_inA true) (de_tup (da_cons de_str (da_cons (de_var 2 (pv 2)) da_nil))) (de_var 1 (pv 1)) (by with_unfolding_all rfl)))) (fun _ _ _ _ _ => (de_var 2 (pv 2))) (by simp [CT.ins]))))
theorem ok_rule_under {f : Addr} {fd : FuncData} (B : Bl K mg) (F : Fun K "rule_under" "rule_under" s_rule_under f fd) :
    FnOk P Wd.w K mg base (L2.CX P Wd.w) 1 f fd ["shop", "acts", "number"] (spD K mg d_rule_under) :=
  fn_ok F sc_rule_under rfl rfl fun cdv A outer s H vs E env0 hr => by
    exact (dss_cons (ds_set (i := 3) sc_rule_under.nd rfl (by first | exact .inl rfl | exact .inr rfl) (de_ix (de_ix (de_var 0 (pv 0)) de_int (fun _ _ => rfl)) (de_var 2 (pv 2)) (fun _ _ => rfl)))
    (dss_cons (ds_setLc (i := 4) (own := [("act", 5)]) (t := (.one 5)) rfl sc_rule_under.nd rfl rfl (by rfl) (di_tup (de_var 1 (pv 1))) (blkOk_by (own := [("act", 5)]) (N := ["shop", "acts", "number", "rule", "mosts", "act"]) (sc := defScope s_rule_under) (by first | decide +kernel | (dsimp only [Cx.blk, compEnvC]; rw [relabel_is]; dsimp only [cxOf, PyProof.Rows.envOfC]; decide +kernel))) (fun _ _ _ _ _ => (pg_name (i := 5) sc_rule_under.nd rfl (by first | exact .inl rfl | exact .inr rfl))) (fun _ _ _ _ _ => (dts_one (dt_cmp (op_eqA hr.units) d_eqA (de_slice (de_var 5 (pv 5)) do_none (do_some de_int)) (de_tup (da_cons de_str (da_cons (de_var 2 (pv 2)) da_nil))) (nomark _)))) (fun _ _ _ _ _ => (de_ix (de_var 5 (pv 5)) de_int (fun _ _ => rfl))) (by simp [CT.ins]))
    (dss_cons (ds_if (dt_cmp (op_eqA hr.units) d_eqA (de_b d_len call_lenA (by rfl) B.b_len bo_len (da_cons (de_var 4 (pv 4)) da_nil)) de_int (nomark _)) (dss_one (ds_ret (de_var 3 (pv 3)))) dss_nil)
    (dss_one (ds_ret (de_op op_addA d_add (de_slice (de_var 3 (pv 3)) do_none (do_some (de_un un_neg d_neg de_int))) (de_tup (da_cons (de_b d_min1 (call_minA rfl hr.units) (by rfl) B.b_min bo_min (da_cons (de_var 4 (pv 4)) da_nil)) da_nil))))))))
theorem ok_left_under {f : Addr} {fd : FuncData} (B : Bl K mg) (F : Fun K "left_under" "left_under" s_left_under f fd)
    {a_numbers_under : Addr} {e_numbers_under : FuncData} (C_numbers_under : Cd K mg "numbers_under" s_numbers_under ["shop", "acts"] a_numbers_under e_numbers_under) (G_numbers_under : FnOk P Wd.w K mg base (L2.CX P Wd.w) 1 a_numbers_under e_numbers_under ["shop", "acts"] (spD K mg d_numbers_under))
    {a_rule_under : Addr} {e_rule_under : FuncData} (C_rule_under : Cd K mg "rule_under" s_rule_under ["shop", "acts", "number"] a_rule_under e_rule_under) (G_rule_under : FnOk P Wd.w K mg base (L2.CX P Wd.w) 1 a_rule_under e_rule_under ["shop", "acts", "number"] (spD K mg d_rule_under)) :
    FnOk P Wd.w K mg base (L2.CX P Wd.w) 2 f fd ["shop", "acts"] (spD K mg d_left_under) :=
  fn_ok F sc_left_under rfl rfl fun cdv A outer s H vs E env0 hr => by
    exact (dss_cons (ds_set (i := 2) sc_left_under.nd rfl (by first | exact .inl rfl | exact .inr rfl) (de_call G_numbers_under (hr.mono (by decide)) (by rfl) C_numbers_under.g C_numbers_under.F.kp C_numbers_under.b (takes_of rfl rfl rfl rfl) (da_cons (de_var 0 (pv 0)) (da_cons (de_var 1 (pv 1)) da_nil))))
    (dss_one (ds_ret (de_tup (da_cons (de_ix (de_var 0 (pv 0)) de_int (fun _ _ => rfl)) (da_cons (de_ty d_tuple call_tuple_of (by rfl) B.b_tuple bo_tuple (da_cons (de_lc (own := [("number", 3)]) (t := (.one 3)) rfl sc_left_under.nd (di_list false (de_var 2 (pv 2))) (blkOk_by (own := [("number", 3)]) (N := ["shop", "acts", "numbers", "number"]) (sc := defScope s_left_under) (by first | decide +kernel | (dsimp only [Cx.blk, compEnvC]; rw [relabel_is]; dsimp only [cxOf, PyProof.Rows.envOfC]; decide +kernel))) (fun _ _ _ _ _ => (pg_name (i := 3) sc_left_under.nd rfl (by first | exact .inl rfl | exact .inr rfl))) (fun _ _ _ _ _ => dts_nil) (fun _ _ _ _ _ => (de_call G_rule_under (hr.mono (by decide)) (by rfl) C_rule_under.g C_rule_under.F.kp C_rule_under.b takes0 (da_cons (de_var 0 (pv 0)) (da_cons (de_var 1 (pv 1)) (da_cons (de_var 3 (pv 3)) da_nil))))) (by simp [CT.ins])) da_nil)) da_nil))))))
theorem ok_uses_under {f : Addr} {fd : FuncData} (B : Bl K mg) (F : Fun K "uses_under" "uses_under" s_uses_under f fd)
    {a_numbers_under : Addr} {e_numbers_under : FuncData} (C_numbers_under : Cd K mg "numbers_under" s_numbers_under ["shop", "acts"] a_numbers_under e_numbers_under) (G_numbers_under : FnOk P Wd.w K mg base (L2.CX P Wd.w) 1 a_numbers_under e_numbers_under ["shop", "acts"] (spD K mg d_numbers_under))
    {a_uses_of : Addr} {e_uses_of : FuncData} (C_uses_of : Cd K mg "uses_of" s_uses_of ["shop", "basket"] a_uses_of e_uses_of) (G_uses_of : FnOk P Wd.w K mg base (L2.CX P Wd.w) 6 a_uses_of e_uses_of ["shop", "basket"] (spD K mg d_uses_of))
    {a_left_under : Addr} {e_left_under : FuncData} (C_left_under : Cd K mg "left_under" s_left_under ["shop", "acts"] a_left_under e_left_under) (G_left_under : FnOk P Wd.w K mg base (L2.CX P Wd.w) 2 a_left_under e_left_under ["shop", "acts"] (spD K mg d_left_under)) :
    FnOk P Wd.w K mg base (L2.CX P Wd.w) 7 f fd ["shop", "acts", "number", "basket"] (spD K mg d_uses_under) :=
  fn_ok F sc_uses_under rfl rfl fun cdv A outer s H vs E env0 hr => by
    exact (dss_cons (ds_set (i := 4) sc_uses_under.nd rfl (by first | exact .inl rfl | exact .inr rfl) (de_call G_numbers_under (hr.mono (by decide)) (by rfl) C_numbers_under.g C_numbers_under.F.kp C_numbers_under.b (takes_of rfl rfl rfl rfl) (da_cons (de_var 0 (pv 0)) (da_cons (de_var 1 (pv 1)) da_nil))))
    (dss_cons (ds_if (dt_cmp (op_notInA (u66 hr)) (d_inA true) (de_var 2 (pv 2)) (de_var 4 (pv 4)) (by with_unfolding_all rfl)) (dss_one (ds_ret de_int)) dss_nil)
    (dss_one (ds_ret (de_ix (de_call G_uses_of (hr.mono (by decide)) (by rfl) C_uses_of.g C_uses_of.F.kp C_uses_of.b (takes_of rfl rfl rfl rfl) (da_cons (de_call G_left_under (hr.mono (by decide)) (by rfl) C_left_under.g C_left_under.F.kp C_left_under.b (takes_of rfl rfl rfl rfl) (da_cons (de_var 0 (pv 0)) (da_cons (de_var 1 (pv 1)) da_nil))) (da_cons (de_var 3 (pv 3)) da_nil))) (de_met m_idx PySem.F.slot_list_index PySem.F.type_list_index (mt_indexD (u65 hr)) (de_var 4 (pv 4)) (da_cons (de_var 2 (pv 2)) da_nil)) (fun _ _ => rfl))))))
theorem ok_touches_under {f : Addr} {fd : FuncData} (B : Bl K mg) (F : Fun K "touches_under" "touches_under" s_touches_under f fd)
    {a_uses_under : Addr} {e_uses_under : FuncData} (C_uses_under : Cd K mg "uses_under" s_uses_under ["shop", "acts", "number", "basket"] a_uses_under e_uses_under) (G_uses_under : FnOk P Wd.w K mg base (L2.CX P Wd.w) 7 a_uses_under e_uses_under ["shop", "acts", "number", "basket"] (spD K mg d_uses_under)) :
    FnOk P Wd.w K mg base (L2.CX P Wd.w) 8 f fd ["shop", "acts", "act", "basket"] (spD K mg d_touches_under) :=
  fn_ok F sc_touches_under rfl rfl fun cdv A outer s H vs E env0 hr => by
    exact (dss_cons (ds_set (i := 4) sc_touches_under.nd rfl (by first | exact .inl rfl | exact .inr rfl) (de_call G_uses_under (hr.mono (by decide)) (by rfl) C_uses_under.g C_uses_under.F.kp C_uses_under.b (takes_of rfl rfl rfl rfl) (da_cons (de_var 0 (pv 0)) (da_cons (de_var 1 (pv 1)) (da_cons (de_ix (de_var 2 (pv 2)) de_int (fun _ _ => rfl)) (da_cons (de_var 3 (pv 3)) da_nil))))))
    (dss_one (ds_ret (de_if (dt_cmp (op_eqA hr.units) d_eqA (de_ix (de_var 2 (pv 2)) de_int (fun _ _ => rfl)) de_str (nomark _)) (de_cmp op_gt d_gt (de_var 4 (pv 4)) de_int (nomark _)) (de_cmp op_gt d_gt (de_var 4 (pv 4)) (de_ix (de_var 2 (pv 2)) de_int (fun _ _ => rfl)) (nomark _))))))
theorem ok_shop_under {f : Addr} {fd : FuncData} (B : Bl K mg) (F : Fun K "shop_under" "shop_under" s_shop_under f fd)
    {a_check_acts : Addr} {e_check_acts : FuncData} (C_check_acts : Cd K mg "check_acts" s_check_acts ["shop", "acts"] a_check_acts e_check_acts) (G_check_acts : FnOk P Wd.w K mg base (L2.CX P Wd.w) 10 a_check_acts e_check_acts ["shop", "acts"] (spD K mg d_check_acts))
    {a_left_under : Addr} {e_left_under : FuncData} (C_left_under : Cd K mg "left_under" s_left_under ["shop", "acts"] a_left_under e_left_under) (G_left_under : FnOk P Wd.w K mg base (L2.CX P Wd.w) 2 a_left_under e_left_under ["shop", "acts"] (spD K mg d_left_under)) :
    FnOk P Wd.w K mg base (L2.CX P Wd.w) 11 f fd ["shop", "acts"] (spD K mg d_shop_under) :=
  fn_ok F sc_shop_under rfl rfl fun cdv A outer s H vs E env0 hr => by
    exact (dss_cons (ds_expr (de_call G_check_acts (hr.mono (by decide)) (by rfl) C_check_acts.g C_check_acts.F.kp C_check_acts.b (takes_of rfl rfl rfl rfl) (da_cons (de_var 0 (pv 0)) (da_cons (de_var 1 (pv 1)) da_nil))))
    (dss_one (ds_ret (de_call G_left_under (hr.mono (by decide)) (by rfl) C_left_under.g C_left_under.F.kp C_left_under.b (takes_of rfl rfl rfl rfl) (da_cons (de_var 0 (pv 0)) (da_cons (de_var 1 (pv 1)) da_nil))))))
theorem ok_touches {f : Addr} {fd : FuncData} (B : Bl K mg) (F : Fun K "touches" "touches" s_touches f fd)
    {a_check_acts : Addr} {e_check_acts : FuncData} (C_check_acts : Cd K mg "check_acts" s_check_acts ["shop", "acts"] a_check_acts e_check_acts) (G_check_acts : FnOk P Wd.w K mg base (L2.CX P Wd.w) 10 a_check_acts e_check_acts ["shop", "acts"] (spD K mg d_check_acts))
    {a_check_basket : Addr} {e_check_basket : FuncData} (C_check_basket : Cd K mg "check_basket" s_check_basket ["shop", "basket"] a_check_basket e_check_basket) (G_check_basket : FnOk P Wd.w K mg base (L2.CX P Wd.w) 10 a_check_basket e_check_basket ["shop", "basket"] (spD K mg d_check_basket))
    {a_touches_under : Addr} {e_touches_under : FuncData} (C_touches_under : Cd K mg "touches_under" s_touches_under ["shop", "acts", "act", "basket"] a_touches_under e_touches_under) (G_touches_under : FnOk P Wd.w K mg base (L2.CX P Wd.w) 8 a_touches_under e_touches_under ["shop", "acts", "act", "basket"] (spD K mg d_touches_under))
    {a_is_act : Addr} {e_is_act : FuncData} (C_is_act : Cd K mg "is_act" s_is_act ["shop", "value"] a_is_act e_is_act) (G_is_act : FnOk P Wd.w K mg base (L2.CX P Wd.w) 4 a_is_act e_is_act ["shop", "value"] (spD K mg d_is_act)) :
    FnOk P Wd.w K mg base (L2.CX P Wd.w) 11 f fd ["shop", "acts", "act", "basket"] (spD K mg d_touches) :=
  fn_ok F sc_touches rfl rfl fun cdv A outer s H vs E env0 hr => by
    exact (dss_cons (ds_expr (de_call G_check_acts (hr.mono (by decide)) (by rfl) C_check_acts.g C_check_acts.F.kp C_check_acts.b (takes_of rfl rfl rfl rfl) (da_cons (de_var 0 (pv 0)) (da_cons (de_var 1 (pv 1)) da_nil))))
    (dss_cons (ds_if (dt_not (dt_val (de_call G_is_act (hr.mono (by decide)) (by rfl) C_is_act.g C_is_act.F.kp C_is_act.b (takes_of rfl rfl rfl rfl) (da_cons (de_var 0 (pv 0)) (da_cons (de_var 2 (pv 2)) da_nil))))) (dss_one (ds_raise rfl (takes_of rfl rfl rfl rfl) B.k_InvalidAct (by rfl))) dss_nil)
    (dss_cons (ds_expr (de_call G_check_basket (hr.mono (by decide)) (by rfl) C_check_basket.g C_check_basket.F.kp C_check_basket.b (takes_of rfl rfl rfl rfl) (da_cons (de_var 0 (pv 0)) (da_cons (de_var 3 (pv 3)) da_nil))))
    (dss_one (ds_ret (de_call G_touches_under (hr.mono (by decide)) (by rfl) C_touches_under.g C_touches_under.F.kp C_touches_under.b (takes_of rfl rfl rfl rfl) (da_cons (de_var 0 (pv 0)) (da_cons (de_var 1 (pv 1)) (da_cons (de_var 2 (pv 2)) (da_cons (de_var 3 (pv 3)) da_nil))))))))))
theorem ok__law_cell_at {f : Addr} {fd : FuncData} (B : Bl K mg) (F : Fun K "_law_cell_at" "_law_cell_at" s__law_cell_at f fd) :
    FnOk P Wd.w K mg base (L2.CX P Wd.w) 1 f fd ["_law_script", "_law_k"] (spD K mg d__law_cell_at) :=
  fn_ok F sc__law_cell_at rfl rfl fun cdv A outer s H vs E env0 hr => by
    exact (dss_cons (ds_if (dt_cmp op_lt d_lt (de_var 1 (pv 1)) (de_b d_len call_lenA (by rfl) B.b_len bo_len (da_cons (de_var 0 (pv 0)) da_nil)) (nomark _)) (dss_one (ds_ret (de_ix (de_var 0 (pv 0)) (de_var 1 (pv 1)) (fun _ _ => rfl)))) dss_nil)
    (dss_cons (ds_if (dt_cmp (op_eqA hr.units) d_eqA (de_var 0 (pv 0)) (de_lst da_nil) (nomark _)) (dss_one (ds_ret de_int)) dss_nil)
    (dss_cons (ds_set (i := 2) sc__law_cell_at.nd rfl (by first | exact .inl rfl | exact .inr rfl) (de_ix (de_var 0 (pv 0)) (de_op op_mod d_mod (de_var 1 (pv 1)) (de_b d_len call_lenA (by rfl) B.b_len bo_len (da_cons (de_var 0 (pv 0)) da_nil))) (fun _ _ => rfl)))
    (dss_cons (ds_for (passes_of rfl) rfl (di_range1 (by rfl) B.b_range (da_cons (de_b d_min2 (call_min2 rfl) (by rfl) B.b_min bo_min (da_cons (de_op op_fdiv d_fdiv (de_var 1 (pv 1)) (de_b d_len call_lenA (by rfl) B.b_len bo_len (da_cons (de_var 0 (pv 0)) da_nil))) (da_cons de_int da_nil))) da_nil)) (dg_name (pg_name (i := 3) sc__law_cell_at.nd rfl (by first | exact .inl rfl | exact .inr rfl))) (dss_one (ds_set (i := 2) sc__law_cell_at.nd rfl (by first | exact .inl rfl | exact .inr rfl) (de_op op_fdiv d_fdiv (de_var 2 (pv 2)) de_int))))
    (dss_one (ds_ret (de_op op_addA d_add (de_op op_addA d_add (de_op op_mulA d_mulA (de_ix (de_var 0 (pv 0)) (de_op op_mod d_mod (de_var 1 (pv 1)) (de_b d_len call_lenA (by rfl) B.b_len bo_len (da_cons (de_var 0 (pv 0)) da_nil))) (fun _ _ => rfl)) de_int) (de_var 1 (pv 1))) (de_op op_mulA d_mulA (de_var 2 (pv 2)) de_int))))))))
theorem ok__law_mixed {f : Addr} {fd : FuncData} (B : Bl K mg) (F : Fun K "_law_mixed" "_law_mixed" s__law_mixed f fd)
    {a__law_cell_at : Addr} {e__law_cell_at : FuncData} (C__law_cell_at : Cd K mg "_law_cell_at" s__law_cell_at ["_law_script", "_law_k"] a__law_cell_at e__law_cell_at) (G__law_cell_at : FnOk P Wd.w K mg base (L2.CX P Wd.w) 1 a__law_cell_at e__law_cell_at ["_law_script", "_law_k"] (spD K mg d__law_cell_at)) :
    FnOk P Wd.w K mg base (L2.CX P Wd.w) 2 f fd ["_law_script", "_law_k", "_law_many"] (spD K mg d__law_mixed) :=
  fn_ok F sc__law_mixed rfl rfl fun cdv A outer s H vs E env0 hr => by
    exact (dss_cons (ds_set (i := 3) sc__law_mixed.nd rfl (by first | exact .inl rfl | exact .inr rfl) (de_op op_mod d_mod (de_op op_addA d_add (de_op op_addA d_add (de_op op_mulA d_mulA (de_call G__law_cell_at (hr.mono (by decide)) (by rfl) C__law_cell_at.g C__law_cell_at.F.kp C__law_cell_at.b (takes_of rfl rfl rfl rfl) (da_cons (de_var 0 (pv 0)) (da_cons (de_var 1 (pv 1)) da_nil))) de_int) (de_op op_mulA d_mulA de_int (de_var 1 (pv 1)))) de_int) de_int))
    (dss_one (ds_ret (de_op op_mod d_mod (de_op op_mod d_mod (de_op op_mod d_mod (de_op op_pow d_pow (de_var 3 (pv 3)) de_int) de_int) de_int) (de_var 2 (pv 2))))))
theorem ok__law_draw {f : Addr} {fd : FuncData} (B : Bl K mg) (F : Fun K "_law_draw" "_law_draw" s__law_draw f fd)
    {a__law_mixed : Addr} {e__law_mixed : FuncData} (C__law_mixed : Cd K mg "_law_mixed" s__law_mixed ["_law_script", "_law_k", "_law_many"] a__law_mixed e__law_mixed) (G__law_mixed : FnOk P Wd.w K mg base (L2.CX P Wd.w) 2 a__law_mixed e__law_mixed ["_law_script", "_law_k", "_law_many"] (spD K mg d__law_mixed)) :
    FnOk P Wd.w K mg base (L2.CX P Wd.w) 3 f fd ["_law_script", "_law_state", "_law_many"] (spD K mg d__law_draw) :=
  fn_ok F sc__law_draw rfl rfl fun cdv A outer s H vs E env0 hr => by
    exact (dss_cons (ds_expr (de_met m_app PySem.F.slot_list_append PySem.F.type_list_append mt_append (de_var 1 (pv 1)) (da_cons de_int da_nil)))
    (dss_one (ds_ret (de_call G__law_mixed (hr.mono (by decide)) (by rfl) C__law_mixed.g C__law_mixed.F.kp C__law_mixed.b (takes_of rfl rfl rfl rfl) (da_cons (de_var 0 (pv 0)) (da_cons (de_b d_len call_lenA (by rfl) B.b_len bo_len (da_cons (de_var 1 (pv 1)) da_nil)) (da_cons (de_var 2 (pv 2)) da_nil)))))))
theorem ok__law_pick {f : Addr} {fd : FuncData} (B : Bl K mg) (F : Fun K "_law_pick" "_law_pick" s__law_pick f fd)
    {a__law_draw : Addr} {e__law_draw : FuncData} (C__law_draw : Cd K mg "_law_draw" s__law_draw ["_law_script", "_law_state", "_law_many"] a__law_draw e__law_draw) (G__law_draw : FnOk P Wd.w K mg base (L2.CX P Wd.w) 3 a__law_draw e__law_draw ["_law_script", "_law_state", "_law_many"] (spD K mg d__law_draw)) :
    FnOk P Wd.w K mg base (L2.CX P Wd.w) 4 f fd ["_law_script", "_law_state", "_law_some"] (spD K mg d__law_pick) :=
  fn_ok F sc__law_pick rfl rfl fun cdv A outer s H vs E env0 hr => by
    exact (dss_one (ds_ret (de_ix (de_var 2 (pv 2)) (de_callI 1 G__law_draw (hr.mono (by decide)) (by rfl) C__law_draw.g C__law_draw.F.kp C__law_draw.b (takes_of rfl rfl rfl rfl) (da_cons (de_var 0 (pv 0)) (da_cons (de_var 1 (pv 1)) (da_cons (de_b d_len call_lenA (by rfl) B.b_len bo_len (da_cons (de_var 2 (pv 2)) da_nil)) da_nil)))) (fun _ _ => rfl))))
theorem ok__law_some_rule {f : Addr} {fd : FuncData} (B : Bl K mg) (F : Fun K "_law_some_rule" "_law_some_rule" s__law_some_rule f fd)
    {a__law_draw : Addr} {e__law_draw : FuncData} (C__law_draw : Cd K mg "_law_draw" s__law_draw ["_law_script", "_law_state", "_law_many"] a__law_draw e__law_draw) (G__law_draw : FnOk P Wd.w K mg base (L2.CX P Wd.w) 3 a__law_draw e__law_draw ["_law_script", "_law_state", "_law_many"] (spD K mg d__law_draw))
    {a__law_pick : Addr} {e__law_pick : FuncData} (C__law_pick : Cd K mg "_law_pick" s__law_pick ["_law_script", "_law_state", "_law_some"] a__law_pick e__law_pick) (G__law_pick : FnOk P Wd.w K mg base (L2.CX P Wd.w) 4 a__law_pick e__law_pick ["_law_script", "_law_state", "_law_some"] (spD K mg d__law_pick)) :
    FnOk P Wd.w K mg base (L2.CX P Wd.w) 5 f fd ["_law_script", "_law_state", "_law_goods", "_law_capped"] (spD K mg d__law_some_rule) :=
  fn_ok F sc__law_some_rule rfl rfl fun cdv A outer s H vs E env0 hr => by
    exact (dss_cons (ds_set (i := 4) sc__law_some_rule.nd rfl (by first | exact .inl rfl | exact .inr rfl) (de_callI 1 G__law_draw (hr.mono (by decide)) (by rfl) C__law_draw.g C__law_draw.F.kp C__law_draw.b (takes_of rfl rfl rfl rfl) (da_cons (de_var 0 (pv 0)) (da_cons (de_var 1 (pv 1)) (da_cons de_int da_nil)))))
    (dss_cons (ds_set (i := 5) sc__law_some_rule.nd rfl (by first | exact .inl rfl | exact .inr rfl) (de_callI 1 G__law_draw (hr.mono (by decide)) (by rfl) C__law_draw.g C__law_draw.F.kp C__law_draw.b (takes_of rfl rfl rfl rfl) (da_cons (de_var 0 (pv 0)) (da_cons (de_var 1 (pv 1)) (da_cons (de_b d_len call_lenA (by rfl) B.b_len bo_len (da_cons (de_var 2 (pv 2)) da_nil)) da_nil)))))
    (dss_cons (ds_set (i := 6) sc__law_some_rule.nd rfl (by first | exact .inl rfl | exact .inr rfl) (de_ix (de_ix (de_var 2 (pv 2)) (de_var 5 (pv 5)) (fun _ _ => rfl)) de_int (fun _ _ => rfl)))
    (dss_cons (ds_if (dt_cmp op_lt d_lt (de_var 4 (pv 4)) de_int (nomark _)) (dss_cons (ds_set (i := 9) sc__law_some_rule.nd rfl (by first | exact .inl rfl | exact .inr rfl) (de_op op_addA d_add de_int (de_callI 1 G__law_draw (hr.mono (by decide)) (by rfl) C__law_draw.g C__law_draw.F.kp C__law_draw.b (takes_of rfl rfl rfl rfl) (da_cons (de_var 0 (pv 0)) (da_cons (de_var 1 (pv 1)) (da_cons de_int da_nil))))))
    (dss_cons (ds_set (i := 10) sc__law_some_rule.nd rfl (by first | exact .inl rfl | exact .inr rfl) (de_b d_max2 (call_max2 rfl) (by rfl) B.b_max bo_max (da_cons (de_var 9 (pv 9)) (da_cons (de_op op_sub d_sub (de_op op_mulA d_mulA (de_var 9 (pv 9)) (de_var 6 (pv 6))) (de_callI 1 G__law_draw (hr.mono (by decide)) (by rfl) C__law_draw.g C__law_draw.F.kp C__law_draw.b (takes_of rfl rfl rfl rfl) (da_cons (de_var 0 (pv 0)) (da_cons (de_var 1 (pv 1)) (da_cons (de_op op_addA d_add (de_op op_mulA d_mulA de_int (de_var 9 (pv 9))) de_int) da_nil))))) da_nil))))
    (dss_one (ds_ret (de_tup (da_cons de_str (da_cons (de_var 5 (pv 5)) (da_cons (de_var 9 (pv 9)) (da_cons (de_var 10 (pv 10)) (da_cons (de_callI 1 G__law_pick (hr.mono (by decide)) (by rfl) C__law_pick.g C__law_pick.F.kp C__law_pick.b (takes_of rfl rfl rfl rfl) (da_cons (de_var 0 (pv 0)) (da_cons (de_var 1 (pv 1)) (da_cons (de_tup (da_cons de_non (da_cons de_non (da_cons de_int (da_cons de_int da_nil))))) da_nil)))) da_nil)))))))))) dss_nil)
    (dss_cons (ds_if (dt_cmp (op_eqA hr.units) d_eqA (de_var 4 (pv 4)) de_int (nomark _)) (dss_one (ds_ret (de_tup (da_cons de_str (da_cons (de_var 5 (pv 5)) (da_cons (de_op op_addA d_add de_int (de_callI 1 G__law_draw (hr.mono (by decide)) (by rfl) C__law_draw.g C__law_draw.F.kp C__law_draw.b (takes_of rfl rfl rfl rfl) (da_cons (de_var 0 (pv 0)) (da_cons (de_var 1 (pv 1)) (da_cons de_int da_nil))))) (da_cons (de_b d_max2 (call_max2 rfl) (by rfl) B.b_max bo_max (da_cons de_int (da_cons (de_op op_sub d_sub (de_var 6 (pv 6)) (de_callI 1 G__law_draw (hr.mono (by decide)) (by rfl) C__law_draw.g C__law_draw.F.kp C__law_draw.b (takes_of rfl rfl rfl rfl) (da_cons (de_var 0 (pv 0)) (da_cons (de_var 1 (pv 1)) (da_cons de_int da_nil))))) da_nil))) da_nil))))))) dss_nil)
    (dss_cons (ds_if (dt_cmp (op_eqA hr.units) d_eqA (de_var 4 (pv 4)) de_int (nomark _)) (dss_cons (ds_set (i := 7) sc__law_some_rule.nd rfl (by first | exact .inl rfl | exact .inr rfl) (de_op op_addA d_add de_int (de_callI 1 G__law_draw (hr.mono (by decide)) (by rfl) C__law_draw.g C__law_draw.F.kp C__law_draw.b (takes_of rfl rfl rfl rfl) (da_cons (de_var 0 (pv 0)) (da_cons (de_var 1 (pv 1)) (da_cons de_int da_nil))))))
    (dss_one (ds_ret (de_tup (da_cons de_str (da_cons (de_var 7 (pv 7)) (da_cons (de_op op_addA d_add de_int (de_callI 1 G__law_draw (hr.mono (by decide)) (by rfl) C__law_draw.g C__law_draw.F.kp C__law_draw.b (takes_of rfl rfl rfl rfl) (da_cons (de_var 0 (pv 0)) (da_cons (de_var 1 (pv 1)) (da_cons de_int da_nil))))) da_nil))))))) dss_nil)
    (dss_cons (ds_set (i := 7) sc__law_some_rule.nd rfl (by first | exact .inl rfl | exact .inr rfl) (de_op op_addA d_add de_int (de_callI 1 G__law_draw (hr.mono (by decide)) (by rfl) C__law_draw.g C__law_draw.F.kp C__law_draw.b (takes_of rfl rfl rfl rfl) (da_cons (de_var 0 (pv 0)) (da_cons (de_var 1 (pv 1)) (da_cons de_int da_nil))))))
    (dss_cons (ds_set (i := 8) sc__law_some_rule.nd rfl (by first | exact .inl rfl | exact .inr rfl) (de_callI 1 G__law_pick (hr.mono (by decide)) (by rfl) C__law_pick.g C__law_pick.F.kp C__law_pick.b (takes_of rfl rfl rfl rfl) (da_cons (de_var 0 (pv 0)) (da_cons (de_var 1 (pv 1)) (da_cons (de_if (dt_val (de_var 3 (pv 3))) (de_tup (da_cons de_int (da_cons de_int da_nil))) (de_tup (da_cons de_non (da_cons de_non (da_cons de_int (da_cons de_int da_nil)))))) da_nil)))))
    (dss_one (ds_ret (de_tup (da_cons de_str (da_cons (de_var 7 (pv 7)) (da_cons (de_op op_addA d_add de_int (de_callI 1 G__law_draw (hr.mono (by decide)) (by rfl) C__law_draw.g C__law_draw.F.kp C__law_draw.b (takes_of rfl rfl rfl rfl) (da_cons (de_var 0 (pv 0)) (da_cons (de_var 1 (pv 1)) (da_cons (de_op op_fdiv d_fdiv (de_var 7 (pv 7)) de_int) da_nil))))) (da_cons (de_var 8 (pv 8)) da_nil)))))))))))))))
theorem ok__law_some_goods {f : Addr} {fd : FuncData} (B : Bl K mg) (F : Fun K "_law_some_goods" "_law_some_goods" s__law_some_goods f fd)
    {a__law_draw : Addr} {e__law_draw : FuncData} (C__law_draw : Cd K mg "_law_draw" s__law_draw ["_law_script", "_law_state", "_law_many"] a__law_draw e__law_draw) (G__law_draw : FnOk P Wd.w K mg base (L2.CX P Wd.w) 3 a__law_draw e__law_draw ["_law_script", "_law_state", "_law_many"] (spD K mg d__law_draw)) :
    FnOk P Wd.w K mg base (L2.CX P Wd.w) 4 f fd ["_law_script", "_law_state"] (spD K mg d__law_some_goods) :=
  fn_ok F sc__law_some_goods rfl rfl fun cdv A outer s H vs E env0 hr => by
    exact (dss_cons (ds_set (i := 2) sc__law_some_goods.nd rfl (by first | exact .inl rfl | exact .inr rfl) (de_if (dt_cmp (op_eqA hr.units) d_eqA (de_callI 1 G__law_draw (hr.mono (by decide)) (by rfl) C__law_draw.g C__law_draw.F.kp C__law_draw.b (takes_of rfl rfl rfl rfl) (da_cons (de_var 0 (pv 0)) (da_cons (de_var 1 (pv 1)) (da_cons de_int da_nil)))) de_int (nomark _)) de_int de_int))
    (dss_one (ds_ret (de_ty d_tuple call_tuple_of (by rfl) B.b_tuple bo_tuple (da_cons (de_lc (own := [("_law_again", 3)]) (t := (.one 3)) rfl sc__law_some_goods.nd (di_range1 (by rfl) B.b_range (da_cons (de_var 2 (pv 2)) da_nil)) (blkOk_by (own := [("_law_again", 3)]) (N := ["_law_script", "_law_state", "_law_count", "_law_again"]) (sc := defScope s__law_some_goods) (by first | decide +kernel | (dsimp only [Cx.blk, compEnvC]; rw [relabel_is]; dsimp only [cxOf, PyProof.Rows.envOfC]; decide +kernel))) (fun _ _ _ _ _ => (pg_name (i := 3) sc__law_some_goods.nd rfl (by first | exact .inl rfl | exact .inr rfl))) (fun _ _ _ _ _ => dts_nil) (fun _ _ _ _ _ => (de_tup (da_cons (de_op op_addA d_add de_int (de_callI 1 G__law_draw (hr.mono (by decide)) (by rfl) C__law_draw.g C__law_draw.F.kp C__law_draw.b takes0 (da_cons (de_var 0 (pv 0)) (da_cons (de_var 1 (pv 1)) (da_cons de_int da_nil))))) (da_cons (de_callI 1 G__law_draw (hr.mono (by decide)) (by rfl) C__law_draw.g C__law_draw.F.kp C__law_draw.b takes0 (da_cons (de_var 0 (pv 0)) (da_cons (de_var 1 (pv 1)) (da_cons de_int da_nil)))) da_nil)))) (by simp [CT.ins])) da_nil)))))
theorem ok__law_some_shop {f : Addr} {fd : FuncData} (B : Bl K mg) (F : Fun K "_law_some_shop" "_law_some_shop" s__law_some_shop f fd)
    {a__law_some_goods : Addr} {e__law_some_goods : FuncData} (C__law_some_goods : Cd K mg "_law_some_goods" s__law_some_goods ["_law_script", "_law_state"] a__law_some_goods e__law_some_goods) (G__law_some_goods : FnOk P Wd.w K mg base (L2.CX P Wd.w) 4 a__law_some_goods e__law_some_goods ["_law_script", "_law_state"] (spD K mg d__law_some_goods))
    {a__law_draw : Addr} {e__law_draw : FuncData} (C__law_draw : Cd K mg "_law_draw" s__law_draw ["_law_script", "_law_state", "_law_many"] a__law_draw e__law_draw) (G__law_draw : FnOk P Wd.w K mg base (L2.CX P Wd.w) 3 a__law_draw e__law_draw ["_law_script", "_law_state", "_law_many"] (spD K mg d__law_draw))
    {a__law_some_rule : Addr} {e__law_some_rule : FuncData} (C__law_some_rule : Cd K mg "_law_some_rule" s__law_some_rule ["_law_script", "_law_state", "_law_goods", "_law_capped"] a__law_some_rule e__law_some_rule) (G__law_some_rule : FnOk P Wd.w K mg base (L2.CX P Wd.w) 5 a__law_some_rule e__law_some_rule ["_law_script", "_law_state", "_law_goods", "_law_capped"] (spD K mg d__law_some_rule)) :
    FnOk P Wd.w K mg base (L2.CX P Wd.w) 6 f fd ["_law_script", "_law_state"] (spD K mg d__law_some_shop) :=
  fn_ok F sc__law_some_shop rfl rfl fun cdv A outer s H vs E env0 hr => by
    exact (dss_cons (ds_par (i := 3) (j := 4) rfl sc__law_some_shop.nd rfl rfl (by decide) rfl rfl (da_cons (de_callI 1 G__law_some_goods (hr.mono (by decide)) (by rfl) C__law_some_goods.g C__law_some_goods.F.kp C__law_some_goods.b (takes_of rfl rfl rfl rfl) (da_cons (de_var 0 (pv 0)) (da_cons (de_var 1 (pv 1)) da_nil))) (da_cons (de_lst da_nil) da_nil)))
    (dss_cons (ds_for (passes_of rfl) rfl (di_range1 (by rfl) B.b_range (da_cons (de_callI 1 G__law_draw (hr.mono (by decide)) (by rfl) C__law_draw.g C__law_draw.F.kp C__law_draw.b (takes_of rfl rfl rfl rfl) (da_cons (de_var 0 (pv 0)) (da_cons (de_var 1 (pv 1)) (da_cons de_int da_nil)))) da_nil)) (dg_name (pg_name (i := 2) sc__law_some_shop.nd rfl (by first | exact .inl rfl | exact .inr rfl))) (dss_cons (ds_set (i := 5) sc__law_some_shop.nd rfl (by first | exact .inl rfl | exact .inr rfl) (de_b d_any (cr_any rfl) (by rfl) B.b_any bo_any (da_cons (de_lc (own := [("_law_rule", 6)]) (t := (.one 6)) rfl sc__law_some_shop.nd (di_list false (de_var 4 (pv 4))) (blkOk_by (own := [("_law_rule", 6)]) (N := ["_law_script", "_law_state", "_law_again", "_law_goods", "_law_rules", "_law_capped", "_law_rule"]) (sc := defScope s__law_some_shop) (by first | decide +kernel | (dsimp only [Cx.blk, compEnvC]; rw [relabel_is]; dsimp only [cxOf, PyProof.Rows.envOfC]; decide +kernel))) (fun _ _ _ _ _ => (pg_name (i := 6) sc__law_some_shop.nd rfl (by first | exact .inl rfl | exact .inr rfl))) (fun _ _ _ _ _ => dts_nil) (fun _ _ _ _ _ => (de_and (de_cmp (op_eqA hr.units) d_eqA (de_ix (de_var 6 (pv 6)) de_int (fun _ _ => rfl)) de_str (nomark _)) (de_one (de_cmp op_is d_is (de_ix (de_var 6 (pv 6)) de_int (fun _ _ => rfl)) de_non (nomark _))))) (by simp [CT.ins])) da_nil)))
    (dss_one (ds_expr (de_met m_app PySem.F.slot_list_append PySem.F.type_list_append mt_append (de_var 4 (pv 4)) (da_cons (de_callI 1 G__law_some_rule (hr.mono (by decide)) (by rfl) C__law_some_rule.g C__law_some_rule.F.kp C__law_some_rule.b (takes_of rfl rfl rfl rfl) (da_cons (de_var 0 (pv 0)) (da_cons (de_var 1 (pv 1)) (da_cons (de_var 3 (pv 3)) (da_cons (de_var 5 (pv 5)) da_nil))))) da_nil))))))
    (dss_one (ds_ret (de_tup (da_cons (de_var 3 (pv 3)) (da_cons (de_ty d_tuple call_tuple_of (by rfl) B.b_tuple bo_tuple (da_cons (de_var 4 (pv 4)) da_nil)) da_nil)))))))
theorem ok__law_some_basket {f : Addr} {fd : FuncData} (B : Bl K mg) (F : Fun K "_law_some_basket" "_law_some_basket" s__law_some_basket f fd)
    {a__law_pick : Addr} {e__law_pick : FuncData} (C__law_pick : Cd K mg "_law_pick" s__law_pick ["_law_script", "_law_state", "_law_some"] a__law_pick e__law_pick) (G__law_pick : FnOk P Wd.w K mg base (L2.CX P Wd.w) 4 a__law_pick e__law_pick ["_law_script", "_law_state", "_law_some"] (spD K mg d__law_pick))
    {a__law_draw : Addr} {e__law_draw : FuncData} (C__law_draw : Cd K mg "_law_draw" s__law_draw ["_law_script", "_law_state", "_law_many"] a__law_draw e__law_draw) (G__law_draw : FnOk P Wd.w K mg base (L2.CX P Wd.w) 3 a__law_draw e__law_draw ["_law_script", "_law_state", "_law_many"] (spD K mg d__law_draw)) :
    FnOk P Wd.w K mg base (L2.CX P Wd.w) 5 f fd ["_law_script", "_law_state", "_law_shop"] (spD K mg d__law_some_basket) :=
  fn_ok F sc__law_some_basket rfl rfl fun cdv A outer s H vs E env0 hr => by
    exact (dss_cons (ds_set (i := 3) sc__law_some_basket.nd rfl (by first | exact .inl rfl | exact .inr rfl) (de_callI 1 G__law_pick (hr.mono (by decide)) (by rfl) C__law_pick.g C__law_pick.F.kp C__law_pick.b (takes_of rfl rfl rfl rfl) (da_cons (de_var 0 (pv 0)) (da_cons (de_var 1 (pv 1)) (da_cons (de_tup (da_cons de_int (da_cons de_int (da_cons de_int (da_cons de_int da_nil))))) da_nil)))))
    (dss_one (ds_ret (de_ty d_tuple call_tuple_of (by rfl) B.b_tuple bo_tuple (da_cons (de_lc (own := [("_law_good", 4)]) (t := (.one 4)) rfl sc__law_some_basket.nd (di_tup (de_ix (de_var 2 (pv 2)) de_int (fun _ _ => rfl))) (blkOk_by (own := [("_law_good", 4)]) (N := ["_law_script", "_law_state", "_law_shop", "_law_most", "_law_good"]) (sc := defScope s__law_some_basket) (by first | decide +kernel | (dsimp only [Cx.blk, compEnvC]; rw [relabel_is]; dsimp only [cxOf, PyProof.Rows.envOfC]; decide +kernel))) (fun _ _ _ _ _ => (pg_name (i := 4) sc__law_some_basket.nd rfl (by first | exact .inl rfl | exact .inr rfl))) (fun _ _ _ _ _ => dts_nil) (fun _ _ _ _ _ => (de_callI 1 G__law_draw (hr.mono (by decide)) (by rfl) C__law_draw.g C__law_draw.F.kp C__law_draw.b takes0 (da_cons (de_var 0 (pv 0)) (da_cons (de_var 1 (pv 1)) (da_cons (de_var 3 (pv 3)) da_nil))))) (by simp [CT.ins])) da_nil)))))
theorem ok__law_all_acts {f : Addr} {fd : FuncData} (B : Bl K mg) (F : Fun K "_law_all_acts" "_law_all_acts" s__law_all_acts f fd) :
    FnOk P Wd.w K mg base (L2.CX P Wd.w) 1 f fd ["_law_shop"] (spD K mg d__law_all_acts) :=
  fn_ok F sc__law_all_acts rfl rfl fun cdv A outer s H vs E env0 hr => by
    exact (dss_cons (ds_set (i := 1) sc__law_all_acts.nd rfl (by first | exact .inl rfl | exact .inr rfl) (de_lst da_nil))
    (dss_cons (ds_for (passes_of rfl) rfl (di_enum true (by rfl) B.b_enumerate (da_cons (de_ix (de_var 0 (pv 0)) de_int (fun _ _ => rfl)) da_nil)) (dg_tup rfl (dgs_cons (dg_name (pg_name (i := 2) sc__law_all_acts.nd rfl (by first | exact .inl rfl | exact .inr rfl))) (dgs_cons (dg_name (pg_name (i := 3) sc__law_all_acts.nd rfl (by first | exact .inl rfl | exact .inr rfl))) dgs_nil))) (dss_cons (ds_expr (de_met m_app PySem.F.slot_list_append PySem.F.type_list_append mt_append (de_var 1 (pv 1)) (da_cons (de_tup (da_cons de_str (da_cons (de_var 2 (pv 2)) da_nil))) da_nil)))
    (dss_one (ds_if (dt_cmp op_in_seq (d_in false) (de_ix (de_var 3 (pv 3)) de_int (fun _ _ => rfl)) (de_tup (da_cons de_str (da_cons de_str da_nil))) (by with_unfolding_all rfl)) (dss_one (ds_expr (de_met m_ext PySem.F.slot_list_extend PySem.F.type_list_extend mt_extend (de_var 1 (pv 1)) (da_cons (de_lc (own := [("_law_most", 4)]) (t := (.one 4)) rfl sc__law_all_acts.nd (di_tup (de_tup (da_cons de_int (da_cons de_int da_nil)))) (blkOk_by (own := [("_law_most", 4)]) (N := ["_law_shop", "_law_found", "_law_number", "_law_rule", "_law_most"]) (sc := defScope s__law_all_acts) (by first | decide +kernel | (dsimp only [Cx.blk, compEnvC]; rw [relabel_is]; dsimp only [cxOf, PyProof.Rows.envOfC]; decide +kernel))) (fun _ _ _ _ _ => (pg_name (i := 4) sc__law_all_acts.nd rfl (by first | exact .inl rfl | exact .inr rfl))) (fun _ _ _ _ _ => (dts_one (PW.pt (dt_or (dt_cmp op_is d_is (de_ix (de_var 3 (pv 3)) (de_un un_neg d_neg de_int) (fun _ _ => rfl)) de_non (nomark _)) (dt_or1 (dt_cmp op_lt d_lt (de_var 4 (pv 4)) (de_ix (de_var 3 (pv 3)) (de_un un_neg d_neg de_int) (fun _ _ => rfl)) (nomark _))))))) (fun _ _ _ _ _ => (de_tup (da_cons de_str (da_cons (de_var 2 (pv 2)) (da_cons (de_var 4 (pv 4)) da_nil))))) (by simp [CT.ins])) da_nil)))) dss_nil))))
    (dss_one (ds_ret (de_b d_sorted (cr_sortedDD hr.units) (by rfl) B.b_sorted bo_sorted (da_cons (de_var 1 (pv 1)) da_nil))))))
theorem ok__law_some_of {f : Addr} {fd : FuncData} (B : Bl K mg) (F : Fun K "_law_some_of" "_law_some_of" s__law_some_of f fd)
    {a__law_draw : Addr} {e__law_draw : FuncData} (C__law_draw : Cd K mg "_law_draw" s__law_draw ["_law_script", "_law_state", "_law_many"] a__law_draw e__law_draw) (G__law_draw : FnOk P Wd.w K mg base (L2.CX P Wd.w) 3 a__law_draw e__law_draw ["_law_script", "_law_state", "_law_many"] (spD K mg d__law_draw)) :
    FnOk P Wd.w K mg base (L2.CX P Wd.w) 4 f fd ["_law_script", "_law_state", "_law_some", "_law_count"] (spD K mg d__law_some_of) :=
  fn_ok F sc__law_some_of rfl rfl fun cdv A outer s H vs E env0 hr => by
    exact (dss_cons (ds_par (i := 4) (j := 5) rfl sc__law_some_of.nd rfl rfl (by decide) rfl rfl (da_cons (de_ty d_list call_list_of (by rfl) B.b_list bo_list (da_cons (de_var 2 (pv 2)) da_nil)) (da_cons (de_lst da_nil) da_nil)))
    (dss_cons (ds_while 1000 (passes_of rfl) (PW.pt (dt_and (dt_cmp (op_neA hr.units) d_neA (de_var 4 (pv 4)) (de_lst da_nil) (nomark _)) (dt_and1 (dt_cmp op_lt d_lt (de_b d_len call_lenA (by rfl) B.b_len bo_len (da_cons (de_var 5 (pv 5)) da_nil)) (de_var 3 (pv 3)) (nomark _))))) (dss_one (ds_expr (de_met m_app PySem.F.slot_list_append PySem.F.type_list_append mt_append (de_var 5 (pv 5)) (da_cons (de_met m_popAt PySem.F.slot_list_pop PySem.F.type_list_pop mt_popAt (de_var 4 (pv 4)) (da_cons (de_callI 1 G__law_draw (hr.mono (by decide)) (by rfl) C__law_draw.g C__law_draw.F.kp C__law_draw.b (takes_of rfl rfl rfl rfl) (da_cons (de_var 0 (pv 0)) (da_cons (de_var 1 (pv 1)) (da_cons (de_b d_len call_lenA (by rfl) B.b_len bo_len (da_cons (de_var 4 (pv 4)) da_nil)) da_nil)))) da_nil)) da_nil)))))
    (dss_one (ds_ret (de_ty d_tuple call_tuple_of (by rfl) B.b_tuple bo_tuple (da_cons (de_b d_sorted (cr_sortedDD hr.units) (by rfl) B.b_sorted bo_sorted (da_cons (de_var 5 (pv 5)) da_nil)) da_nil))))))
theorem ok__law_some_acts {f : Addr} {fd : FuncData} (B : Bl K mg) (F : Fun K "_law_some_acts" "_law_some_acts" s__law_some_acts f fd)
    {a__law_all_acts : Addr} {e__law_all_acts : FuncData} (C__law_all_acts : Cd K mg "_law_all_acts" s__law_all_acts ["_law_shop"] a__law_all_acts e__law_all_acts) (G__law_all_acts : FnOk P Wd.w K mg base (L2.CX P Wd.w) 1 a__law_all_acts e__law_all_acts ["_law_shop"] (spD K mg d__law_all_acts))
    {a__law_some_of : Addr} {e__law_some_of : FuncData} (C__law_some_of : Cd K mg "_law_some_of" s__law_some_of ["_law_script", "_law_state", "_law_some", "_law_count"] a__law_some_of e__law_some_of) (G__law_some_of : FnOk P Wd.w K mg base (L2.CX P Wd.w) 4 a__law_some_of e__law_some_of ["_law_script", "_law_state", "_law_some", "_law_count"] (spD K mg d__law_some_of))
    {a__law_draw : Addr} {e__law_draw : FuncData} (C__law_draw : Cd K mg "_law_draw" s__law_draw ["_law_script", "_law_state", "_law_many"] a__law_draw e__law_draw) (G__law_draw : FnOk P Wd.w K mg base (L2.CX P Wd.w) 3 a__law_draw e__law_draw ["_law_script", "_law_state", "_law_many"] (spD K mg d__law_draw)) :
    FnOk P Wd.w K mg base (L2.CX P Wd.w) 5 f fd ["_law_script", "_law_state", "_law_shop", "_law_most"] (spD K mg d__law_some_acts) :=
  fn_ok F sc__law_some_acts rfl rfl fun cdv A outer s H vs E env0 hr => by
    exact (dss_cons (ds_set (i := 4) sc__law_some_acts.nd rfl (by first | exact .inl rfl | exact .inr rfl) (de_call G__law_all_acts (hr.mono (by decide)) (by rfl) C__law_all_acts.g C__law_all_acts.F.kp C__law_all_acts.b (takes_of rfl rfl rfl rfl) (da_cons (de_var 2 (pv 2)) da_nil)))
    (dss_one (ds_ret (de_if (dt_cmp (op_neA hr.units) d_neA (de_var 4 (pv 4)) (de_lst da_nil) (nomark _)) (de_callI 1 G__law_some_of (hr.mono (by decide)) (by rfl) C__law_some_of.g C__law_some_of.F.kp C__law_some_of.b (takes_of rfl rfl rfl rfl) (da_cons (de_var 0 (pv 0)) (da_cons (de_var 1 (pv 1)) (da_cons (de_var 4 (pv 4)) (da_cons (de_callI 1 G__law_draw (hr.mono (by decide)) (by rfl) C__law_draw.g C__law_draw.F.kp C__law_draw.b (takes_of rfl rfl rfl rfl) (da_cons (de_var 0 (pv 0)) (da_cons (de_var 1 (pv 1)) (da_cons (de_op op_addA d_add (de_var 3 (pv 3)) de_int) da_nil)))) da_nil))))) (de_tup da_nil)))))
theorem ok_law {f : Addr} {fd : FuncData} (B : Bl K mg) (F : Fun K "law" "law" s_law f fd)
    {a__law_some_shop : Addr} {e__law_some_shop : FuncData} (C__law_some_shop : Cd K mg "_law_some_shop" s__law_some_shop ["_law_script", "_law_state"] a__law_some_shop e__law_some_shop) (G__law_some_shop : FnOk P Wd.w K mg base (L2.CX P Wd.w) 6 a__law_some_shop e__law_some_shop ["_law_script", "_law_state"] (spD K mg d__law_some_shop))
    {a__law_some_acts : Addr} {e__law_some_acts : FuncData} (C__law_some_acts : Cd K mg "_law_some_acts" s__law_some_acts ["_law_script", "_law_state", "_law_shop", "_law_most"] a__law_some_acts e__law_some_acts) (G__law_some_acts : FnOk P Wd.w K mg base (L2.CX P Wd.w) 5 a__law_some_acts e__law_some_acts ["_law_script", "_law_state", "_law_shop", "_law_most"] (spD K mg d__law_some_acts))
    {a__law_some_basket : Addr} {e__law_some_basket : FuncData} (C__law_some_basket : Cd K mg "_law_some_basket" s__law_some_basket ["_law_script", "_law_state", "_law_shop"] a__law_some_basket e__law_some_basket) (G__law_some_basket : FnOk P Wd.w K mg base (L2.CX P Wd.w) 5 a__law_some_basket e__law_some_basket ["_law_script", "_law_state", "_law_shop"] (spD K mg d__law_some_basket))
    {a__law_all_acts : Addr} {e__law_all_acts : FuncData} (C__law_all_acts : Cd K mg "_law_all_acts" s__law_all_acts ["_law_shop"] a__law_all_acts e__law_all_acts) (G__law_all_acts : FnOk P Wd.w K mg base (L2.CX P Wd.w) 1 a__law_all_acts e__law_all_acts ["_law_shop"] (spD K mg d__law_all_acts))
    {a_charge : Addr} {e_charge : FuncData} (C_charge : Cd K mg "charge" s_charge ["shop", "basket"] a_charge e_charge) (G_charge : FnOk P Wd.w K mg base (L2.CX P Wd.w) 11 a_charge e_charge ["shop", "basket"] (spD K mg d_charge))
    {a_shop_under : Addr} {e_shop_under : FuncData} (C_shop_under : Cd K mg "shop_under" s_shop_under ["shop", "acts"] a_shop_under e_shop_under) (G_shop_under : FnOk P Wd.w K mg base (L2.CX P Wd.w) 11 a_shop_under e_shop_under ["shop", "acts"] (spD K mg d_shop_under))
    {a_touches : Addr} {e_touches : FuncData} (C_touches : Cd K mg "touches" s_touches ["shop", "acts", "act", "basket"] a_touches e_touches) (G_touches : FnOk P Wd.w K mg base (L2.CX P Wd.w) 11 a_touches e_touches ["shop", "acts", "act", "basket"] (spD K mg d_touches)) :
    FnOk P Wd.w K mg base (L2.CX P Wd.w) 12 f fd ["_law_script"] (spD K mg d_law) :=
  fn_ok F sc_law rfl rfl fun cdv A outer s H vs E env0 hr => by
    exact (dss_cons (ds_set (i := 1) sc_law.nd rfl (by first | exact .inl rfl | exact .inr rfl) (de_lst da_nil))
    (dss_cons (ds_set (i := 2) sc_law.nd rfl (by first | exact .inl rfl | exact .inr rfl) (de_callI 1 G__law_some_shop (hr.mono (by decide)) (by rfl) C__law_some_shop.g C__law_some_shop.F.kp C__law_some_shop.b (takes_of rfl rfl rfl rfl) (da_cons (de_var 0 (pv 0)) (da_cons (de_var 1 (pv 1)) da_nil))))
    (dss_cons (ds_set (i := 3) sc_law.nd rfl (by first | exact .inl rfl | exact .inr rfl) (de_callI 1 G__law_some_acts (hr.mono (by decide)) (by rfl) C__law_some_acts.g C__law_some_acts.F.kp C__law_some_acts.b (takes_of rfl rfl rfl rfl) (da_cons (de_var 0 (pv 0)) (da_cons (de_var 1 (pv 1)) (da_cons (de_var 2 (pv 2)) (da_cons de_int da_nil))))))
    (dss_cons (ds_for (passes_of rfl) rfl (di_range1 (by rfl) B.b_range (da_cons de_int da_nil)) (dg_name (pg_name (i := 4) sc_law.nd rfl (by first | exact .inl rfl | exact .inr rfl))) (dss_cons (ds_set (i := 5) sc_law.nd rfl (by first | exact .inl rfl | exact .inr rfl) (de_callI 1 G__law_some_basket (hr.mono (by decide)) (by rfl) C__law_some_basket.g C__law_some_basket.F.kp C__law_some_basket.b (takes_of rfl rfl rfl rfl) (da_cons (de_var 0 (pv 0)) (da_cons (de_var 1 (pv 1)) (da_cons (de_var 2 (pv 2)) da_nil)))))
    (dss_cons (ds_setLc (i := 6) (own := [("_law_act", 8)]) (t := (.one 8)) rfl sc_law.nd rfl rfl (by rfl) (di_tup (de_callI 1 G__law_some_acts (hr.mono (by decide)) (by rfl) C__law_some_acts.g C__law_some_acts.F.kp C__law_some_acts.b (takes_of rfl rfl rfl rfl) (da_cons (de_var 0 (pv 0)) (da_cons (de_var 1 (pv 1)) (da_cons (de_var 2 (pv 2)) (da_cons de_int da_nil)))))) (blkOk_by (own := [("_law_act", 8)]) (N := ["_law_script", "_law_state", "_law_shop", "_law_acts", "_law_again", "_law_basket", "_law_more", "_law_both", "_law_act", "_law_alone"]) (sc := defScope s_law) (by first | decide +kernel | (dsimp only [Cx.blk, compEnvC]; rw [relabel_is]; dsimp only [cxOf, PyProof.Rows.envOfC]; decide +kernel))) (fun _ _ _ _ _ => (pg_name (i := 8) sc_law.nd rfl (by first | exact .inl rfl | exact .inr rfl))) (fun _ _ _ _ _ => (dts_one (dt_not (dt_val (de_call G_touches (hr.mono (by decide)) (by rfl) C_touches.g C_touches.F.kp C_touches.b takes0 (da_cons (de_var 2 (pv 2)) (da_cons (de_var 3 (pv 3)) (da_cons (de_var 8 (pv 8)) (da_cons (de_var 5 (pv 5)) da_nil))))))))) (fun _ _ _ _ _ => (de_var 8 (pv 8))) (by simp [CT.ins]))
    (dss_cons (ds_set (i := 7) sc_law.nd rfl (by first | exact .inl rfl | exact .inr rfl) (de_slice (de_ty d_tuple call_tuple_of (by rfl) B.b_tuple bo_tuple (da_cons (de_setSort (by rfl) B.b_sorted (by rfl) B.b_set (da_cons (de_op op_addA d_add (de_ty d_list call_list_of (by rfl) B.b_list bo_list (da_cons (de_var 3 (pv 3)) da_nil)) (de_var 6 (pv 6))) da_nil) hr.units) da_nil)) do_none (do_some de_int)))
    (dss_cons (ds_if (dt_not (dt_val (de_b d_all (cr_all rfl) (by rfl) B.b_all bo_all (da_cons (de_lc (own := [("_law_act", 8)]) (t := (.one 8)) rfl sc_law.nd (di_tup (de_var 3 (pv 3))) (blkOk_by (own := [("_law_act", 8)]) (N := ["_law_script", "_law_state", "_law_shop", "_law_acts", "_law_again", "_law_basket", "_law_more", "_law_both", "_law_act", "_law_alone"]) (sc := defScope s_law) (by first | decide +kernel | (dsimp only [Cx.blk, compEnvC]; rw [relabel_is]; dsimp only [cxOf, PyProof.Rows.envOfC]; decide +kernel))) (fun _ _ _ _ _ => (pg_name (i := 8) sc_law.nd rfl (by first | exact .inl rfl | exact .inr rfl))) (fun _ _ _ _ _ => dts_nil) (fun _ _ _ _ _ => (de_cmp (op_inA (u66 hr)) (d_inA false) (de_var 8 (pv 8)) (de_var 7 (pv 7)) (by with_unfolding_all rfl))) (by simp [CT.ins])) da_nil)))) (dss_one (ds_ret de_bl)) dss_nil)
    (dss_cons (ds_if (dt_cmp (op_neA hr.units) d_neA (de_call G_charge (hr.mono (by decide)) (by rfl) C_charge.g C_charge.F.kp C_charge.b (takes_of rfl rfl rfl rfl) (da_cons (de_call G_shop_under (hr.mono (by decide)) (by rfl) C_shop_under.g C_shop_under.F.kp C_shop_under.b (takes_of rfl rfl rfl rfl) (da_cons (de_var 2 (pv 2)) (da_cons (de_var 7 (pv 7)) da_nil))) (da_cons (de_var 5 (pv 5)) da_nil))) (de_call G_charge (hr.mono (by decide)) (by rfl) C_charge.g C_charge.F.kp C_charge.b (takes_of rfl rfl rfl rfl) (da_cons (de_call G_shop_under (hr.mono (by decide)) (by rfl) C_shop_under.g C_shop_under.F.kp C_shop_under.b (takes_of rfl rfl rfl rfl) (da_cons (de_var 2 (pv 2)) (da_cons (de_var 3 (pv 3)) da_nil))) (da_cons (de_var 5 (pv 5)) da_nil))) (nomark _)) (dss_one (ds_ret de_bl)) dss_nil)
    (dss_one (ds_for (passes_of rfl) rfl (di_list true (de_call G__law_all_acts (hr.mono (by decide)) (by rfl) C__law_all_acts.g C__law_all_acts.F.kp C__law_all_acts.b (takes_of rfl rfl rfl rfl) (da_cons (de_var 2 (pv 2)) da_nil))) (dg_name (pg_name (i := 8) sc_law.nd rfl (by first | exact .inl rfl | exact .inr rfl))) (dss_cons (ds_set (i := 9) sc_law.nd rfl (by first | exact .inl rfl | exact .inr rfl) (de_call G_charge (hr.mono (by decide)) (by rfl) C_charge.g C_charge.F.kp C_charge.b (takes_of rfl rfl rfl rfl) (da_cons (de_call G_shop_under (hr.mono (by decide)) (by rfl) C_shop_under.g C_shop_under.F.kp C_shop_under.b (takes_of rfl rfl rfl rfl) (da_cons (de_var 2 (pv 2)) (da_cons (de_tup (da_cons (de_var 8 (pv 8)) da_nil)) da_nil))) (da_cons (de_var 5 (pv 5)) da_nil))))
    (dss_one (ds_if (PW.pt (dt_and (dt_cmp (op_neA hr.units) d_neA (de_var 9 (pv 9)) (de_call G_charge (hr.mono (by decide)) (by rfl) C_charge.g C_charge.F.kp C_charge.b (takes_of rfl rfl rfl rfl) (da_cons (de_var 2 (pv 2)) (da_cons (de_var 5 (pv 5)) da_nil))) (nomark _)) (dt_and1 (dt_cmp op_nis d_nis (de_call G_touches (hr.mono (by decide)) (by rfl) C_touches.g C_touches.F.kp C_touches.b (takes_of rfl rfl rfl rfl) (da_cons (de_var 2 (pv 2)) (da_cons (de_tup da_nil) (da_cons (de_var 8 (pv 8)) (da_cons (de_var 5 (pv 5)) da_nil))))) de_bl (nomark _))))) (dss_one (ds_ret de_bl)) dss_nil)))))))))))
    (dss_one (ds_ret de_bl))))))
end
end DL
namespace DL
open PySem PySem.Spec L2
theorem all_mk {l : PySem.W.OpenLaw} {w : World} {K : PySem.W.Frag} {h : Heap} {mg : Str → Option Value} {fa : Addr} (X : K.In h) (G : h.Ns mainGlobals mg) (hfa : mg "law" = some (.ref fa))
    {f0 f1 f2 f3 f4 f5 f6 f7 f8 f9 f10 f11 f12 f13 f14 f15 f16 f17 f18 f19 f20 f21 f22 f23 f24 f25 f26 f27 f28 f29 f30 f31 f32 f33 f34 f35 f36 f37 f38 f39 f40 f41 f42 f43 f44 f45 f46 f47 f48 f49 f50 f51 f52 f53 : Addr} {od0 an0 od1 an1 od2 an2 od3 an3 od4 an4 od5 an5 od6 an6 od7 an7 od8 an8 od9 an9 od10 an10 od11 an11 od12 an12 od13 an13 od14 an14 od15 an15 od16 an16 od17 an17 od18 an18 od19 an19 od20 an20 od21 an21 od22 an22 od23 an23 od24 an24 od25 an25 od26 an26 od27 an27 od28 an28 od29 an29 od30 an30 od31 an31 od32 an32 od33 an33 od34 an34 od35 an35 od36 an36 od37 an37 od38 an38 od39 an39 od40 an40 od41 an41 od42 an42 od43 an43 od44 an44 od45 an45 od46 an46 od47 an47 od48 an48 od49 an49 od50 an50 od51 an51 od52 an52 od53 an53 : Option Addr} {sl0 sl1 sl2 sl3 sl4 sl5 sl6 sl7 sl8 sl9 sl10 sl11 sl12 sl13 sl14 sl15 sl16 sl17 sl18 sl19 sl20 sl21 sl22 sl23 sl24 sl25 sl26 sl27 sl28 sl29 sl30 sl31 sl32 sl33 sl34 sl35 sl36 sl37 sl38 sl39 sl40 sl41 sl42 sl43 sl44 sl45 sl46 sl47 sl48 sl49 sl50 sl51 sl52 sl53 : Array (Option Value)}
    {oc0 kV0 dc0 pm0 cd0 ct0 oc1 kV1 dc1 pm1 cd1 ct1 oc2 kV2 dc2 pm2 cd2 ct2 oc3 kV3 dc3 pm3 cd3 ct3 oc4 kV4 dc4 pm4 cd4 ct4 oc5 kV5 dc5 pm5 cd5 ct5 oc6 kV6 dc6 pm6 cd6 ct6 oc7 kV7 dc7 pm7 cd7 ct7 oc8 kV8 dc8 pm8 cd8 ct8 oc9 kV9 dc9 pm9 cd9 ct9 oc10 kV10 dc10 pm10 cd10 ct10 oc11 kV11 dc11 pm11 cd11 ct11 oc12 kV12 dc12 pm12 cd12 ct12 oc13 kV13 dc13 pm13 cd13 ct13 oc14 kV14 dc14 pm14 cd14 ct14 oc15 kV15 dc15 pm15 cd15 ct15 oc16 kV16 dc16 pm16 cd16 ct16 oc17 kV17 dc17 pm17 cd17 ct17 oc18 kV18 dc18 pm18 cd18 ct18 oc19 kV19 dc19 pm19 cd19 ct19 oc20 kV20 dc20 pm20 cd20 ct20 oc21 kV21 dc21 pm21 cd21 ct21 oc22 kV22 dc22 pm22 cd22 ct22 oc23 kV23 dc23 pm23 cd23 ct23 oc24 kV24 dc24 pm24 cd24 ct24 oc25 kV25 dc25 pm25 cd25 ct25 oc26 kV26 dc26 pm26 cd26 ct26 oc27 kV27 dc27 pm27 cd27 ct27 oc28 kV28 dc28 pm28 cd28 ct28 oc29 kV29 dc29 pm29 cd29 ct29 oc30 kV30 dc30 pm30 cd30 ct30 oc31 kV31 dc31 pm31 cd31 ct31 oc32 kV32 dc32 pm32 cd32 ct32 oc33 kV33 dc33 pm33 cd33 ct33 oc34 kV34 dc34 pm34 cd34 ct34 oc35 kV35 dc35 pm35 cd35 ct35 oc36 kV36 dc36 pm36 cd36 ct36 oc37 kV37 dc37 pm37 cd37 ct37 oc38 kV38 dc38 pm38 cd38 ct38 oc39 kV39 dc39 pm39 cd39 ct39 oc40 kV40 dc40 pm40 cd40 ct40 oc41 kV41 dc41 pm41 cd41 ct41 oc42 kV42 dc42 pm42 cd42 ct42 oc43 kV43 dc43 pm43 cd43 ct43 oc44 kV44 dc44 pm44 cd44 ct44 oc45 kV45 dc45 pm45 cd45 ct45 oc46 kV46 dc46 pm46 cd46 ct46 oc47 kV47 dc47 pm47 cd47 ct47 oc48 kV48 dc48 pm48 cd48 ct48 oc49 kV49 dc49 pm49 cd49 ct49 oc50 kV50 dc50 pm50 cd50 ct50 oc51 kV51 dc51 pm51 cd51 ct51 oc52 kV52 dc52 pm52 cd52 ct52 oc53 kV53 dc53 pm53 cd53 ct53 : Value}
    (a0 : PySem.W.nsIn K mainGlobals "is_integer" = some (some (.ref f0)))
    (l0 : K.lookup f0 = some ⟨oc0, od0, .func (PySem.W.fnOf "is_integer" "is_integer" (defArgs s_is_integer) (defBody s_is_integer) (defScope s_is_integer) .none kV0 dc0 pm0 an0 cd0 ct0), sl0⟩) (c0 : PySem.W.codeIn K cd0 "is_integer" = true) (k0 : PySem.W.keepIn K (.ref f0) = true)
    (a1 : PySem.W.nsIn K mainGlobals "is_between" = some (some (.ref f1)))
    (l1 : K.lookup f1 = some ⟨oc1, od1, .func (PySem.W.fnOf "is_between" "is_between" (defArgs s_is_between) (defBody s_is_between) (defScope s_is_between) .none kV1 dc1 pm1 an1 cd1 ct1), sl1⟩) (c1 : PySem.W.codeIn K cd1 "is_between" = true) (k1 : PySem.W.keepIn K (.ref f1) = true)
    (a2 : PySem.W.nsIn K mainGlobals "is_tuple_of" = some (some (.ref f2)))
    (l2 : K.lookup f2 = some ⟨oc2, od2, .func (PySem.W.fnOf "is_tuple_of" "is_tuple_of" (defArgs s_is_tuple_of) (defBody s_is_tuple_of) (defScope s_is_tuple_of) .none kV2 dc2 pm2 an2 cd2 ct2), sl2⟩) (c2 : PySem.W.codeIn K cd2 "is_tuple_of" = true) (k2 : PySem.W.keepIn K (.ref f2) = true)
    (a3 : PySem.W.nsIn K mainGlobals "is_most" = some (some (.ref f3)))
    (l3 : K.lookup f3 = some ⟨oc3, od3, .func (PySem.W.fnOf "is_most" "is_most" (defArgs s_is_most) (defBody s_is_most) (defScope s_is_most) .none kV3 dc3 pm3 an3 cd3 ct3), sl3⟩) (c3 : PySem.W.codeIn K cd3 "is_most" = true) (k3 : PySem.W.keepIn K (.ref f3) = true)
    (a4 : PySem.W.nsIn K mainGlobals "is_good" = some (some (.ref f4)))
    (l4 : K.lookup f4 = some ⟨oc4, od4, .func (PySem.W.fnOf "is_good" "is_good" (defArgs s_is_good) (defBody s_is_good) (defScope s_is_good) .none kV4 dc4 pm4 an4 cd4 ct4), sl4⟩) (c4 : PySem.W.codeIn K cd4 "is_good" = true) (k4 : PySem.W.keepIn K (.ref f4) = true)
    (a5 : PySem.W.nsIn K mainGlobals "is_pack" = some (some (.ref f5)))
    (l5 : K.lookup f5 = some ⟨oc5, od5, .func (PySem.W.fnOf "is_pack" "is_pack" (defArgs s_is_pack) (defBody s_is_pack) (defScope s_is_pack) .none kV5 dc5 pm5 an5 cd5 ct5), sl5⟩) (c5 : PySem.W.codeIn K cd5 "is_pack" = true) (k5 : PySem.W.keepIn K (.ref f5) = true)
    (a6 : PySem.W.nsIn K mainGlobals "is_from" = some (some (.ref f6)))
    (l6 : K.lookup f6 = some ⟨oc6, od6, .func (PySem.W.fnOf "is_from" "is_from" (defArgs s_is_from) (defBody s_is_from) (defScope s_is_from) .none kV6 dc6 pm6 an6 cd6 ct6), sl6⟩) (c6 : PySem.W.codeIn K cd6 "is_from" = true) (k6 : PySem.W.keepIn K (.ref f6) = true)
    (a7 : PySem.W.nsIn K mainGlobals "is_over" = some (some (.ref f7)))
    (l7 : K.lookup f7 = some ⟨oc7, od7, .func (PySem.W.fnOf "is_over" "is_over" (defArgs s_is_over) (defBody s_is_over) (defScope s_is_over) .none kV7 dc7 pm7 an7 cd7 ct7), sl7⟩) (c7 : PySem.W.codeIn K cd7 "is_over" = true) (k7 : PySem.W.keepIn K (.ref f7) = true)
    (a8 : PySem.W.nsIn K mainGlobals "is_each" = some (some (.ref f8)))
    (l8 : K.lookup f8 = some ⟨oc8, od8, .func (PySem.W.fnOf "is_each" "is_each" (defArgs s_is_each) (defBody s_is_each) (defScope s_is_each) .none kV8 dc8 pm8 an8 cd8 ct8), sl8⟩) (c8 : PySem.W.codeIn K cd8 "is_each" = true) (k8 : PySem.W.keepIn K (.ref f8) = true)
    (a9 : PySem.W.nsIn K mainGlobals "is_rule" = some (some (.ref f9)))
    (l9 : K.lookup f9 = some ⟨oc9, od9, .func (PySem.W.fnOf "is_rule" "is_rule" (defArgs s_is_rule) (defBody s_is_rule) (defScope s_is_rule) .none kV9 dc9 pm9 an9 cd9 ct9), sl9⟩) (c9 : PySem.W.codeIn K cd9 "is_rule" = true) (k9 : PySem.W.keepIn K (.ref f9) = true)
    (a10 : PySem.W.nsIn K mainGlobals "is_endless_each" = some (some (.ref f10)))
    (l10 : K.lookup f10 = some ⟨oc10, od10, .func (PySem.W.fnOf "is_endless_each" "is_endless_each" (defArgs s_is_endless_each) (defBody s_is_endless_each) (defScope s_is_endless_each) .none kV10 dc10 pm10 an10 cd10 ct10), sl10⟩) (c10 : PySem.W.codeIn K cd10 "is_endless_each" = true) (k10 : PySem.W.keepIn K (.ref f10) = true)
    (a11 : PySem.W.nsIn K mainGlobals "are_goods" = some (some (.ref f11)))
    (l11 : K.lookup f11 = some ⟨oc11, od11, .func (PySem.W.fnOf "are_goods" "are_goods" (defArgs s_are_goods) (defBody s_are_goods) (defScope s_are_goods) .none kV11 dc11 pm11 an11 cd11 ct11), sl11⟩) (c11 : PySem.W.codeIn K cd11 "are_goods" = true) (k11 : PySem.W.keepIn K (.ref f11) = true)
    (a12 : PySem.W.nsIn K mainGlobals "are_rules" = some (some (.ref f12)))
    (l12 : K.lookup f12 = some ⟨oc12, od12, .func (PySem.W.fnOf "are_rules" "are_rules" (defArgs s_are_rules) (defBody s_are_rules) (defScope s_are_rules) .none kV12 dc12 pm12 an12 cd12 ct12), sl12⟩) (c12 : PySem.W.codeIn K cd12 "are_rules" = true) (k12 : PySem.W.keepIn K (.ref f12) = true)
    (a13 : PySem.W.nsIn K mainGlobals "is_shop" = some (some (.ref f13)))
    (l13 : K.lookup f13 = some ⟨oc13, od13, .func (PySem.W.fnOf "is_shop" "is_shop" (defArgs s_is_shop) (defBody s_is_shop) (defScope s_is_shop) .none kV13 dc13 pm13 an13 cd13 ct13), sl13⟩) (c13 : PySem.W.codeIn K cd13 "is_shop" = true) (k13 : PySem.W.keepIn K (.ref f13) = true)
    (a14 : PySem.W.nsIn K mainGlobals "check_shop" = some (some (.ref f14)))
    (l14 : K.lookup f14 = some ⟨oc14, od14, .func (PySem.W.fnOf "check_shop" "check_shop" (defArgs s_check_shop) (defBody s_check_shop) (defScope s_check_shop) .none kV14 dc14 pm14 an14 cd14 ct14), sl14⟩) (c14 : PySem.W.codeIn K cd14 "check_shop" = true) (k14 : PySem.W.keepIn K (.ref f14) = true)
    (a15 : PySem.W.nsIn K mainGlobals "are_pieces" = some (some (.ref f15)))
    (l15 : K.lookup f15 = some ⟨oc15, od15, .func (PySem.W.fnOf "are_pieces" "are_pieces" (defArgs s_are_pieces) (defBody s_are_pieces) (defScope s_are_pieces) .none kV15 dc15 pm15 an15 cd15 ct15), sl15⟩) (c15 : PySem.W.codeIn K cd15 "are_pieces" = true) (k15 : PySem.W.keepIn K (.ref f15) = true)
    (a16 : PySem.W.nsIn K mainGlobals "is_basket" = some (some (.ref f16)))
    (l16 : K.lookup f16 = some ⟨oc16, od16, .func (PySem.W.fnOf "is_basket" "is_basket" (defArgs s_is_basket) (defBody s_is_basket) (defScope s_is_basket) .none kV16 dc16 pm16 an16 cd16 ct16), sl16⟩) (c16 : PySem.W.codeIn K cd16 "is_basket" = true) (k16 : PySem.W.keepIn K (.ref f16) = true)
    (a17 : PySem.W.nsIn K mainGlobals "check_basket" = some (some (.ref f17)))
    (l17 : K.lookup f17 = some ⟨oc17, od17, .func (PySem.W.fnOf "check_basket" "check_basket" (defArgs s_check_basket) (defBody s_check_basket) (defScope s_check_basket) .none kV17 dc17 pm17 an17 cd17 ct17), sl17⟩) (c17 : PySem.W.codeIn K cd17 "check_basket" = true) (k17 : PySem.W.keepIn K (.ref f17) = true)
    (a18 : PySem.W.nsIn K mainGlobals "full_times" = some (some (.ref f18)))
    (l18 : K.lookup f18 = some ⟨oc18, od18, .func (PySem.W.fnOf "full_times" "full_times" (defArgs s_full_times) (defBody s_full_times) (defScope s_full_times) .none kV18 dc18 pm18 an18 cd18 ct18), sl18⟩) (c18 : PySem.W.codeIn K cd18 "full_times" = true) (k18 : PySem.W.keepIn K (.ref f18) = true)
    (a19 : PySem.W.nsIn K mainGlobals "fitting_rule" = some (some (.ref f19)))
    (l19 : K.lookup f19 = some ⟨oc19, od19, .func (PySem.W.fnOf "fitting_rule" "fitting_rule" (defArgs s_fitting_rule) (defBody s_fitting_rule) (defScope s_fitting_rule) .none kV19 dc19 pm19 an19 cd19 ct19), sl19⟩) (c19 : PySem.W.codeIn K cd19 "fitting_rule" = true) (k19 : PySem.W.keepIn K (.ref f19) = true)
    (a20 : PySem.W.nsIn K mainGlobals "pack_times" = some (some (.ref f20)))
    (l20 : K.lookup f20 = some ⟨oc20, od20, .func (PySem.W.fnOf "pack_times" "pack_times" (defArgs s_pack_times) (defBody s_pack_times) (defScope s_pack_times) .none kV20 dc20 pm20 an20 cd20 ct20), sl20⟩) (c20 : PySem.W.codeIn K cd20 "pack_times" = true) (k20 : PySem.W.keepIn K (.ref f20) = true)
    (a21 : PySem.W.nsIn K mainGlobals "pack_amount" = some (some (.ref f21)))
    (l21 : K.lookup f21 = some ⟨oc21, od21, .func (PySem.W.fnOf "pack_amount" "pack_amount" (defArgs s_pack_amount) (defBody s_pack_amount) (defScope s_pack_amount) .none kV21 dc21 pm21 an21 cd21 ct21), sl21⟩) (c21 : PySem.W.codeIn K cd21 "pack_amount" = true) (k21 : PySem.W.keepIn K (.ref f21) = true)
    (a22 : PySem.W.nsIn K mainGlobals "good_amount" = some (some (.ref f22)))
    (l22 : K.lookup f22 = some ⟨oc22, od22, .func (PySem.W.fnOf "good_amount" "good_amount" (defArgs s_good_amount) (defBody s_good_amount) (defScope s_good_amount) .none kV22 dc22 pm22 an22 cd22 ct22), sl22⟩) (c22 : PySem.W.codeIn K cd22 "good_amount" = true) (k22 : PySem.W.keepIn K (.ref f22) = true)
    (a23 : PySem.W.nsIn K mainGlobals "off_times" = some (some (.ref f23)))
    (l23 : K.lookup f23 = some ⟨oc23, od23, .func (PySem.W.fnOf "off_times" "off_times" (defArgs s_off_times) (defBody s_off_times) (defScope s_off_times) .none kV23 dc23 pm23 an23 cd23 ct23), sl23⟩) (c23 : PySem.W.codeIn K cd23 "off_times" = true) (k23 : PySem.W.keepIn K (.ref f23) = true)
    (a24 : PySem.W.nsIn K mainGlobals "apply_sums" = some (some (.ref f24)))
    (l24 : K.lookup f24 = some ⟨oc24, od24, .func (PySem.W.fnOf "apply_sums" "apply_sums" (defArgs s_apply_sums) (defBody s_apply_sums) (defScope s_apply_sums) .none kV24 dc24 pm24 an24 cd24 ct24), sl24⟩) (c24 : PySem.W.codeIn K cd24 "apply_sums" = true) (k24 : PySem.W.keepIn K (.ref f24) = true)
    (a25 : PySem.W.nsIn K mainGlobals "amounts_of" = some (some (.ref f25)))
    (l25 : K.lookup f25 = some ⟨oc25, od25, .func (PySem.W.fnOf "amounts_of" "amounts_of" (defArgs s_amounts_of) (defBody s_amounts_of) (defScope s_amounts_of) .none kV25 dc25 pm25 an25 cd25 ct25), sl25⟩) (c25 : PySem.W.codeIn K cd25 "amounts_of" = true) (k25 : PySem.W.keepIn K (.ref f25) = true)
    (a26 : PySem.W.nsIn K mainGlobals "left_of" = some (some (.ref f26)))
    (l26 : K.lookup f26 = some ⟨oc26, od26, .func (PySem.W.fnOf "left_of" "left_of" (defArgs s_left_of) (defBody s_left_of) (defScope s_left_of) .none kV26 dc26 pm26 an26 cd26 ct26), sl26⟩) (c26 : PySem.W.codeIn K cd26 "left_of" = true) (k26 : PySem.W.keepIn K (.ref f26) = true)
    (a27 : PySem.W.nsIn K mainGlobals "charge_of" = some (some (.ref f27)))
    (l27 : K.lookup f27 = some ⟨oc27, od27, .func (PySem.W.fnOf "charge_of" "charge_of" (defArgs s_charge_of) (defBody s_charge_of) (defScope s_charge_of) .none kV27 dc27 pm27 an27 cd27 ct27), sl27⟩) (c27 : PySem.W.codeIn K cd27 "charge_of" = true) (k27 : PySem.W.keepIn K (.ref f27) = true)
    (a28 : PySem.W.nsIn K mainGlobals "uses_of" = some (some (.ref f28)))
    (l28 : K.lookup f28 = some ⟨oc28, od28, .func (PySem.W.fnOf "uses_of" "uses_of" (defArgs s_uses_of) (defBody s_uses_of) (defScope s_uses_of) .none kV28 dc28 pm28 an28 cd28 ct28), sl28⟩) (c28 : PySem.W.codeIn K cd28 "uses_of" = true) (k28 : PySem.W.keepIn K (.ref f28) = true)
    (a29 : PySem.W.nsIn K mainGlobals "charge" = some (some (.ref f29)))
    (l29 : K.lookup f29 = some ⟨oc29, od29, .func (PySem.W.fnOf "charge" "charge" (defArgs s_charge) (defBody s_charge) (defScope s_charge) .none kV29 dc29 pm29 an29 cd29 ct29), sl29⟩) (c29 : PySem.W.codeIn K cd29 "charge" = true) (k29 : PySem.W.keepIn K (.ref f29) = true)
    (a30 : PySem.W.nsIn K mainGlobals "is_ascending" = some (some (.ref f30)))
    (l30 : K.lookup f30 = some ⟨oc30, od30, .func (PySem.W.fnOf "is_ascending" "is_ascending" (defArgs s_is_ascending) (defBody s_is_ascending) (defScope s_is_ascending) .none kV30 dc30 pm30 an30 cd30 ct30), sl30⟩) (c30 : PySem.W.codeIn K cd30 "is_ascending" = true) (k30 : PySem.W.keepIn K (.ref f30) = true)
    (a31 : PySem.W.nsIn K mainGlobals "is_most_act" = some (some (.ref f31)))
    (l31 : K.lookup f31 = some ⟨oc31, od31, .func (PySem.W.fnOf "is_most_act" "is_most_act" (defArgs s_is_most_act) (defBody s_is_most_act) (defScope s_is_most_act) .none kV31 dc31 pm31 an31 cd31 ct31), sl31⟩) (c31 : PySem.W.codeIn K cd31 "is_most_act" = true) (k31 : PySem.W.keepIn K (.ref f31) = true)
    (a32 : PySem.W.nsIn K mainGlobals "is_act" = some (some (.ref f32)))
    (l32 : K.lookup f32 = some ⟨oc32, od32, .func (PySem.W.fnOf "is_act" "is_act" (defArgs s_is_act) (defBody s_is_act) (defScope s_is_act) .none kV32 dc32 pm32 an32 cd32 ct32), sl32⟩) (c32 : PySem.W.codeIn K cd32 "is_act" = true) (k32 : PySem.W.keepIn K (.ref f32) = true)
    (a33 : PySem.W.nsIn K mainGlobals "are_acts" = some (some (.ref f33)))
    (l33 : K.lookup f33 = some ⟨oc33, od33, .func (PySem.W.fnOf "are_acts" "are_acts" (defArgs s_are_acts) (defBody s_are_acts) (defScope s_are_acts) .none kV33 dc33 pm33 an33 cd33 ct33), sl33⟩) (c33 : PySem.W.codeIn K cd33 "are_acts" = true) (k33 : PySem.W.keepIn K (.ref f33) = true)
    (a34 : PySem.W.nsIn K mainGlobals "check_acts" = some (some (.ref f34)))
    (l34 : K.lookup f34 = some ⟨oc34, od34, .func (PySem.W.fnOf "check_acts" "check_acts" (defArgs s_check_acts) (defBody s_check_acts) (defScope s_check_acts) .none kV34 dc34 pm34 an34 cd34 ct34), sl34⟩) (c34 : PySem.W.codeIn K cd34 "check_acts" = true) (k34 : PySem.W.keepIn K (.ref f34) = true)
    (a35 : PySem.W.nsIn K mainGlobals "numbers_under" = some (some (.ref f35)))
    (l35 : K.lookup f35 = some ⟨oc35, od35, .func (PySem.W.fnOf "numbers_under" "numbers_under" (defArgs s_numbers_under) (defBody s_numbers_under) (defScope s_numbers_under) .none kV35 dc35 pm35 an35 cd35 ct35), sl35⟩) (c35 : PySem.W.codeIn K cd35 "numbers_under" = true) (k35 : PySem.W.keepIn K (.ref f35) = true)
    (a36 : PySem.W.nsIn K mainGlobals "rule_under" = some (some (.ref f36)))
    (l36 : K.lookup f36 = some ⟨oc36, od36, .func (PySem.W.fnOf "rule_under" "rule_under" (defArgs s_rule_under) (defBody s_rule_under) (defScope s_rule_under) .none kV36 dc36 pm36 an36 cd36 ct36), sl36⟩) (c36 : PySem.W.codeIn K cd36 "rule_under" = true) (k36 : PySem.W.keepIn K (.ref f36) = true)
    (a37 : PySem.W.nsIn K mainGlobals "left_under" = some (some (.ref f37)))
    (l37 : K.lookup f37 = some ⟨oc37, od37, .func (PySem.W.fnOf "left_under" "left_under" (defArgs s_left_under) (defBody s_left_under) (defScope s_left_under) .none kV37 dc37 pm37 an37 cd37 ct37), sl37⟩) (c37 : PySem.W.codeIn K cd37 "left_under" = true) (k37 : PySem.W.keepIn K (.ref f37) = true)
    (a38 : PySem.W.nsIn K mainGlobals "uses_under" = some (some (.ref f38)))
    (l38 : K.lookup f38 = some ⟨oc38, od38, .func (PySem.W.fnOf "uses_under" "uses_under" (defArgs s_uses_under) (defBody s_uses_under) (defScope s_uses_under) .none kV38 dc38 pm38 an38 cd38 ct38), sl38⟩) (c38 : PySem.W.codeIn K cd38 "uses_under" = true) (k38 : PySem.W.keepIn K (.ref f38) = true)
    (a39 : PySem.W.nsIn K mainGlobals "touches_under" = some (some (.ref f39)))
    (l39 : K.lookup f39 = some ⟨oc39, od39, .func (PySem.W.fnOf "touches_under" "touches_under" (defArgs s_touches_under) (defBody s_touches_under) (defScope s_touches_under) .none kV39 dc39 pm39 an39 cd39 ct39), sl39⟩) (c39 : PySem.W.codeIn K cd39 "touches_under" = true) (k39 : PySem.W.keepIn K (.ref f39) = true)
    (a40 : PySem.W.nsIn K mainGlobals "shop_under" = some (some (.ref f40)))
    (l40 : K.lookup f40 = some ⟨oc40, od40, .func (PySem.W.fnOf "shop_under" "shop_under" (defArgs s_shop_under) (defBody s_shop_under) (defScope s_shop_under) .none kV40 dc40 pm40 an40 cd40 ct40), sl40⟩) (c40 : PySem.W.codeIn K cd40 "shop_under" = true) (k40 : PySem.W.keepIn K (.ref f40) = true)
    (a41 : PySem.W.nsIn K mainGlobals "touches" = some (some (.ref f41)))
    (l41 : K.lookup f41 = some ⟨oc41, od41, .func (PySem.W.fnOf "touches" "touches" (defArgs s_touches) (defBody s_touches) (defScope s_touches) .none kV41 dc41 pm41 an41 cd41 ct41), sl41⟩) (c41 : PySem.W.codeIn K cd41 "touches" = true) (k41 : PySem.W.keepIn K (.ref f41) = true)
    (a42 : PySem.W.nsIn K mainGlobals "_law_cell_at" = some (some (.ref f42)))
    (l42 : K.lookup f42 = some ⟨oc42, od42, .func (PySem.W.fnOf "_law_cell_at" "_law_cell_at" (defArgs s__law_cell_at) (defBody s__law_cell_at) (defScope s__law_cell_at) .none kV42 dc42 pm42 an42 cd42 ct42), sl42⟩) (c42 : PySem.W.codeIn K cd42 "_law_cell_at" = true) (k42 : PySem.W.keepIn K (.ref f42) = true)
    (a43 : PySem.W.nsIn K mainGlobals "_law_mixed" = some (some (.ref f43)))
    (l43 : K.lookup f43 = some ⟨oc43, od43, .func (PySem.W.fnOf "_law_mixed" "_law_mixed" (defArgs s__law_mixed) (defBody s__law_mixed) (defScope s__law_mixed) .none kV43 dc43 pm43 an43 cd43 ct43), sl43⟩) (c43 : PySem.W.codeIn K cd43 "_law_mixed" = true) (k43 : PySem.W.keepIn K (.ref f43) = true)
    (a44 : PySem.W.nsIn K mainGlobals "_law_draw" = some (some (.ref f44)))
    (l44 : K.lookup f44 = some ⟨oc44, od44, .func (PySem.W.fnOf "_law_draw" "_law_draw" (defArgs s__law_draw) (defBody s__law_draw) (defScope s__law_draw) .none kV44 dc44 pm44 an44 cd44 ct44), sl44⟩) (c44 : PySem.W.codeIn K cd44 "_law_draw" = true) (k44 : PySem.W.keepIn K (.ref f44) = true)
    (a45 : PySem.W.nsIn K mainGlobals "_law_pick" = some (some (.ref f45)))
    (l45 : K.lookup f45 = some ⟨oc45, od45, .func (PySem.W.fnOf "_law_pick" "_law_pick" (defArgs s__law_pick) (defBody s__law_pick) (defScope s__law_pick) .none kV45 dc45 pm45 an45 cd45 ct45), sl45⟩) (c45 : PySem.W.codeIn K cd45 "_law_pick" = true) (k45 : PySem.W.keepIn K (.ref f45) = true)
    (a46 : PySem.W.nsIn K mainGlobals "_law_some_rule" = some (some (.ref f46)))
    (l46 : K.lookup f46 = some ⟨oc46, od46, .func (PySem.W.fnOf "_law_some_rule" "_law_some_rule" (defArgs s__law_some_rule) (defBody s__law_some_rule) (defScope s__law_some_rule) .none kV46 dc46 pm46 an46 cd46 ct46), sl46⟩) (c46 : PySem.W.codeIn K cd46 "_law_some_rule" = true) (k46 : PySem.W.keepIn K (.ref f46) = true)
    (a47 : PySem.W.nsIn K mainGlobals "_law_some_goods" = some (some (.ref f47)))
    (l47 : K.lookup f47 = some ⟨oc47, od47, .func (PySem.W.fnOf "_law_some_goods" "_law_some_goods" (defArgs s__law_some_goods) (defBody s__law_some_goods) (defScope s__law_some_goods) .none kV47 dc47 pm47 an47 cd47 ct47), sl47⟩) (c47 : PySem.W.codeIn K cd47 "_law_some_goods" = true) (k47 : PySem.W.keepIn K (.ref f47) = true)
    (a48 : PySem.W.nsIn K mainGlobals "_law_some_shop" = some (some (.ref f48)))
    (l48 : K.lookup f48 = some ⟨oc48, od48, .func (PySem.W.fnOf "_law_some_shop" "_law_some_shop" (defArgs s__law_some_shop) (defBody s__law_some_shop) (defScope s__law_some_shop) .none kV48 dc48 pm48 an48 cd48 ct48), sl48⟩) (c48 : PySem.W.codeIn K cd48 "_law_some_shop" = true) (k48 : PySem.W.keepIn K (.ref f48) = true)
    (a49 : PySem.W.nsIn K mainGlobals "_law_some_basket" = some (some (.ref f49)))
    (l49 : K.lookup f49 = some ⟨oc49, od49, .func (PySem.W.fnOf "_law_some_basket" "_law_some_basket" (defArgs s__law_some_basket) (defBody s__law_some_basket) (defScope s__law_some_basket) .none kV49 dc49 pm49 an49 cd49 ct49), sl49⟩) (c49 : PySem.W.codeIn K cd49 "_law_some_basket" = true) (k49 : PySem.W.keepIn K (.ref f49) = true)
    (a50 : PySem.W.nsIn K mainGlobals "_law_all_acts" = some (some (.ref f50)))
    (l50 : K.lookup f50 = some ⟨oc50, od50, .func (PySem.W.fnOf "_law_all_acts" "_law_all_acts" (defArgs s__law_all_acts) (defBody s__law_all_acts) (defScope s__law_all_acts) .none kV50 dc50 pm50 an50 cd50 ct50), sl50⟩) (c50 : PySem.W.codeIn K cd50 "_law_all_acts" = true) (k50 : PySem.W.keepIn K (.ref f50) = true)
    (a51 : PySem.W.nsIn K mainGlobals "_law_some_of" = some (some (.ref f51)))
    (l51 : K.lookup f51 = some ⟨oc51, od51, .func (PySem.W.fnOf "_law_some_of" "_law_some_of" (defArgs s__law_some_of) (defBody s__law_some_of) (defScope s__law_some_of) .none kV51 dc51 pm51 an51 cd51 ct51), sl51⟩) (c51 : PySem.W.codeIn K cd51 "_law_some_of" = true) (k51 : PySem.W.keepIn K (.ref f51) = true)
    (a52 : PySem.W.nsIn K mainGlobals "_law_some_acts" = some (some (.ref f52)))
    (l52 : K.lookup f52 = some ⟨oc52, od52, .func (PySem.W.fnOf "_law_some_acts" "_law_some_acts" (defArgs s__law_some_acts) (defBody s__law_some_acts) (defScope s__law_some_acts) .none kV52 dc52 pm52 an52 cd52 ct52), sl52⟩) (c52 : PySem.W.codeIn K cd52 "_law_some_acts" = true) (k52 : PySem.W.keepIn K (.ref f52) = true)
    (a53 : PySem.W.nsIn K mainGlobals "law" = some (some (.ref f53)))
    (l53 : K.lookup f53 = some ⟨oc53, od53, .func (PySem.W.fnOf "law" "law" (defArgs s_law) (defBody s_law) (defScope s_law) .none kV53 dc53 pm53 an53 cd53 ct53), sl53⟩) (c53 : PySem.W.codeIn K cd53 "law" = true) (k53 : PySem.W.keepIn K (.ref f53) = true)
    (z_all : PySem.W.nsIn K mainGlobals "all" = some none)
    (z_any : PySem.W.nsIn K mainGlobals "any" = some none)
    (z_bool : PySem.W.nsIn K mainGlobals "bool" = some none)
    (z_enumerate : PySem.W.nsIn K mainGlobals "enumerate" = some none)
    (z_int : PySem.W.nsIn K mainGlobals "int" = some none)
    (z_isinstance : PySem.W.nsIn K mainGlobals "isinstance" = some none)
    (z_len : PySem.W.nsIn K mainGlobals "len" = some none)
    (z_list : PySem.W.nsIn K mainGlobals "list" = some none)
    (z_max : PySem.W.nsIn K mainGlobals "max" = some none)
    (z_min : PySem.W.nsIn K mainGlobals "min" = some none)
    (z_range : PySem.W.nsIn K mainGlobals "range" = some none)
    (z_set : PySem.W.nsIn K mainGlobals "set" = some none)
    (z_sorted : PySem.W.nsIn K mainGlobals "sorted" = some none)
    (z_str : PySem.W.nsIn K mainGlobals "str" = some none)
    (z_sum : PySem.W.nsIn K mainGlobals "sum" = some none)
    (z_tuple : PySem.W.nsIn K mainGlobals "tuple" = some none)
    (z_zip : PySem.W.nsIn K mainGlobals "zip" = some none)
    {t_MOST_ACTS : Tok} (y_MOST_ACTS : PySem.W.nsIn K mainGlobals "MOST_ACTS" = some (some (.int 8 t_MOST_ACTS)))
    {t_MOST_GOODS : Tok} (y_MOST_GOODS : PySem.W.nsIn K mainGlobals "MOST_GOODS" = some (some (.int 2 t_MOST_GOODS)))
    {t_MOST_PIECES : Tok} (y_MOST_PIECES : PySem.W.nsIn K mainGlobals "MOST_PIECES" = some (some (.int 1000000 t_MOST_PIECES)))
    {t_MOST_RULES : Tok} (y_MOST_RULES : PySem.W.nsIn K mainGlobals "MOST_RULES" = some (some (.int 4 t_MOST_RULES)))
    {u_SUM_WORDS : Addr} {o_SUM_WORDS : Option Addr} {n_SUM_WORDS : Nat} {v_SUM_WORDS : Array (Option Value)} {p_SUM_WORDS_0 : Tok} {p_SUM_WORDS_1 : Tok} (y_SUM_WORDS : PySem.W.nsIn K mainGlobals "SUM_WORDS" = some (some (.ref u_SUM_WORDS))) (x_SUM_WORDS : K.lookup u_SUM_WORDS = some ⟨.type "tuple", o_SUM_WORDS, .seq #[.str "over" p_SUM_WORDS_0, .str "each" p_SUM_WORDS_1] n_SUM_WORDS, v_SUM_WORDS⟩)
    {c_InvalidAct : Addr} (e_InvalidAct : PySem.W.nsIn K mainGlobals "InvalidAct" = some (some (.ref c_InvalidAct)))
    {c_InvalidActs : Addr} (e_InvalidActs : PySem.W.nsIn K mainGlobals "InvalidActs" = some (some (.ref c_InvalidActs)))
    {c_InvalidBasket : Addr} (e_InvalidBasket : PySem.W.nsIn K mainGlobals "InvalidBasket" = some (some (.ref c_InvalidBasket)))
    {c_InvalidShop : Addr} (e_InvalidShop : PySem.W.nsIn K mainGlobals "InvalidShop" = some (some (.ref c_InvalidShop)))
    (q_InvalidAct : PySem.W.excIn K c_InvalidAct [.type "ValueError", .type "Exception", .type "BaseException", .type "object"] "ValueError.__new__" = true) (p_InvalidAct : PySem.W.keepIn K (.ref c_InvalidAct) = true) (r_InvalidAct : PySem.W.subIn K (.ref c_InvalidAct) (.type "BaseException") = some true)
    (q_InvalidActs : PySem.W.excIn K c_InvalidActs [.type "ValueError", .type "Exception", .type "BaseException", .type "object"] "ValueError.__new__" = true) (p_InvalidActs : PySem.W.keepIn K (.ref c_InvalidActs) = true) (r_InvalidActs : PySem.W.subIn K (.ref c_InvalidActs) (.type "BaseException") = some true)
    (q_InvalidBasket : PySem.W.excIn K c_InvalidBasket [.type "ValueError", .type "Exception", .type "BaseException", .type "object"] "ValueError.__new__" = true) (p_InvalidBasket : PySem.W.keepIn K (.ref c_InvalidBasket) = true) (r_InvalidBasket : PySem.W.subIn K (.ref c_InvalidBasket) (.type "BaseException") = some true)
    (q_InvalidShop : PySem.W.excIn K c_InvalidShop [.type "ValueError", .type "Exception", .type "BaseException", .type "object"] "ValueError.__new__" = true) (p_InvalidShop : PySem.W.keepIn K (.ref c_InvalidShop) = true) (r_InvalidShop : PySem.W.subIn K (.ref c_InvalidShop) (.type "BaseException") = some true)
    (w_InvalidAct : PySem.W.typeIn K (.ref c_InvalidAct) = some (.type "type"))
    (w_InvalidActs : PySem.W.typeIn K (.ref c_InvalidActs) = some (.type "type"))
    (w_InvalidBasket : PySem.W.typeIn K (.ref c_InvalidBasket) = some (.type "type"))
    (w_InvalidShop : PySem.W.typeIn K (.ref c_InvalidShop) = some (.type "type"))
    (D0 : ∀ ns : List Int, ns.length ≤ 63 → ∃ o, d_law [.im (.fz (ns.map D.int))] = .ok (.im (.bl true)) o) :
    ∃ fd : FuncData, (∀ (s : Shared) (v : Value), BindsTo s fd ⟨[v], []⟩ [("_law_script", v)]) ∧ ∀ base : Heap, K.In base → base.Ns mainGlobals mg → FnOk l.prog w K mg base (L2.CX l.prog w) 12 fa fd ["_law_script"] (spLaw K) := by
  letI : Wd := ⟨w⟩
  have e := hfa.symm.trans (PySem.W.mg_of X G a53)
  cases e
  have B : Bl K mg := ⟨PySem.W.mg_none_of X G z_all, PySem.W.mg_none_of X G z_any, PySem.W.mg_none_of X G z_bool, PySem.W.mg_none_of X G z_enumerate, PySem.W.mg_none_of X G z_int, PySem.W.mg_none_of X G z_isinstance, PySem.W.mg_none_of X G z_len, PySem.W.mg_none_of X G z_list, PySem.W.mg_none_of X G z_max, PySem.W.mg_none_of X G z_min, PySem.W.mg_none_of X G z_range, PySem.W.mg_none_of X G z_set, PySem.W.mg_none_of X G z_sorted, PySem.W.mg_none_of X G z_str, PySem.W.mg_none_of X G z_sum, PySem.W.mg_none_of X G z_tuple, PySem.W.mg_none_of X G z_zip, ⟨_, PySem.W.mg_of X G y_MOST_ACTS, _, rfl⟩, ⟨_, PySem.W.mg_of X G y_MOST_GOODS, _, rfl⟩, ⟨_, PySem.W.mg_of X G y_MOST_PIECES, _, rfl⟩, ⟨_, PySem.W.mg_of X G y_MOST_RULES, _, rfl⟩, ⟨_, .ref u_SUM_WORDS, PySem.W.mg_of X G y_SUM_WORDS, rfl, fun _ _ => .tup (xs := [.str "over", .str "each"]) (.inr ⟨_, _, _, x_SUM_WORDS, rfl, rfl, by show (2 : Nat) ≤ sizeLine; decide, (.cons ⟨_, rfl⟩ (.cons ⟨_, rfl⟩ .nil))⟩) (.cons (.str _) (.cons (.str _) .nil))⟩, ⟨_, PySem.W.mg_of X G e_InvalidAct, q_InvalidAct, p_InvalidAct, r_InvalidAct, w_InvalidAct⟩, ⟨_, PySem.W.mg_of X G e_InvalidActs, q_InvalidActs, p_InvalidActs, r_InvalidActs, w_InvalidActs⟩, ⟨_, PySem.W.mg_of X G e_InvalidBasket, q_InvalidBasket, p_InvalidBasket, r_InvalidBasket, w_InvalidBasket⟩, ⟨_, PySem.W.mg_of X G e_InvalidShop, q_InvalidShop, p_InvalidShop, r_InvalidShop, w_InvalidShop⟩⟩
  have F0 := fun_mk (st := s_is_integer) l0 c0 k0
  have C0 : Cd K mg "is_integer" s_is_integer ["value"] _ _ := ⟨F0, PySem.W.mg_of X G a0, F0.binds (ps := ["value"]) fun _ _ _ _ _ _ us hl => match us, hl with | [_], _ => rfl⟩
  have F1 := fun_mk (st := s_is_between) l1 c1 k1
  have C1 : Cd K mg "is_between" s_is_between ["value", "low", "high"] _ _ := ⟨F1, PySem.W.mg_of X G a1, F1.binds (ps := ["value", "low", "high"]) fun _ _ _ _ _ _ us hl => match us, hl with | [_, _, _], _ => rfl⟩
  have F2 := fun_mk (st := s_is_tuple_of) l2 c2 k2
  have C2 : Cd K mg "is_tuple_of" s_is_tuple_of ["value", "length"] _ _ := ⟨F2, PySem.W.mg_of X G a2, F2.binds (ps := ["value", "length"]) fun _ _ _ _ _ _ us hl => match us, hl with | [_, _], _ => rfl⟩
  have F3 := fun_mk (st := s_is_most) l3 c3 k3
  have C3 : Cd K mg "is_most" s_is_most ["value"] _ _ := ⟨F3, PySem.W.mg_of X G a3, F3.binds (ps := ["value"]) fun _ _ _ _ _ _ us hl => match us, hl with | [_], _ => rfl⟩
  have F4 := fun_mk (st := s_is_good) l4 c4 k4
  have C4 : Cd K mg "is_good" s_is_good ["value"] _ _ := ⟨F4, PySem.W.mg_of X G a4, F4.binds (ps := ["value"]) fun _ _ _ _ _ _ us hl => match us, hl with | [_], _ => rfl⟩
  have F5 := fun_mk (st := s_is_pack) l5 c5 k5
  have C5 : Cd K mg "is_pack" s_is_pack ["value", "many_goods"] _ _ := ⟨F5, PySem.W.mg_of X G a5, F5.binds (ps := ["value", "many_goods"]) fun _ _ _ _ _ _ us hl => match us, hl with | [_, _], _ => rfl⟩
  have F6 := fun_mk (st := s_is_from) l6 c6 k6
  have C6 : Cd K mg "is_from" s_is_from ["value", "many_goods"] _ _ := ⟨F6, PySem.W.mg_of X G a6, F6.binds (ps := ["value", "many_goods"]) fun _ _ _ _ _ _ us hl => match us, hl with | [_, _], _ => rfl⟩
  have F7 := fun_mk (st := s_is_over) l7 c7 k7
  have C7 : Cd K mg "is_over" s_is_over ["value"] _ _ := ⟨F7, PySem.W.mg_of X G a7, F7.binds (ps := ["value"]) fun _ _ _ _ _ _ us hl => match us, hl with | [_], _ => rfl⟩
  have F8 := fun_mk (st := s_is_each) l8 c8 k8
  have C8 : Cd K mg "is_each" s_is_each ["value"] _ _ := ⟨F8, PySem.W.mg_of X G a8, F8.binds (ps := ["value"]) fun _ _ _ _ _ _ us hl => match us, hl with | [_], _ => rfl⟩
  have F9 := fun_mk (st := s_is_rule) l9 c9 k9
  have C9 : Cd K mg "is_rule" s_is_rule ["value", "many_goods"] _ _ := ⟨F9, PySem.W.mg_of X G a9, F9.binds (ps := ["value", "many_goods"]) fun _ _ _ _ _ _ us hl => match us, hl with | [_, _], _ => rfl⟩
  have F10 := fun_mk (st := s_is_endless_each) l10 c10 k10
  have C10 : Cd K mg "is_endless_each" s_is_endless_each ["rule"] _ _ := ⟨F10, PySem.W.mg_of X G a10, F10.binds (ps := ["rule"]) fun _ _ _ _ _ _ us hl => match us, hl with | [_], _ => rfl⟩
  have F11 := fun_mk (st := s_are_goods) l11 c11 k11
  have C11 : Cd K mg "are_goods" s_are_goods ["value"] _ _ := ⟨F11, PySem.W.mg_of X G a11, F11.binds (ps := ["value"]) fun _ _ _ _ _ _ us hl => match us, hl with | [_], _ => rfl⟩
  have F12 := fun_mk (st := s_are_rules) l12 c12 k12
  have C12 : Cd K mg "are_rules" s_are_rules ["value", "many_goods"] _ _ := ⟨F12, PySem.W.mg_of X G a12, F12.binds (ps := ["value", "many_goods"]) fun _ _ _ _ _ _ us hl => match us, hl with | [_, _], _ => rfl⟩
  have F13 := fun_mk (st := s_is_shop) l13 c13 k13
  have C13 : Cd K mg "is_shop" s_is_shop ["value"] _ _ := ⟨F13, PySem.W.mg_of X G a13, F13.binds (ps := ["value"]) fun _ _ _ _ _ _ us hl => match us, hl with | [_], _ => rfl⟩
  have F14 := fun_mk (st := s_check_shop) l14 c14 k14
  have C14 : Cd K mg "check_shop" s_check_shop ["shop"] _ _ := ⟨F14, PySem.W.mg_of X G a14, F14.binds (ps := ["shop"]) fun _ _ _ _ _ _ us hl => match us, hl with | [_], _ => rfl⟩
  have F15 := fun_mk (st := s_are_pieces) l15 c15 k15
  have C15 : Cd K mg "are_pieces" s_are_pieces ["shop", "value"] _ _ := ⟨F15, PySem.W.mg_of X G a15, F15.binds (ps := ["shop", "value"]) fun _ _ _ _ _ _ us hl => match us, hl with | [_, _], _ => rfl⟩
  have F16 := fun_mk (st := s_is_basket) l16 c16 k16
  have C16 : Cd K mg "is_basket" s_is_basket ["shop", "value"] _ _ := ⟨F16, PySem.W.mg_of X G a16, F16.binds (ps := ["shop", "value"]) fun _ _ _ _ _ _ us hl => match us, hl with | [_, _], _ => rfl⟩
  have F17 := fun_mk (st := s_check_basket) l17 c17 k17
  have C17 : Cd K mg "check_basket" s_check_basket ["shop", "basket"] _ _ := ⟨F17, PySem.W.mg_of X G a17, F17.binds (ps := ["shop", "basket"]) fun _ _ _ _ _ _ us hl => match us, hl with | [_, _], _ => rfl⟩
  have F18 := fun_mk (st := s_full_times) l18 c18 k18
  have C18 : Cd K mg "full_times" s_full_times ["whole", "part", "most"] _ _ := ⟨F18, PySem.W.mg_of X G a18, F18.binds (ps := ["whole", "part", "most"]) fun _ _ _ _ _ _ us hl => match us, hl with | [_, _, _], _ => rfl⟩
  have F19 := fun_mk (st := s_fitting_rule) l19 c19 k19
  have C19 : Cd K mg "fitting_rule" s_fitting_rule ["rules", "good", "pieces"] _ _ := ⟨F19, PySem.W.mg_of X G a19, F19.binds (ps := ["rules", "good", "pieces"]) fun _ _ _ _ _ _ us hl => match us, hl with | [_, _, _], _ => rfl⟩
  have F20 := fun_mk (st := s_pack_times) l20 c20 k20
  have C20 : Cd K mg "pack_times" s_pack_times ["rule", "pieces"] _ _ := ⟨F20, PySem.W.mg_of X G a20, F20.binds (ps := ["rule", "pieces"]) fun _ _ _ _ _ _ us hl => match us, hl with | [_, _], _ => rfl⟩
  have F21 := fun_mk (st := s_pack_amount) l21 c21 k21
  have C21 : Cd K mg "pack_amount" s_pack_amount ["rule", "price", "pieces"] _ _ := ⟨F21, PySem.W.mg_of X G a21, F21.binds (ps := ["rule", "price", "pieces"]) fun _ _ _ _ _ _ us hl => match us, hl with | [_, _, _], _ => rfl⟩
  have F22 := fun_mk (st := s_good_amount) l22 c22 k22
  have C22 : Cd K mg "good_amount" s_good_amount ["shop", "good", "pieces"] _ _ := ⟨F22, PySem.W.mg_of X G a22, F22.binds (ps := ["shop", "good", "pieces"]) fun _ _ _ _ _ _ us hl => match us, hl with | [_, _, _], _ => rfl⟩
  have F23 := fun_mk (st := s_off_times) l23 c23 k23
  have C23 : Cd K mg "off_times" s_off_times ["rule", "left"] _ _ := ⟨F23, PySem.W.mg_of X G a23, F23.binds (ps := ["rule", "left"]) fun _ _ _ _ _ _ us hl => match us, hl with | [_, _], _ => rfl⟩
  have F24 := fun_mk (st := s_apply_sums) l24 c24 k24
  have C24 : Cd K mg "apply_sums" s_apply_sums ["rules", "total"] _ _ := ⟨F24, PySem.W.mg_of X G a24, F24.binds (ps := ["rules", "total"]) fun _ _ _ _ _ _ us hl => match us, hl with | [_, _], _ => rfl⟩
  have F25 := fun_mk (st := s_amounts_of) l25 c25 k25
  have C25 : Cd K mg "amounts_of" s_amounts_of ["shop", "basket"] _ _ := ⟨F25, PySem.W.mg_of X G a25, F25.binds (ps := ["shop", "basket"]) fun _ _ _ _ _ _ us hl => match us, hl with | [_, _], _ => rfl⟩
  have F26 := fun_mk (st := s_left_of) l26 c26 k26
  have C26 : Cd K mg "left_of" s_left_of ["rules", "total"] _ _ := ⟨F26, PySem.W.mg_of X G a26, F26.binds (ps := ["rules", "total"]) fun _ _ _ _ _ _ us hl => match us, hl with | [_, _], _ => rfl⟩
  have F27 := fun_mk (st := s_charge_of) l27 c27 k27
  have C27 : Cd K mg "charge_of" s_charge_of ["shop", "basket"] _ _ := ⟨F27, PySem.W.mg_of X G a27, F27.binds (ps := ["shop", "basket"]) fun _ _ _ _ _ _ us hl => match us, hl with | [_, _], _ => rfl⟩
  have F28 := fun_mk (st := s_uses_of) l28 c28 k28
  have C28 : Cd K mg "uses_of" s_uses_of ["shop", "basket"] _ _ := ⟨F28, PySem.W.mg_of X G a28, F28.binds (ps := ["shop", "basket"]) fun _ _ _ _ _ _ us hl => match us, hl with | [_, _], _ => rfl⟩
  have F29 := fun_mk (st := s_charge) l29 c29 k29
  have C29 : Cd K mg "charge" s_charge ["shop", "basket"] _ _ := ⟨F29, PySem.W.mg_of X G a29, F29.binds (ps := ["shop", "basket"]) fun _ _ _ _ _ _ us hl => match us, hl with | [_, _], _ => rfl⟩
  have F30 := fun_mk (st := s_is_ascending) l30 c30 k30
  have C30 : Cd K mg "is_ascending" s_is_ascending ["values"] _ _ := ⟨F30, PySem.W.mg_of X G a30, F30.binds (ps := ["values"]) fun _ _ _ _ _ _ us hl => match us, hl with | [_], _ => rfl⟩
  have F31 := fun_mk (st := s_is_most_act) l31 c31 k31
  have C31 : Cd K mg "is_most_act" s_is_most_act ["shop", "value"] _ _ := ⟨F31, PySem.W.mg_of X G a31, F31.binds (ps := ["shop", "value"]) fun _ _ _ _ _ _ us hl => match us, hl with | [_, _], _ => rfl⟩
  have F32 := fun_mk (st := s_is_act) l32 c32 k32
  have C32 : Cd K mg "is_act" s_is_act ["shop", "value"] _ _ := ⟨F32, PySem.W.mg_of X G a32, F32.binds (ps := ["shop", "value"]) fun _ _ _ _ _ _ us hl => match us, hl with | [_, _], _ => rfl⟩
  have F33 := fun_mk (st := s_are_acts) l33 c33 k33
  have C33 : Cd K mg "are_acts" s_are_acts ["shop", "value"] _ _ := ⟨F33, PySem.W.mg_of X G a33, F33.binds (ps := ["shop", "value"]) fun _ _ _ _ _ _ us hl => match us, hl with | [_, _], _ => rfl⟩
  have F34 := fun_mk (st := s_check_acts) l34 c34 k34
  have C34 : Cd K mg "check_acts" s_check_acts ["shop", "acts"] _ _ := ⟨F34, PySem.W.mg_of X G a34, F34.binds (ps := ["shop", "acts"]) fun _ _ _ _ _ _ us hl => match us, hl with | [_, _], _ => rfl⟩
  have F35 := fun_mk (st := s_numbers_under) l35 c35 k35
  have C35 : Cd K mg "numbers_under" s_numbers_under ["shop", "acts"] _ _ := ⟨F35, PySem.W.mg_of X G a35, F35.binds (ps := ["shop", "acts"]) fun _ _ _ _ _ _ us hl => match us, hl with | [_, _], _ => rfl⟩
  have F36 := fun_mk (st := s_rule_under) l36 c36 k36
  have C36 : Cd K mg "rule_under" s_rule_under ["shop", "acts", "number"] _ _ := ⟨F36, PySem.W.mg_of X G a36, F36.binds (ps := ["shop", "acts", "number"]) fun _ _ _ _ _ _ us hl => match us, hl with | [_, _, _], _ => rfl⟩
  have F37 := fun_mk (st := s_left_under) l37 c37 k37
  have C37 : Cd K mg "left_under" s_left_under ["shop", "acts"] _ _ := ⟨F37, PySem.W.mg_of X G a37, F37.binds (ps := ["shop", "acts"]) fun _ _ _ _ _ _ us hl => match us, hl with | [_, _], _ => rfl⟩
  have F38 := fun_mk (st := s_uses_under) l38 c38 k38
  have C38 : Cd K mg "uses_under" s_uses_under ["shop", "acts", "number", "basket"] _ _ := ⟨F38, PySem.W.mg_of X G a38, F38.binds (ps := ["shop", "acts", "number", "basket"]) fun _ _ _ _ _ _ us hl => match us, hl with | [_, _, _, _], _ => rfl⟩
  have F39 := fun_mk (st := s_touches_under) l39 c39 k39
  have C39 : Cd K mg "touches_under" s_touches_under ["shop", "acts", "act", "basket"] _ _ := ⟨F39, PySem.W.mg_of X G a39, F39.binds (ps := ["shop", "acts", "act", "basket"]) fun _ _ _ _ _ _ us hl => match us, hl with | [_, _, _, _], _ => rfl⟩
  have F40 := fun_mk (st := s_shop_under) l40 c40 k40
  have C40 : Cd K mg "shop_under" s_shop_under ["shop", "acts"] _ _ := ⟨F40, PySem.W.mg_of X G a40, F40.binds (ps := ["shop", "acts"]) fun _ _ _ _ _ _ us hl => match us, hl with | [_, _], _ => rfl⟩
  have F41 := fun_mk (st := s_touches) l41 c41 k41
  have C41 : Cd K mg "touches" s_touches ["shop", "acts", "act", "basket"] _ _ := ⟨F41, PySem.W.mg_of X G a41, F41.binds (ps := ["shop", "acts", "act", "basket"]) fun _ _ _ _ _ _ us hl => match us, hl with | [_, _, _, _], _ => rfl⟩
  have F42 := fun_mk (st := s__law_cell_at) l42 c42 k42
  have C42 : Cd K mg "_law_cell_at" s__law_cell_at ["_law_script", "_law_k"] _ _ := ⟨F42, PySem.W.mg_of X G a42, F42.binds (ps := ["_law_script", "_law_k"]) fun _ _ _ _ _ _ us hl => match us, hl with | [_, _], _ => rfl⟩
  have F43 := fun_mk (st := s__law_mixed) l43 c43 k43
  have C43 : Cd K mg "_law_mixed" s__law_mixed ["_law_script", "_law_k", "_law_many"] _ _ := ⟨F43, PySem.W.mg_of X G a43, F43.binds (ps := ["_law_script", "_law_k", "_law_many"]) fun _ _ _ _ _ _ us hl => match us, hl with | [_, _, _], _ => rfl⟩
  have F44 := fun_mk (st := s__law_draw) l44 c44 k44
  have C44 : Cd K mg "_law_draw" s__law_draw ["_law_script", "_law_state", "_law_many"] _ _ := ⟨F44, PySem.W.mg_of X G a44, F44.binds (ps := ["_law_script", "_law_state", "_law_many"]) fun _ _ _ _ _ _ us hl => match us, hl with | [_, _, _], _ => rfl⟩
  have F45 := fun_mk (st := s__law_pick) l45 c45 k45
  have C45 : Cd K mg "_law_pick" s__law_pick ["_law_script", "_law_state", "_law_some"] _ _ := ⟨F45, PySem.W.mg_of X G a45, F45.binds (ps := ["_law_script", "_law_state", "_law_some"]) fun _ _ _ _ _ _ us hl => match us, hl with | [_, _, _], _ => rfl⟩
  have F46 := fun_mk (st := s__law_some_rule) l46 c46 k46
  have C46 : Cd K mg "_law_some_rule" s__law_some_rule ["_law_script", "_law_state", "_law_goods", "_law_capped"] _ _ := ⟨F46, PySem.W.mg_of X G a46, F46.binds (ps := ["_law_script", "_law_state", "_law_goods", "_law_capped"]) fun _ _ _ _ _ _ us hl => match us, hl with | [_, _, _, _], _ => rfl⟩
  have F47 := fun_mk (st := s__law_some_goods) l47 c47 k47
  have C47 : Cd K mg "_law_some_goods" s__law_some_goods ["_law_script", "_law_state"] _ _ := ⟨F47, PySem.W.mg_of X G a47, F47.binds (ps := ["_law_script", "_law_state"]) fun _ _ _ _ _ _ us hl => match us, hl with | [_, _], _ => rfl⟩
  have F48 := fun_mk (st := s__law_some_shop) l48 c48 k48
  have C48 : Cd K mg "_law_some_shop" s__law_some_shop ["_law_script", "_law_state"] _ _ := ⟨F48, PySem.W.mg_of X G a48, F48.binds (ps := ["_law_script", "_law_state"]) fun _ _ _ _ _ _ us hl => match us, hl with | [_, _], _ => rfl⟩
  have F49 := fun_mk (st := s__law_some_basket) l49 c49 k49
  have C49 : Cd K mg "_law_some_basket" s__law_some_basket ["_law_script", "_law_state", "_law_shop"] _ _ := ⟨F49, PySem.W.mg_of X G a49, F49.binds (ps := ["_law_script", "_law_state", "_law_shop"]) fun _ _ _ _ _ _ us hl => match us, hl with | [_, _, _], _ => rfl⟩
  have F50 := fun_mk (st := s__law_all_acts) l50 c50 k50
  have C50 : Cd K mg "_law_all_acts" s__law_all_acts ["_law_shop"] _ _ := ⟨F50, PySem.W.mg_of X G a50, F50.binds (ps := ["_law_shop"]) fun _ _ _ _ _ _ us hl => match us, hl with | [_], _ => rfl⟩
  have F51 := fun_mk (st := s__law_some_of) l51 c51 k51
  have C51 : Cd K mg "_law_some_of" s__law_some_of ["_law_script", "_law_state", "_law_some", "_law_count"] _ _ := ⟨F51, PySem.W.mg_of X G a51, F51.binds (ps := ["_law_script", "_law_state", "_law_some", "_law_count"]) fun _ _ _ _ _ _ us hl => match us, hl with | [_, _, _, _], _ => rfl⟩
  have F52 := fun_mk (st := s__law_some_acts) l52 c52 k52
  have C52 : Cd K mg "_law_some_acts" s__law_some_acts ["_law_script", "_law_state", "_law_shop", "_law_most"] _ _ := ⟨F52, PySem.W.mg_of X G a52, F52.binds (ps := ["_law_script", "_law_state", "_law_shop", "_law_most"]) fun _ _ _ _ _ _ us hl => match us, hl with | [_, _, _, _], _ => rfl⟩
  have F53 := fun_mk (st := s_law) l53 c53 k53
  have C53 : Cd K mg "law" s_law ["_law_script"] _ _ := ⟨F53, PySem.W.mg_of X G a53, F53.binds (ps := ["_law_script"]) fun _ _ _ _ _ _ us hl => match us, hl with | [_], _ => rfl⟩
  refine ⟨PySem.W.fnOf "law" "law" (defArgs s_law) (defBody s_law) (defScope s_law) .none kV53 dc53 pm53 an53 cd53 ct53, fun s v => .of_eq rfl, fun base _ _ => ?_⟩
  have G0 := ok_is_integer (P := l.prog) (base := base) B F0 
  have G1 := ok_is_between (P := l.prog) (base := base) B F1 C0 G0
  have G2 := ok_is_tuple_of (P := l.prog) (base := base) B F2 
  have G3 := ok_is_most (P := l.prog) (base := base) B F3 C1 G1
  have G4 := ok_is_good (P := l.prog) (base := base) B F4 C2 G2 C1 G1
  have G5 := ok_is_pack (P := l.prog) (base := base) B F5 C2 G2 C1 G1 C3 G3
  have G6 := ok_is_from (P := l.prog) (base := base) B F6 C2 G2 C1 G1
  have G7 := ok_is_over (P := l.prog) (base := base) B F7 C2 G2 C1 G1
  have G8 := ok_is_each (P := l.prog) (base := base) B F8 C2 G2 C3 G3 C1 G1
  have G9 := ok_is_rule (P := l.prog) (base := base) B F9 C5 G5 C6 G6 C7 G7 C8 G8
  have G10 := ok_is_endless_each (P := l.prog) (base := base) B F10 
  have G11 := ok_are_goods (P := l.prog) (base := base) B F11 C4 G4
  have G12 := ok_are_rules (P := l.prog) (base := base) B F12 C9 G9 C10 G10
  have G13 := ok_is_shop (P := l.prog) (base := base) B F13 C2 G2 C11 G11 C12 G12
  have G14 := ok_check_shop (P := l.prog) (base := base) B F14 C13 G13
  have G15 := ok_are_pieces (P := l.prog) (base := base) B F15 C2 G2 C0 G0
  have G16 := ok_is_basket (P := l.prog) (base := base) B F16 C14 G14 C15 G15
  have G17 := ok_check_basket (P := l.prog) (base := base) B F17 C16 G16
  have G18 := ok_full_times (P := l.prog) (base := base) B F18 
  have G19 := ok_fitting_rule (P := l.prog) (base := base) B F19 
  have G20 := ok_pack_times (P := l.prog) (base := base) B F20 C18 G18
  have G21 := ok_pack_amount (P := l.prog) (base := base) B F21 C20 G20
  have G22 := ok_good_amount (P := l.prog) (base := base) B F22 C19 G19 C21 G21
  have G23 := ok_off_times (P := l.prog) (base := base) B F23 C18 G18
  have G24 := ok_apply_sums (P := l.prog) (base := base) B F24 C23 G23
  have G25 := ok_amounts_of (P := l.prog) (base := base) B F25 C22 G22
  have G26 := ok_left_of (P := l.prog) (base := base) B F26 C24 G24
  have G27 := ok_charge_of (P := l.prog) (base := base) B F27 C26 G26 C25 G25
  have G28 := ok_uses_of (P := l.prog) (base := base) B F28 C24 G24 C19 G19 C25 G25 C20 G20
  have G29 := ok_charge (P := l.prog) (base := base) B F29 C17 G17 C27 G27
  have G30 := ok_is_ascending (P := l.prog) (base := base) B F30 
  have G31 := ok_is_most_act (P := l.prog) (base := base) B F31 C1 G1 C2 G2
  have G32 := ok_is_act (P := l.prog) (base := base) B F32 C31 G31 C2 G2 C1 G1
  have G33 := ok_are_acts (P := l.prog) (base := base) B F33 C14 G14 C30 G30 C32 G32
  have G34 := ok_check_acts (P := l.prog) (base := base) B F34 C33 G33
  have G35 := ok_numbers_under (P := l.prog) (base := base) B F35 
  have G36 := ok_rule_under (P := l.prog) (base := base) B F36 
  have G37 := ok_left_under (P := l.prog) (base := base) B F37 C35 G35 C36 G36
  have G38 := ok_uses_under (P := l.prog) (base := base) B F38 C35 G35 C28 G28 C37 G37
  have G39 := ok_touches_under (P := l.prog) (base := base) B F39 C38 G38
  have G40 := ok_shop_under (P := l.prog) (base := base) B F40 C34 G34 C37 G37
  have G41 := ok_touches (P := l.prog) (base := base) B F41 C34 G34 C17 G17 C39 G39 C32 G32
  have G42 := ok__law_cell_at (P := l.prog) (base := base) B F42 
  have G43 := ok__law_mixed (P := l.prog) (base := base) B F43 C42 G42
  have G44 := ok__law_draw (P := l.prog) (base := base) B F44 C43 G43
  have G45 := ok__law_pick (P := l.prog) (base := base) B F45 C44 G44
  have G46 := ok__law_some_rule (P := l.prog) (base := base) B F46 C44 G44 C45 G45
  have G47 := ok__law_some_goods (P := l.prog) (base := base) B F47 C44 G44
  have G48 := ok__law_some_shop (P := l.prog) (base := base) B F48 C47 G47 C44 G44 C46 G46
  have G49 := ok__law_some_basket (P := l.prog) (base := base) B F49 C45 G45 C44 G44
  have G50 := ok__law_all_acts (P := l.prog) (base := base) B F50 
  have G51 := ok__law_some_of (P := l.prog) (base := base) B F51 C44 G44
  have G52 := ok__law_some_acts (P := l.prog) (base := base) B F52 C50 G50 C51 G51 C44 G44
  have G53 := ok_law (P := l.prog) (base := base) B F53 C48 G48 C52 G52 C49 G49 C50 G50 C29 G29 C40 G40 C41 G41
  exact law_ok G53 D0
end DL
namespace DL
open PySem PySem.Spec L2
abbrev E16 (s0 st sh ac ag ba mo bo at_ al : Sl) : En := [s0, st, sh, ac, ag, ba, mo, bo, at_, al]
theorem l1 (s0 : Sl) : f_law_1 (E16 s0 .no .no .no .no .no .no .no .no .no) = .nx (E16 s0 (.own false (rep0 0)) .no .no .no .no .no .no .no .no) := by
  simp [f_law_1, sEr, op2, op1, T.val, R.opt, toB, opL, vals, consT, disp, mvs, mkTup, callT, callI, argE, others, isAl, isAli, finT, outE, padE, runD, cpsOf, cpT, toI, slT, T.weak, metT, kApp, kExt, elemD, iT, iL, iR1, iR2, iE, iZ, onI]
theorem l2 (ns : List Int) (m : Nat) (sh : D) (e : d__law_some_shop [scr ns, .own true (rep0 0)] = .ok (.im sh) [.no, .own true (rep0 m)]) : f_law_2 (E16 (scr ns) (.own false (rep0 0)) .no .no .no .no .no .no .no .no) = .nx (E16 (scr ns) (.own false (rep0 m)) (.im sh) .no .no .no .no .no .no .no) := by
  simp [scr] at e
  simp [f_law_2, scr, e, sEr, op2, op1, T.val, R.opt, toB, opL, vals, consT, disp, mvs, mkTup, callT, callI, argE, others, isAl, isAli, finT, outE, padE, runD, cpsOf, cpT, toI, slT, T.weak, metT, kApp, kExt, elemD, iT, iL, iR1, iR2, iE, iZ, onI]
theorem l3 (ns : List Int) (m m' : Nat) (sh ac : D) (e : d__law_some_acts [scr ns, .own true (rep0 m), .im sh, .im (.int 3)] = .ok (.im ac) [.no, .own true (rep0 m'), .no, .no]) : f_law_3 (E16 (scr ns) (.own false (rep0 m)) (.im sh) .no .no .no .no .no .no .no) = .nx (E16 (scr ns) (.own false (rep0 m')) (.im sh) (.im ac) .no .no .no .no .no .no) := by
  simp [scr] at e
  simp [f_law_3, scr, e, sEr, op2, op1, T.val, R.opt, toB, opL, vals, consT, disp, mvs, mkTup, callT, callI, argE, others, isAl, isAli, finT, outE, padE, runD, cpsOf, cpT, toI, slT, T.weak, metT, kApp, kExt, elemD, iT, iL, iR1, iR2, iE, iZ, onI]
theorem l4 (s0 st sh ac : Sl) (e9 : En) (q : loopF (gN 4) b_law_2 (rngD 0 4) (E16 s0 st sh ac .no .no .no .no .no .no) = .nx e9) : f_law_4 (E16 s0 st sh ac .no .no .no .no .no .no) = .nx e9 := by
  unfold f_law_4
  exact sFor_of (by simp [sEr, op2, op1, T.val, R.opt, toB, opL, vals, consT, disp, mvs, mkTup, callT, callI, argE, others, isAl, isAli, finT, outE, padE, runD, cpsOf, cpT, toI, slT, T.weak, metT, kApp, kExt, elemD, iT, iL, iR1, iR2, iE, iZ, onI]) q
theorem l5 (e : En) : f_law_5 e = .rt (.im (.bl true)) e := by
  simp [f_law_5, sEr, op2, op1, T.val, R.opt, toB, opL, vals, consT, disp, mvs, mkTup, callT, callI, argE, others, isAl, isAli, finT, outE, padE, runD, cpsOf, cpT, toI, slT, T.weak, metT, kApp, kExt, elemD, iT, iL, iR1, iR2, iE, iZ, onI]
theorem b21 (ns : List Int) (m m' : Nat) (ac ag ba mo bo at_ al : Sl) (sh bb : D) (e1 : d__law_some_basket [scr ns, .own true (rep0 m), .im sh] = .ok (.im bb) [.no, .own true (rep0 m'), .no]) :
    b_law_2_1 (E16 (scr ns) (.own false (rep0 m)) (.im sh) ac ag ba mo bo at_ al) = .nx (E16 (scr ns) (.own false (rep0 m')) (.im sh) ac ag (.im bb) mo bo at_ al) := by
  simp [scr] at e1
  simp [b_law_2_1, scr, e1, sEr, op2, op1, T.val, R.opt, toB, opL, vals, consT, disp, mvs, mkTup, callT, callI, argE, others, isAl, isAli, finT, outE, padE, runD, cpsOf, cpT, toI, slT, T.weak, metT, kApp, kExt, elemD, iT, iL, iR1, iR2, iE, iZ, onI]
def acD : D → Ac
  | .tup [_, .int n] => .off n.toNat
  | .tup [_, .int n, .int m] => .most n.toNat m
  | _ => .off 0
theorem acD_d (a : Ac) : acD a.d = a := by cases a <;> simp [acD, Ac.d]
noncomputable abbrev LCM : FE := eLc (fiT (eCallI 1 d__law_some_acts (aCons (eVar 0) (aCons (eVar 1) (aCons (eVar 2) (aCons (eC (.int 5)) aNil)))))) [8] (.one 8) (tNo (tV (eCall d_touches (aCons (eVar 2) (aCons (eVar 3) (aCons (eVar 8) (aCons (eVar 5) aNil))))))) (eVar 8)
theorem lcm_fi (ns : List Int) (m m' : Nat) (ac ag ba mo bo at_ al : Sl) (sh : D) (cd : List D) (e : d__law_some_acts [scr ns, .own true (rep0 m), .im sh, .im (.int 5)] = .ok (.im (.tup cd)) [.no, .own true (rep0 m'), .no, .no]) : fiT (eCallI 1 d__law_some_acts (aCons (eVar 0) (aCons (eVar 1) (aCons (eVar 2) (aCons (eC (.int 5)) aNil))))) (E16 (scr ns) (.own false (rep0 m)) (.im sh) ac ag ba mo bo at_ al) = .ok ⟨cd, none⟩ (E16 (scr ns) (.own false (rep0 m')) (.im sh) ac ag ba mo bo at_ al) := by
  simp [scr] at e
  simp [scr, e, sEr, op2, op1, T.val, R.opt, toB, opL, vals, consT, disp, mvs, mkTup, callT, callI, argE, others, isAl, isAli, finT, outE, padE, runD, cpsOf, cpT, toI, slT, T.weak, metT, kApp, kExt, elemD, iT, iL, iR1, iR2, iE, iZ, onI]
theorem lcm_t (s0 st ag mo bo al : Sl) (sh ac ba a : D) (b : Bool) (q : d_touches [.im sh, .im ac, .im a, .im ba] = .ok (.im (.bl b)) [.no, .no, .no, .no]) : tNo (tV (eCall d_touches (aCons (eVar 2) (aCons (eVar 3) (aCons (eVar 8) (aCons (eVar 5) aNil)))))) (E16 s0 st (.im sh) (.im ac) ag (.im ba) mo bo (.im a) al) = .ok (!b) (E16 s0 st (.im sh) (.im ac) ag (.im ba) mo bo (.im a) al) := by
  simp [q, sEr, op2, op1, T.val, R.opt, toB, opL, vals, consT, disp, mvs, mkTup, callT, callI, argE, others, isAl, isAli, finT, outE, padE, runD, cpsOf, cpT, toI, slT, T.weak, metT, kApp, kExt, elemD, iT, iL, iR1, iR2, iE, iZ, onI]
theorem r_more (ns : List Int) (m m' : Nat) {gi : List (Int × Int)} {us : List Ru} (h : Shp gi us) {as cs : List Ac} (A : Acts us as) (hc : ∀ a ∈ cs, a.ok us) (cl : cs.length ≤ 900) {bs : List Int} (hb : bs.length = gi.length) (hb0 : ∀ b ∈ bs, 0 ≤ b ∧ b ≤ 1000000) (ag mo bo at_ al : Sl)
    (e : d__law_some_acts [scr ns, .own true (rep0 m), .im (shopD gi us), .im (.int 5)] = .ok (.im (.tup (cs.map Ac.d))) [.no, .own true (rep0 m'), .no, .no]) :
    LCM (E16 (scr ns) (.own false (rep0 m)) (.im (shopD gi us)) (.im (.tup (as.map Ac.d))) ag (.im (basD bs)) mo bo at_ al) = .ok (.fr ((cs.filter fun a => !touched gi us as a bs).map Ac.d)) (E16 (scr ns) (.own false (rep0 m')) (.im (shopD gi us)) (.im (.tup (as.map Ac.d))) ag (.im (basD bs)) mo bo .no al) := by
  have q := eLc_of (vs := [8]) (t := .one 8) (ft := tNo (tV (eCall d_touches (aCons (eVar 2) (aCons (eVar 3) (aCons (eVar 8) (aCons (eVar 5) aNil))))))) (fe := eVar 8) (lcm_fi ns m m' (.im (.tup (as.map Ac.d))) ag (.im (basD bs)) mo bo at_ al _ _ e)
    (lc_filter (k := ⟨cs.map Ac.d, none⟩) (vs := [8]) (t := .one 8) (p := fun d => !touched gi us as (acD d) bs) (h := id) (env := E16 (scr ns) (.own false (rep0 m')) (.im (shopD gi us)) (.im (.tup (as.map Ac.d))) ag (.im (basD bs)) mo bo .no al) trivial (cs.map Ac.d) [] (small_size (by rw [List.length_map]; show 0 + _ ≤ 1000; omega)) fun d z => by
      obtain ⟨a, ha, rfl⟩ := List.mem_map.mp z
      have t := r_touches h A (hc a ha) hb hb0
      refine ⟨E16 (scr ns) (.own false (rep0 m')) (.im (shopD gi us)) (.im (.tup (as.map Ac.d))) ag (.im (basD bs)) mo bo (.im a.d) al, E16 (scr ns) (.own false (rep0 m')) (.im (shopD gi us)) (.im (.tup (as.map Ac.d))) ag (.im (basD bs)) mo bo (.im a.d) al, rfl, ?_, rfl, fun _ => ⟨.im a.d, E16 (scr ns) (.own false (rep0 m')) (.im (shopD gi us)) (.im (.tup (as.map Ac.d))) ag (.im (basD bs)) mo bo (.im a.d) al, by simp [sEr, op2, op1, T.val, R.opt, toB, opL, vals, consT, disp, mvs, mkTup, callT, callI, argE, others, isAl, isAli, finT, outE, padE, runD, cpsOf, cpT, toI, slT, T.weak, metT, kApp, kExt, elemD, iT, iL, iR1, iR2, iE, iZ, onI], rfl, rfl⟩⟩
      rw [acD_d]
      exact lcm_t _ _ _ _ _ _ _ _ _ _ _ t)
  have e2 : ((cs.map Ac.d).filter fun d => !touched gi us as (acD d) bs).map id = (cs.filter fun a => !touched gi us as a bs).map Ac.d := by
    rw [List.map_id, List.filter_map]
    congr 1
    refine List.filter_congr fun a _ => ?_
    show (!touched gi us as (acD a.d) bs) = _
    rw [acD_d]
  rw [List.nil_append, e2] at q
  exact q
theorem b22 (e e2 : En) (zs : List D) (s0 st sh ac ag ba mo bo at_ al st2 at2 : Sl) (q : LCM (E16 s0 st sh ac ag ba mo bo at_ al) = .ok (.fr zs) (E16 s0 st2 sh ac ag ba mo bo at2 al)) : b_law_2_2 (E16 s0 st sh ac ag ba mo bo at_ al) = .nx (E16 s0 st2 sh ac ag ba (.own false zs) bo at2 al) := by
  simp [b_law_2_2, q, sEr, op2, op1, T.val, R.opt, toB, opL, vals, consT, disp, mvs, mkTup, callT, callI, argE, others, isAl, isAli, finT, outE, padE, runD, cpsOf, cpT, toI, slT, T.weak, metT, kApp, kExt, elemD, iT, iL, iR1, iR2, iE, iZ, onI]
def kyA : Ac → NestedKey
  | .off n => .tup [.text "off", .num n]
  | .most n m => .tup [.text "most", .num n, .num m]
theorem kyA_d (a : Ac) : keyD (kyA a) = a.d := by cases a <;> rfl
theorem kyA_dep (a : Ac) : (∃ xs, kyA a = .tup xs) ∧ (kyA a).depth ≤ 8 := by
  cases a
  · exact ⟨⟨_, rfl⟩, by simp [kyA, NestedKey.depth, NestedKey.depthAll]⟩
  · exact ⟨⟨_, rfl⟩, by simp [kyA, NestedKey.depth, NestedKey.depthAll]⟩
theorem kyA_pull : ∀ {M : List NestedKey}, (∀ k ∈ M, ∃ a, k = kyA a) → ∃ P : List Ac, M = P.map kyA
  | [], _ => ⟨[], rfl⟩
  | k :: M, h => by
    obtain ⟨P, e⟩ := kyA_pull fun x hx => h x (List.mem_cons_of_mem _ hx)
    obtain ⟨a, e2⟩ := h k List.mem_cons_self
    exact ⟨a :: P, by rw [List.map_cons, e, e2]⟩
theorem kyA_inj {a b : Ac} (h : kyA a = kyA b) : a = b := by
  have := congrArg keyD h
  rw [kyA_d, kyA_d] at this
  have := congrArg acD this
  rwa [acD_d, acD_d] at this
theorem dedA : ∀ as : List Ac, ∃ N : List Ac, N.Nodup ∧ (∀ a, a ∈ N ↔ a ∈ as) ∧ N.length ≤ as.length
  | [] => ⟨[], List.nodup_nil, fun _ => Iff.rfl, Nat.le_refl _⟩
  | a :: as => by
    obtain ⟨N, h1, h2, h3⟩ := dedA as
    by_cases c : a ∈ as
    · exact ⟨N, h1, fun x => by rw [h2, List.mem_cons]; exact ⟨.inr, fun z => z.elim (fun z => z ▸ c) id⟩, Nat.le_succ_of_le h3⟩
    · exact ⟨a :: N, List.nodup_cons.mpr ⟨fun z => c ((h2 a).mp z), h1⟩, fun x => by rw [List.mem_cons, List.mem_cons, h2], Nat.succ_le_succ h3⟩
theorem sortA_same {P N : List Ac} (hp : P.Nodup) (hn : N.Nodup) (h : ∀ a, a ∈ P ↔ a ∈ N) : sortA P = sortA N := by
  have pm : P.Perm N := (List.perm_ext_iff_of_nodup hp hn).mpr h
  refine ((sortA_perm P).trans (pm.trans (sortA_perm N).symm)).eq_of_pairwise (fun a b _ _ z z' => ?_) (asc_pw (sortA_asc hp)) (asc_pw (sortA_asc hn))
  have := lt_tr z z'
  rw [lt_irr] at this
  cases this
theorem ss_acts (as : List Ac) (hl : as.length < 64) : ∃ N : List Ac, N.Nodup ∧ (∀ a, a ∈ N ↔ a ∈ as) ∧ N.length ≤ as.length ∧ SS (as.map Ac.d) ((sortA N).map Ac.d) := by
  obtain ⟨N, h1, h2, h3⟩ := dedA as
  refine ⟨N, h1, h2, h3, as.map kyA, ?_, fun k hk => ?_, by rw [List.length_map]; exact hl, fun M hm hk => ?_⟩
  · rw [List.map_map]
    exact List.map_congr_left fun a _ => (kyA_d a).symm
  · obtain ⟨a, _, rfl⟩ := List.mem_map.mp hk
    exact kyA_dep a
  · obtain ⟨P, rfl⟩ := kyA_pull fun k hk' => by
      obtain ⟨a, _, e⟩ := List.mem_map.mp ((hk k).mp hk')
      exact ⟨a, e.symm⟩
    have hp : P.Nodup := List.Pairwise.of_map kyA (fun _ _ hne e => hne (congrArg kyA e)) hm
    have mem : ∀ a, a ∈ P ↔ a ∈ N := fun a => by
      rw [h2]
      have := hk (kyA a)
      rw [List.mem_map, List.mem_map] at this
      constructor
      · intro z
        obtain ⟨b, hb, e⟩ := this.mp ⟨a, z, rfl⟩
        rwa [← kyA_inj e]
      · intro z
        obtain ⟨b, hb, e⟩ := this.mpr ⟨a, z, rfl⟩
        rwa [← kyA_inj e]
    have pl : P.length ≤ 64 := by
      have := ((List.perm_ext_iff_of_nodup hp h1).mpr mem).length_eq
      omega
    have em : (P.map kyA).map keyD = P.map Ac.d := by
      rw [List.map_map]
      exact List.map_congr_left fun a _ => kyA_d a
    rw [em]
    exact ⟨ok_sort P (by omega), by rw [sort_is, sortA_same hp h1 mem]⟩
theorem b23 (s0 st sh ag ba bo at_ al : Sl) (ad md zs ys : List D) (hl : ad.length + md.length ≤ 1000) (q : dSetSort [.lst (ad ++ md)] = some (.fr zs)) (c : cutD zs none (some 8) = ys) : b_law_2_3 (E16 s0 st sh (.im (.tup ad)) ag ba (.own false md) bo at_ al) = .nx (E16 s0 st sh (.im (.tup ad)) ag ba (.own false md) (.im (.tup ys)) at_ al) := by
  have h2 : ad.length + md.length ≤ 1000000 := by omega
  simp [b_law_2_3, h2, q, c, sEr, op2, op1, T.val, R.opt, toB, opL, vals, consT, disp, mvs, mkTup, callT, callI, argE, others, isAl, isAli, finT, outE, padE, runD, cpsOf, cpT, toI, slT, T.weak, metT, kApp, kExt, elemD, iT, iL, iR1, iR2, iE, iZ, onI]
noncomputable abbrev LCA : FE := eLc (fiT (eVar 3)) [8] (.one 8) tT (eOp (dInA false) (eVar 8) (eVar 7))
theorem lca (s0 st sh ag ba mo at_ al : Sl) {as cs : List Ac} (hl : as.length ≤ 900) : LCA (E16 s0 st sh (.im (.tup (as.map Ac.d))) ag ba mo (.im (.tup (cs.map Ac.d))) at_ al) = .ok (.fr ((as.map fun a => cs.any fun b => decide (b = a)).map D.bl)) (E16 s0 st sh (.im (.tup (as.map Ac.d))) ag ba mo (.im (.tup (cs.map Ac.d))) .no al) := by
  have q := eLc_of (fi := fiT (eVar 3)) (vs := [8]) (t := .one 8) (ft := tT) (fe := eOp (dInA false) (eVar 8) (eVar 7)) (env := E16 s0 st sh (.im (.tup (as.map Ac.d))) ag ba mo (.im (.tup (cs.map Ac.d))) at_ al) (k := ⟨as.map Ac.d, none⟩) (e := E16 s0 st sh (.im (.tup (as.map Ac.d))) ag ba mo (.im (.tup (cs.map Ac.d))) at_ al) (by simp [sEr, op2, op1, T.val, R.opt, toB, opL, vals, consT, disp, mvs, mkTup, callT, callI, argE, others, isAl, isAli, finT, outE, padE, runD, cpsOf, cpT, toI, slT, T.weak, metT, kApp, kExt, elemD, iT, iL, iR1, iR2, iE, iZ, onI])
    (lc_map (k := ⟨as.map Ac.d, none⟩) (vs := [8]) (t := .one 8) (h := fun d => .bl (cs.any fun b => decide (b = acD d))) (env := E16 s0 st sh (.im (.tup (as.map Ac.d))) ag ba mo (.im (.tup (cs.map Ac.d))) .no al) trivial (as.map Ac.d) [] (small_size (by rw [List.length_map]; show 0 + _ ≤ 1000; omega)) fun d z => by
      obtain ⟨a, ha, rfl⟩ := List.mem_map.mp z
      have i := in_acts false a cs
      refine ⟨E16 s0 st sh (.im (.tup (as.map Ac.d))) ag ba mo (.im (.tup (cs.map Ac.d))) (.im a.d) al, .im (.bl (cs.any fun b => decide (b = acD a.d))), E16 s0 st sh (.im (.tup (as.map Ac.d))) ag ba mo (.im (.tup (cs.map Ac.d))) (.im a.d) al, rfl, ?_, rfl, rfl⟩
      rw [acD_d]
      generalize cs.map Ac.d = cd at i
      generalize a.d = dd at i
      simp at i
      simp [i, sEr, op2, op1, T.val, R.opt, toB, opL, vals, consT, disp, mvs, mkTup, callT, callI, argE, others, isAl, isAli, finT, outE, padE, runD, cpsOf, cpT, toI, slT, T.weak, metT, kApp, kExt, elemD, iT, iL, iR1, iR2, iE, iZ, onI])
  rw [List.nil_append, List.map_map] at q
  rw [List.map_map]
  have e : ((fun d => D.bl (cs.any fun b => decide (b = acD d))) ∘ Ac.d) = D.bl ∘ fun a => cs.any fun b => decide (b = a) := by
    funext a
    show D.bl (cs.any fun b => decide (b = acD a.d)) = _
    rw [acD_d]
    rfl
  rw [e] at q
  exact q
theorem b24 (s0 st sh ac ag ba mo bo at_ al at2 : Sl) (bs : List Bool) (q : LCA (E16 s0 st sh ac ag ba mo bo at_ al) = .ok (.fr (bs.map D.bl)) (E16 s0 st sh ac ag ba mo bo at2 al)) (h : bs.all id = true) : b_law_2_4 (E16 s0 st sh ac ag ba mo bo at_ al) = .nx (E16 s0 st sh ac ag ba mo bo at2 al) := by
  have al' : dAll [.lst (bs.map D.bl)] = some (.im (.bl true)) := by rw [dAll_lst, blsOf_map]; show some (T.im (D.bl (bs.all id))) = _; rw [h]
  simp [b_law_2_4, q, al', sEr, op2, op1, T.val, R.opt, toB, opL, vals, consT, disp, mvs, mkTup, callT, callI, argE, others, isAl, isAli, finT, outE, padE, runD, cpsOf, cpT, toI, slT, T.weak, metT, kApp, kExt, elemD, iT, iL, iR1, iR2, iE, iZ, onI]
theorem b25 (s0 st ag mo at_ al : Sl) (sh ac ba bo s1 s2 : D) (c : Int) (q1 : d_shop_under [.im sh, .im bo] = .ok (.im s1) [.no, .no]) (q2 : d_charge [.im s1, .im ba] = .ok (.im (.int c)) [.no, .no]) (q3 : d_shop_under [.im sh, .im ac] = .ok (.im s2) [.no, .no]) (q4 : d_charge [.im s2, .im ba] = .ok (.im (.int c)) [.no, .no]) :
    b_law_2_5 (E16 s0 st (.im sh) (.im ac) ag (.im ba) mo (.im bo) at_ al) = .nx (E16 s0 st (.im sh) (.im ac) ag (.im ba) mo (.im bo) at_ al) := by
  simp [b_law_2_5, q1, q2, q3, q4, sEr, op2, op1, T.val, R.opt, toB, opL, vals, consT, disp, mvs, mkTup, callT, callI, argE, others, isAl, isAli, finT, outE, padE, runD, cpsOf, cpT, toI, slT, T.weak, metT, kApp, kExt, elemD, iT, iL, iR1, iR2, iE, iZ, onI]
theorem b26 (s0 st ac ag ba mo bo at_ al : Sl) (sh : D) (ad : List D) (e9 : En) (q : d__law_all_acts [.im sh] = .ok (.fr ad) [.no]) (q2 : loopF (gN 8) b_law_1 ad (E16 s0 st (.im sh) ac ag ba mo bo at_ al) = .nx e9) : b_law_2_6 (E16 s0 st (.im sh) ac ag ba mo bo at_ al) = .nx e9 := by
  unfold b_law_2_6
  exact sFor_of (its := ad) (e := E16 s0 st (.im sh) ac ag ba mo bo at_ al) (by simp [q, sEr, op2, op1, T.val, R.opt, toB, opL, vals, consT, disp, mvs, mkTup, callT, callI, argE, others, isAl, isAli, finT, outE, padE, runD, cpsOf, cpT, toI, slT, T.weak, metT, kApp, kExt, elemD, iT, iL, iR1, iR2, iE, iZ, onI]) q2
theorem b11 (s0 st ac ag mo bo al : Sl) (sh ba a s1 : D) (c : Int) (q1 : d_shop_under [.im sh, .im (.tup [a])] = .ok (.im s1) [.no, .no]) (q2 : d_charge [.im s1, .im ba] = .ok (.im (.int c)) [.no, .no]) :
    b_law_1_1 (E16 s0 st (.im sh) ac ag (.im ba) mo bo (.im a) al) = .nx (E16 s0 st (.im sh) ac ag (.im ba) mo bo (.im a) (.im (.int c))) := by
  simp [b_law_1_1, q1, q2, sEr, op2, op1, T.val, R.opt, toB, opL, vals, consT, disp, mvs, mkTup, callT, callI, argE, others, isAl, isAli, finT, outE, padE, runD, cpsOf, cpT, toI, slT, T.weak, metT, kApp, kExt, elemD, iT, iL, iR1, iR2, iE, iZ, onI]
theorem b12 (s0 st ac ag mo bo : Sl) (sh ba a : D) (c c2 : Int) (x : Bool) (q1 : d_charge [.im sh, .im ba] = .ok (.im (.int c2)) [.no, .no]) (q2 : d_touches [.im sh, .im (.tup []), .im a, .im ba] = .ok (.im (.bl x)) [.no, .no, .no, .no]) (h : x = false → c = c2) :
    b_law_1_2 (E16 s0 st (.im sh) ac ag (.im ba) mo bo (.im a) (.im (.int c))) = .nx (E16 s0 st (.im sh) ac ag (.im ba) mo bo (.im a) (.im (.int c))) := by
  cases x with
  | true =>
    by_cases e : c = c2
    · subst e
      simp [b_law_1_2, q1, q2, sEr, op2, op1, T.val, R.opt, toB, opL, vals, consT, disp, mvs, mkTup, callT, callI, argE, others, isAl, isAli, finT, outE, padE, runD, cpsOf, cpT, toI, slT, T.weak, metT, kApp, kExt, elemD, iT, iL, iR1, iR2, iE, iZ, onI]
    · simp [b_law_1_2, q1, q2, e, flatT, D.flat, sEr, op2, op1, T.val, R.opt, toB, opL, vals, consT, disp, mvs, mkTup, callT, callI, argE, others, isAl, isAli, finT, outE, padE, runD, cpsOf, cpT, toI, slT, T.weak, metT, kApp, kExt, elemD, iT, iL, iR1, iR2, iE, iZ, onI]
  | false =>
    have e := h rfl
    subst e
    simp [b_law_1_2, q1, q2, sEr, op2, op1, T.val, R.opt, toB, opL, vals, consT, disp, mvs, mkTup, callT, callI, argE, others, isAl, isAli, finT, outE, padE, runD, cpsOf, cpT, toI, slT, T.weak, metT, kApp, kExt, elemD, iT, iL, iR1, iR2, iE, iZ, onI]
theorem under_nil16 (us : List Ru) : underL us [] = us := by
  have k : ∀ n, keep [] n = true := fun n => rfl
  have e : numsU us.length [] = List.range us.length := List.filter_eq_self.mpr fun n _ => rfl
  unfold underL
  rw [e]
  apply List.ext_getElem?
  intro j
  rw [List.getElem?_map]
  by_cases hj : j < us.length
  · rw [List.getElem?_range hj, List.getElem?_eq_getElem hj]
    show some (ruU (us.getD j (.over 2 1)) [] j) = _
    rw [List.getD_eq_getElem?_getD, List.getElem?_eq_getElem hj]
    rfl
  · rw [List.getElem?_eq_none (by simpa using hj), List.getElem?_eq_none (by omega)]
    rfl
theorem cut16 (zs : List D) : cutD zs none (some 8) = zs.take 8 := by
  simp [cutD, HT.sIx]
theorem turn1 {gi : List (Int × Int)} {us : List Ru} (h : Shp gi us) {bs : List Int} (hb : bs.length = gi.length) (hb0 : ∀ b ∈ bs, 0 ≤ b ∧ b ≤ 1000000) {a : Ac} (ok : a.ok us) (s0 st ac ag mo bo al : Sl) :
    ∃ al2, b_law_1 (E16 s0 st (.im (shopD gi us)) ac ag (.im (basD bs)) mo bo (.im a.d) al) = .nx (E16 s0 st (.im (shopD gi us)) ac ag (.im (basD bs)) mo bo (.im a.d) al2) := by
  have A1 : Acts us [a] := ⟨by simp, fun b z => by rw [List.mem_singleton.mp z]; exact ok, rfl⟩
  have A0 : Acts us [] := ⟨by simp, (fun b z => nomatch z), rfl⟩
  have q1 := r_shop_under h A1
  have q2 := r_charge (under_shp h A1.ok) hb hb0
  have q3 := r_charge h hb hb0
  have q4 := r_touches h A0 ok hb hb0
  refine ⟨_, seq_of (b11 s0 st ac ag mo bo al _ _ _ _ _ q1 q2) (b12 s0 st ac ag mo bo _ _ _ _ _ _ q3 q4 fun z => ?_)⟩
  have u := untouched h (as := []) (cs := [a]) (fun b z => nomatch z) A1.ok hb (fun b z => (hb0 b z).1) fun b hb' _ => by rw [List.mem_singleton.mp hb']; exact z
  rw [under_nil16] at u
  exact u
theorem turn2 (ns : List Int) (hl : ns.length ≤ 63) {gi : List (Int × Int)} {us : List Ru} (h : Shp gi us) {as : List Ac} (A : Acts us as) (ha : as.length ≤ 3) (m : Nat) (hm : m ≤ 1000) (ag ba mo bo at_ al : Sl) :
    ∃ m' ba' mo' bo' at' al', m' ≤ m + 20 ∧ b_law_2 (E16 (scr ns) (.own false (rep0 m)) (.im (shopD gi us)) (.im (.tup (as.map Ac.d))) ag ba mo bo at_ al) = .nx (E16 (scr ns) (.own false (rep0 m')) (.im (shopD gi us)) (.im (.tup (as.map Ac.d))) ag ba' mo' bo' at' al') := by
  obtain ⟨bs, m1, e1, h1, hb, h3⟩ := draw_basket ns m h hl (by omega)
  have hb0 : ∀ b ∈ bs, 0 ≤ b ∧ b ≤ 1000000 := fun b z => by have := h3 b z; omega
  obtain ⟨m2, cs, e2, _, h5, _, c2, c3⟩ := r_some_acts ns hl m1 (by omega) (.tup (gi.map gd)) h.few 5 (by decide)
  have s1 := b21 ns m m1 (.im (.tup (as.map Ac.d))) ag ba mo bo at_ al _ _ e1
  have s2 := b22 [] [] _ _ _ _ _ _ _ _ _ _ _ _ _ (r_more ns m1 m2 h A c2 (by omega) hb hb0 ag mo bo at_ al e2)
  generalize hms : (cs.filter fun a => !touched gi us as a bs) = ms at s2
  have ml : ms.length ≤ cs.length := by rw [← hms]; exact List.length_filter_le _ _
  have mt : ∀ a ∈ ms, a.ok us ∧ touched gi us as a bs = false := fun a z => by
    rw [← hms, List.mem_filter] at z
    exact ⟨c2 a z.1, by simpa using z.2⟩
  obtain ⟨N, n1, n2, n3, ss⟩ := ss_acts (as ++ ms) (by rw [List.length_append]; omega)
  rw [List.length_append] at n3
  have q := dSetSort_is ss
  rw [List.map_append] at q
  have nl : (sortA N).length ≤ 8 := by rw [sortA_len]; omega
  have cut : cutD ((sortA N).map Ac.d) none (some 8) = (sortA N).map Ac.d := by
    have c8 : cutD ((sortA N).map Ac.d) none (some 8) = ((sortA N).map Ac.d).take 8 := cut16 _
    rw [c8, List.take_of_length_le (by rw [List.length_map]; exact nl)]
  have s3 := b23 (scr ns) (.own false (rep0 m2)) (.im (shopD gi us)) ag (.im (basD bs)) bo .no al (as.map Ac.d) (ms.map Ac.d) _ _ (by rw [List.length_map, List.length_map]; omega) q cut
  have mem : ∀ a, a ∈ sortA N ↔ a ∈ as ∨ a ∈ ms := fun a => by rw [(sortA_perm N).mem_iff, n2, List.mem_append]
  have B : Acts us (sortA N) := ⟨nl, fun a z => ((mem a).mp z).elim (A.ok a) fun z => (mt a z).1, sortA_asc n1⟩
  have s4 := b24 _ _ _ _ _ _ _ _ _ _ _ _ (lca (scr ns) (.own false (rep0 m2)) (.im (shopD gi us)) ag (.im (basD bs)) (.own false (ms.map Ac.d)) .no al (as := as) (cs := sortA N) (by omega)) (by
    rw [List.all_eq_true]
    intro x hx
    obtain ⟨a, ha, rfl⟩ := List.mem_map.mp hx
    exact List.any_eq_true.mpr ⟨a, (mem a).mpr (.inl ha), decide_eq_true rfl⟩)
  have u := untouched h (as := as) (cs := sortA N) (fun a z => (mem a).mpr (.inl z)) B.ok hb (fun b z => (hb0 b z).1) fun a z hn => (((mem a).mp z).elim (fun z => (hn z).elim) fun z => (mt a z).2)
  have q2 := r_charge (under_shp h B.ok) hb hb0
  rw [u] at q2
  have s5 := b25 (scr ns) (.own false (rep0 m2)) ag (.own false (ms.map Ac.d)) .no al _ _ _ _ _ _ _ (r_shop_under h B) q2 (r_shop_under h A) (r_charge (under_shp h A.ok) hb hb0)
  obtain ⟨e6, q6, at6, al6, rfl⟩ := loop_all (g := gN 8) (f := b_law_1) (ds := (allActs us).map Ac.d) (env := E16 (scr ns) (.own false (rep0 m2)) (.im (shopD gi us)) (.im (.tup (as.map Ac.d))) ag (.im (basD bs)) (.own false (ms.map Ac.d)) (.im (.tup ((sortA N).map Ac.d))) .no al)
    (I := fun _ e => ∃ at' al', e = E16 (scr ns) (.own false (rep0 m2)) (.im (shopD gi us)) (.im (.tup (as.map Ac.d))) ag (.im (basD bs)) (.own false (ms.map Ac.d)) (.im (.tup ((sortA N).map Ac.d))) at' al') ⟨.no, al, rfl⟩ (by
    rintro i d _ hd ⟨at', al', rfl⟩
    obtain ⟨a, ha, rfl⟩ := List.mem_map.mp (List.mem_of_getElem? hd)
    obtain ⟨al2, q⟩ := turn1 h hb hb0 (all_mem.mp ha) (scr ns) (.own false (rep0 m2)) (.im (.tup (as.map Ac.d))) ag (.own false (ms.map Ac.d)) (.im (.tup ((sortA N).map Ac.d))) al'
    exact ⟨_, _, rfl, .inl q, _, al2, rfl⟩)
  have s6 := b26 _ _ _ _ _ _ _ _ _ _ _ _ (r_all_acts (.tup (gi.map gd)) h.few) q6
  refine ⟨m2, .im (basD bs), .own false (ms.map Ac.d), .im (.tup ((sortA N).map Ac.d)), at6, al6, by omega, ?_⟩
  unfold b_law_2
  exact seq_of s1 (seq_of s2 (seq_of s3 (seq_of s4 (seq_of s5 s6))))
theorem law_data (ns : List Int) (hl : ns.length ≤ 63) : ∃ o, d_law [.im (.fz (ns.map D.int))] = .ok (.im (.bl true)) o := by
  obtain ⟨gi, us, m, e, _, hm, h, _, _⟩ := draw_shop ns 0 hl (by decide)
  obtain ⟨m1, as, e1, _, h1, a1, a2, a3⟩ := r_some_acts ns hl m (by omega) (.tup (gi.map gd)) h.few 3 (by decide)
  have A : Acts us as := ⟨by omega, a2, a1⟩
  obtain ⟨e6, q6, m6, ag, ba, mo, bo, at_, al, _, rfl⟩ := loop_all (g := gN 4) (f := b_law_2) (ds := rngD 0 4) (env := E16 (scr ns) (.own false (rep0 m1)) (.im (shopD gi us)) (.im (.tup (as.map Ac.d))) .no .no .no .no .no .no)
    (I := fun i e => ∃ m' ag ba mo bo at_ al, m' ≤ m1 + 20 * i ∧ e = E16 (scr ns) (.own false (rep0 m')) (.im (shopD gi us)) (.im (.tup (as.map Ac.d))) ag ba mo bo at_ al) ⟨m1, .no, .no, .no, .no, .no, .no, by omega, rfl⟩ (by
    rintro i d _ hd ⟨m', ag, ba, mo, bo, at_, al, hm', rfl⟩
    have hi : i < 4 := (List.getElem?_eq_some_iff.mp hd).1
    obtain ⟨m2, ba', mo', bo', at', al', h2, q⟩ := turn2 ns hl h A (by omega) m' (by omega) (.im d) ba mo bo at_ al
    exact ⟨_, _, rfl, .inl q, m2, .im d, ba', mo', bo', at', al', by omega, rfl⟩)
  refine ⟨[.no], fin4 (m := 0) (rest := E16 (scr ns) (.own false (rep0 m6)) (.im (shopD gi us)) (.im (.tup (as.map Ac.d))) ag ba mo bo at_ al) rfl ?_ _ rfl⟩
  show f_law (E16 (scr ns) .no .no .no .no .no .no .no .no .no) = _
  unfold f_law
  exact seq_of (l1 (scr ns)) (seq_of (l2 ns m _ e) (seq_of (l3 ns m m1 _ _ e1) (seq_of (l4 _ _ _ _ _ q6) (l5 _))))

end DL
set_option maxHeartbeats 0
namespace DLH
open PySem PySem.Spec PyProof.Rows L2
abbrev Ex : Type := List (PySem.W.Frag → Bool)
def look (ex : Ex) (fn : List He.FnD) (K : PySem.W.Frag) : He.Al := (ex.all (fun e => e K) && fn.all (fun d => (He.Fa.code d.at_ d.qual).ok K), fn.map (fun d => He.fnObs K d.at_))
structure Says (ex : Ex) (fn : List He.FnD) (K : PySem.W.Frag) : Prop where
  eq : look ex fn K = He.valE fn
def nextA (g : Addr → Option Obj) (a : Addr) : List Addr := (g a).elim [] He.refsO
def adr (g : Addr → Option Obj) : Nat → List Addr → List Addr
  | 0, l => l
  | n + 1, l => l ++ adr g n (l.flatMap (nextA g))
def seenG (ex : Ex) (fn : List He.FnD) (g : Addr → Option Obj) : He.Al := look ex fn (He.frG g (adr g 4 [mainGlobals]))
abbrev Gr : Type := Ex × List He.FnD
abbrev Gr.see (a : Gr) (g : Addr → Option Obj) : He.Al := seenG a.1 a.2 g
def AllG (gs : List Gr) (K : PySem.W.Frag) : Prop := ∀ a ∈ gs, Says a.1 a.2 K
theorem see_all {gs : List Gr} {g : Addr → Option Obj} (h : gs.map (fun a => a.see g) = gs.map fun a => He.valE a.2) : AllG gs (He.frG g (adr g 4 [mainGlobals])) :=
  fun a ha => ⟨List.map_inj_left.mp h a ha⟩
def hook (gs : List Gr) : PySem.W.Hook := { α := List He.Al, obs := fun s => gs.map fun a => a.see s.heap.get?, val := fun _ => gs.map fun a => He.valE a.2, says := fun _ h => ∃ K : PySem.W.Frag, K.In h ∧ AllG gs K, of := fun _ _ e => ⟨_, He.frG_in, see_all e⟩, keeps := fun _ _ _ z k => z.elim fun K y => ⟨K, PySem.W.Frag.In.keeps y.1 k, y.2⟩ }
def hook1 (a : Gr) : PySem.W.Hook := { α := He.Al, obs := fun s => a.see s.heap.get?, val := fun _ => He.valE a.2, says := fun _ _ => True, of := fun _ _ _ => trivial, keeps := fun _ _ _ _ _ => trivial }
theorem hook_eq (gs : List Gr) (s : PySem.W.SharedT) : (gs.map fun a => a.see (HandSHeadRun.getT s)) = (hook gs).obs s.abs := by
  rw [show HandSHeadRun.getT s = s.abs.heap.get? from funext (HandSHeadRun.getT_eq s)]
  rfl
/-- looks at one run, one by one -/
theorem joinG {X L S : Type} {o : Option X} {l : X → L} {z : X → S} {t : X → Addr → Option Obj} {l' : L} {z' : S} (gs : List Gr) (hl : o.map l = some l') (hz : o.map z = some z') (h : ∀ a ∈ gs, o.map (fun x => a.see (t x)) = some (He.valE a.2)) : o.map (fun x => (l x, z x, gs.map fun a => a.see (t x))) = some (l', z', gs.map fun a => He.valE a.2) := by
  cases o with
  | none => cases hl
  | some x =>
    have e1 : l x = l' := Option.some.inj hl
    have e2 : z x = z' := Option.some.inj hz
    have km : (gs.map fun a => a.see (t x)) = gs.map fun a => He.valE a.2 := List.map_congr_left fun a ha => Option.some.inj (h a ha)
    show some (l x, z x, gs.map fun a => a.see (t x)) = _
    rw [e1, e2, km]
theorem Says.two {ex : Ex} {fn : List He.FnD} {K : PySem.W.Frag} (c : Says ex fn K) : ex.all (fun e => e K) = true ∧ fn.all (fun d => (He.Fa.code d.at_ d.qual).ok K) = true :=
  Bool.and_eq_true_iff.mp (congrArg Prod.fst c.eq)
theorem Says.fact {ex : Ex} {fn : List He.FnD} {K : PySem.W.Frag} (c : Says ex fn K) (i : Nat) {e : PySem.W.Frag → Bool} (h : ex[i]? = some e) : e K = true :=
  List.all_eq_true.mp c.two.1 e (List.mem_of_getElem? h)
theorem Says.def_ {ex : Ex} {fn : List He.FnD} {K : PySem.W.Frag} (c : Says ex fn K) (i : Nat) {d : He.FnD} (h : fn[i]? = some d) : ∃ oc od osl kV doc pm an cdv ct, K.lookup (He.fAd K d.at_) = some ⟨oc, od, .func (PySem.W.fnOf d.name d.qual d.params d.body d.scope .none kV doc pm an cdv ct), osl⟩ ∧ PySem.W.codeIn K cdv d.qual = true := by
  have m : d ∈ fn := List.mem_of_getElem? h
  have e : He.fnObs K d.at_ = d.val := List.map_inj_left.mp (congrArg Prod.snd c.eq) d m
  exact He.fn_ok e (List.all_eq_true.mp c.two.2 d m)
def intB (K : PySem.W.Frag) (x : Str) (i : Int) : Bool := match PySem.W.nsIn K mainGlobals x with
  | some (some (.int j _)) => decide (j = i)
  | _ => false
def strB (K : PySem.W.Frag) (x z : Str) : Bool := match PySem.W.nsIn K mainGlobals x with
  | some (some (.str y _)) => decide (y = z)
  | _ => false
theorem int_ns {K : PySem.W.Frag} {x : Str} {i : Int} (c : intB K x i = true) : ∃ t, PySem.W.nsIn K mainGlobals x = some (some (.int i t)) := by
  unfold intB at c
  split at c
  · rename_i j t e
    have e2 : j = i := of_decide_eq_true c
    rw [← e2]
    exact ⟨t, e⟩
  · cases c
theorem str_ns {K : PySem.W.Frag} {x z : Str} (c : strB K x z = true) : ∃ t, PySem.W.nsIn K mainGlobals x = some (some (.str z t)) := by
  unfold strB at c
  split at c
  · rename_i j t e
    have e2 : j = z := of_decide_eq_true c
    rw [← e2]
    exact ⟨t, e⟩
  · cases c
theorem mro_of {K : PySem.W.Frag} {a : Addr} {l : List Value} (c : decide ((PySem.W.clsIn K a).map (fun d => d.mro) = some l) = true) : ∃ d, PySem.W.clsIn K a = some d ∧ d.mro = l := by
  have e := of_decide_eq_true c
  cases q : PySem.W.clsIn K a with
  | none => rw [q] at e; cases e
  | some d => rw [q] at e; exact ⟨d, rfl, Option.some.inj e⟩
def strsB : List Value → List Str → Bool
  | [], [] => true
  | .str y _ :: vs, z :: zs => decide (y = z) && strsB vs zs
  | _, _ => false
def tupB (K : PySem.W.Frag) (a : Addr) (zs : List Str) : Bool := match K.lookup a with
  | some ⟨c, _, .seq its _, _⟩ => decide (c = .type "tuple") && strsB its.toList zs
  | _ => false
theorem tup_of {K : PySem.W.Frag} {a : Addr} {zs : List Str} (h : tupB K a zs = true) : ∃ o its n v, K.lookup a = some ⟨.type "tuple", o, .seq its n, v⟩ ∧ strsB its.toList zs = true := by
  unfold tupB at h
  split at h
  · rename_i c o its n v e
    obtain ⟨h1, h2⟩ := Bool.and_eq_true_iff.mp h
    have := of_decide_eq_true h1
    subst this
    exact ⟨o, its, n, v, e, h2⟩
  · cases h
theorem strs_cons {vs : List Value} {z : Str} {zs : List Str} (h : strsB vs (z :: zs) = true) : ∃ t r, vs = .str z t :: r ∧ strsB r zs = true := by
  cases vs with
  | nil => cases h
  | cons v r =>
    cases v with
    | str y t =>
      obtain ⟨h3, h4⟩ := Bool.and_eq_true_iff.mp (show (decide (y = z) && strsB r zs) = true from h)
      have e : y = z := of_decide_eq_true h3
      exact ⟨t, r, by rw [e], h4⟩
    | _ => cases h
theorem strs_nil {vs : List Value} (h : strsB vs [] = true) : vs = [] := by
  cases vs with
  | nil => rfl
  | cons v vs => cases v <;> cases h
theorem tup1 {K : PySem.W.Frag} {a : Addr} {x : Str} (h : tupB K a [x] = true) : ∃ o p n v, K.lookup a = some ⟨.type "tuple", o, .seq #[.str x p] n, v⟩ := by
  obtain ⟨o, ⟨l⟩, n, v, e, s⟩ := tup_of h
  obtain ⟨p, r, e1, s1⟩ := strs_cons (vs := l) s
  have e2 := strs_nil s1
  subst e2
  subst e1
  exact ⟨o, p, n, v, e⟩
theorem tup2 {K : PySem.W.Frag} {a : Addr} {x y : Str} (h : tupB K a [x, y] = true) : ∃ o p q n v, K.lookup a = some ⟨.type "tuple", o, .seq #[.str x p, .str y q] n, v⟩ := by
  obtain ⟨o, ⟨l⟩, n, v, e, s⟩ := tup_of h
  obtain ⟨p, r, e1, s1⟩ := strs_cons (vs := l) s
  obtain ⟨q, r2, e2, s2⟩ := strs_cons s1
  have e3 := strs_nil s2
  subst e3
  subst e2
  subst e1
  exact ⟨o, p, q, n, v, e⟩
def itA (K : PySem.W.Frag) (a : Addr) (i : Nat) : Addr := match K.lookup a with
  | some ⟨_, _, .seq its _, _⟩ => (match its.toList[i]? with
    | some (.ref b) => b
    | _ => 0)
  | _ => 0
def refsB (K : PySem.W.Frag) (a : Addr) (bs : List Addr) : Bool := match K.lookup a with
  | some ⟨c, _, .seq its _, _⟩ => decide (c = .type "tuple") && decide (its.toList = bs.map Value.ref)
  | _ => false
theorem refs3 {K : PySem.W.Frag} {a b0 b1 b2 : Addr} (h : refsB K a [b0, b1, b2] = true) : ∃ o n v, K.lookup a = some ⟨.type "tuple", o, .seq #[.ref b0, .ref b1, .ref b2] n, v⟩ := by
  unfold refsB at h
  split at h
  · rename_i c o its n v e
    obtain ⟨h1, h2⟩ := Bool.and_eq_true_iff.mp h
    have h1 := of_decide_eq_true h1
    have h2 := of_decide_eq_true h2
    subst h1
    obtain ⟨l⟩ := its
    have h2 : l = [Value.ref b0, Value.ref b1, Value.ref b2] := h2
    subst h2
    exact ⟨o, n, v, e⟩
  · cases h
theorem walk {l : PySem.W.OpenLaw} {n k : Nat} {q : Program} {loose : List Str} {XP : (Str → Option Value) → Heap → Prop} {gs : List Gr} {d : DefRec} {x : Str} (hn : l.most = some n) (hn2 : n ≤ 63) (hdf : d.params.defaults = []) (hr : Room k callerA)
    (F : ∀ (w : World) (K : PySem.W.Frag) (mg : Str → Option Value) (fa : Addr) (h : Heap), AllG gs K → K.In h → h.Ns mainGlobals mg → mg d.name = some (.ref fa) → ∃ fd : FuncData, (∀ (s : Shared) (u : Value), BindsTo s fd ⟨[u], []⟩ [(x, u)]) ∧ ∀ base : Heap, K.In base → base.Ns mainGlobals mg → FnOk l.prog w K mg base (L2.CX l.prog w) k fa fd [x] (DL.spLaw K))
    (cx : ∀ (w : World) (H : Hp) (s : Shared) (e : Value) (s' : Shared), L2.CX l.prog w [] H s (fun _ _ _ => False) e s' → False) : PySem.W.WalkO q loose XP (hook gs).says l.row.toRowW d [] (fun f vs => PySem.call f vs) :=
  Att.attach_call hn hdf fun w s₀ s₁ mg mb fa o pm cd doc a vs ns G Y ho hd hcd hmg hobj hints hlen hg => by
    cases Y with
    | intro K Y =>
      cases F w K mg fa _ Y.2 Y.1 G.T.g hmg with
      | intro fd Z => exact law_call Y.1 G.T.g G.T.b G.T.builtins G.T.nolimit hg hobj hints (Nat.le_trans (Nat.le_trans hlen hn2) (by decide)) hr Z.2 Z.1 (fun H hO hS => DL.law_hsp (Nat.le_trans hlen hn2) hO hS) fun H e s' => cx w H s₁ e s'
end DLH
namespace DLH
open PySem PySem.Spec PyProof.Rows L2
def fn0 : List He.FnD := [⟨("is_integer", none), "is_integer", "is_integer", defArgs DL.s_is_integer, defBody DL.s_is_integer, defScope DL.s_is_integer⟩,
  ⟨("is_between", none), "is_between", "is_between", defArgs DL.s_is_between, defBody DL.s_is_between, defScope DL.s_is_between⟩,
  ⟨("is_tuple_of", none), "is_tuple_of", "is_tuple_of", defArgs DL.s_is_tuple_of, defBody DL.s_is_tuple_of, defScope DL.s_is_tuple_of⟩,
  ⟨("is_most", none), "is_most", "is_most", defArgs DL.s_is_most, defBody DL.s_is_most, defScope DL.s_is_most⟩,
  ⟨("is_good", none), "is_good", "is_good", defArgs DL.s_is_good, defBody DL.s_is_good, defScope DL.s_is_good⟩,
  ⟨("is_pack", none), "is_pack", "is_pack", defArgs DL.s_is_pack, defBody DL.s_is_pack, defScope DL.s_is_pack⟩,
  ⟨("is_from", none), "is_from", "is_from", defArgs DL.s_is_from, defBody DL.s_is_from, defScope DL.s_is_from⟩,
  ⟨("is_over", none), "is_over", "is_over", defArgs DL.s_is_over, defBody DL.s_is_over, defScope DL.s_is_over⟩,
  ⟨("is_each", none), "is_each", "is_each", defArgs DL.s_is_each, defBody DL.s_is_each, defScope DL.s_is_each⟩,
  ⟨("is_rule", none), "is_rule", "is_rule", defArgs DL.s_is_rule, defBody DL.s_is_rule, defScope DL.s_is_rule⟩,
  ⟨("is_endless_each", none), "is_endless_each", "is_endless_each", defArgs DL.s_is_endless_each, defBody DL.s_is_endless_each, defScope DL.s_is_endless_each⟩,
  ⟨("are_goods", none), "are_goods", "are_goods", defArgs DL.s_are_goods, defBody DL.s_are_goods, defScope DL.s_are_goods⟩,
  ⟨("are_rules", none), "are_rules", "are_rules", defArgs DL.s_are_rules, defBody DL.s_are_rules, defScope DL.s_are_rules⟩,
  ⟨("is_shop", none), "is_shop", "is_shop", defArgs DL.s_is_shop, defBody DL.s_is_shop, defScope DL.s_is_shop⟩,
  ⟨("check_shop", none), "check_shop", "check_shop", defArgs DL.s_check_shop, defBody DL.s_check_shop, defScope DL.s_check_shop⟩,
  ⟨("are_pieces", none), "are_pieces", "are_pieces", defArgs DL.s_are_pieces, defBody DL.s_are_pieces, defScope DL.s_are_pieces⟩,
  ⟨("is_basket", none), "is_basket", "is_basket", defArgs DL.s_is_basket, defBody DL.s_is_basket, defScope DL.s_is_basket⟩,
  ⟨("check_basket", none), "check_basket", "check_basket", defArgs DL.s_check_basket, defBody DL.s_check_basket, defScope DL.s_check_basket⟩,
  ⟨("full_times", none), "full_times", "full_times", defArgs DL.s_full_times, defBody DL.s_full_times, defScope DL.s_full_times⟩,
  ⟨("fitting_rule", none), "fitting_rule", "fitting_rule", defArgs DL.s_fitting_rule, defBody DL.s_fitting_rule, defScope DL.s_fitting_rule⟩,
  ⟨("pack_times", none), "pack_times", "pack_times", defArgs DL.s_pack_times, defBody DL.s_pack_times, defScope DL.s_pack_times⟩,
  ⟨("pack_amount", none), "pack_amount", "pack_amount", defArgs DL.s_pack_amount, defBody DL.s_pack_amount, defScope DL.s_pack_amount⟩,
  ⟨("good_amount", none), "good_amount", "good_amount", defArgs DL.s_good_amount, defBody DL.s_good_amount, defScope DL.s_good_amount⟩,
  ⟨("off_times", none), "off_times", "off_times", defArgs DL.s_off_times, defBody DL.s_off_times, defScope DL.s_off_times⟩,
  ⟨("apply_sums", none), "apply_sums", "apply_sums", defArgs DL.s_apply_sums, defBody DL.s_apply_sums, defScope DL.s_apply_sums⟩,
  ⟨("amounts_of", none), "amounts_of", "amounts_of", defArgs DL.s_amounts_of, defBody DL.s_amounts_of, defScope DL.s_amounts_of⟩,
  ⟨("left_of", none), "left_of", "left_of", defArgs DL.s_left_of, defBody DL.s_left_of, defScope DL.s_left_of⟩,
  ⟨("charge_of", none), "charge_of", "charge_of", defArgs DL.s_charge_of, defBody DL.s_charge_of, defScope DL.s_charge_of⟩,
  ⟨("uses_of", none), "uses_of", "uses_of", defArgs DL.s_uses_of, defBody DL.s_uses_of, defScope DL.s_uses_of⟩,
  ⟨("charge", none), "charge", "charge", defArgs DL.s_charge, defBody DL.s_charge, defScope DL.s_charge⟩,
  ⟨("is_ascending", none), "is_ascending", "is_ascending", defArgs DL.s_is_ascending, defBody DL.s_is_ascending, defScope DL.s_is_ascending⟩]
def fn1 : List He.FnD := [⟨("is_most_act", none), "is_most_act", "is_most_act", defArgs DL.s_is_most_act, defBody DL.s_is_most_act, defScope DL.s_is_most_act⟩,
  ⟨("is_act", none), "is_act", "is_act", defArgs DL.s_is_act, defBody DL.s_is_act, defScope DL.s_is_act⟩,
  ⟨("are_acts", none), "are_acts", "are_acts", defArgs DL.s_are_acts, defBody DL.s_are_acts, defScope DL.s_are_acts⟩,
  ⟨("check_acts", none), "check_acts", "check_acts", defArgs DL.s_check_acts, defBody DL.s_check_acts, defScope DL.s_check_acts⟩,
  ⟨("numbers_under", none), "numbers_under", "numbers_under", defArgs DL.s_numbers_under, defBody DL.s_numbers_under, defScope DL.s_numbers_under⟩,
  ⟨("rule_under", none), "rule_under", "rule_under", defArgs DL.s_rule_under, defBody DL.s_rule_under, defScope DL.s_rule_under⟩,
  ⟨("left_under", none), "left_under", "left_under", defArgs DL.s_left_under, defBody DL.s_left_under, defScope DL.s_left_under⟩,
  ⟨("uses_under", none), "uses_under", "uses_under", defArgs DL.s_uses_under, defBody DL.s_uses_under, defScope DL.s_uses_under⟩,
  ⟨("touches_under", none), "touches_under", "touches_under", defArgs DL.s_touches_under, defBody DL.s_touches_under, defScope DL.s_touches_under⟩,
  ⟨("shop_under", none), "shop_under", "shop_under", defArgs DL.s_shop_under, defBody DL.s_shop_under, defScope DL.s_shop_under⟩,
  ⟨("touches", none), "touches", "touches", defArgs DL.s_touches, defBody DL.s_touches, defScope DL.s_touches⟩,
  ⟨("_law_cell_at", none), "_law_cell_at", "_law_cell_at", defArgs DL.s__law_cell_at, defBody DL.s__law_cell_at, defScope DL.s__law_cell_at⟩,
  ⟨("_law_mixed", none), "_law_mixed", "_law_mixed", defArgs DL.s__law_mixed, defBody DL.s__law_mixed, defScope DL.s__law_mixed⟩,
  ⟨("_law_draw", none), "_law_draw", "_law_draw", defArgs DL.s__law_draw, defBody DL.s__law_draw, defScope DL.s__law_draw⟩,
  ⟨("_law_pick", none), "_law_pick", "_law_pick", defArgs DL.s__law_pick, defBody DL.s__law_pick, defScope DL.s__law_pick⟩,
  ⟨("_law_some_rule", none), "_law_some_rule", "_law_some_rule", defArgs DL.s__law_some_rule, defBody DL.s__law_some_rule, defScope DL.s__law_some_rule⟩,
  ⟨("_law_some_goods", none), "_law_some_goods", "_law_some_goods", defArgs DL.s__law_some_goods, defBody DL.s__law_some_goods, defScope DL.s__law_some_goods⟩,
  ⟨("_law_some_shop", none), "_law_some_shop", "_law_some_shop", defArgs DL.s__law_some_shop, defBody DL.s__law_some_shop, defScope DL.s__law_some_shop⟩,
  ⟨("_law_some_basket", none), "_law_some_basket", "_law_some_basket", defArgs DL.s__law_some_basket, defBody DL.s__law_some_basket, defScope DL.s__law_some_basket⟩,
  ⟨("_law_all_acts", none), "_law_all_acts", "_law_all_acts", defArgs DL.s__law_all_acts, defBody DL.s__law_all_acts, defScope DL.s__law_all_acts⟩,
  ⟨("_law_some_of", none), "_law_some_of", "_law_some_of", defArgs DL.s__law_some_of, defBody DL.s__law_some_of, defScope DL.s__law_some_of⟩,
  ⟨("_law_some_acts", none), "_law_some_acts", "_law_some_acts", defArgs DL.s__law_some_acts, defBody DL.s__law_some_acts, defScope DL.s__law_some_acts⟩,
  ⟨("law", none), "law", "law", defArgs DL.s_law, defBody DL.s_law, defScope DL.s_law⟩]
def ex0 : Ex := [fun K => decide (PySem.W.nsIn K mainGlobals "is_integer" = some (some (.ref (He.ga K "is_integer")))),
  fun K => PySem.W.keepIn K (.ref (He.ga K "is_integer")),
  fun K => decide (PySem.W.nsIn K mainGlobals "is_between" = some (some (.ref (He.ga K "is_between")))),
  fun K => PySem.W.keepIn K (.ref (He.ga K "is_between")),
  fun K => decide (PySem.W.nsIn K mainGlobals "is_tuple_of" = some (some (.ref (He.ga K "is_tuple_of")))),
  fun K => PySem.W.keepIn K (.ref (He.ga K "is_tuple_of")),
  fun K => decide (PySem.W.nsIn K mainGlobals "is_most" = some (some (.ref (He.ga K "is_most")))),
  fun K => PySem.W.keepIn K (.ref (He.ga K "is_most")),
  fun K => decide (PySem.W.nsIn K mainGlobals "is_good" = some (some (.ref (He.ga K "is_good")))),
  fun K => PySem.W.keepIn K (.ref (He.ga K "is_good")),
  fun K => decide (PySem.W.nsIn K mainGlobals "is_pack" = some (some (.ref (He.ga K "is_pack")))),
  fun K => PySem.W.keepIn K (.ref (He.ga K "is_pack")),
  fun K => decide (PySem.W.nsIn K mainGlobals "is_from" = some (some (.ref (He.ga K "is_from")))),
  fun K => PySem.W.keepIn K (.ref (He.ga K "is_from")),
  fun K => decide (PySem.W.nsIn K mainGlobals "is_over" = some (some (.ref (He.ga K "is_over")))),
  fun K => PySem.W.keepIn K (.ref (He.ga K "is_over")),
  fun K => decide (PySem.W.nsIn K mainGlobals "is_each" = some (some (.ref (He.ga K "is_each")))),
  fun K => PySem.W.keepIn K (.ref (He.ga K "is_each")),
  fun K => decide (PySem.W.nsIn K mainGlobals "is_rule" = some (some (.ref (He.ga K "is_rule")))),
  fun K => PySem.W.keepIn K (.ref (He.ga K "is_rule")),
  fun K => decide (PySem.W.nsIn K mainGlobals "is_endless_each" = some (some (.ref (He.ga K "is_endless_each")))),
  fun K => PySem.W.keepIn K (.ref (He.ga K "is_endless_each")),
  fun K => decide (PySem.W.nsIn K mainGlobals "are_goods" = some (some (.ref (He.ga K "are_goods")))),
  fun K => PySem.W.keepIn K (.ref (He.ga K "are_goods")),
  fun K => decide (PySem.W.nsIn K mainGlobals "are_rules" = some (some (.ref (He.ga K "are_rules")))),
  fun K => PySem.W.keepIn K (.ref (He.ga K "are_rules")),
  fun K => decide (PySem.W.nsIn K mainGlobals "is_shop" = some (some (.ref (He.ga K "is_shop")))),
  fun K => PySem.W.keepIn K (.ref (He.ga K "is_shop")),
  fun K => decide (PySem.W.nsIn K mainGlobals "check_shop" = some (some (.ref (He.ga K "check_shop")))),
  fun K => PySem.W.keepIn K (.ref (He.ga K "check_shop")),
  fun K => decide (PySem.W.nsIn K mainGlobals "are_pieces" = some (some (.ref (He.ga K "are_pieces")))),
  fun K => PySem.W.keepIn K (.ref (He.ga K "are_pieces")),
  fun K => decide (PySem.W.nsIn K mainGlobals "is_basket" = some (some (.ref (He.ga K "is_basket")))),
  fun K => PySem.W.keepIn K (.ref (He.ga K "is_basket")),
  fun K => decide (PySem.W.nsIn K mainGlobals "check_basket" = some (some (.ref (He.ga K "check_basket")))),
  fun K => PySem.W.keepIn K (.ref (He.ga K "check_basket")),
  fun K => decide (PySem.W.nsIn K mainGlobals "full_times" = some (some (.ref (He.ga K "full_times")))),
  fun K => PySem.W.keepIn K (.ref (He.ga K "full_times")),
  fun K => decide (PySem.W.nsIn K mainGlobals "fitting_rule" = some (some (.ref (He.ga K "fitting_rule")))),
  fun K => PySem.W.keepIn K (.ref (He.ga K "fitting_rule")),
  fun K => decide (PySem.W.nsIn K mainGlobals "pack_times" = some (some (.ref (He.ga K "pack_times")))),
  fun K => PySem.W.keepIn K (.ref (He.ga K "pack_times")),
  fun K => decide (PySem.W.nsIn K mainGlobals "pack_amount" = some (some (.ref (He.ga K "pack_amount")))),
  fun K => PySem.W.keepIn K (.ref (He.ga K "pack_amount")),
  fun K => decide (PySem.W.nsIn K mainGlobals "good_amount" = some (some (.ref (He.ga K "good_amount")))),
  fun K => PySem.W.keepIn K (.ref (He.ga K "good_amount")),
  fun K => decide (PySem.W.nsIn K mainGlobals "off_times" = some (some (.ref (He.ga K "off_times")))),
  fun K => PySem.W.keepIn K (.ref (He.ga K "off_times")),
  fun K => decide (PySem.W.nsIn K mainGlobals "apply_sums" = some (some (.ref (He.ga K "apply_sums")))),
  fun K => PySem.W.keepIn K (.ref (He.ga K "apply_sums")),
  fun K => decide (PySem.W.nsIn K mainGlobals "amounts_of" = some (some (.ref (He.ga K "amounts_of")))),
  fun K => PySem.W.keepIn K (.ref (He.ga K "amounts_of")),
  fun K => decide (PySem.W.nsIn K mainGlobals "left_of" = some (some (.ref (He.ga K "left_of")))),
  fun K => PySem.W.keepIn K (.ref (He.ga K "left_of")),
  fun K => decide (PySem.W.nsIn K mainGlobals "charge_of" = some (some (.ref (He.ga K "charge_of")))),
  fun K => PySem.W.keepIn K (.ref (He.ga K "charge_of")),
  fun K => decide (PySem.W.nsIn K mainGlobals "uses_of" = some (some (.ref (He.ga K "uses_of")))),
  fun K => PySem.W.keepIn K (.ref (He.ga K "uses_of")),
  fun K => decide (PySem.W.nsIn K mainGlobals "charge" = some (some (.ref (He.ga K "charge")))),
  fun K => PySem.W.keepIn K (.ref (He.ga K "charge")),
  fun K => decide (PySem.W.nsIn K mainGlobals "is_ascending" = some (some (.ref (He.ga K "is_ascending")))),
  fun K => PySem.W.keepIn K (.ref (He.ga K "is_ascending")),
  fun K => decide (PySem.W.nsIn K mainGlobals "is_most_act" = some (some (.ref (He.ga K "is_most_act")))),
  fun K => PySem.W.keepIn K (.ref (He.ga K "is_most_act")),
  fun K => decide (PySem.W.nsIn K mainGlobals "is_act" = some (some (.ref (He.ga K "is_act")))),
  fun K => PySem.W.keepIn K (.ref (He.ga K "is_act")),
  fun K => decide (PySem.W.nsIn K mainGlobals "are_acts" = some (some (.ref (He.ga K "are_acts")))),
  fun K => PySem.W.keepIn K (.ref (He.ga K "are_acts")),
  fun K => decide (PySem.W.nsIn K mainGlobals "check_acts" = some (some (.ref (He.ga K "check_acts")))),
  fun K => PySem.W.keepIn K (.ref (He.ga K "check_acts")),
  fun K => decide (PySem.W.nsIn K mainGlobals "numbers_under" = some (some (.ref (He.ga K "numbers_under")))),
  fun K => PySem.W.keepIn K (.ref (He.ga K "numbers_under")),
  fun K => decide (PySem.W.nsIn K mainGlobals "rule_under" = some (some (.ref (He.ga K "rule_under")))),
  fun K => PySem.W.keepIn K (.ref (He.ga K "rule_under")),
  fun K => decide (PySem.W.nsIn K mainGlobals "left_under" = some (some (.ref (He.ga K "left_under")))),
  fun K => PySem.W.keepIn K (.ref (He.ga K "left_under")),
  fun K => decide (PySem.W.nsIn K mainGlobals "uses_under" = some (some (.ref (He.ga K "uses_under")))),
  fun K => PySem.W.keepIn K (.ref (He.ga K "uses_under")),
  fun K => decide (PySem.W.nsIn K mainGlobals "touches_under" = some (some (.ref (He.ga K "touches_under")))),
  fun K => PySem.W.keepIn K (.ref (He.ga K "touches_under")),
  fun K => decide (PySem.W.nsIn K mainGlobals "shop_under" = some (some (.ref (He.ga K "shop_under")))),
  fun K => PySem.W.keepIn K (.ref (He.ga K "shop_under")),
  fun K => decide (PySem.W.nsIn K mainGlobals "touches" = some (some (.ref (He.ga K "touches")))),
  fun K => PySem.W.keepIn K (.ref (He.ga K "touches")),
  fun K => decide (PySem.W.nsIn K mainGlobals "_law_cell_at" = some (some (.ref (He.ga K "_law_cell_at")))),
  fun K => PySem.W.keepIn K (.ref (He.ga K "_law_cell_at")),
  fun K => decide (PySem.W.nsIn K mainGlobals "_law_mixed" = some (some (.ref (He.ga K "_law_mixed")))),
  fun K => PySem.W.keepIn K (.ref (He.ga K "_law_mixed")),
  fun K => decide (PySem.W.nsIn K mainGlobals "_law_draw" = some (some (.ref (He.ga K "_law_draw")))),
  fun K => PySem.W.keepIn K (.ref (He.ga K "_law_draw")),
  fun K => decide (PySem.W.nsIn K mainGlobals "_law_pick" = some (some (.ref (He.ga K "_law_pick")))),
  fun K => PySem.W.keepIn K (.ref (He.ga K "_law_pick")),
  fun K => decide (PySem.W.nsIn K mainGlobals "_law_some_rule" = some (some (.ref (He.ga K "_law_some_rule")))),
  fun K => PySem.W.keepIn K (.ref (He.ga K "_law_some_rule")),
  fun K => decide (PySem.W.nsIn K mainGlobals "_law_some_goods" = some (some (.ref (He.ga K "_law_some_goods")))),
  fun K => PySem.W.keepIn K (.ref (He.ga K "_law_some_goods")),
  fun K => decide (PySem.W.nsIn K mainGlobals "_law_some_shop" = some (some (.ref (He.ga K "_law_some_shop")))),
  fun K => PySem.W.keepIn K (.ref (He.ga K "_law_some_shop")),
  fun K => decide (PySem.W.nsIn K mainGlobals "_law_some_basket" = some (some (.ref (He.ga K "_law_some_basket")))),
  fun K => PySem.W.keepIn K (.ref (He.ga K "_law_some_basket")),
  fun K => decide (PySem.W.nsIn K mainGlobals "_law_all_acts" = some (some (.ref (He.ga K "_law_all_acts")))),
  fun K => PySem.W.keepIn K (.ref (He.ga K "_law_all_acts")),
  fun K => decide (PySem.W.nsIn K mainGlobals "_law_some_of" = some (some (.ref (He.ga K "_law_some_of")))),
  fun K => PySem.W.keepIn K (.ref (He.ga K "_law_some_of")),
  fun K => decide (PySem.W.nsIn K mainGlobals "_law_some_acts" = some (some (.ref (He.ga K "_law_some_acts")))),
  fun K => PySem.W.keepIn K (.ref (He.ga K "_law_some_acts")),
  fun K => decide (PySem.W.nsIn K mainGlobals "law" = some (some (.ref (He.ga K "law")))),
  fun K => PySem.W.keepIn K (.ref (He.ga K "law")),
  fun K => decide (PySem.W.nsIn K mainGlobals "all" = some none),
  fun K => decide (PySem.W.nsIn K mainGlobals "any" = some none),
  fun K => decide (PySem.W.nsIn K mainGlobals "bool" = some none),
  fun K => decide (PySem.W.nsIn K mainGlobals "enumerate" = some none),
  fun K => decide (PySem.W.nsIn K mainGlobals "int" = some none),
  fun K => decide (PySem.W.nsIn K mainGlobals "isinstance" = some none),
  fun K => decide (PySem.W.nsIn K mainGlobals "len" = some none),
  fun K => decide (PySem.W.nsIn K mainGlobals "list" = some none),
  fun K => decide (PySem.W.nsIn K mainGlobals "max" = some none),
  fun K => decide (PySem.W.nsIn K mainGlobals "min" = some none),
  fun K => decide (PySem.W.nsIn K mainGlobals "range" = some none),
  fun K => decide (PySem.W.nsIn K mainGlobals "set" = some none),
  fun K => decide (PySem.W.nsIn K mainGlobals "sorted" = some none),
  fun K => decide (PySem.W.nsIn K mainGlobals "str" = some none),
  fun K => decide (PySem.W.nsIn K mainGlobals "sum" = some none),
  fun K => decide (PySem.W.nsIn K mainGlobals "tuple" = some none),
  fun K => decide (PySem.W.nsIn K mainGlobals "zip" = some none),
  fun K => DLH.intB K "MOST_ACTS" 8,
  fun K => DLH.intB K "MOST_GOODS" 2,
  fun K => DLH.intB K "MOST_PIECES" 1000000,
  fun K => DLH.intB K "MOST_RULES" 4,
  fun K => decide (PySem.W.nsIn K mainGlobals "SUM_WORDS" = some (some (.ref (He.ga K "SUM_WORDS")))),
  fun K => DLH.tupB K (He.ga K "SUM_WORDS") ["over", "each"],
  fun K => decide (PySem.W.nsIn K mainGlobals "InvalidAct" = some (some (.ref (He.ga K "InvalidAct")))),
  fun K => decide (PySem.W.nsIn K mainGlobals "InvalidActs" = some (some (.ref (He.ga K "InvalidActs")))),
  fun K => decide (PySem.W.nsIn K mainGlobals "InvalidBasket" = some (some (.ref (He.ga K "InvalidBasket")))),
  fun K => decide (PySem.W.nsIn K mainGlobals "InvalidShop" = some (some (.ref (He.ga K "InvalidShop")))),
  fun K => PySem.W.excIn K (He.ga K "InvalidAct") [.type "ValueError", .type "Exception", .type "BaseException", .type "object"] "ValueError.__new__",
  fun K => PySem.W.keepIn K (.ref (He.ga K "InvalidAct")),
  fun K => decide (PySem.W.subIn K (.ref (He.ga K "InvalidAct")) (.type "BaseException") = some true),
  fun K => PySem.W.excIn K (He.ga K "InvalidActs") [.type "ValueError", .type "Exception", .type "BaseException", .type "object"] "ValueError.__new__",
  fun K => PySem.W.keepIn K (.ref (He.ga K "InvalidActs")),
  fun K => decide (PySem.W.subIn K (.ref (He.ga K "InvalidActs")) (.type "BaseException") = some true),
  fun K => PySem.W.excIn K (He.ga K "InvalidBasket") [.type "ValueError", .type "Exception", .type "BaseException", .type "object"] "ValueError.__new__",
  fun K => PySem.W.keepIn K (.ref (He.ga K "InvalidBasket")),
  fun K => decide (PySem.W.subIn K (.ref (He.ga K "InvalidBasket")) (.type "BaseException") = some true),
  fun K => PySem.W.excIn K (He.ga K "InvalidShop") [.type "ValueError", .type "Exception", .type "BaseException", .type "object"] "ValueError.__new__",
  fun K => PySem.W.keepIn K (.ref (He.ga K "InvalidShop")),
  fun K => decide (PySem.W.subIn K (.ref (He.ga K "InvalidShop")) (.type "BaseException") = some true),
  fun K => decide (PySem.W.typeIn K (.ref (He.ga K "InvalidAct")) = some (.type "type")),
  fun K => decide (PySem.W.typeIn K (.ref (He.ga K "InvalidActs")) = some (.type "type")),
  fun K => decide (PySem.W.typeIn K (.ref (He.ga K "InvalidBasket")) = some (.type "type")),
  fun K => decide (PySem.W.typeIn K (.ref (He.ga K "InvalidShop")) = some (.type "type"))]

def loo0 : List Str := [("__name__" : Str),
  ("PriceError" : Str),
  ("InvalidShop" : Str),
  ("InvalidBasket" : Str),
  ("InvalidActs" : Str),
  ("InvalidAct" : Str),
  ("MOST_GOODS" : Str),
  ("MOST_RULES" : Str),
  ("MOST_PIECES" : Str),
  ("is_integer" : Str),
  ("is_between" : Str),
  ("is_tuple_of" : Str),
  ("is_most" : Str),
  ("is_good" : Str),
  ("is_pack" : Str),
  ("is_from" : Str),
  ("is_over" : Str),
  ("is_each" : Str),
  ("is_rule" : Str),
  ("is_endless_each" : Str)]
def loo1 : List Str := [("are_goods" : Str),
  ("are_rules" : Str),
  ("is_shop" : Str),
  ("check_shop" : Str),
  ("are_pieces" : Str),
  ("is_basket" : Str),
  ("check_basket" : Str),
  ("SUM_WORDS" : Str),
  ("full_times" : Str),
  ("fitting_rule" : Str),
  ("pack_times" : Str),
  ("pack_amount" : Str),
  ("good_amount" : Str),
  ("off_times" : Str),
  ("apply_sums" : Str),
  ("amounts_of" : Str),
  ("left_of" : Str),
  ("charge_of" : Str),
  ("uses_of" : Str),
  ("charge" : Str)]
def loo2 : List Str := [("MOST_ACTS" : Str),
  ("is_ascending" : Str),
  ("is_most_act" : Str),
  ("is_act" : Str),
  ("are_acts" : Str),
  ("check_acts" : Str),
  ("numbers_under" : Str),
  ("rule_under" : Str),
  ("left_under" : Str),
  ("uses_under" : Str),
  ("touches_under" : Str),
  ("shop_under" : Str),
  ("touches" : Str),
  ("_law_cell_at" : Str),
  ("_law_mixed" : Str),
  ("_law_draw" : Str),
  ("_law_pick" : Str),
  ("_law_some_rule" : Str),
  ("_law_some_goods" : Str),
  ("_law_some_shop" : Str)]
def loo3 : List Str := [("_law_some_basket" : Str),
  ("_law_all_acts" : Str),
  ("_law_some_of" : Str),
  ("_law_some_acts" : Str)]
def loo : List Str := loo0 ++ loo1 ++ loo2 ++ loo3
abbrev RR : PySem.W.OpenRow := PySem.W.OpenLaw.row PySem.Challenge.rw_sureprices_k16_whole_untouched_baskets
abbrev g0 : Gr := ([], fn0)
abbrev g1 : Gr := ([], fn1)
abbrev g2 : Gr := (ex0, [])
abbrev grs : List Gr := [g0, g1, g2]
def o1 (a : Gr) (s : PySem.W.SharedT) : He.Al := a.see (HandSHeadRun.getT s)
def ob (s : PySem.W.SharedT) : List He.Al := grs.map fun a => a.see (HandSHeadRun.getT s)
theorem runL (w : World) : (HandSHeadRun.wholeF (fun p => HandSHeadRun.stepQ (HandSHeadRun.denQ HandSHeadRun.tabQ) p w) HandSHeadRun.fenceQ 100000 RR.prog).map (fun x => HandSHeadRun.looksF RR.prog x.1.heap x.2.abs) = some true := by
  kernel_rfl
theorem runZ (w : World) : (HandSHeadRun.wholeF (fun p => HandSHeadRun.stepQ (HandSHeadRun.denQ HandSHeadRun.tabQ) p w) HandSHeadRun.fenceQ 100000 RR.prog).map (fun x => HandSHeadRun.seenQ (PySem.W.view RR.prog [68]) loo (importedModules RR.prog.main.body) (fun s => PySem.W.xlAt (PySem.W.view RR.prog [68]) [] s && PySem.W.recOk RR.toRowW.records s) x.2.abs) = some (PySem.W.openGood (PySem.W.view RR.prog [68]) loo) := by
  kernel_rfl
theorem run0 (w : World) : (HandSHeadRun.wholeF (fun p => HandSHeadRun.stepQ (HandSHeadRun.denQ HandSHeadRun.tabQ) p w) HandSHeadRun.fenceQ 100000 RR.prog).map (fun x => o1 g0 x.2) = some (He.valE g0.2) := by
  kernel_rfl
theorem run1 (w : World) : (HandSHeadRun.wholeF (fun p => HandSHeadRun.stepQ (HandSHeadRun.denQ HandSHeadRun.tabQ) p w) HandSHeadRun.fenceQ 100000 RR.prog).map (fun x => o1 g1 x.2) = some (He.valE g1.2) := by
  kernel_rfl
theorem run2 (w : World) : (HandSHeadRun.wholeF (fun p => HandSHeadRun.stepQ (HandSHeadRun.denQ HandSHeadRun.tabQ) p w) HandSHeadRun.fenceQ 100000 RR.prog).map (fun x => o1 g2 x.2) = some (He.valE g2.2) := by
  kernel_rfl
theorem run (w : World) : HandSHeadRun.RunEqI RR (PySem.W.view RR.prog [68]) (hook grs) ob 100000 loo w :=
  joinG grs (runL w) (runZ w) fun a ha => by
    simp only [List.mem_cons, List.not_mem_nil, or_false] at ha
    rcases ha with rfl | rfl | rfl
    · exact run0 w
    · exact run1 w
    · exact run2 w
theorem hyp {l : PySem.W.OpenLaw} {w : World} {K : PySem.W.Frag} {h : Heap} {mg : Str → Option Value} {fa : Addr} (X : K.In h) (G : h.Ns mainGlobals mg) (hfa : mg "law" = some (.ref fa)) (c : AllG grs K) (D0 : ∀ ns : List Int, ns.length ≤ 63 → ∃ o, DL.d_law [.im (.fz (ns.map DL.D.int))] = .ok (.im (.bl true)) o) :
    ∃ fd : FuncData, (∀ (s : Shared) (v : Value), BindsTo s fd ⟨[v], []⟩ [("_law_script", v)]) ∧ ∀ base : Heap, K.In base → base.Ns mainGlobals mg → FnOk l.prog w K mg base (L2.CX l.prog w) 12 fa fd ["_law_script"] (DL.spLaw K) := by
  have cf0 := c g0 (List.mem_of_getElem? (i := 0) rfl)
  have cf1 := c g1 (List.mem_of_getElem? (i := 1) rfl)
  have ce0 := c g2 (List.mem_of_getElem? (i := 2) rfl)
  obtain ⟨_, _, _, _, _, _, _, _, _, L0, C0⟩ := cf0.def_ 0 rfl
  obtain ⟨_, _, _, _, _, _, _, _, _, L1, C1⟩ := cf0.def_ 1 rfl
  obtain ⟨_, _, _, _, _, _, _, _, _, L2, C2⟩ := cf0.def_ 2 rfl
  obtain ⟨_, _, _, _, _, _, _, _, _, L3, C3⟩ := cf0.def_ 3 rfl
  obtain ⟨_, _, _, _, _, _, _, _, _, L4, C4⟩ := cf0.def_ 4 rfl
  obtain ⟨_, _, _, _, _, _, _, _, _, L5, C5⟩ := cf0.def_ 5 rfl
  obtain ⟨_, _, _, _, _, _, _, _, _, L6, C6⟩ := cf0.def_ 6 rfl
  obtain ⟨_, _, _, _, _, _, _, _, _, L7, C7⟩ := cf0.def_ 7 rfl
  obtain ⟨_, _, _, _, _, _, _, _, _, L8, C8⟩ := cf0.def_ 8 rfl
  obtain ⟨_, _, _, _, _, _, _, _, _, L9, C9⟩ := cf0.def_ 9 rfl
  obtain ⟨_, _, _, _, _, _, _, _, _, L10, C10⟩ := cf0.def_ 10 rfl
  obtain ⟨_, _, _, _, _, _, _, _, _, L11, C11⟩ := cf0.def_ 11 rfl
  obtain ⟨_, _, _, _, _, _, _, _, _, L12, C12⟩ := cf0.def_ 12 rfl
  obtain ⟨_, _, _, _, _, _, _, _, _, L13, C13⟩ := cf0.def_ 13 rfl
  obtain ⟨_, _, _, _, _, _, _, _, _, L14, C14⟩ := cf0.def_ 14 rfl
  obtain ⟨_, _, _, _, _, _, _, _, _, L15, C15⟩ := cf0.def_ 15 rfl
  obtain ⟨_, _, _, _, _, _, _, _, _, L16, C16⟩ := cf0.def_ 16 rfl
  obtain ⟨_, _, _, _, _, _, _, _, _, L17, C17⟩ := cf0.def_ 17 rfl
  obtain ⟨_, _, _, _, _, _, _, _, _, L18, C18⟩ := cf0.def_ 18 rfl
  obtain ⟨_, _, _, _, _, _, _, _, _, L19, C19⟩ := cf0.def_ 19 rfl
  obtain ⟨_, _, _, _, _, _, _, _, _, L20, C20⟩ := cf0.def_ 20 rfl
  obtain ⟨_, _, _, _, _, _, _, _, _, L21, C21⟩ := cf0.def_ 21 rfl
  obtain ⟨_, _, _, _, _, _, _, _, _, L22, C22⟩ := cf0.def_ 22 rfl
  obtain ⟨_, _, _, _, _, _, _, _, _, L23, C23⟩ := cf0.def_ 23 rfl
  obtain ⟨_, _, _, _, _, _, _, _, _, L24, C24⟩ := cf0.def_ 24 rfl
  obtain ⟨_, _, _, _, _, _, _, _, _, L25, C25⟩ := cf0.def_ 25 rfl
  obtain ⟨_, _, _, _, _, _, _, _, _, L26, C26⟩ := cf0.def_ 26 rfl
  obtain ⟨_, _, _, _, _, _, _, _, _, L27, C27⟩ := cf0.def_ 27 rfl
  obtain ⟨_, _, _, _, _, _, _, _, _, L28, C28⟩ := cf0.def_ 28 rfl
  obtain ⟨_, _, _, _, _, _, _, _, _, L29, C29⟩ := cf0.def_ 29 rfl
  obtain ⟨_, _, _, _, _, _, _, _, _, L30, C30⟩ := cf0.def_ 30 rfl
  obtain ⟨_, _, _, _, _, _, _, _, _, L31, C31⟩ := cf1.def_ 0 rfl
  obtain ⟨_, _, _, _, _, _, _, _, _, L32, C32⟩ := cf1.def_ 1 rfl
  obtain ⟨_, _, _, _, _, _, _, _, _, L33, C33⟩ := cf1.def_ 2 rfl
  obtain ⟨_, _, _, _, _, _, _, _, _, L34, C34⟩ := cf1.def_ 3 rfl
  obtain ⟨_, _, _, _, _, _, _, _, _, L35, C35⟩ := cf1.def_ 4 rfl
  obtain ⟨_, _, _, _, _, _, _, _, _, L36, C36⟩ := cf1.def_ 5 rfl
  obtain ⟨_, _, _, _, _, _, _, _, _, L37, C37⟩ := cf1.def_ 6 rfl
  obtain ⟨_, _, _, _, _, _, _, _, _, L38, C38⟩ := cf1.def_ 7 rfl
  obtain ⟨_, _, _, _, _, _, _, _, _, L39, C39⟩ := cf1.def_ 8 rfl
  obtain ⟨_, _, _, _, _, _, _, _, _, L40, C40⟩ := cf1.def_ 9 rfl
  obtain ⟨_, _, _, _, _, _, _, _, _, L41, C41⟩ := cf1.def_ 10 rfl
  obtain ⟨_, _, _, _, _, _, _, _, _, L42, C42⟩ := cf1.def_ 11 rfl
  obtain ⟨_, _, _, _, _, _, _, _, _, L43, C43⟩ := cf1.def_ 12 rfl
  obtain ⟨_, _, _, _, _, _, _, _, _, L44, C44⟩ := cf1.def_ 13 rfl
  obtain ⟨_, _, _, _, _, _, _, _, _, L45, C45⟩ := cf1.def_ 14 rfl
  obtain ⟨_, _, _, _, _, _, _, _, _, L46, C46⟩ := cf1.def_ 15 rfl
  obtain ⟨_, _, _, _, _, _, _, _, _, L47, C47⟩ := cf1.def_ 16 rfl
  obtain ⟨_, _, _, _, _, _, _, _, _, L48, C48⟩ := cf1.def_ 17 rfl
  obtain ⟨_, _, _, _, _, _, _, _, _, L49, C49⟩ := cf1.def_ 18 rfl
  obtain ⟨_, _, _, _, _, _, _, _, _, L50, C50⟩ := cf1.def_ 19 rfl
  obtain ⟨_, _, _, _, _, _, _, _, _, L51, C51⟩ := cf1.def_ 20 rfl
  obtain ⟨_, _, _, _, _, _, _, _, _, L52, C52⟩ := cf1.def_ 21 rfl
  obtain ⟨_, _, _, _, _, _, _, _, _, L53, C53⟩ := cf1.def_ 22 rfl
  obtain ⟨_, Y125⟩ := DLH.int_ns (ce0.fact 125 rfl)
  obtain ⟨_, Y126⟩ := DLH.int_ns (ce0.fact 126 rfl)
  obtain ⟨_, Y127⟩ := DLH.int_ns (ce0.fact 127 rfl)
  obtain ⟨_, Y128⟩ := DLH.int_ns (ce0.fact 128 rfl)
  obtain ⟨_, _, _, _, _, X130⟩ := DLH.tup2 (ce0.fact 130 rfl)
  exact DL.all_mk X G hfa (of_decide_eq_true (ce0.fact 0 rfl)) L0 C0 (ce0.fact 1 rfl) (of_decide_eq_true (ce0.fact 2 rfl)) L1 C1 (ce0.fact 3 rfl) (of_decide_eq_true (ce0.fact 4 rfl)) L2 C2 (ce0.fact 5 rfl) (of_decide_eq_true (ce0.fact 6 rfl)) L3 C3 (ce0.fact 7 rfl) (of_decide_eq_true (ce0.fact 8 rfl)) L4 C4 (ce0.fact 9 rfl) (of_decide_eq_true (ce0.fact 10 rfl)) L5 C5 (ce0.fact 11 rfl) (of_decide_eq_true (ce0.fact 12 rfl)) L6 C6 (ce0.fact 13 rfl) (of_decide_eq_true (ce0.fact 14 rfl)) L7 C7 (ce0.fact 15 rfl) (of_decide_eq_true (ce0.fact 16 rfl)) L8 C8 (ce0.fact 17 rfl) (of_decide_eq_true (ce0.fact 18 rfl)) L9 C9 (ce0.fact 19 rfl) (of_decide_eq_true (ce0.fact 20 rfl)) L10 C10 (ce0.fact 21 rfl) (of_decide_eq_true (ce0.fact 22 rfl)) L11 C11 (ce0.fact 23 rfl) (of_decide_eq_true (ce0.fact 24 rfl)) L12 C12 (ce0.fact 25 rfl) (of_decide_eq_true (ce0.fact 26 rfl)) L13 C13 (ce0.fact 27 rfl) (of_decide_eq_true (ce0.fact 28 rfl)) L14 C14 (ce0.fact 29 rfl) (of_decide_eq_true (ce0.fact 30 rfl)) L15 C15 (ce0.fact 31 rfl) (of_decide_eq_true (ce0.fact 32 rfl)) L16 C16 (ce0.fact 33 rfl) (of_decide_eq_true (ce0.fact 34 rfl)) L17 C17 (ce0.fact 35 rfl) (of_decide_eq_true (ce0.fact 36 rfl)) L18 C18 (ce0.fact 37 rfl) (of_decide_eq_true (ce0.fact 38 rfl)) L19 C19 (ce0.fact 39 rfl) (of_decide_eq_true (ce0.fact 40 rfl)) L20 C20 (ce0.fact 41 rfl) (of_decide_eq_true (ce0.fact 42 rfl)) L21 C21 (ce0.fact 43 rfl) (of_decide_eq_true (ce0.fact 44 rfl)) L22 C22 (ce0.fact 45 rfl) (of_decide_eq_true (ce0.fact 46 rfl)) L23 C23 (ce0.fact 47 rfl) (of_decide_eq_true (ce0.fact 48 rfl)) L24 C24 (ce0.fact 49 rfl) (of_decide_eq_true (ce0.fact 50 rfl)) L25 C25 (ce0.fact 51 rfl) (of_decide_eq_true (ce0.fact 52 rfl)) L26 C26 (ce0.fact 53 rfl) (of_decide_eq_true (ce0.fact 54 rfl)) L27 C27 (ce0.fact 55 rfl) (of_decide_eq_true (ce0.fact 56 rfl)) L28 C28 (ce0.fact 57 rfl) (of_decide_eq_true (ce0.fact 58 rfl)) L29 C29 (ce0.fact 59 rfl) (of_decide_eq_true (ce0.fact 60 rfl)) L30 C30 (ce0.fact 61 rfl) (of_decide_eq_true (ce0.fact 62 rfl)) L31 C31 (ce0.fact 63 rfl) (of_decide_eq_true (ce0.fact 64 rfl)) L32 C32 (ce0.fact 65 rfl) (of_decide_eq_true (ce0.fact 66 rfl)) L33 C33 (ce0.fact 67 rfl) (of_decide_eq_true (ce0.fact 68 rfl)) L34 C34 (ce0.fact 69 rfl) (of_decide_eq_true (ce0.fact 70 rfl)) L35 C35 (ce0.fact 71 rfl) (of_decide_eq_true (ce0.fact 72 rfl)) L36 C36 (ce0.fact 73 rfl) (of_decide_eq_true (ce0.fact 74 rfl)) L37 C37 (ce0.fact 75 rfl) (of_decide_eq_true (ce0.fact 76 rfl)) L38 C38 (ce0.fact 77 rfl) (of_decide_eq_true (ce0.fact 78 rfl)) L39 C39 (ce0.fact 79 rfl) (of_decide_eq_true (ce0.fact 80 rfl)) L40 C40 (ce0.fact 81 rfl) (of_decide_eq_true (ce0.fact 82 rfl)) L41 C41 (ce0.fact 83 rfl) (of_decide_eq_true (ce0.fact 84 rfl)) L42 C42 (ce0.fact 85 rfl) (of_decide_eq_true (ce0.fact 86 rfl)) L43 C43 (ce0.fact 87 rfl) (of_decide_eq_true (ce0.fact 88 rfl)) L44 C44 (ce0.fact 89 rfl) (of_decide_eq_true (ce0.fact 90 rfl)) L45 C45 (ce0.fact 91 rfl) (of_decide_eq_true (ce0.fact 92 rfl)) L46 C46 (ce0.fact 93 rfl) (of_decide_eq_true (ce0.fact 94 rfl)) L47 C47 (ce0.fact 95 rfl) (of_decide_eq_true (ce0.fact 96 rfl)) L48 C48 (ce0.fact 97 rfl) (of_decide_eq_true (ce0.fact 98 rfl)) L49 C49 (ce0.fact 99 rfl) (of_decide_eq_true (ce0.fact 100 rfl)) L50 C50 (ce0.fact 101 rfl) (of_decide_eq_true (ce0.fact 102 rfl)) L51 C51 (ce0.fact 103 rfl) (of_decide_eq_true (ce0.fact 104 rfl)) L52 C52 (ce0.fact 105 rfl) (of_decide_eq_true (ce0.fact 106 rfl)) L53 C53 (ce0.fact 107 rfl) (of_decide_eq_true (ce0.fact 108 rfl)) (of_decide_eq_true (ce0.fact 109 rfl)) (of_decide_eq_true (ce0.fact 110 rfl)) (of_decide_eq_true (ce0.fact 111 rfl)) (of_decide_eq_true (ce0.fact 112 rfl)) (of_decide_eq_true (ce0.fact 113 rfl)) (of_decide_eq_true (ce0.fact 114 rfl)) (of_decide_eq_true (ce0.fact 115 rfl)) (of_decide_eq_true (ce0.fact 116 rfl)) (of_decide_eq_true (ce0.fact 117 rfl)) (of_decide_eq_true (ce0.fact 118 rfl)) (of_decide_eq_true (ce0.fact 119 rfl)) (of_decide_eq_true (ce0.fact 120 rfl)) (of_decide_eq_true (ce0.fact 121 rfl)) (of_decide_eq_true (ce0.fact 122 rfl)) (of_decide_eq_true (ce0.fact 123 rfl)) (of_decide_eq_true (ce0.fact 124 rfl)) Y125 Y126 Y127 Y128 (of_decide_eq_true (ce0.fact 129 rfl)) X130 (of_decide_eq_true (ce0.fact 131 rfl)) (of_decide_eq_true (ce0.fact 132 rfl)) (of_decide_eq_true (ce0.fact 133 rfl)) (of_decide_eq_true (ce0.fact 134 rfl)) (ce0.fact 135 rfl) (ce0.fact 136 rfl) (of_decide_eq_true (ce0.fact 137 rfl)) (ce0.fact 138 rfl) (ce0.fact 139 rfl) (of_decide_eq_true (ce0.fact 140 rfl)) (ce0.fact 141 rfl) (ce0.fact 142 rfl) (of_decide_eq_true (ce0.fact 143 rfl)) (ce0.fact 144 rfl) (ce0.fact 145 rfl) (of_decide_eq_true (ce0.fact 146 rfl)) (of_decide_eq_true (ce0.fact 147 rfl)) (of_decide_eq_true (ce0.fact 148 rfl)) (of_decide_eq_true (ce0.fact 149 rfl)) (of_decide_eq_true (ce0.fact 150 rfl)) D0
end DLH
open PySem PySem.W PySem.Calls PyProof.Rows
theorem PySem.Challenge.cw_sureprices_k16_whole_untouched_baskets_holds : PySem.Challenge.rw_sureprices_k16_whole_untouched_baskets.Holds := by
  w_on; o_law
  refine HandSHeadRun.head_imp (r := OpenLaw.row PySem.Challenge.rw_sureprices_k16_whole_untouched_baskets) (q := view (OpenLaw.row PySem.Challenge.rw_sureprices_k16_whole_untouched_baskets).prog [68]) (H := DLH.hook DLH.grs) (ob := DLH.ob) (M := 100000) (loose := DLH.loo) (d := HandSHeadRun.topDef (OpenLaw.row PySem.Challenge.rw_sureprices_k16_whole_untouched_baskets).prog 68) (kwd := []) (DLH.hook_eq DLH.grs) DLH.run (by kernel_rfl) (by kernel_rfl) (by kernel_rfl) (by rfl) (by first | assumption | decide +kernel) (by decide +kernel) ⟨rfl, rfl, rfl, rfl, rfl, by decide +kernel⟩ ?hw ?hc
  case hw => w_witness2
  case hc =>
    refine DLH.walk (l := PySem.Challenge.rw_sureprices_k16_whole_untouched_baskets) (n := 63) (k := 12) (x := "_law_script") rfl (by decide) (by kernel_rfl) ⟨rfl, by decide, by decide⟩ ?F (fun _ _ _ _ _ z => DL.law_cx z)
    intro w K mg fa h c KX G hm
    have nm : (HandSHeadRun.topDef (OpenLaw.row PySem.Challenge.rw_sureprices_k16_whole_untouched_baskets).prog 68).name = ("law" : PySem.Str) := by kernel_rfl
    exact DLH.hyp KX G (nm ▸ hm) c DL.law_data
