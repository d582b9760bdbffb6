import PyProof.Rows.All
import Wide.All
import OpenK.AllK
import Wide.FinOn
import Lean
import PyProof.EqAt
import PyProof.EqKinds
import PyProof.TupleCall
import PyProof.IsiH_tuple
import PyProof.NsDelKeeps
import PyProof.FString4
import PyProof.ExcBaseAll.ValueError
import PyProof.ForAny
import KE.KIsAll
import KE.KSortTup
import KE.KLam
import KE.KNestM
import PyProof.StrWalks
import PyProof.SliceStr2
import PyProof.StrBlockI
import KE.KIntText
import PyProof.StrCalls2
import PyProof.StrLawsTight
import PyProof.Rows.FStrParts
import PyProof.Rows.StrInSeq3
import PyProof.TupleKey
import PyProof.IsRules
import PySem.Challenge.RW_heldwhen_k19_cuts_and_slices
set_option Elab.async false
set_option linter.all false
set_option maxRecDepth 100000
namespace L2
open PySem PySem.Spec PyProof.Rows
noncomputable abbrev Key := Sum Int Str
noncomputable def keyIs : Key -> Value -> Bool
 | .inl k, v => Value.isInt k v
 | .inr x, v => Value.isStrOf x v
noncomputable def keyH (w : World) : Key -> Int
 | .inl k => hashInt k
 | .inr x => hashStr w x
theorem keyIs_shape : ∀ {k : Key} {v : Value}, keyIs k v = true -> (∃ i t, k = Sum.inl i /\ v = Value.int i t) \/ (∃ x t, k = Sum.inr x /\ v = Value.str x t)
 | .inl i, v, h => by
  obtain ⟨t, e⟩ := Value.isInt_shape (k := i) (v := v) h
  exact .inl ⟨i, t, rfl, e⟩
 | .inr x, v, h => by
  obtain ⟨t, e⟩ := Value.isStrOf_shape (x := x) (v := v) h
  exact .inr ⟨x, t, rfl, e⟩
theorem keyIs_int (i : Int) (t : Tok) : keyIs (.inl i) (.int i t) = true := by simp [keyIs, Value.isInt]
theorem keyIs_str (x : Str) (t : Tok) : keyIs (.inr x) (.str x t) = true := by simp [keyIs, Value.isStrOf]
theorem key_ll (a b : Int) : decide ((Sum.inl a : Key) = Sum.inl b) = (a == b) := by
 by_cases e : a = b
 ·subst e; simp
 ·have h : ¬ (Sum.inl a : Key) = Sum.inl b := fun q => e (Sum.inl.inj q)
  rw [decide_eq_false h]
  exact (beq_eq_false_iff_ne.mpr e).symm
theorem key_rr (a b : Str) : decide ((Sum.inr a : Key) = Sum.inr b) = decide (a = b) := by
 by_cases e : a = b
 ·subst e; simp
 ·have h : ¬ (Sum.inr a : Key) = Sum.inr b := fun q => e (Sum.inr.inj q)
  rw [decide_eq_false h, decide_eq_false e]
theorem key_lr (a : Int) (b : Str) : decide ((Sum.inl a : Key) = Sum.inr b) = false := decide_eq_false (fun q => nomatch q)
theorem key_rl (a : Str) (b : Int) : decide ((Sum.inr a : Key) = Sum.inl b) = false := decide_eq_false (fun q => nomatch q)
noncomputable def mixKind (prog : Program) (w : World) : PySem.KeyKind prog w Key where
 is := keyIs
 hash := keyH w
 inj := fun v a b ha hb => by
  rcases keyIs_shape ha with ⟨i, t, rfl, rfl⟩ | ⟨x, t, rfl, rfl⟩
  ·rcases keyIs_shape hb with ⟨j, u, rfl, e⟩ | ⟨y, u, rfl, e⟩
   ·injection e with e1 _; rw [e1]
   ·exact nomatch e
  ·rcases keyIs_shape hb with ⟨j, u, rfl, e⟩ | ⟨y, u, rfl, e⟩
   ·exact nomatch e
   ·injection e with e1 _; rw [e1]
 byValue := fun k v h => by
  rcases keyIs_shape h with ⟨i, t, rfl, rfl⟩ | ⟨x, t, rfl, rfl⟩ <;> rfl
 pyHash := fun hv h => by
  rcases keyIs_shape hv with ⟨i, t, rfl, rfl⟩ | ⟨x, t, rfl, rfl⟩
  ·exact wpAny_pyHash_int h
  ·exact wpAny_pyHash_str h
 eqBool := fun hu hv h => by
  rcases keyIs_shape hu with ⟨i, t, rfl, rfl⟩ | ⟨x, t, rfl, rfl⟩
  ·rcases keyIs_shape hv with ⟨j, u, rfl, rfl⟩ | ⟨y, u, rfl, rfl⟩
   ·rw [key_ll] at h; exact wpAny_eqBool_int h
   ·rw [key_lr] at h; exact SeqAt.EqAt.int_str i t y u _ _ _ _ h
  ·rcases keyIs_shape hv with ⟨j, u, rfl, rfl⟩ | ⟨y, u, rfl, rfl⟩
   ·rw [key_rl] at h; exact SeqAt.EqAt.str_int x t j u _ _ _ _ h
   ·rw [key_rr] at h; exact wpAny_eqBool_str h
 «strs» := fun k x t v h => by
  rcases keyIs_shape h with ⟨i, u, rfl, e⟩ | ⟨y, u, rfl, e⟩
  ·exact nomatch e
  ·injection e with e1 _
   subst e1
   cases v <;> rfl
theorem mixKind_int (prog : Program) (w : World) (i : Int) (t : Tok) : (mixKind prog w).is (.inl i) (.int i t) = true := keyIs_int i t
theorem mixKind_str (prog : Program) (w : World) (x : Str) (t : Tok) : (mixKind prog w).is (.inr x) (.str x t) = true := keyIs_str x t
end L2
namespace L2
open PySem PySem.Spec PyProof.Rows
inductive V where
 | non | bl (b : Bool) | int (i : Int) | str (x : Str) | byt (b : Array UInt8) | flt (b : UInt64) | ref (a : Addr) | ty (n : String)
 deriving DecidableEq
def RelV : V -> Value -> Prop
 | .non, u => u = Value.none
 | .bl b, u => u = Value.bool b
 | .int i, u => ∃ t, u = Value.int i t
 | .str x, u => ∃ t, u = Value.str x t
 | .byt b, u => ∃ t, u = Value.bytes b t
 | .flt b, u => ∃ t, u = Value.float b t
 | .ref a, u => u = Value.ref a
 | .ty n, u => u = Value.type n
abbrev Vals : List V -> List Value -> Prop := Paired RelV
theorem Vals.length {xs : List V} {us : List Value} (r : Vals xs us) : xs.length = us.length := Paired.length r
theorem Vals.get : ∀ {xs : List V} {us : List Value} {i : Nat} {x : V}, Vals xs us -> xs[i]? = some x -> ∃ u, us[i]? = some u /\ RelV x u
 | _, _, _, _, .nil, e => by simp at e
 | _, _, 0, _, .cons r _, e => by simp at e; subst e; exact ⟨_, rfl, r⟩
 | _, _, i + 1, x, .cons _ t, e => by
  obtain ⟨u, h1, h2⟩ := Vals.get (i := i) (x := x) t (by simpa using e)
  exact ⟨u, by simpa using h1, h2⟩
theorem Vals.append : ∀ {xs ys : List V} {us ws : List Value}, Vals xs us -> Vals ys ws -> Vals (xs ++ ys) (us ++ ws)
 | _, _, _, _, .nil, s => s
 | _, _, _, _, .cons r t, s => .cons r (Vals.append t s)
theorem Vals.take : ∀ {xs : List V} {us : List Value} (n : Nat), Vals xs us -> Vals (xs.take n) (us.take n)
 | _, _, 0, _ => .nil
 | _, _, _ + 1, .nil => .nil
 | _, _, n + 1, .cons r t => .cons r (Vals.take n t)
theorem Vals.drop : ∀ {xs : List V} {us : List Value} (n : Nat), Vals xs us -> Vals (xs.drop n) (us.drop n)
 | _, _, 0, r => r
 | _, _, _ + 1, .nil => .nil
 | _, _, n + 1, .cons _ t => Vals.drop n t
def RelO : Option V -> Option Value -> Prop
 | some v, some u => RelV v u
 | none, none => True
 | _, _ => False
def KV {κ : Type} : List (κ × V) -> List (κ × Value) -> Prop := Paired fun (p : κ × V) (q : κ × Value) => p.1 = q.1 /\ RelV p.2 q.2
noncomputable def kV : Key -> V
 | .inl i => .int i
 | .inr x => .str x
inductive HO where
 | lst (xs : List V)
 | tup (xs : List V)
 | dK (kvs : List (Key × V)) | dT (kvs : List (List Key × V))
 | set (S : Int -> Bool) (n : Nat)
 | ins (C dx : Addr) (fs : List (Str × V))
 | own (x : Addr)
 | xd (fs : List (Str × V))
 | met (f x : Addr)
 | rng (lo hi : Int)
 | frz (o : Obj) (u : HO)
 | tbl (ps : Array Value)
 | ext (φ : Heap -> Prop)
noncomputable abbrev Hp := Addr -> Option HO
def upd (H : Hp) (a : Addr) (o : HO) : Hp := fun b => if b = a then some o else H b
theorem upd_same {H : Hp} {a : Addr} {o : HO} : upd H a o a = some o := by unfold upd; rw [if_pos rfl]
theorem upd_ne {H : Hp} {a b : Addr} {o : HO} (h : b ≠ a) : upd H a o b = H b := by unfold upd; rw [if_neg h]
theorem ne_of {H : Hp} {a b : Addr} {o u : HO} (h : H a = some o) (h' : H b = some u) (d : o ≠ u) : a ≠ b := by
 intro e; subst e; rw [h] at h'; exact d (Option.some.inj h')
theorem ne_of_none {H : Hp} {a b : Addr} {o : HO} (h : H a = some o) (h' : H b = none) : a ≠ b := by
 intro e; subst e; rw [h] at h'; cases h'
def IsTupD (h : Heap) (a : Addr) (items : Array Value) : Prop := IsTup h a items /\ ∀ o, h.get? a = some o -> o.dict = none
theorem IsTupD.new (h : Heap) (items : Array Value) : IsTupD (h.push { cls := .type "tuple", data := .seq items }) h.objs.size items := ⟨IsTup.new _ _, fun o e => by rw [Heap.get?_push_size _ rfl] at e; cases e; rfl⟩
section
variable (P : Program) (w : World)
def ObjOk (H : Hp) (h : Heap) (a : Addr) : HO -> Prop
 | .lst xs => xs.length <= sizeLine /\ ∃ (its : List Value) (n : Nat), Vals xs its /\ h.get? a = some { cls := .type "list", data := .seq its.toArray n }
 | .tup xs => xs.length <= sizeLine /\ ∃ its : List Value, Vals xs its /\ IsTupD h a its.toArray
 | .dK kvs => kvs.length <= sizeLine /\ (a == sysModules) = false /\ ∃ vs, KV kvs vs /\ h.DictOf (mixKind P w) a vs
 | .dT kvs => kvs.length <= sizeLine /\ (a == sysModules) = false /\ ∃ xs : List (List Key × Addr × Value),
   Paired (fun (p : List Key × V) (q : List Key × Addr × Value) => p.1 = q.1 /\ H q.2.1 = some (.tup (p.1.map kV)) /\ RelV p.2 q.2.2) kvs xs /\
   ∃ o es ep, h.get? a = some o /\ o.ExactDict /\ o.data = .dict es ep /\ es.toList = xs.map (entryOfKey (tupleKind (mixKind P w))) /\ (xs.map (·.1)).Nodup
 | .set S n => h.SetOf (intKind P w) a S n
 | .ins C dx fs => H dx = some (.own a) /\ fs.length <= 1000 /\ dx ≠ a /\ h.get? a = some (PySem.W.instObj C dx) /\
   ∃ mA, h.Ns1 dx mA /\ (∀ f, RelO (fs.lookup f) (mA f)) /\ PySem.Within mA (fs.map (·.1))
 | .own _ => ∃ o, h.get? a = some o
 | .xd fs => ∃ mA, h.Ns1 a mA /\ ∀ f, RelO (fs.lookup f) (mA f)
 | .rng lo hi => ∃ t u v, h.get? a = some { cls := .type "range", data := .fields #[.int lo t, .int hi u, .int 1 v] }
 | .frz o u => h.get? a = some o /\ ObjOk H h a u
 | .tbl ps => h.get? a = some { cls := .none, data := .fields ps }
 | .met f x => h.get? a = some (PySem.W.methodObj (.ref f) (.ref x))
 | .ext φ => φ h /\ (∃ o, h.get? a = some o) /\ ∀ h1 h2 : Heap, φ h1 -> (∀ o, h1.get? a = some o -> h2.get? a = some o) -> φ h2
def HOk (H : Hp) (h : Heap) : Prop := ∀ a o, H a = some o -> ObjOk P w H h a o
end
section
variable {P : Program} {w : World} {H H' : Hp} {h h' : Heap} {a : Addr} {o : HO}
theorem ObjOk.lt (x : ObjOk P w H h a o) : a < h.objs.size := by
 cases o with
 | lst xs => obtain ⟨_, _, _, _, e⟩ := x; exact Heap.lt_size e
 | tup xs => obtain ⟨_, _, _, p⟩ := x; exact p.1.lt
 | dK kvs => obtain ⟨_, _, _, _, o, _, _, e, _⟩ := x; exact Heap.lt_size e
 | dT kvs => obtain ⟨_, _, _, _, o, _, _, e, _⟩ := x; exact Heap.lt_size e
 | set S n => obtain ⟨o, _, _, _, e, _⟩ := x; exact Heap.lt_size e
 | ins C dx fs => obtain ⟨_, _, _, e, _⟩ := x; exact Heap.lt_size e
 | own y => obtain ⟨_, e⟩ := x; exact Heap.lt_size e
 | xd fs => obtain ⟨_, ⟨_, _, _, e, _⟩, _⟩ := x; exact Heap.lt_size e
 | rng lo hi => obtain ⟨_, _, _, e⟩ := x; exact Heap.lt_size e
 | frz ob u => obtain ⟨e, _⟩ := x; exact Heap.lt_size e
 | tbl ps => exact Heap.lt_size (show h.get? a = some _ from x)
 | met f y => exact Heap.lt_size (show h.get? a = some _ from x)
 | ext φ => obtain ⟨_, ⟨_, e⟩, _⟩ := x; exact Heap.lt_size e
theorem Paired.mapP {α β : Type} {F G : α -> β -> Prop} : ∀ {l₁ : List α} {l₂ : List β}, Paired F l₁ l₂ -> (∀ a b, F a b -> G a b) -> Paired G l₁ l₂
 | _, _, .nil, _ => .nil
 | _, _, .cons r t, f => .cons (f _ _ r) (Paired.mapP t f)
theorem ObjOk.stay (x : ObjOk P w H h a o) (k : ∀ b u, (b = a \/ H b = some (.own a)) -> h.get? b = some u -> h'.get? b = some u)
  (ho : ∀ b, H b = some (.own a) -> H' b = some (.own a)) (ht : ∀ b xs, H b = some (.tup xs) -> H' b = some (.tup xs)) : ObjOk P w H' h' a o := by
 induction o with
 | lst xs => obtain ⟨z, its, n, r, e⟩ := x; exact ⟨z, its, n, r, k _ _ (.inl rfl) e⟩
 | tup xs => obtain ⟨z, its, r, ⟨ob, e, c⟩, dn⟩ := x; exact ⟨z, its, r, ⟨ob, k _ _ (.inl rfl) e, c⟩, fun o q => by rw [k _ _ (.inl rfl) e] at q; cases q; exact dn _ e⟩
 | dK kvs => obtain ⟨z, y, vs, r, ob, es, ep, e, c⟩ := x; exact ⟨z, y, vs, r, ob, es, ep, k _ _ (.inl rfl) e, c⟩
 | dT kvs =>
  obtain ⟨z, y, xs, r, ob, es, ep, e, c⟩ := x
  exact ⟨z, y, xs, Paired.mapP r fun p q z => ⟨z.1, ht _ _ z.2.1, z.2.2⟩, ob, es, ep, k _ _ (.inl rfl) e, c⟩
 | set S n => obtain ⟨ob, es, ep, t, e, c⟩ := x; exact ⟨ob, es, ep, t, k _ _ (.inl rfl) e, c⟩
 | ins C dx fs =>
  obtain ⟨d, z, ne, e, mA, ⟨od, es, ep, e2, c⟩, r⟩ := x
  exact ⟨ho _ d, z, ne, k _ _ (.inl rfl) e, mA, ⟨od, es, ep, k _ _ (.inr d) e2, c⟩, r⟩
 | own y => obtain ⟨ob, e⟩ := x; exact ⟨ob, k _ _ (.inl rfl) e⟩
 | xd fs => obtain ⟨mA, ⟨od, es, ep, e, c⟩, r⟩ := x; exact ⟨mA, ⟨od, es, ep, k _ _ (.inl rfl) e, c⟩, r⟩
 | rng lo hi => obtain ⟨t, u, v, e⟩ := x; exact ⟨t, u, v, k _ _ (.inl rfl) e⟩
 | frz ob u ih => obtain ⟨e, q⟩ := x; exact ⟨k _ _ (.inl rfl) e, ih q⟩
 | tbl ps =>
  have e : h.get? a = some { cls := .none, data := .fields ps } := x
  show h'.get? a = some { cls := .none, data := .fields ps }
  exact k a _ (.inl rfl) e
 | met f y =>
  have e : h.get? a = some (PySem.W.methodObj (.ref f) (.ref y)) := x
  show h'.get? a = some (PySem.W.methodObj (.ref f) (.ref y))
  exact k a _ (.inl rfl) e
 | ext φ => obtain ⟨p, ⟨o, e⟩, st⟩ := x; exact ⟨st _ _ p fun o q => k _ _ (.inl rfl) q, ⟨o, k _ _ (.inl rfl) e⟩, st⟩
theorem HOk.lt (x : HOk P w H h) (e : H a = some o) : a < h.objs.size := (x a o e).lt
theorem HOk.fresh (x : HOk P w H h) (e : h.objs.size <= a) : H a = none := by
 cases q : H a with
 | none => rfl
 | some u => exact absurd (Nat.lt_of_lt_of_le (x.lt q) e) (Nat.lt_irrefl _)
theorem HOk.kept (x : HOk P w H h) (k : ∀ b u, h.get? b = some u -> h'.get? b = some u) : HOk P w H h' := fun a o e =>
 (x a o e).stay (fun b u _ q => k b u q) (fun _ q => q) fun _ _ q => q
theorem HOk.laid (x : HOk P w H h) (k : ∀ b u, h.get? b = some u -> h'.get? b = some u) (hp : h.objs.size <= a) (new : ObjOk P w (upd H a o) h' a o) : HOk P w (upd H a o) h' := fun b u e => by
 have hn := x.fresh hp
 by_cases hb : b = a
 ·subst hb; rw [upd_same] at e; cases e; exact new
 ·rw [upd_ne hb] at e
  exact (x b u e).stay (fun c v _ q => k c v q) (fun c q => by rw [upd_ne (ne_of_none q hn)]; exact q) fun c xs q => by rw [upd_ne (ne_of_none q hn)]; exact q
end
def Rd (H : Hp) (a : Addr) (u : HO) : Prop := H a = some u \/ ∃ o, H a = some (.frz o u)
theorem Rd.ok {P : Program} {w : World} {H : Hp} {h : Heap} {a : Addr} {u : HO} (r : Rd H a u) (x : HOk P w H h) : ObjOk P w H h a u := by
 rcases r with r | ⟨o, r⟩
 ·exact x a u r
 ·obtain ⟨_, q⟩ := x a _ r
  exact q
def Mut : Option HO -> Prop
 | some (.lst _) => True
 | some (.dK _) => True
 | some (.dT _) => True
 | some (.set _ _) => True
 | some (.ins _ _ _) => True
 | some (.ext _) => True
 | _ => False
section
variable {P : Program} {w : World} {H : Hp} {h h' : Heap} {x e : Addr} {o' : HO}
theorem HOk.write (ok : HOk P w H h) (mu : Mut (H x)) (he : e = x \/ H e = some (.own x)) (k : ∀ b u, b ≠ e -> h.get? b = some u -> h'.get? b = some u) (heo : ∃ u, h'.get? e = some u)
  (new : ObjOk P w (upd H x o') h' x o') : HOk P w (upd H x o') h' := fun b u q => by
 have nown : ∀ c y, H c = some (.own y) -> c ≠ x := fun c y r z => by subst z; rw [r] at mu; exact mu
 have ntup : ∀ c xs, H c = some (.tup xs) -> c ≠ x := fun c xs r z => by subst z; rw [r] at mu; exact mu
 by_cases hb : b = x
 ·subst hb; rw [upd_same] at q; cases q; exact new
 ·rw [upd_ne hb] at q
  by_cases hbe : b = e
  ·have q' : H b = some (.own x) := by
    rcases he with z | z
    ·exact absurd (hbe.trans z) hb
    ·rw [hbe]; exact z
   rw [q] at q'; cases q'
   obtain ⟨v, hv⟩ := heo
   exact ⟨v, by rw [hbe]; exact hv⟩
  ·refine (ok b u q).stay (fun c v hc r => k c v ?_ r) (fun c r => by rw [upd_ne (nown c b r)]; exact r) fun c xs r => by rw [upd_ne (ntup c xs r)]; exact r
   rcases hc with rfl | hc
   ·exact hbe
   ·rintro rfl
    rcases he with z | z
    ·exact nown c b hc z
    ·rw [hc] at z; cases z; exact hb rfl
end
structure Un (fs ex : List Addr) (H H' : Hp) (h h' : Heap) : Prop where
 keep : ∀ b o, h.get? b = some o -> H b = none -> b ∉ fs -> b ∉ ex -> h'.get? b = some o
 slot : ∀ b o, h.get? b = some o -> H b = none -> b ∈ fs -> b ∉ ex -> ∃ sl, h'.get? b = some { o with slots := sl }
 free : ∀ b o, h.get? b = some o -> H b = none -> b ∉ ex -> H' b = none
 there : ∀ b o, h.get? b = some o -> b ∉ ex -> ∃ o', h'.get? b = some o'
 tups : ∀ b xs, H b = some (.tup xs) -> H' b = some (.tup xs)
 frzs : ∀ b o u, H b = some (.frz o u) -> H' b = some (.frz o u)
 tbls : ∀ b ps, H b = some (.tbl ps) -> ∃ more, H' b = some (.tbl (ps ++ more))
section
variable {fs fs' ex ex' : List Addr} {H H1 H2 : Hp} {h h1 h2 h' : Heap} {a x e : Addr} {o : HO}
theorem Un.any (u : Un fs ex H H1 h h1) {b : Addr} {ob : Obj} (q : h.get? b = some ob) (n : H b = none) (hx : b ∉ ex) : ∃ sl, h1.get? b = some { ob with slots := sl } := by
 by_cases hb : b ∈ fs
 ·exact u.slot b ob q n hb hx
 ·exact ⟨ob.slots, u.keep b ob q n hb hx⟩
theorem Un.kept (k : ∀ b u, h.get? b = some u -> h'.get? b = some u) : Un fs ex H H h h' :=
 ⟨fun b ob q _ _ _ => k b ob q, fun b ob q _ _ _ => ⟨ob.slots, k b ob q⟩, fun _ _ _ n _ => n, fun b ob q _ => ⟨ob, k b ob q⟩, fun _ _ q => q, fun _ _ _ q => q, fun _ ps q => ⟨#[], by rw [q]; simp⟩⟩
theorem Un.refl : Un fs ex H H h h := Un.kept fun _ _ q => q
theorem Un.laid (k : ∀ b u, h.get? b = some u -> h'.get? b = some u) (hp : h.objs.size <= a) (hn : H a = none) : Un fs ex H (upd H a o) h h' where
 keep := fun b u q _ _ _ => k b u q
 slot := fun b u q _ _ _ => ⟨u.slots, k b u q⟩
 free := fun b u q n _ => by rw [upd_ne (Nat.ne_of_lt (Nat.lt_of_lt_of_le (Heap.lt_size q) hp))]; exact n
 there := fun b u q _ => ⟨u, k b u q⟩
 tups := fun b xs q => by rw [upd_ne (ne_of_none q hn)]; exact q
 frzs := fun b u xs q => by rw [upd_ne (ne_of_none q hn)]; exact q
 tbls := fun b ps q => ⟨#[], by rw [upd_ne (ne_of_none q hn), q]; simp⟩
theorem Un.write (mu : Mut (H x)) (he : e = x \/ H e = some (.own x)) (k : ∀ b u, b ≠ e -> h.get? b = some u -> h'.get? b = some u) (heo : ∃ u, h'.get? e = some u) : Un fs ex H (upd H x o) h h' := by
 have hx : ∀ b, H b = none -> b ≠ x := fun b n z => by subst z; rw [n] at mu; exact mu
 have hb : ∀ b, H b = none -> b ≠ e := fun b n z => by
  subst z
  rcases he with r | r
  ·exact hx b n r
  ·rw [n] at r; cases r
 have hm : ∀ b u, H b = some u -> ¬ Mut (some u) -> b ≠ x := fun b u q nm z => by subst z; rw [q] at mu; exact nm mu
 refine ⟨fun b u q n _ _ => k b u (hb b n) q, fun b u q n _ _ => ⟨u.slots, k b u (hb b n) q⟩, fun b u q n _ => by rw [upd_ne (hx b n)]; exact n, fun b u q _ => ?_,
  fun b xs q => by rw [upd_ne (hm b _ q fun z => z)]; exact q, fun b u xs q => by rw [upd_ne (hm b _ q fun z => z)]; exact q, fun b ps q => ⟨#[], by rw [upd_ne (hm b _ q fun z => z), q]; simp⟩⟩
 by_cases hbe : b = e
 ·subst hbe; exact heo
 ·exact ⟨u, k b u hbe q⟩
end
def trk (h : Heap) (H : Hp) : List Addr := (List.range h.objs.size).filter fun a => (H a).isSome
def hidT (h : Heap) (H : Hp) : Heap := PySem.W.hideAll h (trk h H)
theorem hidT_size (h : Heap) (H : Hp) : (hidT h H).objs.size = h.objs.size := PySem.W.hideAll_size _ _
theorem hidT_get {h : Heap} {H : Hp} {b : Addr} {o : Obj} (e : h.get? b = some o) (n : H b = none) : (hidT h H).get? b = some o :=
 PySem.W.hideAll_get _ e fun hm => by
  have q : (H b).isSome = true := (List.mem_filter.mp hm).2
  rw [n] at q; simp at q
theorem of_hidT {h : Heap} {H : Hp} {b : Addr} {o : Obj} (e : (hidT h H).get? b = some o) : h.get? b = some o /\ H b = none := by
 have e' : h.get? b = some o := PySem.W.of_hideAll (trk h H) e
 refine ⟨e', ?_⟩
 cases q : H b with
 | none => rfl
 | some x =>
  have hm : b ∈ trk h H := List.mem_filter.mpr ⟨List.mem_range.mpr (Heap.lt_size e'), by simp [q]⟩
  have z : (hidT h H).get? b = none := PySem.W.hideAll_none (trk h H) hm
  rw [z] at e; cases e
noncomputable def allNews (g h : Heap) (L : Addr) : List (Addr × Obj) := (List.range h.objs.size).filterMap fun a => if a = L \/ (g.get? a).isSome = true then none else (h.get? a).map fun o => (a, o)
noncomputable def rest (g h : Heap) (L d : Addr) : List (Addr × Obj) := (allNews g h L).filter fun p => decide (p.1 ≠ d)
end L2
namespace L2
open PySem PySem.Spec PyProof.Rows
structure Mod (K : PySem.W.Frag) (mg : Str -> Option Value) (base : Heap) : Prop where
 kin : K.In base
 glob : base.Ns mainGlobals mg
 blt : ∃ mb, base.Ns builtinsNs mb /\ ∀ x : Str, x ≠ "__name__" -> mb x = bootBuiltins x
 nolimit : base.NoLimit
/-- the context: a def's body (or a comprehension's block) running. base: fixed through the whole law; s₀, H₀: the entry; outer: the frames whose slots others may change (a def's callers); stack: all frames that run;
   ex: iterators that were made ahead of the entry and are walked here (a comprehension's); fn: the names whose cells were made at the entry (a def: all; a comprehension's block: its own); calm: not within an except suite; pn: pins that every state bears; xe: what is wanted of an exception that leaves the code -/
structure Cx where
 prog : Program
 w : World
 K : PySem.W.Frag
 mg : Str -> Option Value
 base : Heap
 A : Around
 N : List Str
 s₀ : Shared
 H₀ : Hp
 env : Env
 outer : List Env
 stack : List Env
 ex : List Addr
 fn : Str -> Bool
 calm : Bool
 pn : List (Addr × Obj)
 xe : Value -> Shared -> Prop
noncomputable def frs (l : List Env) : List Addr := l.filterMap (·.frame)
noncomputable abbrev Cx.fs (X : Cx) : List Addr := frs X.outer
def Vis (sc : Scope) (x : Str) : Prop := sc.names.lookup x = some .local \/ sc.names.lookup x = some .cell \/ sc.names.lookup x = some .free
def Loc (sc : Scope) (x : Str) : Prop := sc.names.lookup x = some .local \/ sc.names.lookup x = some .cell
def Look (env : Env) (h : Heap) (m : Str -> Option Value) (x : Str) (u : Value) : Prop :=
 (env.kindOf x = some .local /\ m x = some u) \/ ((env.kindOf x = some .cell \/ env.kindOf x = some .free) /\ ∃ c, env.cells.lookup x = some c /\ h.IsCell c (some u))
structure Cx.Ok (X : Cx) : Prop where
 mod : Mod X.K X.mg X.base
 kind : X.env.scope.kind = .function
 glob : X.env.globals = mainGlobals
 blt : X.env.builtins = builtinsNs
 above : X.s₀.heap.objs.size <= X.env.locals
 inj : ∀ x y c, X.env.cells.lookup x = some c -> X.env.cells.lookup y = some c -> x = y
 has : ∀ x, (X.env.kindOf x = some .cell \/ X.env.kindOf x = some .free) -> ∃ c, X.env.cells.lookup x = some c
 cab : ∀ x c, X.fn x = true -> X.env.cells.lookup x = some c -> X.s₀.heap.objs.size <= c
 hd : X.calm = true -> X.A.handled = none
 frames : X.A.frames = some X.stack
 stk : X.stack = X.outer \/ (X.stack = X.env :: X.outer /\ X.env.frame = some X.env.locals)
 exf : ∀ b ∈ X.ex, b ≠ X.env.locals /\ ∀ x c, X.env.cells.lookup x = some c -> c ≠ b
 bs : ∀ b o, X.base.get? b = some o -> X.s₀.heap.get? b = some o /\ X.H₀ b = none
 bsz : X.base.objs.size <= X.s₀.heap.objs.size
 noex : ∀ b o, X.base.get? b = some o -> b ∉ X.ex
 exfs : ∀ b ∈ X.ex, b ∉ X.fs
 funs : X.s₀.heap.FunFrames X.base X.outer
 frf : ∀ b ∈ X.fs, X.H₀ b = none
structure Inv (X : Cx) (pins : List (Addr × Obj)) (σ : List (Option V)) (H : Hp) (s : Shared) : Prop where
 ok : X.Ok
 os : s.os = X.s₀.os
 bare : AllBare s.gens
 base : Un X.fs X.ex X.H₀ H X.s₀.heap s.heap
 loc : ∃ m, s.heap.Ns X.env.locals m /\ ∀ (i : Nat) (x : Str) (v : V), X.N[i]? = some x -> σ[i]? = some (some v) -> Vis X.env.scope x -> ∃ u, RelV v u /\ Look X.env s.heap m x u
 cell : ∀ x c, X.env.cells.lookup x = some c -> ∃ v, s.heap.IsCell c v
 free : H X.env.locals = none
 freeC : ∀ x c, X.env.cells.lookup x = some c -> H c = none
 pin : ∀ p ∈ X.pn ++ pins, s.heap.get? p.1 = some p.2 /\ H p.1 = none /\ p.1 ≠ X.env.locals /\ p.1 ∉ X.fs /\ ∀ v, p.2.data ≠ .cell v
 hok : HOk X.prog X.w H s.heap
 len : σ.length = X.N.length
section
variable {X : Cx} {pins : List (Addr × Obj)} {σ : List (Option V)} {H H' : Hp} {s : Shared} {h' : Heap}
theorem Cx.Ok.nofr (ok : X.Ok) {b : Addr} {o : Obj} (e : X.base.get? b = some o) : b ∉ X.fs := fun hb => by
 have := (ok.funs.mem hb).1
 rw [e] at this; cases this
theorem Inv.bs (I : Inv X pins σ H s) : ∀ b o, X.base.get? b = some o -> s.heap.get? b = some o /\ H b = none := fun b o e =>
 ⟨I.base.keep b o (I.ok.bs b o e).1 (I.ok.bs b o e).2 (I.ok.nofr e) (I.ok.noex b o e), I.base.free b o (I.ok.bs b o e).1 (I.ok.bs b o e).2 (I.ok.noex b o e)⟩
theorem Inv.bk (I : Inv X pins σ H s) : ∀ b o, X.base.get? b = some o -> s.heap.get? b = some o := fun b o e => (I.bs b o e).1
theorem Inv.mod (I : Inv X pins σ H s) : Mod X.K X.mg X.base := I.ok.mod
theorem Inv.kIn (I : Inv X pins σ H s) : X.K.In s.heap := I.ok.mod.kin.keeps I.bk
theorem Inv.lt (I : Inv X pins σ H s) : X.env.locals < s.heap.objs.size := let ⟨_, hn, _⟩ := I.loc; hn.lt
theorem Inv.sz (I : Inv X pins σ H s) : X.s₀.heap.objs.size <= s.heap.objs.size := Nat.le_trans I.ok.above (Nat.le_of_lt I.lt)
theorem Inv.nofs (I : Inv X pins σ H s) {a : Addr} (h : s.heap.objs.size <= a) : a ∉ X.fs := fun hb => by
 obtain ⟨_, o, ho, _⟩ := I.ok.funs.mem hb
 exact absurd (Nat.lt_of_lt_of_le (Heap.lt_size ho) (Nat.le_trans I.sz h)) (Nat.lt_irrefl _)
theorem Inv.cne (I : Inv X pins σ H s) : ∀ x c, X.env.cells.lookup x = some c -> c ≠ X.env.locals := fun x c e z => by
 obtain ⟨v, o, ho, hd⟩ := I.cell x c e
 obtain ⟨m, ⟨o', es, ep, ho', hd', _⟩, _⟩ := I.loc
 rw [z, ho'] at ho; cases ho; rw [hd'] at hd; cases hd
theorem Inv.funs (I : Inv X pins σ H s) : s.heap.FunFrames X.base X.outer := by
 have all : ∀ (l : List Env), (∀ b ∈ frs l, b ∈ X.fs) -> X.s₀.heap.FunFrames X.base l -> s.heap.FunFrames X.base l := by
  intro l
  induction l with
  | nil => intro _ _; trivial
  | cons env r ih =>
   intro hs hl
   obtain ⟨hk, ⟨L, o, hf, hn, ho, hd⟩, hr⟩ := hl
   have hL : L ∈ X.fs := hs L (by unfold frs; rw [List.filterMap_cons, hf]; exact List.mem_cons_self)
   obtain ⟨sl, e⟩ := I.base.slot L o ho (I.ok.frf L hL) hL fun z => I.ok.exfs L z hL
   exact ⟨hk, ⟨L, _, hf, hn, e, hd⟩, ih (fun b hb => hs b (by unfold frs; rw [List.filterMap_cons, hf]; exact List.mem_cons_of_mem _ hb)) hr⟩
 exact all X.outer (fun _ hb => hb) I.ok.funs
theorem Inv.stack (I : Inv X pins σ H s) : s.heap.FunFrames X.base X.stack := by
 rcases I.ok.stk with e | ⟨e, hf⟩
 ·rw [e]; exact I.funs
 ·rw [e]
  obtain ⟨m, hn, _⟩ := I.loc
  refine .cons (by rw [I.ok.kind]; decide) hf hn ?_ I.funs
  exact Heap.get?_none_of_le (Nat.le_trans I.ok.bsz I.ok.above)
theorem Inv.stkSub (I : Inv X pins σ H s) : ∀ b ∈ frs X.stack, b ∈ X.env.locals :: X.fs := fun b hb => by
 rcases I.ok.stk with e | ⟨e, hf⟩
 ·rw [e] at hb; exact List.mem_cons_of_mem _ hb
 ·rw [e] at hb
  unfold frs at hb
  rw [List.filterMap_cons, hf] at hb
  exact hb
theorem Inv.stkFree (I : Inv X pins σ H s) : ∀ b ∈ frs X.stack, H b = none := fun b hb => by
 rcases List.mem_cons.mp (I.stkSub b hb) with e | hb
 ·rw [e]; exact I.free
 ·obtain ⟨_, o, ho, _⟩ := I.ok.funs.mem hb
  exact I.base.free b o ho (I.ok.frf b hb) fun z => I.ok.exfs b z hb
theorem Inv.step {g' : Array GenState} {t' : Nat} {d' : Drawn} {ch : List Addr} (I : Inv X pins σ H s)
  (hch : ∀ b ∈ ch, (b ∈ X.ex \/ X.s₀.heap.objs.size <= b) /\ b ≠ X.env.locals /\ (∀ x c, X.env.cells.lookup x = some c -> c ≠ b) /\ ∀ p ∈ X.pn ++ pins, p.1 ≠ b)
  (keep : ∀ b o, b ≠ X.env.locals -> b ∉ X.fs -> b ∉ ch -> s.heap.get? b = some o -> H b = none -> h'.get? b = some o)
  (slot : ∀ b o, b ≠ X.env.locals -> b ∈ X.fs -> b ∉ ch -> s.heap.get? b = some o -> H b = none -> ∃ sl, h'.get? b = some { o with slots := sl }) (free : ∀ b o, b ∉ ch -> s.heap.get? b = some o -> H b = none -> H' b = none)
  (there : ∀ b o, b ∉ ch -> s.heap.get? b = some o -> ∃ o', h'.get? b = some o')
  (tups : ∀ b xs, H b = some (.tup xs) -> H' b = some (.tup xs)) (frzs : ∀ b o u, H b = some (.frz o u) -> H' b = some (.frz o u)) (tbls : ∀ b ps, H b = some (.tbl ps) -> ∃ more, H' b = some (.tbl (ps ++ more)))
  (ns : ∀ m, s.heap.Ns X.env.locals m -> h'.Ns X.env.locals m) (hok : HOk X.prog X.w H' h') (hg : AllBare g') :
  Inv X pins σ H' { s with heap := h', gens := g', drawn := d', toks := t' } := by
 have neL : ∀ b o, X.s₀.heap.get? b = some o -> b ≠ X.env.locals := fun b o e => Nat.ne_of_lt (Nat.lt_of_lt_of_le (Heap.lt_size e) I.ok.above)
 have neC : ∀ b o, X.s₀.heap.get? b = some o -> b ∉ X.ex -> b ∉ ch := fun b o e hx hb => by
  rcases (hch b hb).1 with z | z
  ·exact hx z
  ·exact absurd (Nat.lt_of_lt_of_le (Heap.lt_size e) z) (Nat.lt_irrefl _)
 have cellK : ∀ x c, X.env.cells.lookup x = some c -> ∀ v, s.heap.IsCell c v -> h'.IsCell c v := fun x c e v ⟨o, ho, hd⟩ => by
  have nch : c ∉ ch := fun z => (hch c z).2.2.1 x c e rfl
  by_cases hc : c ∈ X.fs
  ·obtain ⟨sl, q⟩ := slot c o (I.cne x c e) hc nch ho (I.freeC x c e)
   exact ⟨_, q, hd⟩
  ·exact ⟨o, keep c o (I.cne x c e) hc nch ho (I.freeC x c e), hd⟩
 refine ⟨I.ok, I.os, hg, ⟨fun b o e n hb hx => ?_, fun b o e n hb hx => ?_, fun b o e n hx => ?_, fun b o e hx => ?_, fun b xs e => tups b xs (I.base.tups b xs e), fun b o xs e => frzs b o xs (I.base.frzs b o xs e), fun b ps e => ?_⟩, ?_, fun x c e => ?_, ?_, fun x c e => ?_, fun p hp => ?_, hok, I.len⟩
 ·exact keep b o (neL b o e) hb (neC b o e hx) (I.base.keep b o e n hb hx) (I.base.free b o e n hx)
 ·obtain ⟨sl, e1⟩ := I.base.slot b o e n hb hx
  obtain ⟨sl', e2⟩ := slot b _ (neL b o e) hb (neC b o e hx) e1 (I.base.free b o e n hx)
  exact ⟨sl', e2⟩
 ·obtain ⟨o', e1⟩ := I.base.there b o e hx
  exact free b o' (neC b o e hx) e1 (I.base.free b o e n hx)
 ·obtain ⟨o', e1⟩ := I.base.there b o e hx
  exact there b o' (neC b o e hx) e1
 ·obtain ⟨m1, e1⟩ := I.base.tbls b ps e
  obtain ⟨m2, e2⟩ := tbls b _ e1
  exact ⟨m1 ++ m2, by rw [e2, Array.append_assoc]⟩
 ·obtain ⟨m, hn, hl⟩ := I.loc
  refine ⟨m, ns m hn, fun i x v e1 e2 e3 => ?_⟩
  obtain ⟨u, r, l⟩ := hl i x v e1 e2 e3
  refine ⟨u, r, ?_⟩
  rcases l with l | ⟨k, c, e, z⟩
  ·exact .inl l
  ·exact .inr ⟨k, c, e, cellK x c e _ z⟩
 ·obtain ⟨v, z⟩ := I.cell x c e
  exact ⟨v, cellK x c e v z⟩
 ·obtain ⟨m, ⟨o, _, _, ho, _⟩, _⟩ := I.loc
  exact free _ o (fun z => (hch _ z).2.1 rfl) ho I.free
 ·obtain ⟨v, o, ho, hd⟩ := I.cell x c e
  exact free c o (fun z => (hch c z).2.2.1 x c e rfl) ho (I.freeC x c e)
 ·obtain ⟨e, n, ne, nf, d⟩ := I.pin p hp
  have nch : p.1 ∉ ch := fun z => (hch p.1 z).2.2.2 p hp rfl
  exact ⟨keep p.1 p.2 ne nf nch e n, free p.1 p.2 nch e n, ne, nf, d⟩
theorem Inv.un {t' : Nat} (I : Inv X pins σ H s) (u : Un X.fs [] H H' s.heap h') (hok : HOk X.prog X.w H' h') : Inv X pins σ H' { s with heap := h', toks := t' } := by
 obtain ⟨m, ⟨o, es, ep, ho, r⟩, _⟩ := id I.loc
 obtain ⟨sl, hL⟩ := u.any ho I.free (by simp)
 exact I.step (g' := s.gens) (d' := s.drawn) (ch := []) (fun _ z => nomatch z) (fun b o _ hb _ e n => u.keep b o e n hb (by simp)) (fun b o _ hb _ e n => u.slot b o e n hb (by simp)) (fun b o _ e n => u.free b o e n (by simp)) (fun b o _ e => u.there b o e (by simp)) u.tups u.frzs u.tbls (fun m' hm => by
  obtain ⟨o', es', ep', ho', r'⟩ := hm
  rw [ho] at ho'; cases ho'
  exact ⟨_, es', ep', hL, r'⟩) hok I.bare
theorem Inv.call {g' : Array GenState} {t' : Nat} {d' : Drawn} {ch : List Addr} (I : Inv X pins σ H s) (u : Un (frs X.stack) ch H H' s.heap h') (hok : HOk X.prog X.w H' h') (hg : AllBare g')
  (hch : ∀ b ∈ ch, (b ∈ X.ex \/ X.s₀.heap.objs.size <= b) /\ b ≠ X.env.locals /\ (∀ x c, X.env.cells.lookup x = some c -> c ≠ b) /\ ∀ p ∈ X.pn ++ pins, p.1 ≠ b) :
  Inv X pins σ H' { s with heap := h', gens := g', drawn := d', toks := t' } := by
 obtain ⟨m, ⟨o, es, ep, ho, r⟩, _⟩ := id I.loc
 obtain ⟨sl, hL⟩ := u.any ho I.free fun z => (hch _ z).2.1 rfl
 exact I.step (ch := ch) hch (fun b o hL hb hc e n => u.keep b o e n (fun z => (List.mem_cons.mp (I.stkSub b z)).elim hL hb) hc) (fun b o _ _ hc e n => u.any e n hc) (fun b o hc e n => u.free b o e n hc) (fun b o hc e => u.there b o e hc) u.tups u.frzs u.tbls (fun m' hm => by
  obtain ⟨o', es', ep', ho', r'⟩ := hm
  rw [ho] at ho'; cases ho'
  exact ⟨_, es', ep', hL, r'⟩) hok hg
theorem Inv.turned {t' : Nat} {it : Addr} (I : Inv X pins σ H s) (k : ∀ b o, b ≠ it -> s.heap.get? b = some o -> h'.get? b = some o) (hn : H it = none) (hL : it ≠ X.env.locals)
  (h1 : it ∈ X.ex \/ X.s₀.heap.objs.size <= it) (h2 : ∀ x c, X.env.cells.lookup x = some c -> c ≠ it) (h3 : ∀ p ∈ X.pn ++ pins, p.1 ≠ it) : Inv X pins σ H { s with heap := h', toks := t' } := by
 have nit : ∀ b u, H b = some u -> b ≠ it := fun b u e z => by rw [z, hn] at e; cases e
 refine I.step (g' := s.gens) (d' := s.drawn) (ch := [it]) (fun b hb => ?_) (fun b o _ _ hc e _ => k b o (fun z => hc (by simp [z])) e) (fun b o _ _ hc e _ => ⟨o.slots, k b o (fun z => hc (by simp [z])) e⟩) (fun _ _ _ _ n => n)
  (fun b o hc e => ⟨o, k b o (fun z => hc (by simp [z])) e⟩) (fun _ _ e => e) (fun _ _ _ e => e) (fun b ps e => ⟨#[], by rw [e]; simp⟩) (fun m hm => ?_) (fun b u e => ?_) I.bare
 ·have e : b = it := by simpa using hb
  subst e
  exact ⟨h1, hL, h2, h3⟩
 ·obtain ⟨o, es, ep, ho, r⟩ := hm
  exact ⟨o, es, ep, k _ o (Ne.symm hL) ho, r⟩
 ·refine (I.hok b u e).stay (fun c v hc q => k c v ?_ q) (fun _ q => q) fun _ _ q => q
  rcases hc with z | z
  ·rw [z]; exact nit b u e
  ·exact nit c _ z
theorem Inv.tok (I : Inv X pins σ H s) (t : Nat) : Inv X pins σ H { s with toks := t } := I.un (h' := s.heap) (t' := t) Un.refl I.hok
theorem Inv.kept {t' : Nat} (I : Inv X pins σ H s) (k : ∀ b u, s.heap.get? b = some u -> h'.get? b = some u) : Inv X pins σ H { s with heap := h', toks := t' } := I.un (Un.kept k) (I.hok.kept k)
theorem Inv.laid {a : Addr} {o : HO} {t' : Nat} (I : Inv X pins σ H s) (k : ∀ b u, s.heap.get? b = some u -> h'.get? b = some u) (hp : s.heap.objs.size <= a) (new : ObjOk X.prog X.w (upd H a o) h' a o) :
  Inv X pins σ (upd H a o) { s with heap := h', toks := t' } := I.un (Un.laid k hp (I.hok.fresh hp)) (I.hok.laid k hp new)
theorem Inv.write {x e : Addr} {o : HO} {t' : Nat} (I : Inv X pins σ H s) (mu : Mut (H x)) (he : e = x \/ H e = some (.own x)) (k : ∀ b u, b ≠ e -> s.heap.get? b = some u -> h'.get? b = some u) (heo : ∃ u, h'.get? e = some u)
  (new : ObjOk X.prog X.w (upd H x o) h' x o) : Inv X pins σ (upd H x o) { s with heap := h', toks := t' } := I.un (Un.write mu he k heo) (I.hok.write mu he k heo new)
theorem Inv.pins_of {pins' : List (Addr × Obj)} (I : Inv X pins σ H s) (h : ∀ p ∈ pins', s.heap.get? p.1 = some p.2 /\ H p.1 = none /\ p.1 ≠ X.env.locals /\ p.1 ∉ X.fs /\ ∀ v, p.2.data ≠ .cell v) : Inv X pins' σ H s :=
 ⟨I.ok, I.os, I.bare, I.base, I.loc, I.cell, I.free, I.freeC, fun p hp => (List.mem_append.mp hp).elim (fun z => I.pin p (List.mem_append_left _ z)) (h p), I.hok, I.len⟩
theorem nodup_ix {N : List Str} (hN : N.Nodup) {i j : Nat} {x : Str} (a : N[i]? = some x) (b : N[j]? = some x) : i = j := by
 obtain ⟨h1, e1⟩ := List.getElem?_eq_some_iff.mp a
 obtain ⟨h2, e2⟩ := List.getElem?_eq_some_iff.mp b
 exact (List.getElem_inj hN).mp (e1.trans e2.symm)
theorem store_ok2 {M : Model} {A : Around} {E : Value -> Shared -> Prop} {i : Nat} {x : Str} {v : V} {u : Value} {Q : Unit -> Shared -> Prop} (I : Inv X pins σ H s) (hN : X.N.Nodup) (hi : X.N[i]? = some x) (hx : Loc X.env.scope x) (r : RelV v u)
  (h : ∀ s', Inv X pins (σ.set i (some v)) H s' -> (∃ a, Heap.SameBut a s.heap s'.heap /\ (a = X.env.locals \/ X.env.cells.lookup x = some a)) -> Q () s') (hf : X.fn x = true \/ X.env.scope.names.lookup x = some .local := by first | exact .inl rfl | exact .inr rfl | assumption) : wpAny M A (storeName X.env x u) Q E s := by
 obtain ⟨m, hn, hl⟩ := id I.loc
 have hcls : (X.env.scope.kind == .class || (X.env.scope.kind == .module && X.env.locals != X.env.globals)) = false := by rw [I.ok.kind]; rfl
 have hiσ : i < σ.length := by rw [I.len]; exact (List.getElem?_eq_some_iff.mp hi).1
 have cne := I.cne
 have tracked : ∀ {a : Addr} {h' : Heap}, (∃ o, s.heap.get? a = some o /\ H a = none) -> Heap.SameBut a s.heap h' -> HOk X.prog X.w H h' := fun {a h'} ha hs b ob e => by
  obtain ⟨_, _, hfree⟩ := ha
  refine (I.hok b ob e).stay (fun c w' hc q => (hs.2 c ?_).trans q) (fun _ q => q) fun _ _ q => q
  rintro rfl
  rcases hc with rfl | hc
  ·rw [hfree] at e; cases e
  ·rw [hfree] at hc; cases hc
 rcases hx with hk | hk
 ·refine wpAny_storeName_local hk hn (fun h' hn' hs => ?_) hcls
  obtain ⟨oL, _, _, hoL, _⟩ := id hn
  refine h _ ⟨I.ok, I.os, I.bare, ⟨fun b o e n hb hx => ?_, fun b o e n hb hx => ?_, I.base.free, fun b o e hx => ?_, I.base.tups, I.base.frzs, I.base.tbls⟩, ⟨_, hn', fun j y v' e1 e2 e3 => ?_⟩, fun y c e => ?_, I.free, I.freeC, fun p hp => ?_, tracked ⟨oL, hoL, I.free⟩ hs, by simpa using I.len⟩ ⟨_, hs, .inl rfl⟩
  ·exact (hs.2 b (Nat.ne_of_lt (Nat.lt_of_lt_of_le (Heap.lt_size e) I.ok.above))).trans (I.base.keep b o e n hb hx)
  ·obtain ⟨sl, e1⟩ := I.base.slot b o e n hb hx
   exact ⟨sl, (hs.2 b (Nat.ne_of_lt (Nat.lt_of_lt_of_le (Heap.lt_size e) I.ok.above))).trans e1⟩
  ·obtain ⟨o', e1⟩ := I.base.there b o e hx
   exact ⟨o', (hs.2 b (Nat.ne_of_lt (Nat.lt_of_lt_of_le (Heap.lt_size e) I.ok.above))).trans e1⟩
  ·by_cases hj : j = i
   ·subst hj
    rw [hi] at e1; cases e1
    rw [List.getElem?_set_self hiσ] at e2
    cases e2
    exact ⟨u, r, .inl ⟨hk, by simp⟩⟩
   ·rw [List.getElem?_set_ne (Ne.symm hj)] at e2
    obtain ⟨u', r', q⟩ := hl j y v' e1 e2 e3
    refine ⟨u', r', ?_⟩
    rcases q with ⟨k, e⟩ | ⟨k, c, e, z⟩
    ·refine .inl ⟨k, ?_⟩
     have : y ≠ x := fun e => hj (nodup_ix hN e1 (e ▸ hi))
     simp [this, e]
    ·exact .inr ⟨k, c, e, z.sameBut hs (cne y c e)⟩
  ·obtain ⟨w', z⟩ := I.cell y c e
   exact ⟨w', z.sameBut hs (cne y c e)⟩
  ·obtain ⟨e, n, ne, nf, d⟩ := I.pin p hp
   exact ⟨(hs.2 p.1 ne).trans e, n, ne, nf, d⟩
 ·have hfn : X.fn x = true := by
   rcases hf with z | z
   ·exact z
   ·rw [z] at hk; cases hk
  obtain ⟨c, hc⟩ := I.ok.has x (.inl hk)
  obtain ⟨w', z⟩ := I.cell x c hc
  refine wpAny_storeName_cell I.ok.kind hk hc z (fun h' hc' hs => ?_)
  obtain ⟨oc, hoc, hocd⟩ := id z
  refine h { s with heap := h' } ⟨I.ok, I.os, I.bare, ⟨fun b o e n hb hx => ?_, fun b o e n hb hx => ?_, I.base.free, fun b o e hx => ?_, I.base.tups, I.base.frzs, I.base.tbls⟩, ⟨m, hn.sameBut hs (Ne.symm (cne x c hc)), fun j y v' e1 e2 e3 => ?_⟩, fun y c' e => ?_, I.free, I.freeC, fun p hp => ?_, tracked ⟨oc, hoc, I.freeC x c hc⟩ hs, by simpa using I.len⟩ ⟨c, hs, .inr hc⟩
  ·exact (hs.2 b (Nat.ne_of_lt (Nat.lt_of_lt_of_le (Heap.lt_size e) (I.ok.cab x c hfn hc)))).trans (I.base.keep b o e n hb hx)
  ·obtain ⟨sl, e1⟩ := I.base.slot b o e n hb hx
   exact ⟨sl, (hs.2 b (Nat.ne_of_lt (Nat.lt_of_lt_of_le (Heap.lt_size e) (I.ok.cab x c hfn hc)))).trans e1⟩
  ·obtain ⟨o', e1⟩ := I.base.there b o e hx
   exact ⟨o', (hs.2 b (Nat.ne_of_lt (Nat.lt_of_lt_of_le (Heap.lt_size e) (I.ok.cab x c hfn hc)))).trans e1⟩
  ·by_cases hj : j = i
   ·subst hj
    rw [hi] at e1; cases e1
    rw [List.getElem?_set_self hiσ] at e2
    cases e2
    exact ⟨u, r, .inr ⟨.inl hk, c, hc, hc'⟩⟩
   ·rw [List.getElem?_set_ne (Ne.symm hj)] at e2
    obtain ⟨u', r', q⟩ := hl j y v' e1 e2 e3
    refine ⟨u', r', ?_⟩
    rcases q with q | ⟨k, c', e, z'⟩
    ·exact .inl q
    ·refine .inr ⟨k, c', e, z'.sameBut hs ?_⟩
     rintro rfl
     exact hj (nodup_ix hN e1 (I.ok.inj _ _ _ e hc ▸ hi))
  ·by_cases hcc : c' = c
   ·subst hcc; exact ⟨_, hc'⟩
   ·obtain ⟨w2, z2⟩ := I.cell y c' e
    exact ⟨w2, z2.sameBut hs hcc⟩
  ·obtain ⟨e, n, ne, nf, d⟩ := I.pin p hp
   refine ⟨(hs.2 p.1 ?_).trans e, n, ne, nf, d⟩
   intro q
   rw [q, hoc] at e
   have q' : oc = p.2 := Option.some.inj e
   exact d w' (by rw [← q']; exact hocd)
theorem store_ok {M : Model} {A : Around} {E : Value -> Shared -> Prop} {i : Nat} {x : Str} {v : V} {u : Value} {Q : Unit -> Shared -> Prop} (I : Inv X pins σ H s) (hN : X.N.Nodup) (hi : X.N[i]? = some x) (hx : Loc X.env.scope x) (r : RelV v u)
  (h : ∀ s', Inv X pins (σ.set i (some v)) H s' -> Q () s') (hf : X.fn x = true \/ X.env.scope.names.lookup x = some .local := by first | exact .inl rfl | exact .inr rfl | assumption) : wpAny M A (storeName X.env x u) Q E s :=
 store_ok2 I hN hi hx r (fun s' I' _ => h s' I') hf
theorem Inv.call' {s' : Shared} {ch : List Addr} (I : Inv X pins σ H s) (ho : s'.os = s.os) (u : Un (frs X.stack) ch H H' s.heap s'.heap) (hok : HOk X.prog X.w H' s'.heap) (hg : AllBare s'.gens)
  (hch : ∀ b ∈ ch, (b ∈ X.ex \/ X.s₀.heap.objs.size <= b) /\ b ≠ X.env.locals /\ (∀ x c, X.env.cells.lookup x = some c -> c ≠ b) /\ ∀ p ∈ X.pn ++ pins, p.1 ≠ b) : Inv X pins σ H' s' := by
 obtain ⟨h', g', d', t', o'⟩ := s'
 have e : o' = s.os := ho
 subst e
 exact I.call (g' := g') (t' := t') (d' := d') u hok hg hch
end
noncomputable abbrev XK := Value -> Option Addr -> Hp -> Prop
noncomputable abbrev St := List (Option V)
noncomputable abbrev VK := V -> Hp -> Prop
noncomputable abbrev TE := St -> Hp -> VK -> Prop
noncomputable abbrev TT := St -> Hp -> (Bool -> Hp -> Prop) -> Prop
noncomputable abbrev TA := St -> Hp -> (List V -> Hp -> Prop) -> Prop
structure Ends where
 nx : St -> Hp -> Prop
 rt : VK
 bk : St -> Hp -> Prop := fun _ _ => False
 ct : St -> Hp -> Prop := fun _ _ => False
noncomputable abbrev TS := Ends -> St -> Hp -> Prop
def EP (X : Cx) (pins : List (Addr × Obj)) (σ : St) (Q : VK) (u : Value) (s' : Shared) : Prop := ∃ v H', Inv X pins σ H' s' /\ RelV v u /\ Q v H'
def TP (X : Cx) (pins : List (Addr × Obj)) (σ : St) (Q : Bool -> Hp -> Prop) (b : Bool) (s' : Shared) : Prop := ∃ H', Inv X pins σ H' s' /\ Q b H'
def AP (X : Cx) (pins : List (Addr × Obj)) (σ : St) (Q : List V -> Hp -> Prop) (us : List Value) (s' : Shared) : Prop := ∃ vs H', Inv X pins σ H' s' /\ Vals vs us /\ Q vs H'
def SP (X : Cx) (pins : List (Addr × Obj)) (D : Ends) (f : Flow) (s' : Shared) : Prop :=
 match f with
 | .next => ∃ σ' H', Inv X pins σ' H' s' /\ D.nx σ' H'
 | .brk => ∃ σ' H', Inv X pins σ' H' s' /\ D.bk σ' H'
 | .cont => ∃ σ' H', Inv X pins σ' H' s' /\ D.ct σ' H'
 | .ret u => ∃ v σ' H', Inv X pins σ' H' s' /\ RelV v u /\ D.rt v H'
def PE (X : Cx) (e : Expr) (t : TE) : Prop :=
 ∀ (pins : List (Addr × Obj)) (s : Shared) (σ : St) (H : Hp) (Q : VK), Inv X pins σ H s -> t σ H Q -> wpAny (model X.prog X.w) X.A (eval e X.env) (EP X pins σ Q) X.xe s
def PT (X : Cx) (e : Expr) (t : TT) : Prop :=
 ∀ (pins : List (Addr × Obj)) (s : Shared) (σ : St) (H : Hp) (Q : Bool -> Hp -> Prop), Inv X pins σ H s -> t σ H Q -> wpAny (model X.prog X.w) X.A (isTrue e X.env (eval e X.env)) (TP X pins σ Q) X.xe s
def PW (X : Cx) (e : Expr) (t : TT) : Prop :=
 ∀ (whole : Sem Value) (pins : List (Addr × Obj)) (s : Shared) (σ : St) (H : Hp) (Q : Bool -> Hp -> Prop), Inv X pins σ H s -> t σ H Q -> wpAny (model X.prog X.w) X.A (isTrue e X.env whole) (TP X pins σ Q) X.xe s
theorem PW.pt {X : Cx} {e : Expr} {t : TT} (h : PW X e t) : PT X e t := h _
def PA (X : Cx) (es : List Expr) (t : TA) : Prop :=
 ∀ (pos : Pos) (pins : List (Addr × Obj)) (s : Shared) (σ : St) (H : Hp) (Q : List V -> Hp -> Prop), Inv X pins σ H s -> t σ H Q -> wpAny (model X.prog X.w) X.A (spliced (backTo pos (starEach es X.env))) (AP X pins σ Q) X.xe s
def PS (X : Cx) (st : Stmt) (t : TS) : Prop :=
 ∀ (pins : List (Addr × Obj)) (s : Shared) (σ : St) (H : Hp) (D : Ends), Inv X pins σ H s -> t D σ H -> wpAny (model X.prog X.w) X.A (exec st X.env) (SP X pins D) X.xe s
def PSs (X : Cx) (st : List Stmt) (t : TS) : Prop :=
 ∀ (pins : List (Addr × Obj)) (s : Shared) (σ : St) (H : Hp) (D : Ends), Inv X pins σ H s -> t D σ H -> wpAny (model X.prog X.w) X.A (execs st X.env) (SP X pins D) X.xe s
theorem thn {α : Type} {t : Sem α} {Q Q' : α -> Shared -> Prop} {M : Model} {A : Around} {E : Value -> Shared -> Prop} {s : Shared} (h : wpAny M A t Q E s) (hQ : ∀ a s, Q a s -> Q' a s) : wpAny M A t Q' E s := wpAny_mono h hQ fun _ _ x => x
end L2
namespace L2
open PySem PySem.Spec PyProof.Rows
section
variable {X : Cx}
def tVar (i : Nat) : TE := fun σ H Q => ∃ v, σ[i]? = some (some v) /\ Q v H
def tC (v : V) : TE := fun _ H Q => Q v H
theorem pe_var {i : Nat} {x : Str} {pos : Pos} (hN : X.N[i]? = some x) (hv : Vis X.env.scope x) (hd : (x == ("__debug__" : Str)) = false := by decide) (hcd : (x == ("__classdict__" : Str)) = false := by decide) : PE X (.Name x pos) (tVar i) := by
 intro pins s σ H Q I h
 obtain ⟨v, e, h⟩ := h
 obtain ⟨m, hn, hl⟩ := I.loc
 obtain ⟨u, r, l⟩ := hl i x v hN e hv
 have fin : EP X pins σ Q u s := ⟨v, H, I, r, h⟩
 rcases l with ⟨hk, hm⟩ | ⟨hk, c, hc, hcell⟩
 ·exact wpAny_Name (wpAny_loadName_local I.ok.kind hk hn hm fin) hd
 ·rcases hk with hk | hk
  ·exact wpAny_Name (wpAny_loadName_cell I.ok.kind hk hc hcell fin) hd
  ·exact wpAny_Name (wpAny_loadName_free I.ok.kind hk hc hcell fin hcd) hd
theorem pe_int {i j pos} : PE X (.Constant (.int i) j pos) (tC (.int i)) := fun _ _ _ H _ I h => wpAny_Constant_int ⟨.int i, H, I.tok _, ⟨_, rfl⟩, h⟩
theorem pe_bl {b j pos} : PE X (.Constant (.bool b) j pos) (tC (.bl b)) := fun _ _ _ H _ I h => Constant_bool ⟨.bl b, H, I, rfl, h⟩
def Gl (X : Cx) (x : Str) : Prop := X.env.kindOf x = some .globalImplicit
theorem ld_glob {E : Value -> Shared -> Prop} {pins : List (Addr × Obj)} {s : Shared} {σ : St} {H : Hp} {x : Str} {u : Value} {pos : Pos} {Q : Value -> Shared -> Prop} (I : Inv X pins σ H s) (hg : Gl X x) (hm : X.mg x = some u) (h : Q u s)
  (hd : (x == ("__debug__" : Str)) = false := by decide) : wpAny (model X.prog X.w) X.A (eval (.Name x pos) X.env) Q E s :=
 Calls.Name_function_global I.ok.kind hg (Calls.loadGlobal_global (by rw [I.ok.glob]; exact I.mod.glob.keeps I.bk) hm h) hd
theorem ld_blt {E : Value -> Shared -> Prop} {pins : List (Addr × Obj)} {s : Shared} {σ : St} {H : Hp} {x : Str} {u : Value} {pos : Pos} {Q : Value -> Shared -> Prop} (I : Inv X pins σ H s) (hg : Gl X x) (hm : X.mg x = none) (hv : bootBuiltins x = some u) (h : Q u s)
  (hn : x ≠ "__name__" := by decide) (hd : (x == ("__debug__" : Str)) = false := by decide) : wpAny (model X.prog X.w) X.A (eval (.Name x pos) X.env) Q E s := by
 obtain ⟨mb, h1, h2⟩ := I.mod.blt
 exact Calls.Name_function_global I.ok.kind hg (Calls.loadGlobal_builtin (by rw [I.ok.glob]; exact I.mod.glob.keeps I.bk) hm (by rw [I.ok.blt]; exact h1.keeps I.bk) ((h2 x hn).trans hv) h) hd
theorem pe_glob {x : Str} {v : V} {u : Value} {pos : Pos} (hg : Gl X x) (hm : X.mg x = some u) (r : RelV v u) (hd : (x == ("__debug__" : Str)) = false := by decide) : PE X (.Name x pos) (tC v) :=
 fun _ _ _ H _ I h => ld_glob I hg hm ⟨v, H, I, r, h⟩ hd
theorem pe_bltn {x : Str} {v : V} {u : Value} {pos : Pos} (hg : Gl X x) (hm : X.mg x = none) (hv : bootBuiltins x = some u) (r : RelV v u) (hn : x ≠ "__name__" := by decide) (hd : (x == ("__debug__" : Str)) = false := by decide) : PE X (.Name x pos) (tC v) :=
 fun _ _ _ H _ I h => ld_blt I hg hm hv ⟨v, H, I, r, h⟩ hn hd
variable {a b : Expr} {ta tb : TE} {pos : Pos}
def tB (t : TE) : TT := fun σ H Q => t σ H fun x H1 => ∃ c, x = .bl c /\ Q c H1
variable {tA tB' : TT} {rest : List Expr}
def tAnd (t u : TT) : TT := fun σ H Q => t σ H fun c H1 => if c = true then u σ H1 Q else Q false H1
def tOr (t u : TT) : TT := fun σ H Q => t σ H fun c H1 => if c = true then Q true H1 else u σ H1 Q
def tNot (t : TT) : TT := fun σ H Q => t σ H fun c H1 => Q (!c) H1
theorem pw_and1 (ha : PT X a tA) : PW X (.BoolOp .And [a] pos) tA := by
 intro wh pins s σ H Q I h
 refine isTrue_and (thn (ha pins s σ H Q I h) fun c s1 e => ?_)
 cases c with
 | true => exact isTrue_and_nil e
 | false => exact e
theorem pw_or1 (ha : PT X a tA) : PW X (.BoolOp .Or [a] pos) tA := by
 intro wh pins s σ H Q I h
 refine isTrue_or (thn (ha pins s σ H Q I h) fun c s1 e => ?_)
 cases c with
 | false => exact isTrue_or_nil e
 | true => exact e
theorem pw_and (ha : PT X a tA) (hb : PW X (.BoolOp .And (b :: rest) pos) tB') : PW X (.BoolOp .And (a :: b :: rest) pos) (tAnd tA tB') := by
 intro wh pins s σ H Q I h
 refine isTrue_and (thn (ha pins s σ H _ I h) fun c s1 ⟨H1, I1, q1⟩ => ?_)
 cases c with
 | true => exact hb wh pins s1 σ H1 Q I1 q1
 | false => exact ⟨H1, I1, q1⟩
theorem pw_or (ha : PT X a tA) (hb : PW X (.BoolOp .Or (b :: rest) pos) tB') : PW X (.BoolOp .Or (a :: b :: rest) pos) (tOr tA tB') := by
 intro wh pins s σ H Q I h
 refine isTrue_or (thn (ha pins s σ H _ I h) fun c s1 ⟨H1, I1, q1⟩ => ?_)
 cases c with
 | true => exact ⟨H1, I1, q1⟩
 | false => exact hb wh pins s1 σ H1 Q I1 q1
theorem pt_not (ha : PT X a tA) : PT X (.UnaryOp .Not a pos) (tNot tA) := by
 intro pins s σ H Q I h
 exact isTrue_not (ha pins s σ H (fun c H1 => Q (!c) H1) I h)
def tAndV (ta tb : TE) : TE := fun σ H Q => ta σ H fun x H1 => ∃ c, x = .bl c /\ if c = true then tb σ H1 Q else Q (.bl false) H1
def tNotV (ta : TE) : TE := fun σ H Q => ta σ H fun x H1 => ∃ c, x = .bl c /\ Q (.bl (!c)) H1
theorem pe_one {op} {t : TE} (h : PE X a t) : PE X (.BoolOp op [a] pos) t := fun pins s σ H Q I hw => BoolOp_one (h pins s σ H Q I hw)
theorem pe_and (ha : PE X a ta) (hb : PE X (.BoolOp .And (b :: rest) pos) tb) : PE X (.BoolOp .And (a :: b :: rest) pos) (tAndV ta tb) := by
 intro pins s σ H Q I h
 refine BoolOp_and (thn (ha pins s σ H _ I h) fun v s1 ⟨x, H1, I1, r1, q1⟩ => ?_)
 obtain ⟨c, rfl, q1⟩ := q1
 cases r1
 refine wpAny_truthy_bool ?_
 cases c with
 | true => exact hb pins s1 σ H1 Q I1 q1
 | false => exact ⟨.bl false, H1, I1, rfl, q1⟩
theorem pe_not (ha : PE X a ta) : PE X (.UnaryOp .Not a pos) (tNotV ta) := by
 intro pins s σ H Q I h
 refine UnaryOp_ (thn (ha pins s σ H _ I h) fun v s1 ⟨x, H1, I1, r1, q1⟩ => ?_)
 obtain ⟨c, rfl, q1⟩ := q1
 cases r1
 exact not_of (wpAny_truthy_bool ⟨.bl (!c), H1, I1, rfl, q1⟩)
def tIf (t : TT) (ta tb : TE) : TE := fun σ H Q => t σ H fun c H1 => if c = true then ta σ H1 Q else tb σ H1 Q
theorem pe_ifExp {c : Expr} (hc : PT X c tA) (ha : PE X a ta) (hb : PE X b tb) : PE X (.IfExp c a b pos) (tIf tA ta tb) := by
 intro pins s σ H Q I h
 refine wpAny_IfExp (thn (hc pins s σ H _ I h) fun d s1 ⟨H1, I1, q1⟩ => ?_)
 cases d with
 | true => exact ha pins s1 σ H1 Q I1 q1
 | false => exact hb pins s1 σ H1 Q I1 q1
end
end L2
namespace L2
open PySem PySem.Spec PyProof.Rows
def SqL (K : PySem.W.Frag) (H : Hp) (a : Addr) (xs : List V) : Prop :=
 Rd H a (.lst xs) \/
  ∃ (o : Obj) (its : Array Value) (n : Nat), K.lookup a = some o /\ o.cls = .type "list" /\ (o.dict = none /\ o.slots = #[]) /\ o.data = .seq its n /\ its.size <= sizeLine /\ Vals xs its.toList
def SqT (K : PySem.W.Frag) (H : Hp) (a : Addr) (xs : List V) : Prop :=
 Rd H a (.tup xs) \/
  ∃ (o : Obj) (its : Array Value) (n : Nat), K.lookup a = some o /\ o.cls = .type "tuple" /\ o.dict = none /\ o.data = .seq its n /\ its.size <= sizeLine /\ Vals xs its.toList
noncomputable def absV : Value -> Option V
 | .none => some .non
 | .bool b => some (.bl b)
 | .int i _ => some (.int i)
 | .str x _ => some (.str x)
 | .bytes b _ => some (.byt b)
 | .float b _ => some (.flt b)
 | .ref a => some (.ref a)
 | .type n => some (.ty n)
 | _ => none
theorem RelV.abs {x : V} {u : Value} (r : RelV x u) : absV u = some x := by
 cases x with
 | non => cases r; rfl
 | bl _ => cases r; rfl
 | int _ => obtain ⟨t, rfl⟩ := r; rfl
 | str _ => obtain ⟨t, rfl⟩ := r; rfl
 | byt _ => obtain ⟨t, rfl⟩ := r; rfl
 | flt _ => obtain ⟨t, rfl⟩ := r; rfl
 | ref _ => cases r; rfl
 | ty _ => cases r; rfl
theorem RelV.inj {x y : V} {u : Value} (r : RelV x u) (q : RelV y u) : x = y := Option.some.inj (r.abs.symm.trans q.abs)
theorem Vals.inj : ∀ {xs ys : List V} {us : List Value}, Vals xs us -> Vals ys us -> xs = ys
 | _, _, _, .nil, .nil => rfl
 | _, _, _, .cons r t, .cons r' t' => by rw [r.inj r', Vals.inj t t']
section
variable {X : Cx} {pins : List (Addr × Obj)} {σ : St} {H : Hp} {s : Shared} {a : Addr} {xs ys : List V}
theorem SqL.of {K : PySem.W.Frag} (h : H a = some (.lst xs)) : SqL K H a xs := .inl (.inl h)
theorem Inv.list (I : Inv X pins σ H s) (h : SqL X.K H a xs) : ∃ its : List Value, Vals xs its /\ PlainL s.heap a its.toArray /\ xs.length <= sizeLine := by
 rcases h with h | ⟨o, its, n, hk, hc, hd, hs, hz, r⟩
 ·obtain ⟨z, its, n, r, e⟩ := h.ok I.hok
  exact ⟨its, r, ⟨_, n, e, rfl, rfl, rfl⟩, z⟩
 ·refine ⟨its.toList, r, ⟨o, n, I.kIn a o hk, hc, hd.1, by simpa using hs⟩, ?_⟩
  have e := r.length
  simp only [Array.length_toList] at e
  omega
theorem Inv.tuple (I : Inv X pins σ H s) (h : SqT X.K H a xs) : ∃ its : List Value, Vals xs its /\ IsTup s.heap a its.toArray /\ xs.length <= sizeLine := by
 rcases h with h | ⟨o, its, n, hk, hc, hn, hs, hz, r⟩
 ·obtain ⟨z, its, r, p⟩ := h.ok I.hok
  exact ⟨its, r, p.1, z⟩
 ·refine ⟨its.toList, r, ⟨o, I.kIn a o hk, hc, n, by simpa using hs⟩, ?_⟩
  have e := r.length
  simp only [Array.length_toList] at e
  omega
theorem Inv.list_inj (I : Inv X pins σ H s) (h : SqL X.K H a xs) (h' : SqL X.K H a ys) : xs = ys := by
 obtain ⟨its, r, ⟨o, n, e, _, _, d⟩, _⟩ := I.list h
 obtain ⟨its', r', ⟨o', n', e', _, _, d'⟩, _⟩ := I.list h'
 rw [e] at e'; cases e'
 rw [d] at d'
 injection d' with d1 _
 have : its = its' := by simpa using congrArg Array.toList d1
 subst this
 exact r.inj r'
theorem Inv.tuple_inj (I : Inv X pins σ H s) (h : SqT X.K H a xs) (h' : SqT X.K H a ys) : xs = ys := by
 obtain ⟨its, r, ⟨o, e, _, n, d⟩, _⟩ := I.tuple h
 obtain ⟨its', r', ⟨o', e', _, n', d'⟩, _⟩ := I.tuple h'
 rw [e] at e'; cases e'
 rw [d] at d'
 injection d' with d1 _
 have : its = its' := by simpa using congrArg Array.toList d1
 subst this
 exact r.inj r'
end
abbrev Cx.wish (X : Cx) (E : Value -> Shared -> Prop) : Cx := { X with xe := E }
noncomputable abbrev Cx.nox (X : Cx) : Cx := X.wish fun _ _ => False
theorem Cx.Ok.wish {X : Cx} (ok : X.Ok) (E : Value -> Shared -> Prop) : (X.wish E).Ok :=
 ⟨ok.mod, ok.kind, ok.glob, ok.blt, ok.above, ok.inj, ok.has, ok.cab, ok.hd, ok.frames, ok.stk, ok.exf, ok.bs, ok.bsz, ok.noex, ok.exfs, ok.funs, ok.frf⟩
theorem Cx.Ok.unwish {X : Cx} {E : Value -> Shared -> Prop} (ok : (X.wish E).Ok) : X.Ok :=
 ⟨ok.mod, ok.kind, ok.glob, ok.blt, ok.above, ok.inj, ok.has, ok.cab, ok.hd, ok.frames, ok.stk, ok.exf, ok.bs, ok.bsz, ok.noex, ok.exfs, ok.funs, ok.frf⟩
section
variable {X : Cx} {pins : List (Addr × Obj)} {σ : St} {H : Hp} {s : Shared} {E : Value -> Shared -> Prop}
theorem Inv.wish (I : Inv X pins σ H s) (E : Value -> Shared -> Prop) : Inv (X.wish E) pins σ H s := ⟨I.ok.wish E, I.os, I.bare, I.base, I.loc, I.cell, I.free, I.freeC, I.pin, I.hok, I.len⟩
theorem Inv.unwish (I : Inv (X.wish E) pins σ H s) : Inv X pins σ H s := ⟨I.ok.unwish, I.os, I.bare, I.base, I.loc, I.cell, I.free, I.freeC, I.pin, I.hok, I.len⟩
theorem SP.unwish {D : Ends} {f : Flow} {s' : Shared} (h : SP (X.wish E) pins D f s') : SP X pins D f s' := by
 cases f with
 | next => obtain ⟨σ', H', I, q⟩ := h; exact ⟨σ', H', I.unwish, q⟩
 | brk => obtain ⟨σ', H', I, q⟩ := h; exact ⟨σ', H', I.unwish, q⟩
 | cont => obtain ⟨σ', H', I, q⟩ := h; exact ⟨σ', H', I.unwish, q⟩
 | ret u => obtain ⟨v, σ', H', I, r, q⟩ := h; exact ⟨v, σ', H', I.unwish, r, q⟩
theorem PSs.nox {st : List Stmt} {t : TS} (h : PSs X.nox st t) : PSs X st t := fun pins s σ H D I hw =>
 wpAny_mono (h pins s σ H D (I.wish _) hw) (fun _ _ q => q.unwish) fun _ _ z => False.elim z
end
section
variable {X : Cx} {st : Stmt} {rest : List Stmt} {t u : TS} {e : Expr} {te : TE} {pos : Pos}
def tNext : TS := fun D σ H => D.nx σ H
def tSeq (t u : TS) : TS := fun D σ H => t { D with nx := u D } σ H
theorem pss_nil : PSs X [] tNext := fun _ _ σ H _ I h => wpAny_execs_nil ⟨σ, H, I, h⟩
theorem pss_cons (h1 : PS X st t) (h2 : PSs X rest u) : PSs X (st :: rest) (tSeq t u) := by
 intro pins s σ H D I h
 refine wpAny_execs_cons (thn (h1 pins s σ H { D with nx := u D } I h) fun f s1 q => ?_)
 cases f with
 | next =>
  obtain ⟨σ', H', I', q⟩ := q
  exact h2 pins s1 σ' H' D I' q
 | ret v => exact q
 | brk => exact q
 | cont => exact q
theorem pss_one (h1 : PS X st t) : PSs X [st] t := by
 intro pins s σ H D I h
 refine wpAny_execs_cons (thn (h1 pins s σ H D I h) fun f s1 q => ?_)
 cases f with
 | next => exact wpAny_execs_nil q
 | ret v => exact q
 | brk => exact q
 | cont => exact q
def tBreak : TS := fun D σ H => D.bk σ H
theorem ps_break : PS X (.Break pos) tBreak := fun _ _ σ H _ I h => wpAny_Break ⟨σ, H, I, h⟩
theorem Inv.quiet {pins : List (Addr × Obj)} {σ : St} {H : Hp} {s : Shared} (I : Inv X pins σ H s) : interactive X.env = false := by simp [interactive, I.ok.kind]
def tDrop (te : TE) : TS := fun D σ H => te σ H fun _ H1 => D.nx σ H1
theorem ps_expr (he : PE X e te) (hs : swapsWith e none pos.line X.env = pure false := by rfl) : PS X (.Expr e pos) (tDrop te) := by
 intro pins s σ H D I h
 exact wpAny_Expr_any (thn (he pins s σ H _ I h) fun v s1 ⟨x, H1, I1, r1, q1⟩ => ⟨σ, H1, I1, q1⟩) I.quiet hs
def tRet (te : TE) : TS := fun D σ H => te σ H D.rt
theorem ps_ret (he : PE X e te) : PS X (.Return (some e) pos) (tRet te) := by
 intro pins s σ H D I h
 exact wpAny_Return_some (thn (he pins s σ H _ I h) fun v s1 ⟨x, H1, I1, r1, q1⟩ => ⟨x, σ, H1, I1, r1, q1⟩)
def tIfS (c : TT) (t u : TS) : TS := fun D σ H => c σ H fun b H1 => if b = true then t D σ H1 else u D σ H1
theorem ps_if {c : Expr} {a b : List Stmt} {tc : TT} (hc : PT X c tc) (ha : PSs X a t) (hb : PSs X b u) : PS X (.If c a b pos) (tIfS tc t u) := by
 intro pins s σ H D I h
 refine wpAny_If (thn (hc pins s σ H _ I h) fun d s1 ⟨H1, I1, q1⟩ => ?_)
 cases d with
 | true => exact ha pins s1 σ H1 D I1 q1
 | false => exact hb pins s1 σ H1 D I1 q1
end
noncomputable abbrev TG := V -> St -> Hp -> (St -> Hp -> Prop) -> Prop
noncomputable abbrev TGs := List V -> St -> Hp -> (St -> Hp -> Prop) -> Prop
def PG (X : Cx) (target : Expr) (t : TG) : Prop :=
 ∀ (pins : List (Addr × Obj)) (s : Shared) (σ : St) (H : Hp) (v : V) (u : Value) (Q : St -> Hp -> Prop), Inv X pins σ H s -> RelV v u -> t v σ H Q ->
  wpAny (model X.prog X.w) X.A (assign target X.env u) (fun _ s' => ∃ σ' H', Inv X pins σ' H' s' /\ Q σ' H') X.xe s
def PGs (X : Cx) (ts : List Expr) (t : TGs) : Prop :=
 ∀ (pins : List (Addr × Obj)) (s : Shared) (σ : St) (H : Hp) (vs : List V) (us : List Value) (Q : St -> Hp -> Prop), Inv X pins σ H s -> Vals vs us -> t vs σ H Q ->
  wpAny (model X.prog X.w) X.A (assignInOrder ((assignEach ts X.env).map (·.2)) us) (fun _ s' => ∃ σ' H', Inv X pins σ' H' s' /\ Q σ' H') X.xe s
noncomputable abbrev TSet := V -> V -> V -> Hp -> (Hp -> Prop) -> Prop
def PSet (X : Cx) (t : TSet) : Prop :=
 ∀ (pins : List (Addr × Obj)) (s : Shared) (σ : St) (H : Hp) (o i v : V) (ov iv u : Value) (Q : Hp -> Prop), Inv X pins σ H s -> RelV o ov -> RelV i iv -> RelV v u -> t o i v H Q ->
  wpAny (model X.prog X.w) X.A (setItem ov iv u) (fun _ s' => ∃ H', Inv X pins σ H' s' /\ Q H') X.xe s
section
variable {X : Cx} {pos : Pos}
def gName (i : Nat) : TG := fun v σ H Q => Q (σ.set i (some v)) H
theorem pg_name {i : Nat} {x : Str} (hN : X.N.Nodup) (hi : X.N[i]? = some x) (hx : Loc X.env.scope x) (hf : X.fn x = true \/ X.env.scope.names.lookup x = some .local := by first | exact .inl rfl | exact .inr rfl | assumption) : PG X (.Name x pos) (gName i) := by
 intro pins s σ H v u Q I r h
 exact wpAny_assign_Name (store_ok I hN hi hx r (fun s' I' => ⟨_, H, I', h⟩) hf)
def gNil : TGs := fun vs σ H Q => vs = [] /\ Q σ H
def gCons (t : TG) (u : TGs) : TGs := fun vs σ H Q => ∃ v r, vs = v :: r /\ t v σ H fun σ' H' => u r σ' H' Q
theorem pgs_nil : PGs X [] gNil := by
 intro pins s σ H vs us Q I r h
 obtain ⟨e, h⟩ := h
 subst e
 cases r
 exact assignInOrder_nil ⟨σ, H, I, h⟩
theorem pgs_cons {e : Expr} {es : List Expr} {t : TG} {u : TGs} (h1 : PG X e t) (h2 : PGs X es u)
  (hs : (assignEach (e :: es) X.env).map (·.2) = assign e X.env :: (assignEach es X.env).map (·.2) := by rfl) : PGs X (e :: es) (gCons t u) := by
 intro pins s σ H vs us Q I r h
 obtain ⟨v, vr, e1, h⟩ := h
 subst e1
 cases r with
 | cons r rr =>
  rw [hs]
  refine assignInOrder_cons (thn (h1 pins s σ H _ _ _ I r h) fun _ s1 ⟨σ1, H1, I1, q1⟩ => ?_)
  exact h2 pins s1 σ1 H1 _ _ Q I1 rr q1
def gTup (K : PySem.W.Frag) (n : Nat) (t : TGs) : TG := fun v σ H Q => ∃ a xs, v = .ref a /\ SqT K H a xs /\ xs.length = n /\ t xs σ H Q
theorem pg_tup {es : List Expr} {k : Nat} {t : TGs} {n : Nat} (hc : X.calm = true) (h : PGs X es t)
  (hn : (assignEach es X.env).length = n := by rfl) (hst : (assignEach es X.env).findIdx? (·.1) = none := by rfl) : PG X (.Tuple es k pos) (gTup X.K n t) := by
 intro pins s σ H v u Q I r hw
 obtain ⟨a, xs, e1, hq, hl, hw⟩ := hw
 subst e1
 cases r
 obtain ⟨its, rv, ht, hz⟩ := I.tuple hq
 refine assign_Tuple_tuple (I.ok.hd hc) ht (by simp [hn, ← hl, rv.length]) hst fun h' hx => ?_
 have I1 : Inv X pins σ H { s with heap := h' } := I.kept (t' := s.toks) fun b o e => hx b o (Nat.ne_of_lt (Heap.lt_size e)) e
 exact h pins _ σ H xs _ Q I1 (by simpa using rv) hw
def gSub (to ti : TE) (t : TSet) : TG := fun v σ H Q => to σ H fun o H1 => ti σ H1 fun i H2 => t o i v H2 fun H3 => Q σ H3
theorem pg_sub {o i : Expr} {to ti : TE} {t : TSet} (ho : PE X o to) (hi : PE X i ti) (hs : PSet X t)
  (ha : ∀ v, assign (.Subscript o i pos) X.env v = (do
   let ov ← holding [v] (eval o X.env)
   let iv ← holding [v, ov] (eval i X.env)
   standAt pos
   holding [v, ov, iv] (setItem ov iv v)
   release [v, ov, iv] []) := by intro _; rfl) : PG X (.Subscript o i pos) (gSub to ti t) := by
 intro pins s σ H v u Q I r h
 rw [ha]
 refine wpAny_bind (wpAny_holding (thn (ho pins s σ H _ I h) fun ov s1 ⟨x, H1, I1, r1, q1⟩ => ?_))
 refine wpAny_bind (wpAny_holding (thn (hi pins s1 σ H1 _ I1 q1) fun iv s2 ⟨y, H2, I2, r2, q2⟩ => ?_))
 refine wpAny_bind (wpAny_standAt (wpAny_bind (wpAny_holding (thn (hs pins s2 σ H2 x y v ov iv u _ I2 r1 r2 r q2) fun _ s3 ⟨H3, I3, q3⟩ => ?_))))
 exact wpAny_release ⟨σ, H3, I3, q3⟩
def tAsg (te : TE) (g : TG) : TS := fun D σ H => te σ H fun x H1 => g x σ H1 D.nx
theorem ps_asg {tg e : Expr} {te : TE} {g : TG} (he : PE X e te) (hg : PG X tg g) (hs : swapsWithSole [tg] e pos.line X.env = pure false := by rfl) (hw : swappedStores [tg] e X.env = pure none := by rfl)
  (h1 : (assignEach [tg] X.env).map (·.2) = [assign tg X.env] := by rfl) : PS X (.Assign [tg] e pos) (tAsg te g) := by
 intro pins s σ H D I h
 refine wpAny_Assign_stores (thn (he pins s σ H _ I h) fun v s1 ⟨x, H1, I1, r1, q1⟩ => ?_) hs hw
 rw [h1]
 exact thn (hg pins s1 σ H1 x v _ I1 r1 q1) fun _ s2 q => q
theorem ps_set {i : Nat} {x : Str} {e : Expr} {te : TE} {pos' : Pos} (hN : X.N.Nodup) (hi : X.N[i]? = some x) (hx : Loc X.env.scope x) (he : PE X e te) (hs : swapsWith e (some (.Name x pos')) pos.line X.env = pure false := by rfl) (hf : X.fn x = true \/ X.env.scope.names.lookup x = some .local := by first | exact .inl rfl | exact .inr rfl | assumption) :
  PS X (.Assign [.Name x pos'] e pos) (tAsg te (gName i)) := by
 intro pins s σ H D I h
 refine wpAny_Assign_Name (thn (he pins s σ H _ I h) fun v s1 ⟨y, H1, I1, r1, q1⟩ => ?_) hs
 exact store_ok I1 hN hi hx r1 (fun s2 I2 => ⟨_, H1, I2, q1⟩) hf
end
section
variable {X : Cx} {pos : Pos}
end
structure It where
 go : Nat -> Hp -> Prop
 yld : Nat -> Hp -> V -> Hp -> Prop
 stop : Nat -> Hp -> Prop
def FpOk (X : Cx) (pins : List (Addr × Obj)) (H : Hp) (b : Addr) : Prop :=
 H b = none /\ b ≠ X.env.locals /\ b ∉ X.fs /\ (b ∈ X.ex \/ X.s₀.heap.objs.size <= b) /\ (∀ x c, X.env.cells.lookup x = some c -> c ≠ b) /\ ∀ p ∈ X.pn ++ pins, p.1 ≠ b
theorem Inv.fpOk {X : Cx} {pins : List (Addr × Obj)} {σ : St} {H H' : Hp} {s : Shared} {b : Addr} (I : Inv X pins σ H s) (hb : s.heap.objs.size <= b) (hn : H' b = none) : FpOk X pins H' b := by
 refine ⟨hn, Nat.ne_of_gt (Nat.lt_of_lt_of_le I.lt hb), I.nofs hb, .inr (Nat.le_trans I.sz hb), fun x c e z => ?_, fun p hp z => ?_⟩
 ·obtain ⟨v, q⟩ := I.cell x c e
  exact absurd (Nat.lt_of_lt_of_le q.lt (by rw [z]; exact hb)) (Nat.lt_irrefl _)
 ·exact absurd (Nat.lt_of_lt_of_le (Heap.lt_size (I.pin p hp).1) (by rw [z]; exact hb)) (Nat.lt_irrefl _)
structure Turn (P : Program) (w : World) (K : PySem.W.Frag) (tg : Expr) (J : It) (fp : List Addr) (it : Addr) (tn : Nat -> Heap -> Prop) : Prop where
 mem : it ∈ fp
 obj : ∀ i h, tn i h -> ∀ b ∈ fp, ∃ o, h.get? b = some o /\ ∀ v, o.data ≠ .cell v
 keep : ∀ i h h', tn i h -> (∀ b ∈ fp, ∀ o, h.get? b = some o -> h'.get? b = some o) -> tn i h'
 item : ∀ (X : Cx), X.prog = P -> X.w = w -> X.K = K -> X.calm = true -> ∀ (i : Nat) (pins : List (Addr × Obj)) (s : Shared) (σ : St) (H : Hp) (E : Value -> Shared -> Prop), Inv X pins σ H s -> (∀ b ∈ fp, FpOk X pins H b) -> tn i s.heap -> J.go i H ->
  wpAny (model P w) X.A (pyNext (.ref it)) (fun r s1 => ∃ u, r = some u /\
   wpAny (model P w) X.A (letOwnedTupleGo tg (.ref it) u) (fun _ s2 => ∃ x H', Inv X pins σ H' s2 /\ RelV x u /\ J.yld i H x H' /\ tn (i + 1) s2.heap /\ ∀ b ∈ fp, H' b = none) E s1) E s
 done : ∀ (X : Cx), X.prog = P -> X.w = w -> X.K = K -> X.calm = true -> ∀ (i : Nat) (pins : List (Addr × Obj)) (s : Shared) (σ : St) (H : Hp) (E : Value -> Shared -> Prop), Inv X pins σ H s -> (∀ b ∈ fp, FpOk X pins H b) -> tn i s.heap -> J.stop i H ->
  wpAny (model P w) X.A (pyNext (.ref it)) (fun r s1 => r = none /\ Inv X pins σ H s1) E s
 self : ∀ (A : Around) (i : Nat) (s : Shared) (Q : Value -> Shared -> Prop) (E : Value -> Shared -> Prop), tn i s.heap -> Q (.ref it) s -> wpAny (model P w) A (pyIter (.ref it)) Q E s
noncomputable abbrev TI := St -> Hp -> (It -> Hp -> Prop) -> Prop
def PIE (X : Cx) (pins : List (Addr × Obj)) (σ : St) (tg : Expr) (R : It -> Hp -> Prop) (itv : Value) (s2 : Shared) : Prop :=
 ∃ (it : Addr) (fp : List Addr) (tn : Nat -> Heap -> Prop) (J : It) (H' : Hp), itv = .ref it /\ Inv X pins σ H' s2 /\ Turn X.prog X.w X.K tg J fp it tn /\ tn 0 s2.heap /\ (∀ b ∈ fp, FpOk X pins H' b) /\ R J H'
def PI (X : Cx) (tg iter : Expr) (wi : TI) : Prop :=
 ∀ (pins : List (Addr × Obj)) (s : Shared) (σ : St) (H : Hp) (R : It -> Hp -> Prop), Inv X pins σ H s -> wi σ H R ->
  wpAny (model X.prog X.w) X.A (eval iter X.env) (fun v s1 => wpAny (model X.prog X.w) X.A (pyIter v) (PIE X pins σ tg R) X.xe s1) X.xe s
theorem go_of {M : Model} {A : Around} {E : Value -> Shared -> Prop} {s : Shared} {tg : Expr} {it : Addr} {u : Value} {o : Obj} {n : String} {vs : Array Value} {Q : Unit -> Shared -> Prop} (ho : s.heap.get? it = some o) (hc : o.cls = .type n) (hd : o.data = .fields vs)
    (hn : ["enumerate", "zip", "dict_itemiterator", "dict_reverseitemiterator", "odict_iterator", "itertools.zip_longest", "itertools.pairwise"].contains n = false) (hQ : Q () s) : wpAny M A (letOwnedTupleGo tg (.ref it) u) Q E s := by
  unfold letOwnedTupleGo
  cases tg <;> first
    | exact wpAny_pure hQ
    | (cases u <;> first
        | exact wpAny_pure hQ
        | (refine wpAny_bind (wpAny_load ho ?_)
           rw [hc, hd]
           show wpAny M A (if (["enumerate", "zip", "dict_itemiterator", "dict_reverseitemiterator", "odict_iterator", "itertools.zip_longest", "itertools.pairwise"].contains n && vs[0]? == some (rawInt _)) = true then _ else _) Q E s
           rw [if_neg (by intro h; rw [hn, Bool.false_and] at h; cases h)]
           exact wpAny_pure hQ))
noncomputable def Itl (K : PySem.W.Frag) (a : Addr) : It :=
 ⟨fun i H => ∃ xs x, SqL K H a xs /\ xs[i]? = some x, fun i H x H' => H' = H /\ ∀ xs, SqL K H a xs -> xs[i]? = some x, fun i H => ∃ xs, SqL K H a xs /\ xs.length <= i⟩
noncomputable def Itt (K : PySem.W.Frag) (a : Addr) : It :=
 ⟨fun i H => ∃ xs x, SqT K H a xs /\ xs[i]? = some x, fun i H x H' => H' = H /\ ∀ xs, SqT K H a xs -> xs[i]? = some x, fun i H => ∃ xs, SqT K H a xs /\ xs.length <= i⟩
noncomputable def Itr (lo : Int) (n : Nat) : It := ⟨fun i _ => i < n, fun i H x H' => H' = H /\ x = .int (lo + i), fun i _ => n <= i⟩
theorem turn_list {P : Program} {w : World} {K : PySem.W.Frag} {tg : Expr} (a it : Addr) : Turn P w K tg (Itl K a) [it] it (fun i h => h.IsListIter it a i) where
 mem := by simp
 obj := fun i h st b hb => by
  have e : b = it := by simpa using hb
  subst e
  obtain ⟨o, e, c, d⟩ := st
  exact ⟨o, e, fun v z => by rw [d] at z; cases z⟩
 keep := fun i h h' st k => st.at fun o e => k it (by simp) o e
 item := by
  intro X hP hw hK hc i pins s σ H E I hf st hg
  subst hP hw hK
  obtain ⟨xs, x, hq, hx⟩ := hg
  obtain ⟨its, rv, p, hz⟩ := I.list hq
  obtain ⟨u, hu, ru⟩ := rv.get hx
  obtain ⟨f0, f1, f2, f3, f4, f5⟩ := hf it (by simp)
  refine wpAny_pyNext_list_item st p.isList (x := u) (by simpa using hu) fun h' st' sb => ?_
  have I1 : Inv X pins σ H { s with heap := h' } := I.turned (t' := s.toks) (fun b o hb e => (sb.2 b hb).trans e) f0 f1 f3 f4 f5
  obtain ⟨o, e, c, d⟩ := id st'
  exact ⟨u, rfl, go_of (s := { s with heap := h' }) e c d (by decide) ⟨x, H, I1, ru, ⟨rfl, fun ys hy => by rw [I.list_inj hy hq]; exact hx⟩, st', fun b hb => (hf b hb).1⟩⟩
 done := by
  intro X hP hw hK hc i pins s σ H E I hf st hg
  subst hP hw hK
  obtain ⟨xs, hq, hx⟩ := hg
  obtain ⟨its, rv, p, hz⟩ := I.list hq
  obtain ⟨f0, f1, f2, f3, f4, f5⟩ := hf it (by simp)
  have hl := rv.length
  exact wpAny_pyNext_list_end (I.ok.hd hc) st p.isList (by simp; omega) fun h' eb => ⟨rfl, I.turned (t' := s.toks) (fun b o hb e => eb b o hb e) f0 f1 f3 f4 f5⟩
 self := fun _ _ _ _ _ st h => wpAny_pyIter_listiter st h
theorem turn_tuple {P : Program} {w : World} {K : PySem.W.Frag} {tg : Expr} (a it : Addr) : Turn P w K tg (Itt K a) [it] it (fun i h => h.IsTupleIter it a i) where
 mem := by simp
 obj := fun i h st b hb => by
  have e : b = it := by simpa using hb
  subst e
  obtain ⟨o, e, c, d⟩ := st
  exact ⟨o, e, fun v z => by rw [d] at z; cases z⟩
 keep := fun i h h' st k => st.at fun o e => k it (by simp) o e
 item := by
  intro X hP hw hK hc i pins s σ H E I hf st hg
  subst hP hw hK
  obtain ⟨xs, x, hq, hx⟩ := hg
  obtain ⟨its, rv, p, hz⟩ := I.tuple hq
  obtain ⟨u, hu, ru⟩ := rv.get hx
  obtain ⟨f0, f1, f2, f3, f4, f5⟩ := hf it (by simp)
  refine wpAny_pyNext_tuple_item st (show s.heap.IsTuple a its.toArray from p) (x := u) (by simpa using hu) fun h' st' sb => ?_
  have I1 : Inv X pins σ H { s with heap := h' } := I.turned (t' := s.toks) (fun b o hb e => (sb.2 b hb).trans e) f0 f1 f3 f4 f5
  obtain ⟨o, e, c, d⟩ := id st'
  exact ⟨u, rfl, go_of (s := { s with heap := h' }) e c d (by decide) ⟨x, H, I1, ru, ⟨rfl, fun ys hy => by rw [I.tuple_inj hy hq]; exact hx⟩, st', fun b hb => (hf b hb).1⟩⟩
 done := by
  intro X hP hw hK hc i pins s σ H E I hf st hg
  subst hP hw hK
  obtain ⟨xs, hq, hx⟩ := hg
  obtain ⟨its, rv, p, hz⟩ := I.tuple hq
  obtain ⟨f0, f1, f2, f3, f4, f5⟩ := hf it (by simp)
  have hl := rv.length
  exact wpAny_pyNext_tuple_end (I.ok.hd hc) st (show s.heap.IsTuple a its.toArray from p) (by simp; omega) fun h' eb => ⟨rfl, I.turned (t' := s.toks) (fun b o hb e => eb b o hb e) f0 f1 f3 f4 f5⟩
 self := fun _ _ _ _ _ st h => wpAny_pyIter_tupleiter st h
theorem turn_range {P : Program} {w : World} {K : PySem.W.Frag} {tg : Expr} (it : Addr) (lo : Int) (n : Nat) : Turn P w K tg (Itr lo n) [it] it (fun i h => IsRangeIter h it (lo + (i : Nat) * 1) ((n : Int) - (i : Nat)) 1) where
 mem := by simp
 obj := fun i h st b hb => by
  have e : b = it := by simpa using hb
  subst e
  exact ⟨_, st, fun v z => by
   have z' : Data.fields _ = Data.cell v := z
   cases z'⟩
 keep := fun i h h' st k => k it (by simp) _ st
 item := by
  intro X hP hw hK hc i pins s σ H E I hf st hg
  subst hP hw hK
  obtain ⟨f0, f1, f2, f3, f4, f5⟩ := hf it (by simp)
  have W := Walks.range (prog := X.prog) (w := X.w) (I.ok.hd hc) it lo 1 n
  refine W.item i s _ _ hg st fun v h' tk hv st' kk => ?_
  obtain ⟨t, rfl⟩ := hv
  have I1 : Inv X pins σ H { s with heap := h', toks := tk } := I.turned (fun b o hb e => kk b o (by simpa using hb) e) f0 f1 f3 f4 f5
  refine ⟨_, rfl, go_of (s := { s with heap := h', toks := tk }) (n := "range_iterator") st' rfl rfl (by decide) ⟨.int (lo + i), H, I1, ⟨t, ?_⟩, ⟨rfl, rfl⟩, st', fun b hb => (hf b hb).1⟩⟩
  rw [Int.mul_one]
 done := by
  intro X hP hw hK hc i pins s σ H E I hf st hg
  subst hP hw hK
  obtain ⟨f0, f1, f2, f3, f4, f5⟩ := hf it (by simp)
  exact wpAny_pyNext_range_end (I.ok.hd hc) st (by have : n <= i := hg; omega) fun h' eb => ⟨rfl, I.turned (t' := s.toks) (fun b o hb e => eb b o hb e) f0 f1 f3 f4 f5⟩
 self := fun _ _ _ _ _ st h => wpAny_pyIter_rangeiter st h
end L2
namespace L2
open PySem PySem.Spec PyProof.Rows
section
variable {X : Cx} {tg : Expr}
theorem range_it {pins : List (Addr × Obj)} {σ : St} {H : Hp} {s : Shared} {R : It -> Hp -> Prop} {E : Value -> Shared -> Prop} {lo hi : Int} {t u v : Tok} {tk : Nat} (I : Inv X pins σ H s) (h1 : -(2 ^ 62) <= lo) (h2 : lo < 2 ^ 62) (h3 : -(2 ^ 62) <= hi) (h4 : hi < 2 ^ 62)
  (q : R (Itr lo (hi - lo).toNat) H) : wpAny (model X.prog X.w) X.A (pyIter (.ref s.heap.objs.size)) (PIE X pins σ tg R) E { s with heap := s.heap.push { cls := .type "range", data := .fields #[.int lo t, .int hi u, .int 1 v] }, toks := tk } := by
 refine wpAny_pyIter_range (IsRange.new ..) (small_one h1 h2 h3 h4) ?_
 have I1 : Inv X pins σ H { s with heap := s.heap.push { cls := .type "range", data := .fields #[.int lo t, .int hi u, .int 1 v] }, toks := tk } := I.kept fun b o e => Heap.get?_push_of_some _ e
 refine ⟨(s.heap.push { cls := .type "range", data := .fields #[.int lo t, .int hi u, .int 1 v] }).objs.size, [(s.heap.push { cls := .type "range", data := .fields #[.int lo t, .int hi u, .int 1 v] }).objs.size], _, _, H, rfl,
  I1.kept (t' := tk) fun b o e => Heap.get?_push_of_some _ e, turn_range _ lo (hi - lo).toNat, ?_, fun b hb => ?_, q⟩
 ·have e1 : lo + ((0 : Nat) : Int) * 1 = lo := by simp
  have e2 : (((hi - lo).toNat : Nat) : Int) - ((0 : Nat) : Int) = Builtin.Range.rangeSize lo hi 1 := by rw [rangeSize_one]; split <;> omega
  show IsRangeIter _ _ (lo + ((0 : Nat) : Int) * 1) ((((hi - lo).toNat : Nat) : Int) - ((0 : Nat) : Int)) 1
  rw [e1, e2]
  exact Heap.get?_push_size _ rfl
 ·have e : b = (s.heap.push { cls := .type "range", data := .fields #[.int lo t, .int hi u, .int 1 v] }).objs.size := by simpa using hb
  subst e
  exact I1.fpOk (Nat.le_refl _) (I1.hok.fresh (Nat.le_refl _))
def iRng1 (ta : TA) : TI := fun σ H R => ta σ H fun vs H1 => ∃ j : Int, vs = [.int j] /\ -(2 ^ 62) <= j /\ j < 2 ^ 62 /\ R (Itr 0 j.toNat) H1
theorem pi_range1 {a : Expr} {ta : TA} {p pos : Pos} (hg : Gl X "range") (hm : X.mg "range" = none) (ha : PA X [a] ta) (hs : starEach [a] X.env = [(false, eval a X.env)] := by rfl) : PI X tg (.Call (.Name "range" p) [a] [] pos) (iRng1 ta) := by
 intro pins s σ H R I h
 refine Call_ (ld_blt I hg hm boot_range (PyProof.Rows.callWith_type1 (thn (ha pos pins s σ H _ I h) fun us s1 ⟨vs, H1, I1, r1, q1⟩ => ?_) hs rfl))
 obtain ⟨j, e, q1, q2, q⟩ := q1
 subst e
 cases r1 with
 | cons r rr =>
  cases rr
  obtain ⟨t, rfl⟩ := r
  exact call_range_1 (range_it I1 (by omega) (by omega) q1 q2 (by simpa using q))
def tFor (wi : TI) (g : TG) (tb : TS) : TS := fun D σ H => wi σ H fun J H1 => ∃ W : Nat -> Nat -> St -> Hp -> Prop, (∃ m, W 0 m σ H1) /\ ∀ i m σ H, W i m σ H ->
 (J.stop i H /\ D.nx σ H) \/ (J.go i H /\ ∃ N : St -> Hp -> Prop, (∀ σ' H', N σ' H' -> ∃ m', m' < m /\ W (i + 1) m' σ' H') /\ ∀ x H', J.yld i H x H' -> g x σ H' fun σ2 H2 => tb { D with nx := N, ct := N, bk := D.nx } σ2 H2)
noncomputable def pinsAt (fp : List Addr) (h : Heap) : List (Addr × Obj) := fp.filterMap fun b => (h.get? b).map fun o => (b, o)
theorem mem_pinsAt {fp : List Addr} {h : Heap} {b : Addr} {o : Obj} (hb : b ∈ fp) (e : h.get? b = some o) : (b, o) ∈ pinsAt fp h := List.mem_filterMap.mpr ⟨b, hb, by rw [e]; rfl⟩
theorem of_pinsAt {fp : List Addr} {h : Heap} {p : Addr × Obj} (hp : p ∈ pinsAt fp h) : p.1 ∈ fp /\ h.get? p.1 = some p.2 := by
 obtain ⟨b, hb, e⟩ := List.mem_filterMap.mp hp
 cases q : h.get? b with
 | none => rw [q] at e; cases e
 | some o =>
  rw [q] at e
  have e' : (b, o) = p := Option.some.inj e
  subst e'
  exact ⟨hb, q⟩
theorem Inv.pinned {pins : List (Addr × Obj)} {σ : St} {H : Hp} {s : Shared} {fp : List Addr} (I : Inv X pins σ H s) (hf : ∀ b ∈ fp, FpOk X pins H b) (ho : ∀ b ∈ fp, ∃ o, s.heap.get? b = some o /\ ∀ v, o.data ≠ .cell v) : Inv X (pins ++ pinsAt fp s.heap) σ H s :=
 I.pins_of fun p hp => (List.mem_append.mp hp).elim (fun z => I.pin p (List.mem_append_right _ z)) fun z => by
  obtain ⟨hb, e⟩ := of_pinsAt z
  obtain ⟨f0, f1, f2, _⟩ := hf p.1 hb
  obtain ⟨o, e', d⟩ := ho p.1 hb
  rw [e] at e'; cases e'
  exact ⟨e, f0, f1, f2, d⟩
theorem Inv.unpinned {pins pl : List (Addr × Obj)} {σ : St} {H : Hp} {s : Shared} (I : Inv X (pins ++ pl) σ H s) : Inv X pins σ H s := I.pins_of fun p hp => I.pin p (List.mem_append_right _ (List.mem_append_left _ hp))
theorem ps_for {iter : Expr} {body : List Stmt} {wi : TI} {g : TG} {tb : TS} {pos : Pos} (hp : PassesOwn (model X.prog X.w) X.A X.env X.xe) (hc : X.calm = true) (hi : PI X tg iter wi) (hg : PG X tg g) (hb : PSs X body tb)
  (hs : ∀ x, foldedSetIterable iter X.env x = pure x := by intro _; rfl) : PS X (.For tg iter body [] pos) (tFor wi g tb) := by
 intro pins s σ H D I h
 refine wpAny_For (thn (hi pins s σ H _ I h) fun v s1 h1 => thn h1 fun itv s2 h2 => ?_) hs
 obtain ⟨it, fp, tn, J, H2, e, I2, T, st2, f2, W, ⟨m0, w0⟩, turn⟩ := h2
 subst e
 -- what stays true of the iterator's objects through the loop
 have stat : ∀ {H' : Hp}, (∀ b ∈ fp, H' b = none) -> ∀ b ∈ fp, FpOk X pins H' b := fun hn b hb => ⟨hn b hb, (f2 b hb).2⟩
 refine codeAny_forLoop_any (fun n s' => ∃ i σ' H', Inv X pins σ' H' s' /\ tn i s'.heap /\ (∀ b ∈ fp, H' b = none) /\ W i n σ' H') ?_ m0 ⟨0, σ, H2, I2, st2, fun b hb => (f2 b hb).1, w0⟩
 rintro n s3 ⟨i, σ3, H3, I3, st3, fr3, w3⟩
 rcases turn i n σ3 H3 w3 with ⟨stop, qn⟩ | ⟨go, N, hN, step⟩
 ·refine wpAny_passesOwn hp (thn (T.done X rfl rfl rfl hc i pins s3 σ3 H3 X.xe I3 (stat fr3) st3 stop) fun r s4 ⟨hr, I4⟩ => ?_)
  subst hr
  exact wpAny_execs_nil ⟨σ3, H3, I4, qn⟩
 ·refine wpAny_passesOwn hp (thn (T.item X rfl rfl rfl hc i pins s3 σ3 H3 X.xe I3 (stat fr3) st3 go) fun r s4 ⟨u, hr, h4⟩ => ?_)
  subst hr
  refine wpAny_passesOwn hp (thn h4 fun _ s5 ⟨x, H5, I5, r5, y5, st5, fr5⟩ => ?_)
  have I5' := I5.pinned (stat fr5) (T.obj _ _ st5)
  refine wpAny_passesOwn hp (thn (hg _ s5 σ3 H5 x u _ I5' r5 (step x H5 y5)) fun _ s6 ⟨σ6, H6, I6, q6⟩ => ?_)
  refine wpAny_passesOwn hp (thn (hb _ s6 σ6 H6 _ I6 q6) fun f s7 q7 => ?_)
  have again : ∀ {σ7 : St} {H7 : Hp}, Inv X (pins ++ pinsAt fp s5.heap) σ7 H7 s7 -> N σ7 H7 -> ∃ m, m < n /\ ∃ i σ' H', Inv X pins σ' H' s7 /\ tn i s7.heap /\ (∀ b ∈ fp, H' b = none) /\ W i m σ' H' := fun {σ7 H7} I7 n7 => by
   obtain ⟨m', hm, w7⟩ := hN σ7 H7 n7
   refine ⟨m', hm, i + 1, σ7, H7, I7.unpinned, T.keep _ _ _ st5 fun b hb o e => (I7.pin (b, o) (List.mem_append_right _ (List.mem_append_right _ (mem_pinsAt hb e)))).1, fun b hb => ?_, w7⟩
   obtain ⟨o, e, d⟩ := T.obj _ _ st5 b hb
   exact (I7.pin (b, o) (List.mem_append_right _ (List.mem_append_right _ (mem_pinsAt hb e)))).2.1
  cases f with
  | next => obtain ⟨σ7, H7, I7, n7⟩ := q7; exact again I7 n7
  | cont => obtain ⟨σ7, H7, I7, n7⟩ := q7; exact again I7 n7
  | brk => obtain ⟨σ7, H7, I7, q7⟩ := q7; exact ⟨σ7, H7, I7.unpinned, q7⟩
  | ret v => obtain ⟨x7, σ7, H7, I7, r7, q7⟩ := q7; exact ⟨x7, σ7, H7, I7.unpinned, r7, q7⟩
end
end L2
namespace L2
open PySem PySem.Spec PyProof.Rows
noncomputable abbrev R2 := V -> V -> Hp -> VK -> Prop
def OpR (X : Cx) (f : Value -> Value -> Sem Value) (r : R2) : Prop :=
 ∀ (pins : List (Addr × Obj)) (s : Shared) (σ : St) (H : Hp) (x y : V) (v u : Value) (Q : VK), Inv X pins σ H s -> RelV x v -> RelV y u -> r x y H Q ->
  wpAny (model X.prog X.w) X.A (f v u) (EP X pins σ Q) X.xe s
def UnR (X : Cx) (f : Value -> Sem Value) (r : V -> Hp -> VK -> Prop) : Prop :=
 ∀ (pins : List (Addr × Obj)) (s : Shared) (σ : St) (H : Hp) (x : V) (v : Value) (Q : VK), Inv X pins σ H s -> RelV x v -> r x H Q ->
  wpAny (model X.prog X.w) X.A (f v) (EP X pins σ Q) X.xe s
def CallR (X : Cx) (f : Value) (r : List V -> Hp -> VK -> Prop) : Prop :=
 ∀ (pins : List (Addr × Obj)) (s : Shared) (σ : St) (H : Hp) (xs : List V) (us : List Value) (Q : VK), Inv X pins σ H s -> Vals xs us -> r xs H Q ->
  wpAny (model X.prog X.w) X.A (call f us) (EP X pins σ Q) X.xe s
def TruR (X : Cx) (r : V -> Hp -> (Bool -> Hp -> Prop) -> Prop) : Prop :=
 ∀ (pins : List (Addr × Obj)) (s : Shared) (σ : St) (H : Hp) (x : V) (v : Value) (Q : Bool -> Hp -> Prop), Inv X pins σ H s -> RelV x v -> r x H Q ->
  wpAny (model X.prog X.w) X.A (truthy v) (TP X pins σ Q) X.xe s
def tOp (r : R2) (ta tb : TE) : TE := fun σ H Q => ta σ H fun x H1 => tb σ H1 fun y H2 => r x y H2 Q
def tUn (r : V -> Hp -> VK -> Prop) (ta : TE) : TE := fun σ H Q => ta σ H fun x H1 => r x H1 Q
def rI (C : Int -> Int -> Prop) (g : Int -> Int -> V) : R2 := fun x y H Q => ∃ i j, x = .int i /\ y = .int j /\ C i j /\ Q (g i j) H
noncomputable def rI0 (g : Int -> Int -> V) : R2 := fun x y H Q => ∃ i j, x = .int i /\ y = .int j /\ Q (g i j) H
def rU (g : Int -> V) : V -> Hp -> VK -> Prop := fun x H Q => ∃ i, x = .int i /\ Q (g i) H
section
variable {X : Cx} {a b c : Expr} {ta tb tc : TE} {pos : Pos}
theorem binT (ha : PE X a ta) (hb : PE X b tb) {pins : List (Addr × Obj)} {s : Shared} {σ : St} {H : Hp} {R : V -> V -> Hp -> Prop} (I : Inv X pins σ H s)
  (h : ta σ H fun x H1 => tb σ H1 fun y H2 => R x y H2) {Q : Value -> Shared -> Prop} {f : Value -> Value -> Sem Value}
  (hf : ∀ v u s2 x y H2, Inv X pins σ H2 s2 -> RelV x v -> RelV y u -> R x y H2 -> wpAny (model X.prog X.w) X.A (f v u) Q X.xe s2) :
  wpAny (model X.prog X.w) X.A (eval a X.env) (fun v s₁ => wpAny (model X.prog X.w) X.A (eval b X.env) (fun u s₂ => wpAny (model X.prog X.w) X.A (f v u) Q X.xe s₂) X.xe s₁) X.xe s := by
 refine thn (ha pins s σ H _ I h) fun v s1 ⟨x, H1, I1, r1, q1⟩ => ?_
 refine thn (hb pins s1 σ H1 _ I1 q1) fun u s2 ⟨y, H2, I2, r2, q2⟩ => ?_
 exact hf v u s2 x y H2 I2 r1 r2 q2
theorem pe_op {op : Operator} {r : R2} (ho : OpR X (binaryOp op) r) (ha : PE X a ta) (hb : PE X b tb) : PE X (.BinOp a op b pos) (tOp r ta tb) := by
 intro pins s σ H Q I h
 exact wpAny_BinOp (binT ha hb I h fun v u s2 x y H2 I2 rx ry q => ho pins s2 σ H2 x y v u Q I2 rx ry q)
theorem pe_un {op : UnaryOp} {r : V -> Hp -> VK -> Prop} (ho : UnR X (unaryOp op) r) (ha : PE X a ta) : PE X (.UnaryOp op a pos) (tUn r ta) := by
 intro pins s σ H Q I h
 exact UnaryOp_ (thn (ha pins s σ H _ I h) fun v s1 ⟨x, H1, I1, r1, q1⟩ => ho pins s1 σ H1 x v Q I1 r1 q1)
theorem opI {f : Value -> Value -> Sem Value} {C : Int -> Int -> Prop} {g : Int -> Int -> Int}
  (rule : ∀ (i j : Int) (t u : Tok) (s : Shared) (Q : Value -> Shared -> Prop) (E : Value -> Shared -> Prop), C i j -> Q (.int (g i j) s.toks) { s with toks := s.toks + 1 } -> wpAny (model X.prog X.w) X.A (f (.int i t) (.int j u)) Q E s) :
  OpR X f (rI C fun i j => .int (g i j)) := by
 intro pins s σ H x y v u Q I rx ry h
 obtain ⟨i, j, rfl, rfl, hc, q⟩ := h
 obtain ⟨t, rfl⟩ := rx
 obtain ⟨t', rfl⟩ := ry
 exact rule i j t t' s _ _ hc ⟨.int (g i j), H, I.tok _, ⟨_, rfl⟩, q⟩
theorem opI0 {f : Value -> Value -> Sem Value} {g : Int -> Int -> Int}
  (rule : ∀ (i j : Int) (t u : Tok) (s : Shared) (Q : Value -> Shared -> Prop) (E : Value -> Shared -> Prop), Q (.int (g i j) s.toks) { s with toks := s.toks + 1 } -> wpAny (model X.prog X.w) X.A (f (.int i t) (.int j u)) Q E s) :
  OpR X f (rI0 fun i j => .int (g i j)) := by
 intro pins s σ H x y v u Q I rx ry h
 obtain ⟨i, j, rfl, rfl, q⟩ := h
 obtain ⟨t, rfl⟩ := rx
 obtain ⟨t', rfl⟩ := ry
 exact rule i j t t' s _ _ ⟨.int (g i j), H, I.tok _, ⟨_, rfl⟩, q⟩
theorem opB0 {f : Value -> Value -> Sem Value} {g : Int -> Int -> Bool}
  (rule : ∀ (i j : Int) (t u : Tok) (s : Shared) (Q : Value -> Shared -> Prop) (E : Value -> Shared -> Prop), Q (.bool (g i j)) s -> wpAny (model X.prog X.w) X.A (f (.int i t) (.int j u)) Q E s) :
  OpR X f (rI0 fun i j => .bl (g i j)) := by
 intro pins s σ H x y v u Q I rx ry h
 obtain ⟨i, j, rfl, rfl, q⟩ := h
 obtain ⟨t, rfl⟩ := rx
 obtain ⟨t', rfl⟩ := ry
 exact rule i j t t' s _ _ ⟨.bl (g i j), H, I, rfl, q⟩
def CDiv (i j : Int) : Prop := 0 < j /\ j < 1073741824
def CPow (i j : Int) : Prop := 0 <= j /\ j <= 1000000 /\ i.natAbs < 2 ^ 64
def CMul (i j : Int) : Prop := (-(2 ^ 64) < i /\ i < 2 ^ 64) \/ (-(2 ^ 64) < j /\ j < 2 ^ 64)
theorem CMul.ok {i j : Int} (h : CMul i j) : IntMulOk i j := by
 rcases h with ⟨h1, h2⟩ | ⟨h1, h2⟩
 ·exact .of_left (intBits_le_64 h1 h2)
 ·exact .of_right (intBits_le_64 h1 h2)
theorem op_add : OpR X (binaryOp .Add) (rI0 fun i j => .int (i + j)) := opI0 fun _ _ _ _ _ _ _ q => add_int q
theorem op_sub : OpR X (binaryOp .Sub) (rI0 fun i j => .int (i - j)) := opI0 fun _ _ _ _ _ _ _ q => sub_int q
theorem op_mul : OpR X (binaryOp .Mult) (rI CMul fun i j => .int (i * j)) := opI fun _ _ _ _ _ _ _ hc q => mul_int q hc.ok
theorem op_fdiv : OpR X (binaryOp .FloorDiv) (rI CDiv fun i j => .int (i / j)) := opI fun i j _ _ _ _ _ hc q => by
 have h1 : (0 : Int) < j := hc.1
 have h2 : j < 1073741824 := hc.2
 exact floordiv_int (by omega) (by rw [Int.fdiv_eq_ediv_of_nonneg i (by omega)]; exact q) (.inl (PyProof.noPylong_small (by omega)))
theorem op_mod : OpR X (binaryOp .Mod) (rI (fun _ j => 0 < j) fun i j => .int (i % j)) := opI fun i j _ _ _ _ _ hc q => by
 have h1 : (0 : Int) < j := hc
 exact mod_int' (by omega) (by rw [Int.fmod_eq_emod_of_nonneg i (by omega)]; exact q)
theorem op_pow : OpR X (binaryOp .Pow) (rI CPow fun i j => .int (i ^ j.toNat)) := opI fun _ _ _ _ _ _ _ hc q => pow_int_small hc.1 hc.2.1 hc.2.2 q
theorem unI {f : Value -> Sem Value} {g : Int -> Int}
  (rule : ∀ (i : Int) (t : Tok) (s : Shared) (Q : Value -> Shared -> Prop) (E : Value -> Shared -> Prop), Q (.int (g i) s.toks) { s with toks := s.toks + 1 } -> wpAny (model X.prog X.w) X.A (f (.int i t)) Q E s) :
  UnR X f (rU fun i => .int (g i)) := by
 intro pins s σ H x v Q I rx h
 obtain ⟨i, rfl, q⟩ := h
 obtain ⟨t, rfl⟩ := rx
 exact rule i t s _ _ ⟨.int (g i), H, I.tok _, ⟨_, rfl⟩, q⟩
theorem un_neg : UnR X (unaryOp .USub) (rU fun i => .int (-i)) := unI fun _ _ _ _ _ q => neg_int q
end
section
variable {X : Cx} {a b c : Expr} {ta tb tc : TE} {pos : Pos}
theorem op_lt : OpR X (compareOp .Lt) (rI0 fun i j => .bl (decide (i < j))) := opB0 fun _ _ _ _ _ _ _ q => lt_int q
theorem op_le : OpR X (compareOp .LtE) (rI0 fun i j => .bl (decide (i <= j))) := opB0 fun _ _ _ _ _ _ _ q => le_int q
theorem op_gt : OpR X (compareOp .Gt) (rI0 fun i j => .bl (decide (j < i))) := opB0 fun _ _ _ _ _ _ _ q => gt_int q
theorem OpR.or {f : Value -> Value -> Sem Value} {r r' : R2} (h : OpR X f r) (h' : OpR X f r') : OpR X f (fun x y H Q => r x y H Q \/ r' x y H Q) := by
 intro pins s σ H x y v u Q I rx ry q
 rcases q with q | q
 ·exact h pins s σ H x y v u Q I rx ry q
 ·exact h' pins s σ H x y v u Q I rx ry q
theorem nomark (b : Expr) {op : CmpOp} (h : op ≠ .In := by decide) (h2 : op ≠ .NotIn := by decide) : behindInMarks op b = false := by
 have e1 : (op == CmpOp.In) = false := by cases op <;> first | rfl | exact absurd rfl h
 have e2 : (op == CmpOp.NotIn) = false := by cases op <;> first | rfl | exact absurd rfl h2
 cases b <;> simp [behindInMarks, e1, e2]
theorem pe_cmpR {op : CmpOp} {r : R2} (ho : OpR X (compareOp op) r) (ha : PE X a ta) (hb : PE X b tb) (hm : behindInMarks op b = false) : PE X (.Compare a [op] [b] pos) (tOp r ta tb) := by
 intro pins s σ H Q I h
 exact wpAny_Compare1 (binT ha hb I h fun v u s2 x y H2 I2 rx ry q => ho pins s2 σ H2 x y v u Q I2 rx ry q) hm
def tTest (t : TE) : TT := fun σ H Q => t σ H fun x H' => ∃ k, x = .bl k /\ Q k H'
theorem pt_cmpR {op : CmpOp} {r : R2} (ho : OpR X (compareOp op) r) (ha : PE X a ta) (hb : PE X b tb) (hm : behindInMarks op b = false) : PT X (.Compare a [op] [b] pos) (tTest (tOp r ta tb)) := by
 intro pins s σ H Q I h
 refine wpAny_isTrue_Compare1 (thn (ha pins s σ H _ I h) fun v s1 ⟨x, H1, I1, r1, q1⟩ => thn (hb pins s1 σ H1 _ I1 q1) fun u s2 ⟨y, H2, I2, r2, q2⟩ =>
  thn (ho pins s2 σ H2 x y v u _ I2 r1 r2 q2) fun c s3 ⟨z, H3, I3, r3, k, e, q3⟩ => ?_) hm
 subst e
 cases r3
 exact wpAny_truthy_bool ⟨H3, I3, q3⟩
def TruV (K : PySem.W.Frag) (x : V) (H : Hp) (k : Bool) : Prop :=
 match x with
 | .non => k = false
 | .bl b => k = b
 | .int i => k = (i != 0)
 | .str y => y.length <= sizeLine /\ k = ((y.length : Int) != 0)
 | .byt y => y.size <= sizeLine /\ k = ((y.size : Int) != 0)
 | .ref p => (∃ xs, SqL K H p xs /\ k = !xs.isEmpty) \/ (∃ xs, SqT K H p xs /\ k = !xs.isEmpty) \/ ∃ kvs, H p = some (.dK kvs) /\ k = !kvs.isEmpty
 | _ => False
theorem isEmpty_kv {κ : Type} {kvs : List (κ × V)} {vs : List (κ × Value)} (r : KV kvs vs) : (!vs.isEmpty) = !kvs.isEmpty := by
 cases r <;> rfl
theorem isEmpty_of {xs : List V} {its : List Value} (r : Vals xs its) : (!its.toArray.isEmpty) = !xs.isEmpty := by
 cases r <;> simp
theorem line63 : (sizeLine : Nat) < 2 ^ 63 := by rw [sizeLine_eq]; decide
theorem tru_ok : TruR X (fun x H Q => ∃ k, TruV X.K x H k /\ Q k H) := by
 intro pins s σ H x v Q I rx h
 obtain ⟨k, e, q⟩ := h
 have hl := line63
 have hs : sizeLine = 16777216 := sizeLine_eq
 cases x with
 | non =>
  cases rx
  have e' : k = false := e
  subst e'
  exact truthy_none ⟨H, I, q⟩
 | bl b =>
  cases rx
  have e' : k = b := e
  subst e'
  exact wpAny_truthy_bool ⟨H, I, q⟩
 | int i =>
  obtain ⟨t, rfl⟩ := rx
  have e' : k = (i != 0) := e
  subst e'
  exact PySem.P.truthy_int ⟨H, I, q⟩
 | str y =>
  obtain ⟨t, rfl⟩ := rx
  obtain ⟨hy, e'⟩ : y.length <= sizeLine /\ k = ((y.length : Int) != 0) := e
  subst e'
  exact PySem.P.truthy_str (by omega) ⟨H, I.tok _, q⟩
 | byt y =>
  obtain ⟨t, rfl⟩ := rx
  obtain ⟨hy, e'⟩ : y.size <= sizeLine /\ k = ((y.size : Int) != 0) := e
  subst e'
  exact PySem.W.truthy_bytes (by omega) ⟨H, I.tok _, q⟩
 | ref p =>
  cases rx
  have e' : (∃ xs, SqL X.K H p xs /\ k = !xs.isEmpty) \/ (∃ xs, SqT X.K H p xs /\ k = !xs.isEmpty) \/ ∃ kvs, H p = some (.dK kvs) /\ k = !kvs.isEmpty := e
  rcases e' with ⟨xs, hx, e'⟩ | ⟨xs, hx, e'⟩ | ⟨kvs, hx, e'⟩
  ·subst e'
   obtain ⟨its, r, pl, hz⟩ := I.list hx
   have hlen := r.length
   exact wpAny_truthy_list pl.isList (by simp only [List.size_toArray]; omega) ⟨H, I.tok _, by rw [isEmpty_of r]; exact q⟩
  ·subst e'
   obtain ⟨its, r, pl, hz⟩ := I.tuple hx
   have hlen := r.length
   exact truthy_tuple pl (by simp only [List.size_toArray]; omega) ⟨H, I.tok _, by rw [isEmpty_of r]; exact q⟩
  ·subst e'
   obtain ⟨hz, hS, vs, r, m⟩ : kvs.length <= sizeLine /\ (p == sysModules) = false /\ ∃ vs, KV kvs vs /\ s.heap.DictOf (mixKind X.prog X.w) p vs := I.hok p _ hx
   have hlen : kvs.length = vs.length := Paired.length r
   exact wpAny_truthy_dict hS m (by omega) ⟨H, I.tok _, by rw [isEmpty_kv r]; exact q⟩
 | _ => exact (show False from e).elim
theorem pt_truth (ha : PE X a ta) (he : ∀ whole, isTrue a X.env whole = (do let v ← whole; standAt a.pos; holding [v] (truthy v))) :
  PT X a (fun σ H Q => ta σ H fun x H' => ∃ k, TruV X.K x H' k /\ Q k H') := by
 intro pins s σ H Q I h
 exact isTrue_plain (thn (ha pins s σ H _ I h) fun v s1 ⟨x, H1, I1, r1, q1⟩ => tru_ok pins s1 σ H1 x v Q I1 r1 q1) (he _)
theorem op_add_str : OpR X (binaryOp .Add) (fun x y H Q => ∃ i j, x = .str i /\ y = .str j /\ i.length + j.length <= sizeLine /\ Q (.str (i ++ j)) H) := by
 intro pins s σ H x y v u Q I rx ry h
 obtain ⟨i, j, rfl, rfl, hz, q⟩ := h
 obtain ⟨t, rfl⟩ := rx
 obtain ⟨t', rfl⟩ := ry
 exact add_str (fun t' tk => ⟨.str (i ++ j), H, I.tok _, ⟨_, rfl⟩, q⟩) hz
theorem vals1 {x : V} {us : List Value} (r : Vals [x] us) : ∃ u, us = [u] /\ RelV x u := by
 cases r with
 | cons r1 r2 => cases r2; exact ⟨_, rfl, r1⟩
end
end L2
namespace L2
open PySem PySem.Spec PyProof.Rows
section
variable {prog : Program} {w : World} {A : Around} {E : Value -> Shared -> Prop} {s : Shared} {K : PySem.W.Frag} {x dx C f : Addr} {mA : Str -> Option Value} {name : Str} {v : Value}
end
theorem RelO.some_of {v : V} {o : Option Value} (r : RelO (some v) o) : ∃ u, o = some u /\ RelV v u := by
 cases o with
 | none => exact (show False from r).elim
 | some u => exact ⟨u, rfl, r⟩
section
variable {P : Program} {w : World} {H H' : Hp} {h h' : Heap} {a C dx : Addr} {fs fs' : List (Str × V)}
end
structure Cls (K : PySem.W.Frag) (C : Addr) : Prop where
 pg : PySem.W.plainGet K C Str.empty = true
 hd : PySem.W.hasDictIn K C = true
 po : PySem.W.plainOver K C = true
 sa : PySem.W.findIn K (.ref C) "__setattr__" = some (some (.builtin "object.__setattr__"))
section
variable {X : Cx} {pins : List (Addr × Obj)} {σ : St} {H : Hp} {s : Shared} {a C dx : Addr} {fs : List (Str × V)} {f : Str} {v : V} {A : Around} {E : Value -> Shared -> Prop}
end
section
variable {X : Cx} {o e value : Expr} {f : Str} {pos pos' tpos : Pos} {ta tv : TE}
end
section
variable {X : Cx} {pins : List (Addr × Obj)} {σ : St} {H : Hp} {s : Shared} {A : Around} {E : Value -> Shared -> Prop} {Q : Value -> Shared -> Prop} {c : Value} {b : Bool}
end
end L2
namespace L2
open PySem PySem.Spec PyProof.Rows
structure Room (k : Nat) (A : Around) : Prop where
 hd : A.handled = none
 dp : A.depth + 3 * k + 5 < recursionLimit
 un : A.units + 16 * k + 200 < cLine
theorem Room.mono {j k : Nat} {A : Around} (r : Room k A) (h : j <= k) : Room j A := ⟨r.hd, by have := r.dp; omega, by have := r.un; omega⟩
theorem Room.deeper {k : Nat} {A : Around} (r : Room (k + 1) A) (env : Env) : Room k (A.deeper env) :=
 ⟨r.hd, by have := r.dp; show A.depth + 1 + 3 * k + 5 < _; omega, by have := r.un; show A.units + 3 + 16 * k + 200 < _; omega⟩
theorem Room.depth {k : Nat} {A : Around} (r : Room k A) : A.depth < recursionLimit := by have := r.dp; omega
theorem Room.units {k : Nat} {A : Around} (r : Room k A) : A.units + 64 < cLine := by have := r.un; omega
def tNil : TA := fun _ H Q => Q [] H
def tCons (ta : TE) (tr : TA) : TA := fun σ H Q => ta σ H fun x H1 => tr σ H1 fun xs H2 => Q (x :: xs) H2
section
variable {X : Cx} {e : Expr} {es : List Expr} {te : TE} {t : TA} {pos : Pos}
theorem pa_nil : PA X [] tNil := fun _ _ _ _ H Q I h => Calls.spliced_nil ⟨[], H, I, .nil, h⟩
theorem pa_cons (ha : PE X e te) (hr : PA X es t) (hs : starEach (e :: es) X.env = (false, eval e X.env) :: starEach es X.env := by rfl) : PA X (e :: es) (tCons te t) := by
 intro pos pins s σ H Q I h
 rw [hs]
 show wpAny _ _ (spliced ((false, eval e X.env) :: backTo pos (starEach es X.env))) _ _ s
 refine Calls.spliced_cons (thn (ha pins s σ H _ I h) fun u s1 ⟨x, H1, I1, r1, q1⟩ => ?_)
 exact thn (hr pos pins s1 σ H1 _ I1 q1) fun us s2 ⟨xs, H2, I2, r2, q2⟩ => ⟨x :: xs, H2, I2, .cons r1 r2, q2⟩
def tTup (t : TA) : TE := fun σ H Q => t σ H fun xs H1 => xs.length <= sizeLine /\ ∀ p, H1 p = none -> Q (.ref p) (upd H1 p (.tup xs))
def tLst (t : TA) : TE := fun σ H Q => t σ H fun xs H1 => xs.length <= sizeLine /\ ∀ p, H1 p = none -> Q (.ref p) (upd H1 p (.lst xs))
theorem pe_tup {x1} (h : PA X es t) : PE X (.Tuple es x1 pos) (tTup t) := by
 intro pins s σ H Q I hq
 refine wpAny_Tuple_spliced (thn (h pos pins s σ H _ I hq) fun us s1 ⟨xs, H1, I1, r, z, q⟩ => ⟨by rw [← r.length]; exact z, ?_⟩)
 have hf : H1 s1.heap.objs.size = none := I1.hok.fresh (Nat.le_refl _)
 refine ⟨.ref s1.heap.objs.size, upd H1 s1.heap.objs.size (.tup xs), I1.laid (t' := s1.toks) (fun b u e => Heap.get?_push_of_some _ e) (Nat.le_refl _) ?_, rfl, q _ hf⟩
 exact ⟨z, us, r, IsTupD.new _ _⟩
theorem pe_lst (h : PA X es t) : PE X (.List es pos) (tLst t) := by
 intro pins s σ H Q I hq
 refine wpAny_List_spliced (thn (h pos pins s σ H _ I hq) fun us s1 ⟨xs, H1, I1, r, z, q⟩ => ⟨by rw [← r.length]; exact z, ?_⟩)
 have hf : H1 s1.heap.objs.size = none := I1.hok.fresh (Nat.le_refl _)
 refine ⟨.ref s1.heap.objs.size, upd H1 s1.heap.objs.size (.lst xs), I1.laid (t' := s1.toks) (fun b u e => Heap.get?_push_of_some _ e) (Nat.le_refl _) ?_, rfl, q _ hf⟩
 exact ⟨z, us, 0, r, Heap.get?_push_size _ rfl⟩
end
noncomputable abbrev Sp := List V -> Hp -> VK -> XK -> Prop
noncomputable abbrev CXT := List Env -> Hp -> Shared -> XK -> Value -> Shared -> Prop
structure Env0 (P : Program) (w : World) (K : PySem.W.Frag) (mg : Str -> Option Value) (base : Heap) (A : Around) (outer : List Env) (s : Shared) (H : Hp) : Prop where
 frames : A.frames = some outer
 mod : Mod K mg base
 bs : ∀ b o, base.get? b = some o -> s.heap.get? b = some o /\ H b = none
 bsz : base.objs.size <= s.heap.objs.size
 funs : s.heap.FunFrames base outer
 frf : ∀ b ∈ frs outer, H b = none
 hok : HOk P w H s.heap
 bare : AllBare s.gens
def CE (outer : List Env) (P : Program) (w : World) (H : Hp) (s : Shared) (Q : VK) (u : Value) (s' : Shared) : Prop :=
 ∃ v H', s'.os = s.os /\ AllBare s'.gens /\ Un (frs outer) [] H H' s.heap s'.heap /\ HOk P w H' s'.heap /\ RelV v u /\ Q v H'
def CR (CX : CXT) (outer : List Env) (P : Program) (w : World) (H : Hp) (s : Shared) (Q : VK) (E : XK) (r : Result) (s' : Shared) : Prop :=
 match r with
 | .ok (.ret u) => CE outer P w H s Q u s'
 | .ok _ => False
 | .error e => CX outer H s E e s'
structure FnOk (P : Program) (w : World) (K : PySem.W.Frag) (mg : Str -> Option Value) (base : Heap) (CX : CXT) (k : Nat) (f : Addr) (fd : FuncData) (ps : List Str) (sp : Sp) : Prop where
 len : ∀ vs H Q E, sp vs H Q E -> vs.length = ps.length
 run : ∀ (A : Around) (outer : List Env) (s : Shared) (H : Hp) (args : Args) (us : List Value) (vs : List V) (Q : VK) (E : XK), Room k A -> Env0 P w K mg base A outer s H -> BindsTo s fd args (ps.zip us) -> Vals vs us -> sp vs H Q E ->
  codeAny (model P w) A (.call (.ref f) args) (CR CX outer P w H s Q E) s
theorem FnOk.imp {P : Program} {w : World} {K : PySem.W.Frag} {mg : Str -> Option Value} {base : Heap} {CX : CXT} {k : Nat} {f : Addr} {fd : FuncData} {ps : List Str} {sp sp' : Sp} (F : FnOk P w K mg base CX k f fd ps sp)
  (h : ∀ vs H Q E, sp' vs H Q E -> sp vs H Q E) : FnOk P w K mg base CX k f fd ps sp' :=
 ⟨fun vs H Q E q => F.len vs H Q E (h _ _ _ _ q), fun A outer s H args us vs Q E hr he hb hv hs => F.run A outer s H args us vs Q E hr he hb hv (h _ _ _ _ hs)⟩
section
variable {X : Cx} {pins : List (Addr × Obj)} {σ : St} {H : Hp} {s s' : Shared}
theorem Inv.env0 (I : Inv X pins σ H s) : Env0 X.prog X.w X.K X.mg X.base X.A X.stack s H :=
 ⟨I.ok.frames, I.ok.mod, I.bs, Nat.le_trans I.ok.bsz I.sz, I.stack, I.stkFree, I.hok, I.bare⟩
theorem Inv.after {Q : VK} {u : Value} (I : Inv X pins σ H s) (h : CE X.stack X.prog X.w H s Q u s') : EP X pins σ Q u s' := by
 obtain ⟨v, H', os, bare, un, hok, r, q⟩ := h
 obtain ⟨hh, g, d, t, os'⟩ := s'
 obtain rfl : os' = s.os := os
 exact ⟨v, H', I.call (h' := hh) (g' := g) (d' := d) (t' := t) (ch := []) un hok bare (fun b z => absurd z (by simp)), r, q⟩
end
def tCall (sp : Sp) (dvs : List V) (E : XK) (t : TA) : TE := fun σ H Q => t σ H fun vs H1 => sp (vs ++ dvs) H1 Q E
def Binds (K : PySem.W.Frag) (fd : FuncData) (ps : List Str) (ds : List Value) : Prop :=
 ∀ (s : Shared) (us : List Value), K.In s.heap -> (us ++ ds).length = ps.length -> BindsTo s fd ⟨us, []⟩ (ps.zip (us ++ ds))
theorem Binds.all {K : PySem.W.Frag} {fd : FuncData} {ps : List Str} (h : ∀ us : List Value, us.length = ps.length -> bindArgs fd ⟨us, []⟩ = pure (ps.zip us)) : Binds K fd ps [] := fun s us _ hl => by
 rw [List.append_nil] at hl ⊢
 exact .of_eq (h us hl)
def Passes (CX : CXT) (X : Cx) (E : XK) : Prop := ∀ (pins : List (Addr × Obj)) (σ : St) (H : Hp) (s : Shared) (e : Value) (s' : Shared), Inv X pins σ H s -> CX X.stack H s E e s' -> X.xe e s'
section
variable {X : Cx} {CX : CXT} {k : Nat} {f C : Addr} {fd : FuncData} {ps : List Str} {sp : Sp} {dvs : List V} {ds : List Value} {E : XK} {x m : Str} {p pos apos : Pos} {e o : Expr} {es : List Expr} {ta : TE} {t : TA}
theorem run_fn {pins : List (Addr × Obj)} {σ : St} {H : Hp} {s : Shared} {Q : VK} {us : List Value} {vs : List V} (F : FnOk X.prog X.w X.K X.mg X.base CX k f fd ps sp) (hr : Room k X.A) (hb : Binds X.K fd ps ds) (hd : Vals dvs ds) (hx : Passes CX X E)
  (I : Inv X pins σ H s) (r : Vals vs us) (h : sp (vs ++ dvs) H Q E) : wpAny (model X.prog X.w) X.A (call (.ref f) us) (EP X pins σ Q) X.xe s := by
 have r2 : Vals (vs ++ dvs) (us ++ ds) := r.append hd
 have hl : (us ++ ds).length = ps.length := by rw [← r2.length]; exact F.len _ _ _ _ h
 refine wpAny_call (codeAny_mono (F.run X.A X.stack s H ⟨us, []⟩ (us ++ ds) (vs ++ dvs) Q E hr I.env0 (hb s us I.kIn hl) r2 h) fun r s' hq => ?_)
 cases r with
 | error e => exact hx pins σ H s e s' I hq
 | ok fl =>
  cases fl with
  | ret u => exact I.after hq
  | next => exact False.elim hq
  | brk => exact False.elim hq
  | cont => exact False.elim hq
theorem pe_call (F : FnOk X.prog X.w X.K X.mg X.base CX k f fd ps sp) (hr : Room k X.A) (hg : Gl X x) (hm : X.mg x = some (.ref f)) (hk : PySem.W.keepIn X.K (.ref f) = true) (hb : Binds X.K fd ps ds) (hd : Vals dvs ds) (hx : Passes CX X E)
  (ha : PA X (e :: es) t) (hdb : (x == ("__debug__" : Str)) = false := by decide) (he : starEach (e :: es) X.env = (false, eval e X.env) :: starEach es X.env := by rfl) (hpl : (backTo pos (starEach es X.env)).any (·.1) = false := by rfl) :
  PE X (.Call (.Name x p) (e :: es) [] pos) (tCall sp dvs E t) := by
 intro pins s σ H Q I h
 refine wpAny_Call_Name_kw (ld_glob I hg hm ?_ hdb)
 refine PySem.W.callWith_K (h₀ := X.base) I.ok.mod.kin hk (thn (ha pos pins s σ H _ I h) fun us s1 ⟨vs, H1, I1, r, q⟩ => ⟨I1.kIn, ?_⟩) he hpl
 exact run_fn F hr hb hd hx I1 r q
end
section
variable {X : Cx} {CX : CXT} {k : Nat} {f C : Addr} {fd : FuncData} {ps ks : List Str} {sp : Sp} {E : XK} {x m : Str} {p pos apos kpos : Pos} {e o : Expr} {es : List Expr} {kws : List Keyword} {te ta : TE} {t tk : TA} {nm : Option Str}
variable {g : List Value -> List Value -> List Value} {gV : List V -> List V -> List V}
end
structure FnScope (N P : List Str) (sc : Scope) : Prop where
 kind : sc.kind = .function
 co : sc.isCoroutine = false
 gen : sc.isGenerator = false
 nd : N.Nodup
 pre : N.take P.length = P
 par : ∀ x ∈ P, sc.names.lookup x = some .local \/ sc.names.lookup x = some .cell
 nofree : ∀ y ∈ sc.names, y.2 ≠ .free
theorem bindL_out {kindOf : Str -> Option NameKind} {x : Str} : ∀ {binds : List (Str × Value)} {m : Str -> Option Value}, (∀ v, (x, v) ∉ binds) -> bindL kindOf binds m x = m x
 | [], _, _ => rfl
 | (n, v) :: r, m, h => by
  unfold bindL
  rw [bindL_out fun w hw => h w (List.mem_cons_of_mem _ hw)]
  split
  ·have : x ≠ n := by rintro rfl; exact h v List.mem_cons_self
   simp [this]
  ·rfl
theorem bindC_out {kindOf : Str -> Option NameKind} {x : Str} : ∀ {binds : List (Str × Value)} {m : Str -> Option Value}, (∀ v, (x, v) ∉ binds) -> bindC kindOf binds m x = m x
 | [], _, _ => rfl
 | (n, v) :: r, m, h => by
  unfold bindC
  rw [bindC_out fun w hw => h w (List.mem_cons_of_mem _ hw)]
  split
  ·rfl
  ·have : x ≠ n := by rintro rfl; exact h v List.mem_cons_self
   simp [this]
theorem bindL_get {kindOf : Str -> Option NameKind} {x : Str} {v : Value} : ∀ {P : List Str} {vs : List Value} {i : Nat} {m : Str -> Option Value}, P.Nodup -> P[i]? = some x -> vs[i]? = some v -> kindOf x = some .local ->
  bindL kindOf (P.zip vs) m x = some v
 | [], _, _, _, _, h, _, _ => by simp at h
 | _ :: _, [], _, _, _, _, h, _ => by simp at h
 | p :: P, w :: vs, 0, m, nd, h1, h2, hk => by
  simp at h1 h2; subst h1; subst h2
  show bindL kindOf ((p, w) :: P.zip vs) m p = _
  unfold bindL
  rw [bindL_out fun v hv => (List.nodup_cons.mp nd).1 (List.of_mem_zip hv).1, if_pos hk]
  simp
 | p :: P, w :: vs, i + 1, m, nd, h1, h2, hk => by
  show bindL kindOf ((p, w) :: P.zip vs) m x = _
  unfold bindL
  exact bindL_get (i := i) (List.nodup_cons.mp nd).2 (by simpa using h1) (by simpa using h2) hk
theorem bindC_get {kindOf : Str -> Option NameKind} {x : Str} {v : Value} : ∀ {P : List Str} {vs : List Value} {i : Nat} {m : Str -> Option Value}, P.Nodup -> P[i]? = some x -> vs[i]? = some v -> kindOf x ≠ some .local ->
  bindC kindOf (P.zip vs) m x = some v
 | [], _, _, _, _, h, _, _ => by simp at h
 | _ :: _, [], _, _, _, _, h, _ => by simp at h
 | p :: P, w :: vs, 0, m, nd, h1, h2, hk => by
  simp at h1 h2; subst h1; subst h2
  show bindC kindOf ((p, w) :: P.zip vs) m p = _
  unfold bindC
  rw [bindC_out fun v hv => (List.nodup_cons.mp nd).1 (List.of_mem_zip hv).1, if_neg hk]
  simp
 | p :: P, w :: vs, i + 1, m, nd, h1, h2, hk => by
  show bindC kindOf ((p, w) :: P.zip vs) m x = _
  unfold bindC
  exact bindC_get (i := i) (List.nodup_cons.mp nd).2 (by simpa using h1) (by simpa using h2) hk
noncomputable def start (N : List Str) (vs : List V) : St := vs.map some ++ List.replicate (N.length - vs.length) none
def cxOf (CX : CXT) (P : Program) (w : World) (K : PySem.W.Frag) (mg : Str -> Option Value) (base : Heap) (N : List Str) (qual : Str) (scope : Scope) (f : Addr) (cd : Value) (A : Around) (outer : List Env) (s : Shared) (H : Hp) (E : XK) : Cx where
 prog := P
 w := w
 K := K
 mg := mg
 base := base
 A := A.deeper (envOfC qual scope s.heap.objs.size f cd)
 N := N
 s₀ := s
 H₀ := H
 env := envOfC qual scope s.heap.objs.size f cd
 outer := outer
 stack := envOfC qual scope s.heap.objs.size f cd :: outer
 ex := []
 calm := true
 fn := fun _ => true
 pn := []
 xe := fun e s' => wpAny (model P w) (A.deeper (envOfC qual scope s.heap.objs.size f cd)) (leaving (envOfC qual scope s.heap.objs.size f cd) e) (fun _ s'' => CX outer H s E e s'') (fun e' s'' => CX outer H s E e' s'') s'
theorem cell_has {sc : Scope} {n : Nat} {x : Str} (h : sc.names.lookup x = some .cell) : ∃ c, (cellsFrom n sc.names []).lookup x = some c := by
 have q := PySem.W.cellsFrom_some sc.names n [] (.inl h)
 exact Option.isSome_iff_exists.mp q
theorem inv_start {CX : CXT} {P : Program} {w : World} {K : PySem.W.Frag} {mg : Str -> Option Value} {base : Heap} {N ps : List Str} {qual : Str} {scope : Scope} {f : Addr} {cd : Value} {A : Around} {outer : List Env} {s s1 : Shared} {H : Hp} {E : XK} {us : List Value} {vs : List V}
  (S : FnScope N ps scope) (hd : A.handled = none) (e0 : Env0 P w K mg base A outer s H) (hl : vs.length = ps.length) (r : Vals vs us)
  (x : InCallC s s.heap.objs.size (bindL (envOfC qual scope s.heap.objs.size f cd).kindOf (ps.zip us) fun _ => none) (cellsFrom (s.heap.objs.size + 1) scope.names []) (bindC (envOfC qual scope s.heap.objs.size f cd).kindOf (ps.zip us) fun _ => none) s1) :
  Inv (cxOf CX P w K mg base N qual scope f cd A outer s H E) [] (start N vs) H s1 := by
 have hpl : ps.length <= N.length := by have := congrArg List.length S.pre; rw [List.length_take] at this; omega
 obtain ⟨h1, tk, rfl, hk⟩ := x.done
 have noA : ∀ b : Addr, b ∉ (cxOf CX P w K mg base N qual scope f cd A outer s H E).ex := fun b z => absurd (show b ∈ ([] : List Addr) from z) (by simp)
 refine ⟨⟨e0.mod, S.kind, rfl, rfl, Nat.le_refl _, fun y z c h1 h2 => ?_, fun y hy => ?_, fun y c _ h => ?_, fun _ => hd, Around.frames_deeper e0.frames, .inr ⟨rfl, rfl⟩, fun b z => absurd z (noA b), e0.bs, e0.bsz, fun b _ _ => noA b, fun b z => absurd z (noA b), e0.funs, e0.frf⟩,
  rfl, e0.bare, Un.kept hk, ⟨_, x.toInCall.ns, fun i y v h1 h2 h3 => ?_⟩, fun y c h => ⟨_, x.cell y c h⟩, e0.hok.fresh (Nat.le_refl _), fun y c h => ?_, fun p hp => absurd (show p ∈ ([] : List (Addr × Obj)) from hp) (by simp), e0.hok.kept hk, ?_⟩
 ·exact name_of_addr x.apart (PySem.mem_of_lookup h1) (PySem.mem_of_lookup h2)
 ·have hy : scope.names.lookup y = some .cell \/ scope.names.lookup y = some .free := hy
  rcases hy with hy | hy
  ·exact cell_has hy
  ·exact absurd rfl (S.nofree _ (PySem.mem_of_lookup hy))
 ·exact Nat.le_of_lt (x.above y c (PySem.mem_of_lookup h))
 ·have hi : i < vs.length := by
   unfold start at h2
   by_cases hi : i < vs.length
   ·exact hi
   ·rw [List.getElem?_append_right (by simpa using hi)] at h2
    rw [List.getElem?_replicate] at h2
    split at h2 <;> cases h2
  have ha : vs[i]? = some v := by
   unfold start at h2
   rw [List.getElem?_append_left (by simpa using hi), List.getElem?_map] at h2
   cases e : vs[i]? with
   | none => rw [e] at h2; cases h2
   | some a => rw [e] at h2; cases h2; rfl
  obtain ⟨u, hu, rv⟩ := r.get ha
  have hp : ps[i]? = some y := by
   rw [← S.pre, List.getElem?_take_of_lt (by omega)]; exact h1
  have ndP : ps.Nodup := by rw [← S.pre]; exact S.nd.sublist (List.take_sublist _ _)
  refine ⟨u, rv, ?_⟩
  rcases S.par y (List.mem_of_getElem? hp) with k | k
  ·exact .inl ⟨k, bindL_get ndP hp hu k⟩
  ·obtain ⟨c, e⟩ := cell_has (n := s.heap.objs.size + 1) k
   refine .inr ⟨.inl k, c, e, ?_⟩
   have q := x.cell y c e
   rw [bindC_get ndP hp hu (by show scope.names.lookup y ≠ _; rw [k]; decide)] at q
   exact q
 ·exact e0.hok.fresh (Nat.le_of_lt (x.above y c (PySem.mem_of_lookup h)))
 ·unfold start
  show _ = N.length
  rw [List.length_append, List.length_map, List.length_replicate]
  omega
theorem fn_of {CX : CXT} {P : Program} {w : World} {K : PySem.W.Frag} {mg : Str -> Option Value} {base : Heap} {k : Nat} {f : Addr} {name qual : Str} {params : Arguments} {body : List Stmt} {scope : Scope} {dV kV doc pm cdv ct oc : Value} {an od : Option Addr}
  {osl : Array (Option Value)} {N ps : List Str} {sp : Sp} (lk : K.lookup f = some ⟨oc, od, .func (PySem.W.fnOf name qual params body scope dV kV doc pm an cdv ct), osl⟩) (hcd : PySem.W.codeIn K cdv qual = true) (S : FnScope N ps scope)
  (len : ∀ vs H Q E, sp vs H Q E -> vs.length = ps.length)
  (hbody : ∀ (A : Around) (outer : List Env) (s : Shared) (H : Hp) (vs : List V) (Q : VK) (E : XK), Room k (A.deeper (envOfC qual scope s.heap.objs.size f cdv)) -> sp vs H Q E ->
   ∃ t, PSs (cxOf CX P w K mg base N qual scope f cdv A outer s H E) body t /\ t { nx := fun _ H' => Q .non H', rt := Q } (start N vs) H) :
  FnOk P w K mg base CX (k + 1) f (PySem.W.fnOf name qual params body scope dV kV doc pm an cdv ct) ps sp := by
 refine ⟨len, fun A outer s H args us vs Q E hr e0 hb r hsp => ?_⟩
 have hl := len _ _ _ _ hsp
 have KX : K.In s.heap := e0.mod.kin.keeps fun b o e => (e0.bs b o e).1
 have lim : s.heap.NoLimit := e0.mod.nolimit.keeps fun b o e => (e0.bs b o e).1
 have hkind : ∀ y ∈ ps.zip us, scope.names.lookup y.1 = some .local \/ (scope.names.lookup y.1 = some .cell /\ ((cellsFrom (s.heap.objs.size + 1) scope.names []).lookup y.1).isSome = true) := fun ⟨n, v⟩ hy => by
  rcases S.par n (List.of_mem_zip hy).1 with q | q
  ·exact .inl q
  ·exact .inr ⟨q, PySem.W.cellsFrom_some _ _ _ (.inl q)⟩
 refine codeAny_call_function hr.depth (KX _ _ lk) rfl S.co S.gen rfl (PySem.W.codeRec_of KX hcd) (hb _ _ _ _ ?_)
 refine wpAny_newFunctionEnv_cells S.kind hkind fun env he s1 x => ?_
 subst he
 refine ⟨lim.keeps x.toInCall.keep, codeAny_func ?_⟩
 obtain ⟨t, ht, hq⟩ := hbody A outer s H vs Q E (hr.deeper _) hsp
 have I : Inv (cxOf CX P w K mg base N qual scope f cdv A outer s H E) [] (start N vs) H s1 := inv_start S hr.hd e0 hl r x
 refine wpAny_mono (ht [] s1 (start N vs) H _ I hq) (fun fl s' hs => ?_) fun e s' hs => hs
 have fin : ∀ {σ' : St} {H' : Hp} {v : V} {u : Value}, Inv (cxOf CX P w K mg base N qual scope f cdv A outer s H E) [] σ' H' s' -> RelV v u -> Q v H' -> CE outer P w H s Q u s' :=
  fun {σ' H' v u} J rv q => ⟨v, H', J.os, J.bare, J.base, J.hok, rv, q⟩
 cases fl with
 | ret u =>
  obtain ⟨v, σ', H', J, rv, q⟩ := hs
  exact fin J rv q
 | next =>
  obtain ⟨σ', H', J, q⟩ := hs
  exact fin (v := V.non) (u := Value.none) J rfl q
 | brk =>
  obtain ⟨_, _, _, q⟩ := hs
  exact False.elim q
 | cont =>
  obtain ⟨_, _, _, q⟩ := hs
  exact False.elim q
end L2
namespace L2
open PySem PySem.Spec PyProof.Rows
section
variable {X : Cx} {x : Str} {p pos : Pos} {e : Expr} {es : List Expr} {t : TA} {id T : String} {r : List V -> Hp -> VK -> Prop}
def tCB (r : List V -> Hp -> VK -> Prop) (t : TA) : TE := fun σ H Q => t σ H fun vs H1 => r vs H1 Q
theorem pe_callB (hc : CallR X (.builtin id) r) (hg : Gl X x) (hm : X.mg x = none) (hv : bootBuiltins x = some (.builtin id)) (ha : PA X (e :: es) t) (hn : x ≠ "__name__" := by decide) (hdb : (x == ("__debug__" : Str)) = false := by decide)
  (he : starEach (e :: es) X.env = (false, eval e X.env) :: starEach es X.env := by rfl) (hpl : (backTo pos (starEach es X.env)).any (·.1) = false := by rfl) : PE X (.Call (.Name x p) (e :: es) [] pos) (tCB r t) := by
 intro pins s σ H Q I h
 refine wpAny_Call_Name_kw (ld_blt I hg hm hv ?_ hn hdb)
 exact PyProof.Rows.callWith_builtin1 (thn (ha pos pins s σ H _ I h) fun us s1 ⟨vs, H1, I1, r1, q1⟩ => hc pins s1 σ H1 vs us Q I1 r1 q1) he hpl
theorem pe_callTy (hc : CallR X (.type T) r) (hg : Gl X x) (hm : X.mg x = none) (hv : bootBuiltins x = some (.type T)) (ha : PA X (e :: es) t) (hn : x ≠ "__name__" := by decide) (hdb : (x == ("__debug__" : Str)) = false := by decide)
  (he : starEach (e :: es) X.env = (false, eval e X.env) :: starEach es X.env := by rfl) (hpl : (backTo pos (starEach es X.env)).any (·.1) = false := by rfl) : PE X (.Call (.Name x p) (e :: es) [] pos) (tCB r t) := by
 intro pins s σ H Q I h
 refine wpAny_Call_Name_kw (ld_blt I hg hm hv ?_ hn hdb)
 exact PyProof.Rows.callWith_type1 (thn (ha pos pins s σ H _ I h) fun us s1 ⟨vs, H1, I1, r1, q1⟩ => hc pins s1 σ H1 vs us Q I1 r1 q1) he hpl
end
end L2
namespace HT
open PySem PyProof.Rows
section
open PySem.SeqAt
open PySem.AutoSeq1 (wpAny_loadPart')
open PySem.MeetsSeq PySem.MeetsSeq2 PySem.MeetsSeq3
end
section
variable {prog : Program} {w : World} {A : Around} {E : Value -> Shared -> Prop} {s : Shared}
theorem cat_tup {t b : Addr} {vs ws : List Value} {Q : Value -> Shared -> Prop} (ht : IsTup s.heap t vs.toArray) (hb : IsTup s.heap b ws.toArray) (hv : vs ≠ [])
  (h1 : ws = [] -> Q (.ref t) s) (h2 : ws ≠ [] -> Q (.ref s.heap.objs.size) { s with heap := s.heap.push { cls := .type "tuple", data := .seq (vs ++ ws).toArray } })
  (hsz : vs.length + ws.length <= sizeLine) : wpAny (model prog w) A (binaryOp .Add (.ref t) (.ref b)) Q E s := by
 obtain ⟨⟨cls, dd, data, sl⟩, ho, hc, n, hd⟩ := id ht
 obtain ⟨⟨cls2, dd2, data2, sl2⟩, ho2, hc2, n2, hd2⟩ := id hb
 simp only at hc hd hc2 hd2
 subst hc hd hc2 hd2
 have e : vs.toArray ++ ws.toArray = (vs ++ ws).toArray := by simp
 by_cases hw : ws = []
 ·exact concat_meets ⟨_, ho, rfl⟩ ⟨_, ho2, rfl⟩ noFill_tuple_add seq_tuple_add PySem.F.slot_tuple_add PySem.F.entry_tuple_add (PySem.F.args_tuple_add_2 _ _)
   (tuple_addW1 t b vs.toArray ws.toArray n n2 dd dd2 sl sl2 (by simpa using hv) (by simp [hw])) ⟨ho, ho2, h1 hw⟩
 ·refine concat_meets ⟨_, ho, rfl⟩ ⟨_, ho2, rfl⟩ noFill_tuple_add seq_tuple_add PySem.F.slot_tuple_add PySem.F.entry_tuple_add (PySem.F.args_tuple_add_2 _ _)
   (tuple_addW2 t b vs.toArray ws.toArray n n2 dd dd2 sl sl2 (by simpa using hv) (by simpa using hw) (by rw [List.size_toArray, List.size_toArray]; exact hsz)) ⟨ho, ho2, ?_⟩
  rw [e]
  exact h2 hw
noncomputable def sIx (n d : Nat) : Option Int -> Nat
 | none => d
 | some v => if v < 0 then (v + (n : Int)).toNat else min v.toNat n
theorem sIx_le (n d : Nat) (hd : d <= n) (o : Option Int) : sIx n d o <= n := by
 cases o with
 | none => exact hd
 | some v =>
  show (if v < 0 then (v + (n : Int)).toNat else min v.toNat n) <= n
  by_cases hv : v < 0
  ·rw [if_pos hv]; omega
  ·rw [if_neg hv]; exact Nat.min_le_right _ _
theorem clip_eq (v : Int) (n d : Nat) : (if v < 0 then max (v + (n : Int)) 0 else min v (n : Int)) = ((sIx n d (some v) : Nat) : Int) := by
 show (if v < 0 then max (v + (n : Int)) 0 else min v (n : Int)) = (((if v < 0 then (v + (n : Int)).toNat else min v.toNat n) : Nat) : Int)
 by_cases hv : v < 0
 ·simp only [if_pos hv]; omega
 ·simp only [if_neg hv]; omega
theorem adjust_gen (lo hi : Option Int) (n : Nat) : Builtin.Slice.sliceAdjust lo hi 1 (n : Int) = (((sIx n 0 lo : Nat) : Int), ((sIx n n hi : Nat) : Int)) := by
 have h1 : ¬ ((1 : Int) < 0) := by omega
 unfold Builtin.Slice.sliceAdjust
 simp only [h1, if_false]
 refine Prod.ext ?_ ?_
 ·cases lo with
  | none => rfl
  | some v => exact clip_eq v n 0
 ·cases hi with
  | none => rfl
  | some v => exact clip_eq v n n
theorem places_gen (i j : Nat) : Builtin.Slice.slicePlaces (i : Int) (j : Int) 1 = j - i := by
 unfold Builtin.Slice.slicePlaces
 have h1 : (1 : Int) > 0 := by omega
 simp only [h1, if_true, Int.ediv_one]
 split <;> omega
theorem slicePart_ {v : Value} {o : Option Int} {Q : Option Int -> Shared -> Prop} (p : IsPart v o) (h : Q o s) : wpAny (model prog w) A (Builtin.Slice.slicePartIndex v) Q E s := by
 cases p with
 | none => exact slicePart_none h
 | int i t => exact slicePart_int h
theorem sliceApplied_gen {sl : Addr} {vl vu : Value} {lo hi : Option Int} {n : Nat} {Q : Int × Int × Nat -> Shared -> Prop} (hs : s.heap.IsSliceOf sl vl vu .none) (pl : IsPart vl lo) (pu : IsPart vu hi)
  (h : Q (((sIx n 0 lo : Nat) : Int), 1, sIx n n hi - sIx n 0 lo) s) : wpAny (model prog w) A (Builtin.Slice.sliceApplied (.ref sl) (pure (n : Int))) Q E s := by
 obtain ⟨os, hos, hcs, hds⟩ := id hs
 unfold Builtin.Slice.sliceApplied Builtin.Slice.sliceFields
 refine wpAny_bind (wpAny_bind (wpAny_field hos hds (x := vl) rfl (wpAny_bind (wpAny_field hos hds (x := vu) rfl (wpAny_bind (wpAny_field hos hds (x := .none) rfl (wpAny_pure ?_)))))))
 refine wpAny_bind (slicePart_none ?_)
 show wpAny _ _ (if ((1 : Int) == 0) = true then _ else _) _ _ s
 rw [if_neg (by decide)]
 refine wpAny_bind (slicePart_ pl (wpAny_bind (slicePart_ pu (wpAny_bind (wpAny_pure ?_)))))
 show wpAny _ _ (match Builtin.Slice.sliceAdjust lo hi 1 (n : Int) with | (lo, hi) => pure (lo, (1 : Int), Builtin.Slice.slicePlaces lo hi 1)) _ _ s
 rw [adjust_gen lo hi n]
 show wpAny _ _ (pure (((sIx n 0 lo : Nat) : Int), (1 : Int), Builtin.Slice.slicePlaces ((sIx n 0 lo : Nat) : Int) ((sIx n n hi : Nat) : Int) 1)) _ _ s
 rw [places_gen]
 exact wpAny_pure h
theorem pick_gen (xs : Array Value) (i k : Nat) : ((List.range k).filterMap fun (m : Nat) => xs[((i : Int) + (m : Int) * 1).toNat]?).toArray = ((xs.toList.drop i).take k).toArray := by
 have e : (fun (m : Nat) => xs[((i : Int) + (m : Int) * 1).toNat]?) = fun m => xs[i + m]? := by
  funext m
  have : ((i : Int) + (m : Int) * 1).toNat = i + m := by omega
  rw [this]
 rw [e]
 have := pick_run xs i k
 rw [List.filterMap_map] at this
 have e2 : ((fun x => xs[x]?) ∘ fun x => i + x) = fun m => xs[i + m]? := rfl
 rw [e2] at this
 rw [this]
theorem getItem_tuple_cut {t sl : Addr} {items : Array Value} {vl vu : Value} {lo hi : Option Int} {Q : Value -> Shared -> Prop} (ht : IsTup s.heap t items) (hs : s.heap.IsSliceOf sl vl vu .none) (pl : IsPart vl lo) (pu : IsPart vu hi)
  (hw : ¬ (sIx items.size 0 lo = 0 /\ sIx items.size items.size hi = items.size))
  (h : Q (.ref s.heap.objs.size) { s with heap := s.heap.push { cls := .type "tuple", data := .seq ((items.toList.drop (sIx items.size 0 lo)).take (sIx items.size items.size hi - sIx items.size 0 lo)).toArray } })
  (hsz : items.size <= sizeLine) : wpAny (model prog w) A (getItem (.ref t) (.ref sl)) Q E s := by
 have htake : sizeOk (.seq ((items.toList.drop (sIx items.size 0 lo)).take (sIx items.size items.size hi - sIx items.size 0 lo)).toArray) := by
  show ((items.toList.drop (sIx items.size 0 lo)).take (sIx items.size items.size hi - sIx items.size 0 lo)).toArray.size <= sizeLine
  rw [List.size_toArray, List.length_take, List.length_drop, Array.length_toList]
  omega
 have hj : sIx items.size items.size hi <= items.size := sIx_le _ _ (Nat.le_refl _) hi
 obtain ⟨os, hos, hcs, hds⟩ := id hs
 have hTs : s.TypeIs (.ref sl) "slice" := ⟨os, hos, hcs⟩
 unfold getItem
 try with_reducible refine wpAny_holding ?_
 first | refine wpAny_bind (wpAny_pure ?_) | skip
 refine wpAny_bind (wpAny_sequenceKey ht.typeIs (by decide) ?_)
 refine wpAny_bind (wpAny_callSpecial?_slot (name := Str.ofString "__getitem__") ht.typeIs PyProof.Rows.slot_tuple_getitem
  (wpAny_call_entry PyProof.Rows.slot_tuple_getitem ht.typeIs entry_tuple_getitem ?_ (args_tuple_getitem _ _)))
 show wpAny _ _ (Builtin.Tuple.tupleItemsOf (.ref t) >>= _) _ _ s
 refine wpAny_bind (tupleItemsOf_ ht ?_)
 refine wpAny_bind (wpAny_typeOf hTs ?_)
 rw [if_pos (by decide)]
 refine wpAny_bind (sliceApplied_gen hs pl pu ?_)
 have hno : ¬ ((((sIx items.size 0 lo : Nat) : Int) == 0 && (1 : Int) == 1 && (sIx items.size items.size hi - sIx items.size 0 lo) == items.size) = true) := by
  intro q
  rw [Bool.and_eq_true, Bool.and_eq_true] at q
  have q1 : ((sIx items.size 0 lo : Nat) : Int) = 0 := eq_of_beq q.1.1
  have q2 : sIx items.size items.size hi - sIx items.size 0 lo = items.size := eq_of_beq q.2
  exact hw ⟨by omega, by omega⟩
 show wpAny _ _ (if (((sIx items.size 0 lo : Nat) : Int) == 0 && (1 : Int) == 1 && (sIx items.size items.size hi - sIx items.size 0 lo) == items.size) = true then _ else _) _ _ s
 rw [if_neg hno, pick_gen]
 first
  | exact wpAny_bind (m := Builtin.Tuple.tupleExact _) (wpAny_newObj_type (wpAny_pure ⟨_, rfl, wpAny_pure h⟩) htake)
  | exact wpAny_bind (m := Builtin.Tuple.tupleExact _) (wpAny_newObj_type (wpAny_bind (wpAny_pure (wpAny_pure ⟨_, rfl, wpAny_pure h⟩))) htake)
  | exact wpAny_bind (wpAny_bind (m := Builtin.Tuple.tupleExact _) (wpAny_newObj_type (wpAny_pure (wpAny_pure ⟨_, rfl, wpAny_pure h⟩)) htake))
  | exact wpAny_bind (wpAny_bind (m := Builtin.Tuple.tupleExact _) (wpAny_newObj_type (wpAny_pure ⟨_, rfl, wpAny_pure h⟩) htake))
end
end HT
namespace L2
open PySem PySem.Spec PyProof.Rows
noncomputable abbrev TO := St -> Hp -> (Option Int -> Hp -> Prop) -> Prop
def PO (X : Cx) (e : Option Expr) (t : TO) : Prop :=
 ∀ (pins : List (Addr × Obj)) (s : Shared) (σ : St) (H : Hp) (Q : Option Int -> Hp -> Prop), Inv X pins σ H s -> t σ H Q ->
  wpAny (model X.prog X.w) X.A (evalPart e X.env) (fun u s' => ∃ o H', Inv X pins σ H' s' /\ IsPart u o /\ Q o H') X.xe s
def tPart (t : TE) : TO := fun σ H Q => t σ H fun x H1 => ∃ i, x = .int i /\ Q (some i) H1
section
variable {X : Cx} {e : Expr} {te : TE} {lo hi : Option Expr} {tl th : TO} {pos p2 : Pos}
theorem po_some (h : PE X e te) : PO X (some e) (tPart te) := by
 intro pins s σ H Q I hw
 rw [evalPart_some]
 refine thn (h pins s σ H _ I hw) fun u s1 ⟨x, H1, I1, r1, q1⟩ => ?_
 obtain ⟨i, rfl, q⟩ := q1
 obtain ⟨t, rfl⟩ := r1
 exact ⟨some i, H1, I1, .int i t, q⟩
def SlR (X : Cx) (r : V -> Option Int -> Option Int -> Hp -> VK -> Prop) : Prop :=
 ∀ (pins : List (Addr × Obj)) (s : Shared) (σ : St) (H : Hp) (x : V) (v vl vu : Value) (lo hi : Option Int) (sl : Addr) (Q : VK), Inv X pins σ H s -> RelV x v -> s.heap.IsSliceOf sl vl vu .none -> IsPart vl lo -> IsPart vu hi -> r x lo hi H Q ->
  ∃ T id, typeLookup (.type T) "__getitem__" = pure (some (.builtin id)) /\ s.TypeIs v T /\ wpAny (model X.prog X.w) X.A (getItem v (.ref sl)) (EP X pins σ Q) X.xe s
theorem SlR.or {r r' : V -> Option Int -> Option Int -> Hp -> VK -> Prop} (h : SlR X r) (h' : SlR X r') : SlR X (fun x lo hi H Q => r x lo hi H Q \/ r' x lo hi H Q) := by
 intro pins s σ H x v vl vu lo hi sl Q I rx hs pl pu q
 rcases q with q | q
 ·exact h pins s σ H x v vl vu lo hi sl Q I rx hs pl pu q
 ·exact h' pins s σ H x v vl vu lo hi sl Q I rx hs pl pu q
def tSl (r : V -> Option Int -> Option Int -> Hp -> VK -> Prop) (te : TE) (tl th : TO) : TE := fun σ H Q => te σ H fun x H1 => tl σ H1 fun l H2 => th σ H2 fun u H3 => r x l u H3 Q
theorem pe_slice {r : V -> Option Int -> Option Int -> Hp -> VK -> Prop} (hr : SlR X r) (he : PE X e te) (hl : PO X lo tl) (hu : PO X hi th) : PE X (.Subscript e (.Slice lo hi none p2) pos) (tSl r te tl th) := by
 intro pins s σ H Q I h
 refine Subscript_ (thn (he pins s σ H _ I h) fun v s1 ⟨x, H1, I1, r1, q1⟩ => ?_)
 refine wpAny_Slice (thn (hl pins s1 σ H1 _ I1 q1) fun vl s2 ⟨l, H2, I2, pl, q2⟩ => thn (hu pins s2 σ H2 _ I2 q2) fun vu s3 ⟨u, H3, I3, pu, q3⟩ => ?_)
 rw [evalPart_none]
 refine wpAny_pure ?_
 have I4 : Inv X pins σ H3 { s3 with heap := s3.heap.push { cls := .type "slice", data := .fields #[vl, vu, .none] } } := I3.kept (t' := s3.toks) fun b ob q => Heap.get?_push_of_some _ q
 obtain ⟨T, id, hT, ht, hg⟩ := hr pins { s3 with heap := s3.heap.push { cls := .type "slice", data := .fields #[vl, vu, .none] } } σ H3 x v vl vu l u s3.heap.objs.size Q I4 r1 (Heap.IsSliceOf.new ..) pl pu q3
 show wpAny (model X.prog X.w) X.A (subscriptTail e (.Slice lo hi none p2) v (.ref s3.heap.objs.size)) (EP X pins σ Q) X.xe { s3 with heap := s3.heap.push { cls := .type "slice", data := .fields #[vl, vu, .none] } }
 exact tail_any (ops := [.ref s3.heap.objs.size, v]) ht hT hg (by with_unfolding_all rfl)
noncomputable def cutV (xs : List V) (lo hi : Option Int) : List V := (xs.drop (HT.sIx xs.length 0 lo)).take (HT.sIx xs.length xs.length hi - HT.sIx xs.length 0 lo)
theorem cutV_length (xs : List V) (lo hi : Option Int) : (cutV xs lo hi).length <= xs.length := by
 unfold cutV
 rw [List.length_take, List.length_drop]
 omega
def rSlT (K : PySem.W.Frag) : V -> Option Int -> Option Int -> Hp -> VK -> Prop := fun x lo hi H Q => ∃ a xs, x = .ref a /\ SqT K H a xs /\
 ¬ (HT.sIx xs.length 0 lo = 0 /\ HT.sIx xs.length xs.length hi = xs.length) /\ ∀ p, H p = none -> Q (.ref p) (upd H p (.tup (cutV xs lo hi)))
theorem sl_tup : SlR X (rSlT X.K) := by
 intro pins s σ H x v vl vu lo hi sl Q I rx hs pl pu h
 obtain ⟨a, xs, rfl, hx, hw, q⟩ := h
 cases rx
 obtain ⟨its, r, ht, hz⟩ := I.tuple hx
 have hlen : its.toArray.size = xs.length := by rw [List.size_toArray]; exact r.length.symm
 refine ⟨"tuple", _, PyProof.Rows.slot_tuple_getitem.lookup, ht.typeIs, ?_⟩
 refine HT.getItem_tuple_cut ht hs pl pu (by rw [hlen]; exact hw) ?_ (by rw [hlen]; exact hz)
 rw [hlen]
 refine ⟨.ref s.heap.objs.size, _, I.laid (t' := s.toks) (o := .tup (cutV xs lo hi)) (fun b ob q => Heap.get?_push_of_some _ q) (Nat.le_refl _) ?_, rfl, q _ (I.hok.fresh (Nat.le_refl _))⟩
 exact ⟨Nat.le_trans (cutV_length xs lo hi) hz, _, (r.drop (HT.sIx xs.length 0 lo)).take (HT.sIx xs.length xs.length hi - HT.sIx xs.length 0 lo), IsTupD.new _ _⟩
noncomputable def rCatT (K : PySem.W.Frag) : R2 := fun x y H Q => ∃ a b xs ys, x = .ref a /\ y = .ref b /\ SqT K H a xs /\ SqT K H b ys /\ xs ≠ [] /\ xs.length + ys.length <= sizeLine /\
 (ys = [] -> Q (.ref a) H) /\ (ys ≠ [] -> ∀ p, H p = none -> Q (.ref p) (upd H p (.tup (xs ++ ys))))
theorem Vals.nil_iff {xs : List V} {us : List Value} (r : Vals xs us) : us = [] ↔ xs = [] := by
 cases r with
 | nil => simp
 | cons _ _ => simp
theorem op_catT : OpR X (binaryOp .Add) (rCatT X.K) := by
 intro pins s σ H x y v u Q I rx ry h
 obtain ⟨a, b, xs, ys, rfl, rfl, ha, hb, hx, hz, q1, q2⟩ := h
 cases rx
 cases ry
 obtain ⟨its, r1, p1, _⟩ := I.tuple ha
 obtain ⟨its2, r2, p2, _⟩ := I.tuple hb
 refine HT.cat_tup p1 p2 (fun z => hx (r1.nil_iff.mp z)) (fun z => ⟨.ref a, H, I, rfl, q1 (r2.nil_iff.mp z)⟩) (fun z => ?_) (by rw [← r1.length, ← r2.length]; exact hz)
 refine ⟨.ref s.heap.objs.size, _, I.laid (t' := s.toks) (o := .tup (xs ++ ys)) (fun b ob q => Heap.get?_push_of_some _ q) (Nat.le_refl _) ?_, rfl, q2 (fun w => z (r2.nil_iff.mpr w)) _ (I.hok.fresh (Nat.le_refl _))⟩
 exact ⟨by rw [List.length_append]; exact hz, _, r1.append r2, IsTupD.new _ _⟩
end
end L2
namespace L2
open PySem PySem.Spec PyProof.Rows
noncomputable def ixN (n : Nat) (i : Int) : Option Nat := if 0 <= i then (if i < n then some i.toNat else none) else if -(n : Int) <= i then some (i + n).toNat else none
noncomputable def atI {α : Type} (xs : List α) (i : Int) : Option α := (ixN xs.length i).bind fun j => xs[j]?
theorem ixN_seq {n : Nat} {i : Int} {j : Nat} (h : ixN n i = some j) : seqIndex? i n = some j /\ j < n /\ -(n : Int) <= i /\ i < n := by
 unfold ixN at h
 by_cases h0 : 0 <= i
 ·rw [if_pos h0] at h
  by_cases h1 : i < n
  ·rw [if_pos h1] at h
   have e : i.toNat = j := Option.some.inj h
   exact ⟨by rw [seqIndex_of h0 h1, e], by omega, by omega, h1⟩
  ·rw [if_neg h1] at h; cases h
 ·rw [if_neg h0] at h
  by_cases h1 : -(n : Int) <= i
  ·rw [if_pos h1] at h
   have e : (i + n).toNat = j := Option.some.inj h
   exact ⟨by rw [seqIndex_neg (by omega) h1, e], by omega, h1, by omega⟩
  ·rw [if_neg h1] at h; cases h
theorem atI_get {α : Type} {xs : List α} {i : Int} {v : α} (h : atI xs i = some v) : ∃ j, seqIndex? i xs.length = some j /\ xs[j]? = some v /\ j < xs.length /\ -(xs.length : Int) <= i /\ i < xs.length := by
 unfold atI at h
 cases e : ixN xs.length i with
 | none => rw [e] at h; cases h
 | some j =>
  rw [e] at h
  obtain ⟨h1, h2, h3, h4⟩ := ixN_seq e
  exact ⟨j, h1, h, h2, h3, h4⟩
def PlainIx (b : Expr) : Prop := ∀ o i, subscripted b false o i = operate [o, i] (getItem o i)
def IxR (X : Cx) (r : R2) : Prop :=
 ∀ (value slice : Expr) (pins : List (Addr × Obj)) (s : Shared) (σ : St) (H : Hp) (x y : V) (v u : Value) (Q : VK), Inv X pins σ H s -> RelV x v -> RelV y u -> r x y H Q ->
  subscripted slice false v u = operate [v, u] (getItem v u) -> wpAny (model X.prog X.w) X.A (subscriptTail value slice v u) (EP X pins σ Q) X.xe s
def MtR (X : Cx) (id : String) (r : V -> List V -> Hp -> VK -> Prop) : Prop :=
 ∀ (pins : List (Addr × Obj)) (s : Shared) (σ : St) (H : Hp) (x : V) (xs : List V) (v : Value) (us : List Value) (Q : VK), Inv X pins σ H s -> RelV x v -> Vals xs us -> r x xs H Q ->
  wpAny (model X.prog X.w) X.A (call (.builtin id) (v :: us)) (EP X pins σ Q) X.xe s
section
variable {X : Cx} {a b : Expr} {ta tb : TE} {pos : Pos}
theorem IxR.or {r r' : R2} (h : IxR X r) (h' : IxR X r') : IxR X (fun x y H Q => r x y H Q \/ r' x y H Q) := by
 intro value slice pins s σ H x y v u Q I rx ry q hs
 rcases q with q | q
 ·exact h value slice pins s σ H x y v u Q I rx ry q hs
 ·exact h' value slice pins s σ H x y v u Q I rx ry q hs
theorem pe_ix {r : R2} (hr : IxR X r) (ha : PE X a ta) (hb : PE X b tb) (hs : PlainIx b) : PE X (.Subscript a b pos) (tOp r ta tb) := by
 intro pins s σ H Q I h
 exact Subscript_ (binT ha hb I h fun v u s2 x y H2 I2 rx ry q => hr a b pins s2 σ H2 x y v u Q I2 rx ry q (hs _ _))
noncomputable def rIxL (K : PySem.W.Frag) : R2 := fun x y H Q => ∃ p xs i v, x = .ref p /\ y = .int i /\ SqL K H p xs /\ atI xs i = some v /\ Q v H
noncomputable def rIxT (K : PySem.W.Frag) : R2 := fun x y H Q => ∃ p xs i v, x = .ref p /\ y = .int i /\ SqT K H p xs /\ atI xs i = some v /\ Q v H
noncomputable def rIxS : R2 := fun x y H Q => ∃ z i c, x = .str z /\ y = .int i /\ z.length <= sizeLine /\ atI z.cps.toList i = some c /\ Q (.str ⟨#[c]⟩) H
theorem ix_list : IxR X (rIxL X.K) := by
 intro value slice pins s σ H x y v u Q I rx ry h hs
 obtain ⟨p, xs, i, z, rfl, rfl, hq, he, q⟩ := h
 cases rx
 obtain ⟨t, rfl⟩ := ry
 obtain ⟨its, r, pl, hz⟩ := I.list hq
 obtain ⟨j, h1, h2, h3, h4, h5⟩ := atI_get he
 obtain ⟨w, ew, rw'⟩ := r.get h2
 have hl := r.length
 have hn := line63
 have fin : EP X pins σ Q w s := ⟨z, H, I, rw', q⟩
 by_cases h0 : 0 <= i
 ·have hj : i.toNat = j := by
   rw [seqIndex_of h0 h5] at h1
   exact Option.some.inj h1
  exact item_listR pl.isList h0 (by omega) (by rw [hj]; simpa using ew) fin hs
 ·have hj : (i + (its.toArray.size : Int)).toNat = j := by
   rw [seqIndex_neg (by omega) h4] at h1
   rw [List.size_toArray, ← hl]
   exact Option.some.inj h1
  exact subscriptTail_builtinR (x := w) pl.isList.typeIs slot_list_getitem.lookup
   (wpAny_getItem_list_neg (Q := fun r s' => r = w /\ EP X pins σ Q r s') pl.isList (by omega) (by rw [List.size_toArray] <;> omega) (by omega) (by rw [hj]; simpa using ew) ⟨rfl, fin⟩) hs
theorem ix_tup : IxR X (rIxT X.K) := by
 intro value slice pins s σ H x y v u Q I rx ry h hs
 obtain ⟨p, xs, i, z, rfl, rfl, hq, he, q⟩ := h
 cases rx
 obtain ⟨t, rfl⟩ := ry
 obtain ⟨its, r, pl, hz⟩ := I.tuple hq
 obtain ⟨j, h1, h2, h3, h4, h5⟩ := atI_get he
 obtain ⟨w, ew, rw'⟩ := r.get h2
 have hl := r.length
 have hn := line63
 have fin : EP X pins σ Q w s := ⟨z, H, I, rw', q⟩
 exact subscriptTail_builtinR (x := w) pl.typeIs slot_tuple_getitem.lookup
  (getItem_tuple (j := j) (Q := fun r s' => r = w /\ EP X pins σ Q r s') pl (by omega) (by omega) (by rw [List.size_toArray, ← hl]; exact h1) (by simpa using ew) ⟨rfl, fin⟩) hs
theorem ix_str : IxR X rIxS := by
 intro value slice pins s σ H x y v u Q I rx ry h hs
 obtain ⟨z, i, c, rfl, rfl, hz, he, q⟩ := h
 obtain ⟨t, rfl⟩ := rx
 obtain ⟨t', rfl⟩ := ry
 obtain ⟨j, h1, h2, h3, h4, h5⟩ := atI_get he
 have hl : z.cps.toList.length = z.length := by simp [Str.length]
 rw [hl] at h1 h4 h5
 have hn := line63
 exact tail_any (typeIs_str s z t) slot_str_getitem.lookup (getItem_str (c := c) (by
  have e1 : decide (i < -(2 ^ 63 : Int)) = false := decide_eq_false (by omega)
  have e2 : decide (i >= 2 ^ 63) = false := decide_eq_false (by omega)
  rw [e1, e2, Bool.or_false]) (by rw [h1]; simpa using h2) ⟨.str ⟨#[c]⟩, H, I.tok _, ⟨_, rfl⟩, q⟩) hs
noncomputable def rIx (K : PySem.W.Frag) : R2 := fun x y H Q => rIxL K x y H Q \/ rIxT K x y H Q \/ rIxS x y H Q
theorem ix_seq : IxR X (rIx X.K) := ix_list.or (ix_tup.or ix_str)
theorem slice_bounds (lo hi : Option Int) (n : Nat) : (sliceBounds lo hi none n).1 = ((HT.sIx n 0 lo : Nat) : Int) /\ (sliceBounds lo hi none n).2.1 = ((HT.sIx n n hi : Nat) : Int) /\ (sliceBounds lo hi none n).2.2 = 1 := by
 refine ⟨?_, ?_, rfl⟩
 ·cases lo with
  | none => simp [sliceBounds, HT.sIx]
  | some i =>
   simp only [sliceBounds, HT.sIx, Option.getD_none, show (1 : Int) > 0 by decide, if_true]
   by_cases h : i < 0
   ·simp only [h, if_true] <;> omega
   ·simp only [h, if_false] <;> omega
 ·cases hi with
  | none => simp [sliceBounds, HT.sIx]
  | some i =>
   simp only [sliceBounds, HT.sIx, Option.getD_none, show (1 : Int) > 0 by decide, if_true]
   by_cases h : i < 0
   ·simp only [h, if_true] <;> omega
   ·simp only [h, if_false] <;> omega
theorem slicePick_cut (its : List Value) (lo hi : Option Int) : slicePick its.toArray lo hi none = ((its.drop (HT.sIx its.length 0 lo)).take (HT.sIx its.length its.length hi - HT.sIx its.length 0 lo)).toArray := by
 obtain ⟨h1, h2, h3⟩ := slice_bounds lo hi its.toArray.size
 unfold slicePick
 rw [h1, h2, h3]
 simp only [sliceRange_one, pick_run, List.size_toArray] <;> rfl
def rSlL (K : PySem.W.Frag) : V -> Option Int -> Option Int -> Hp -> VK -> Prop := fun x lo hi H Q => ∃ a xs, x = .ref a /\ SqL K H a xs /\ ∀ p, H p = none -> Q (.ref p) (upd H p (.lst (cutV xs lo hi)))
theorem sl_list : SlR X (rSlL X.K) := by
 intro pins s σ H x v vl vu lo hi sl Q I rx hs pl pu h
 obtain ⟨a, xs, rfl, hx, q⟩ := h
 cases rx
 obtain ⟨its, r, ht, hz⟩ := I.list hx
 have hlen := r.length
 refine ⟨"list", _, slot_list_getitem.lookup, ht.isList.typeIs, ?_⟩
 refine wpAny_getItem_list_slice ht.isList hs pl pu .none (by simp) ?_ (by rw [List.size_toArray] <;> omega)
 rw [slicePick_cut, ← hlen]
 refine ⟨.ref s.heap.objs.size, _, I.laid (t' := s.toks) (o := .lst (cutV xs lo hi)) (fun b ob q => Heap.get?_push_of_some _ q) (Nat.le_refl _) ?_, rfl, q _ (I.hok.fresh (Nat.le_refl _))⟩
 exact ⟨Nat.le_trans (cutV_length xs lo hi) hz, _, 0, (r.drop (HT.sIx xs.length 0 lo)).take (HT.sIx xs.length xs.length hi - HT.sIx xs.length 0 lo), Heap.get?_push_size _ rfl⟩
theorem call_len_seq : CallR X (.builtin "len") (fun xs H Q => ∃ p ys, xs = [.ref p] /\ (SqL X.K H p ys \/ SqT X.K H p ys) /\ Q (.int ys.length) H) := by
 intro pins s σ H xs us Q I r h
 obtain ⟨p, ys, rfl, hq, q⟩ := h
 obtain ⟨u, rfl, rx⟩ := vals1 r
 cases rx
 have hn := line63
 rcases hq with hq | hq
 ·obtain ⟨its, r', pl, hz⟩ := I.list hq
  have hlen := r'.length
  exact Calls.call_len_list pl.isList (by simp only [List.size_toArray] <;> omega) ⟨.int ys.length, H, I.tok _, ⟨s.toks + 1, by rw [List.size_toArray, hlen]⟩, q⟩
 ·obtain ⟨its, r', pl, hz⟩ := I.tuple hq
  have hlen := r'.length
  exact len_tuple pl (by simp only [List.size_toArray] <;> omega) ⟨.int ys.length, H, I.tok _, ⟨s.toks + 1, by rw [List.size_toArray, hlen]⟩, q⟩
theorem call_list_of : CallR X (.type "list") (fun xs H Q => ∃ p ys, xs = [.ref p] /\ (SqL X.K H p ys \/ SqT X.K H p ys) /\ ∀ l, H l = none -> Q (.ref l) (upd H l (.lst ys))) := by
 intro pins s σ H xs us Q I r h
 obtain ⟨p, ys, rfl, hq, q⟩ := h
 obtain ⟨u, rfl, rx⟩ := vals1 r
 cases rx
 have fin : ∀ (its : List Value), Vals ys its -> ys.length <= sizeLine -> ∀ (h' : Heap) (c' : Nat), (∀ b o', s.heap.get? b = some o' -> h'.get? b = some o') ->
   h'.get? s.heap.objs.size = some { cls := .type "list", dict := none, data := .seq its.toArray c', slots := #[] } -> EP X pins σ Q (.ref s.heap.objs.size) { s with heap := h' } := fun its r' hz h' c' kp e =>
  ⟨.ref s.heap.objs.size, _, I.laid (t' := s.toks) kp (Nat.le_refl _) (show ObjOk X.prog X.w _ h' _ (.lst ys) from ⟨hz, its, c', r', e⟩), rfl, q _ (I.hok.fresh (Nat.le_refl _))⟩
 rcases hq with hq | hq
 ·obtain ⟨its, r', pl, hz⟩ := I.list hq
  have hlen := r'.length
  obtain ⟨o, ho, hc, n, hd⟩ := pl.isList
  exact call_list_seq p (.inl rfl) ho hc hd (fun h' c' kp e => fin its r' hz h' c' kp e) (by simp only [List.size_toArray] <;> omega)
 ·obtain ⟨its, r', pl, hz⟩ := I.tuple hq
  have hlen := r'.length
  obtain ⟨o, ho, hc, n, hd⟩ := pl
  exact call_list_seq p (.inr rfl) ho hc hd (fun h' c' kp e => fin its r' hz h' c' kp e) (by simp only [List.size_toArray] <;> omega)
theorem call_tuple_of : CallR X (.type "tuple") (fun xs H Q => ∃ p ys, xs = [.ref p] /\ ((SqL X.K H p ys /\ ∀ l, H l = none -> Q (.ref l) (upd H l (.tup ys))) \/ (SqT X.K H p ys /\ Q (.ref p) H))) := by
 intro pins s σ H xs us Q I r h
 obtain ⟨p, ys, rfl, h⟩ := h
 obtain ⟨u, rfl, rx⟩ := vals1 r
 cases rx
 rcases h with ⟨hq, q⟩ | ⟨hq, q⟩
 ·obtain ⟨its, r', pl, hz⟩ := I.list hq
  have hlen := r'.length
  refine call_tuple_list pl.isList (fun h' kp => ?_) (by simp only [List.size_toArray] <;> omega)
  have I1 : Inv X pins σ H { s with heap := h' } := I.kept (t' := s.toks) kp
  have I2 : Inv X pins σ (upd H h'.objs.size (.tup ys)) { s with heap := h'.push { cls := .type "tuple", data := .seq its.toArray } } :=
   I1.laid (t' := s.toks) (fun b o e => Heap.get?_push_of_some _ e) (Nat.le_refl _) (show ObjOk X.prog X.w _ _ _ (.tup ys) from ⟨hz, its, r', IsTupD.new _ _⟩)
  exact ⟨.ref h'.objs.size, _, I2, rfl, q _ (I1.hok.fresh (Nat.le_refl _))⟩
 ·obtain ⟨its, r', pl, hz⟩ := I.tuple hq
  exact call_tuple_same pl ⟨.ref p, H, I, rfl, q⟩
def tyV (K : PySem.W.Frag) (T : String) (x : V) (H : Hp) : Prop := match x with
 | .str _ => T = "str"
 | .int _ => T = "int"
 | .ref p => (T = "list" /\ ∃ xs, SqL K H p xs) \/ (T = "tuple" /\ ∃ o, K.lookup p = some o /\ o.cls = .type "tuple" /\ o.dict = none) \/
   (T = "dict" /\ ((∃ kvs, H p = some (.dK kvs)) \/ ∃ kvs, H p = some (.dT kvs))) \/ (T = "set" /\ ∃ S n, H p = some (.set S n))
 | _ => False
theorem tyV_is {pins : List (Addr × Obj)} {σ : St} {H : Hp} {s : Shared} {T : String} {x : V} {v : Value} (I : Inv X pins σ H s) (r : RelV x v) (ty : tyV X.K T x H) :
  s.TypeIs v T /\ ∀ a, v = .ref a -> ∃ ob, s.heap.get? a = some ob /\ ob.dict = none := by
 cases x with
 | str z =>
  obtain ⟨t, rfl⟩ := r
  cases (show T = "str" from ty)
  exact ⟨typeIs_str s z t, fun _ e => nomatch e⟩
 | int i =>
  obtain ⟨t, rfl⟩ := r
  cases (show T = "int" from ty)
  exact ⟨typeIs_int s i t, fun _ e => nomatch e⟩
 | ref p =>
  cases r
  rcases ty with ⟨rfl, xs, hq⟩ | ⟨rfl, o, hk, hc, hd⟩ | ⟨rfl, hk⟩ | ⟨rfl, S, n, hk⟩
  ·obtain ⟨its, _, pl, _⟩ := I.list hq
   refine ⟨pl.isList.typeIs, fun a e => ?_⟩
   cases e
   obtain ⟨o, n, e, c, hd, _⟩ := pl
   exact ⟨o, e, hd⟩
  ·refine ⟨⟨o, I.kIn p o hk, hc⟩, fun a e => ?_⟩
   cases e
   exact ⟨o, I.kIn _ o hk, hd⟩
  ·have z : ∃ o, s.heap.get? p = some o /\ o.ExactDict := by
    rcases hk with ⟨kvs, hk⟩ | ⟨kvs, hk⟩
    ·obtain ⟨_, _, _, _, o, _, _, e, ex, _⟩ := I.hok p _ hk
     exact ⟨o, e, ex⟩
    ·obtain ⟨_, _, _, _, o, _, _, e, ex, _⟩ := I.hok p _ hk
     exact ⟨o, e, ex⟩
   obtain ⟨o, e, ex⟩ := z
   refine ⟨⟨o, e, ex.1⟩, fun a e2 => ?_⟩
   cases e2
   exact ⟨o, e, ex.2.1⟩
  ·obtain ⟨o, _, _, _, e, ex, _⟩ := I.hok p _ hk
   refine ⟨⟨o, e, ex.1⟩, fun a e2 => ?_⟩
   cases e2
   exact ⟨o, e, ex.2.1⟩
 | _ => exact False.elim ty
def tBM (K : PySem.W.Frag) (T : String) (r : V -> List V -> Hp -> VK -> Prop) (to : TE) (t : TA) : TE := fun σ H Q => to σ H fun x H1 => tyV K T x H1 /\ t σ H1 fun xs H2 => r x xs H2 Q
variable {o e : Expr} {es : List Expr} {to : TE} {t : TA} {name : Str} {apos cpos : Pos} {T id : String} {r : V -> List V -> Hp -> VK -> Prop}
theorem pe_bm (pa : PlainAttrs T) (slot : Slot T name id) (hty : typeOf (.builtin id) = pure (.type "method_descriptor")) (hm : MtR X id r) (ho : PE X o to) (ha : PA X (e :: es) t)
  (hbase : attributeBase o name X.env (eval o X.env) = eval o X.env := by rfl)
  (hfew : ((backTo cpos (starEach (e :: es) X.env)).all (fun x => !x.1) && (backToKw cpos (keywordEach [] X.env)).all (fun x => x.1.isSome)
   && decide ((e :: es).length + ([] : List Keyword).length + (if ([] : List Keyword).isEmpty then 0 else 1) < 30)) = true := by rfl)
  (hline : (apos.endLine == cpos.line) = true := by rfl) (hs : starEach (e :: es) X.env = (false, eval e X.env) :: starEach es X.env := by rfl) (hplain : (backTo cpos (starEach es X.env)).any (·.1) = false := by rfl) :
  PE X (.Call (.Attribute o name apos) (e :: es) [] cpos) (tBM X.K T r to t) := by
 intro pins s σ H Q I h
 refine wpAny_Call_method_late hbase hfew hline rfl (thn (ho pins s σ H _ I h) fun v s1 ⟨x, H1, I1, r1, ty, q1⟩ => ?_)
 obtain ⟨h1, h2⟩ := tyV_is I1 r1 ty
 refine ⟨T, id, pa, slot, hty, h1, h2, ?_⟩
 have hA := ha cpos pins s1 σ H1 _ I1 q1
 rw [hs] at hA ⊢
 refine Calls.callWith_builtin (by show (false || (backTo cpos (starEach es X.env)).any (·.1)) = false; rw [hplain] <;> rfl) (Calls.evalArgs_plain ?_)
 exact thn hA fun us s2 ⟨vs, H2, I2, r2, q2⟩ => hm pins s2 σ H2 x vs v us Q I2 r1 r2 q2
/- xs.append(e), list.index on a module's tuple .. are MtR facts of 06m -/
end
end L2
namespace L2
open PySem PySem.Spec PyProof.Rows
def MtM (X : Cx) (id : String) (r : V -> List V -> Hp -> VK -> Prop) : Prop :=
 ∀ (pins : List (Addr × Obj)) (s : Shared) (σ : St) (H : Hp) (x : V) (xs : List V) (v : Value) (us : List Value) (Q : VK), Inv X pins σ H s -> RelV x v -> Vals xs us -> r x xs H Q ->
  wpAny (model X.prog X.w) X.A (call (.builtin id) (v :: us)) (EP X pins σ Q) X.xe s
theorem Vals.one : ∀ {x : V} {us : List Value}, Vals [x] us -> ∃ u, us = [u] /\ RelV x u
 | _, _, .cons r .nil => ⟨_, rfl, r⟩
section
variable {X : Cx} {pins : List (Addr × Obj)} {σ : St} {H : Hp} {s : Shared} {l b : Addr} {xs ys zs : List V}
theorem Inv.lset {its its' : List Value} {n : Nat} {f : Array Value -> Array Value} {t' : Nat} (I : Inv X pins σ H s) (hH : H l = some (.lst xs))
  (e : s.heap.get? l = some { cls := .type "list", data := .seq its.toArray n }) (hf : f its.toArray = its'.toArray) (hv : Vals ys its') (hz : ys.length <= sizeLine) :
  Inv X pins σ (upd H l (.lst ys)) { s with heap := s.heap.update l (Obj.mapSeq f), toks := t' } := by
 have q := PySem.IsL.update e f
 rw [hf] at q
 refine I.write (x := l) (e := l) (by rw [hH]; exact trivial) (.inl rfl) (fun b' u hb hu => (Heap.get?_update_other s.heap (Obj.mapSeq f) (Ne.symm hb)).trans hu) ⟨_, q⟩ ?_
 exact ⟨hz, its', _, hv, q⟩
theorem Inv.lnew {its : List Value} {t' : Nat} (I : Inv X pins σ H s) (hv : Vals ys its) (hz : ys.length <= sizeLine) :
  Inv X pins σ (upd H s.heap.objs.size (.lst ys)) { s with heap := s.heap.push { cls := .type "list", data := .seq its.toArray }, toks := t' } :=
 I.laid (fun _ _ q => Heap.get?_push_of_some _ q) (Nat.le_refl _) ⟨hz, its, 0, hv, Heap.get?_push_size _ rfl⟩
theorem Inv.fresh (I : Inv X pins σ H s) : H s.heap.objs.size = none := I.hok.fresh (Nat.le_refl _)
theorem Inv.lstM (I : Inv X pins σ H s) (hH : H l = some (.lst xs)) : xs.length <= sizeLine /\ ∃ (its : List Value) (n : Nat), Vals xs its /\ xs.length = its.length /\ s.heap.get? l = some { cls := .type "list", data := .seq its.toArray n } := by
 obtain ⟨z, its, n, r, e⟩ := I.hok l _ hH
 exact ⟨z, its, n, r, r.length, e⟩
end
section
variable {X : Cx}
def rAppend : V -> List V -> Hp -> VK -> Prop := fun x vs H Q => ∃ l xs y, x = .ref l /\ vs = [y] /\ H l = some (.lst xs) /\ xs.length < sizeLine /\ Q .non (upd H l (.lst (xs ++ [y])))
theorem mt_append : MtM X "list.append" rAppend := by
 intro pins s σ H x vs v us Q I rx rv h
 obtain ⟨l, xs, y, rfl, rfl, hH, hz, q⟩ := h
 cases rx
 obtain ⟨u, rfl, ru⟩ := rv.one
 obtain ⟨z, its, n, r, hl, e⟩ := I.lstM hH
 refine call_meets F.slot_list_append ⟨_, e, rfl⟩ F.entry_list_append (F.args_list_append_2 _ _) (PySem.list_append l its.toArray n u (by rw [List.size_toArray]; omega)) ⟨e, ?_⟩
 refine ⟨.non, _, I.lset (its' := its ++ [u]) hH e (by simp) (r.append (.cons ru .nil)) ?_, rfl, q⟩
 rw [List.length_append, List.length_singleton]
 omega
noncomputable def rCat : R2 := fun x y H Q => ∃ l b xs zs, x = .ref l /\ y = .ref b /\ H l = some (.lst xs) /\ H b = some (.lst zs) /\ xs.length + zs.length <= sizeLine /\ ∀ p, H p = none -> Q (.ref p) (upd H p (.lst (xs ++ zs)))
theorem op_cat : OpR X (binaryOp .Add) rCat := by
 intro pins s σ H x y v u Q I rx ry h
 obtain ⟨l, b, xs, zs, rfl, rfl, hH, hB, hz, q⟩ := h
 cases rx
 cases ry
 obtain ⟨z, its, n, r, hl, e⟩ := I.lstM hH
 obtain ⟨z2, its2, n2, r2, hl2, e2⟩ := I.lstM hB
 refine PySem.P.add_list e e2 ?_ (by rw [List.size_toArray, List.size_toArray]; omega)
 have ea : its.toArray ++ its2.toArray = (its ++ its2).toArray := by simp
 rw [ea]
 exact ⟨.ref _, _, I.lnew (t' := s.toks) (r.append r2) (by rw [List.length_append]; omega), rfl, q _ I.fresh⟩
end
section
variable {prog : Program} {w : World} {A : Around} {E : Value -> Shared -> Prop} {s : Shared}
end
section
variable {X : Cx}
end
end L2
namespace L2
open PySem PySem.Spec PyProof.Rows
section
variable {κ : Type} [DecidableEq κ]
noncomputable def valV (kvs : List (κ × V)) (k : κ) : Option V := (kvs.find? fun kv => decide (kv.1 = k)).map (·.2)
noncomputable def putK (kvs : List (κ × V)) (k : κ) (v : V) : List (κ × V) :=
 if (kvs.any fun kv => decide (kv.1 = k)) = true then kvs.map (fun kv => if kv.1 = k then (kv.1, v) else kv) else kvs ++ [(k, v)]
theorem valV_pos {p : κ × V} {r : List (κ × V)} {k : κ} (e : p.1 = k) : valV (p :: r) k = some p.2 := by simp [valV, List.find?_cons, e]
theorem valV_neg {p : κ × V} {r : List (κ × V)} {k : κ} (e : ¬ p.1 = k) : valV (p :: r) k = valV r k := by simp [valV, List.find?_cons, e]
theorem valV_any (k : κ) : ∀ kvs : List (κ × V), (kvs.any fun kv => decide (kv.1 = k)) = (valV kvs k).isSome
 | [] => rfl
 | p :: r => by
  rw [List.any_cons]
  by_cases e : p.1 = k
  ·simp only [valV_pos e, decide_eq_true e, Bool.true_or, Option.isSome_some]
  ·rw [valV_neg e, decide_eq_false e, Bool.false_or]; exact valV_any k r
theorem length_putK (kvs : List (κ × V)) (k : κ) (v : V) : (putK kvs k v).length <= kvs.length + 1 := by
 unfold putK
 split
 ·rw [List.length_map]; omega
 ·rw [List.length_append, List.length_cons, List.length_nil]; omega
theorem RelO.isSome_eq {o : Option V} {u : Option Value} (r : RelO o u) : o.isSome = u.isSome := by
 cases o with
 | none => cases u with
  | none => rfl
  | some _ => exact (show False from r).elim
 | some _ => cases u with
  | none => exact (show False from r).elim
  | some _ => rfl
theorem KV.val {kvs : List (κ × V)} {vs : List (κ × Value)} (r : KV kvs vs) (k : κ) : RelO (valV kvs k) (valueAt vs k) := by
 unfold KV at r
 induction r with
 | nil => exact True.intro
 | @cons p q ps qs h t ih =>
  obtain ⟨h1, h2⟩ := h
  by_cases e : p.1 = k
  ·have e' : q.1 = k := h1.symm.trans e
   have b : valueAt (q :: qs) k = some q.2 := by simp [valueAt, List.find?_cons, e']
   rw [valV_pos e, b]; exact h2
  ·have e' : ¬ q.1 = k := fun z => e (h1.trans z)
   have b : valueAt (q :: qs) k = valueAt qs k := by simp [valueAt, List.find?_cons, e']
   rw [valV_neg e, b]; exact ih
theorem KV.any {kvs : List (κ × V)} {vs : List (κ × Value)} (r : KV kvs vs) (k : κ) : (kvs.any fun kv => decide (kv.1 = k)) = vs.any fun kv => decide (kv.1 = k) := by
 unfold KV at r
 induction r with
 | nil => rfl
 | cons h t ih => rw [List.any_cons, List.any_cons, ih, h.1]
theorem KV.repl {kvs : List (κ × V)} {vs : List (κ × Value)} (r : KV kvs vs) (k : κ) {y : V} {u : Value} (ry : RelV y u) :
  KV (kvs.map fun kv => if kv.1 = k then (kv.1, y) else kv) (vs.map fun kv => if kv.1 = k then (kv.1, u) else kv) := by
 unfold KV at r ⊢
 induction r with
 | nil => exact .nil
 | @cons p q ps qs h t ih =>
  rw [List.map_cons, List.map_cons]
  refine .cons ?_ ih
  obtain ⟨h1, h2⟩ := h
  by_cases e : p.1 = k
  ·rw [if_pos e, if_pos (h1.symm.trans e)]; exact ⟨h1, ry⟩
  ·rw [if_neg e, if_neg (fun z => e (h1.trans z))]; exact ⟨h1, h2⟩
theorem KV.put {kvs : List (κ × V)} {vs : List (κ × Value)} (r : KV kvs vs) (k : κ) {y : V} {u : Value} (ry : RelV y u) : KV (putK kvs k y) (stored vs k u) := by
 unfold putK stored
 rw [r.any k]
 by_cases e : (vs.any fun kv => decide (kv.1 = k)) = true
 ·rw [if_pos e, if_pos e]; exact r.repl k ry
 ·rw [if_neg e, if_neg e]; exact Paired.snoc r ⟨rfl, ry⟩
theorem KV.length {kvs : List (κ × V)} {vs : List (κ × Value)} (r : KV kvs vs) : kvs.length = vs.length := Paired.length r
end
theorem kV_is {P : Program} {w : World} {k : Key} {u : Value} (r : RelV (kV k) u) : (mixKind P w).is k u = true := by
 cases k with
 | inl i => obtain ⟨t, e⟩ := (show ∃ t, u = Value.int i t from r); subst e; exact mixKind_int P w i t
 | inr x => obtain ⟨t, e⟩ := (show ∃ t, u = Value.str x t from r); subst e; exact mixKind_str P w x t
theorem items_are {P : Program} {w : World} : ∀ {ks : List Key} {us : List Value}, Vals (ks.map kV) us -> ItemsAre (mixKind P w) ks us
 | [], _, r => by rw [List.map_nil] at r; cases r; exact .nil
 | k :: ks, _, r => by
  rw [List.map_cons] at r
  cases r with
  | cons h t => exact .cons (kV_is h) (items_are t)
abbrev KT (H : Hp) : List (List Key × V) -> List (List Key × Addr × Value) -> Prop := Paired fun p q => p.1 = q.1 /\ H q.2.1 = some (.tup (p.1.map kV)) /\ RelV p.2 q.2.2
theorem KT.val {H : Hp} {kvs : List (List Key × V)} {xs : List (List Key × Addr × Value)} (r : KT H kvs xs) (k : List Key) : RelO (valV kvs k) ((atKey xs k).map (·.2)) := by
 induction r with
 | nil => exact True.intro
 | @cons p q ps qs h t ih =>
  obtain ⟨h1, _, h2⟩ := h
  by_cases e : p.1 = k
  ·have e' : q.1 = k := h1.symm.trans e
   have b : atKey (q :: qs) k = some q.2 := by simp [atKey, List.find?_cons, e']
   rw [valV_pos e, b]; exact h2
  ·have e' : ¬ q.1 = k := fun z => e (h1.trans z)
   have b : atKey (q :: qs) k = atKey qs k := by simp [atKey, List.find?_cons, e']
   rw [valV_neg e, b]; exact ih
theorem KT.repl {H : Hp} {kvs : List (List Key × V)} {xs : List (List Key × Addr × Value)} (r : KT H kvs xs) (k : List Key) {y : V} {u : Value} (ry : RelV y u) :
  KT H (kvs.map fun kv => if kv.1 = k then (kv.1, y) else kv) (xs.map (putAt k u)) := by
 induction r with
 | nil => exact .nil
 | @cons p q ps qs h t ih =>
  rw [List.map_cons, List.map_cons]
  refine .cons ?_ ih
  obtain ⟨h1, h2, h3⟩ := h
  unfold putAt
  by_cases e : p.1 = k
  ·rw [if_pos e, if_pos (h1.symm.trans e)]; exact ⟨h1, h2, ry⟩
  ·rw [if_neg e, if_neg (fun z => e (h1.trans z))]; exact ⟨h1, h2, h3⟩
theorem KT.put {H : Hp} {kvs : List (List Key × V)} {xs : List (List Key × Addr × Value)} (r : KT H kvs xs) (k : List Key) {b : Addr} {y : V} {u : Value} (hb : H b = some (.tup (k.map kV))) (ry : RelV y u) :
  KT H (putK kvs k y) (storedH xs k b u) := by
 have e : (kvs.any fun kv => decide (kv.1 = k)) = (atKey xs k).isSome := by
  rw [valV_any, (r.val k).isSome_eq, Option.isSome_map]
 unfold putK storedH
 rw [e]
 by_cases q : (atKey xs k).isSome = true
 ·rw [if_pos q, if_pos q]; exact r.repl k ry
 ·rw [if_neg q, if_neg q]; exact Paired.snoc r ⟨rfl, hb, ry⟩
theorem KT.keeps {H H' : Hp} {kvs : List (List Key × V)} {xs : List (List Key × Addr × Value)} (r : KT H kvs xs) (ht : ∀ b ys, H b = some (.tup ys) -> H' b = some (.tup ys)) : KT H' kvs xs :=
 Paired.mapP r fun _ _ z => ⟨z.1, ht _ _ z.2.1, z.2.2⟩
section
variable {P : Program} {w : World} {H : Hp} {h : Heap} {a : Addr}
theorem rd_of {u : HO} (ok : HOk P w H h) (e : Rd H a u) : ObjOk P w H h a u := e.ok ok
theorem dk_rd {kvs : List (Key × V)} (ok : HOk P w H h) (e : Rd H a (.dK kvs)) : kvs.length <= sizeLine /\ (a == sysModules) = false /\ ∃ vs, KV kvs vs /\ h.DictOf (mixKind P w) a vs :=
 show ObjOk P w H h a (.dK kvs) from rd_of ok e
theorem dk_of {kvs : List (Key × V)} (ok : HOk P w H h) (e : H a = some (.dK kvs)) : kvs.length <= sizeLine /\ (a == sysModules) = false /\ ∃ vs, KV kvs vs /\ h.DictOf (mixKind P w) a vs := dk_rd ok (.inl e)
theorem key_of {ks : List Key} (ok : HOk P w H h) (e : H a = some (.tup (ks.map kV))) : (tupleKind (mixKind P w)).is h ks a := by
 obtain ⟨_, its, r, ⟨o, h1, h2, n, h3⟩, _⟩ := (show ObjOk P w H h a (.tup (ks.map kV)) from ok a _ e)
 exact ⟨o, its.toArray, n, h1, h2, h3, by simpa using items_are r⟩
theorem dt_rd {kvs : List (List Key × V)} (ok : HOk P w H h) (e : Rd H a (.dT kvs)) : kvs.length <= sizeLine /\ (a == sysModules) = false /\
  ∃ xs, KT H kvs xs /\ h.DictOfH (tupleKind (mixKind P w)) a xs := by
 obtain ⟨z, y, xs, r, o, es, ep, h1, h2, h3, h4, h5⟩ := (show ObjOk P w H h a (.dT kvs) from rd_of ok e)
 refine ⟨z, y, xs, r, o, es, ep, h1, h2, h3, h4, fun x hx => ?_, h5⟩
 have all : ∀ {l : List (List Key × V)} {m : List (List Key × Addr × Value)}, KT H l m -> ∀ x ∈ m, (tupleKind (mixKind P w)).is h x.1 x.2.1 := by
  intro l m q
  induction q with
  | nil => intro x hx; exact nomatch hx
  | @cons p q ps qs hq t ih =>
   intro x hx
   rcases List.mem_cons.mp hx with e | hx
   ·subst e
    exact key_of ok (by rw [← hq.1]; exact hq.2.1)
   ·exact ih x hx
 exact all r x hx
theorem dt_of {kvs : List (List Key × V)} (ok : HOk P w H h) (e : H a = some (.dT kvs)) : kvs.length <= sizeLine /\ (a == sysModules) = false /\
  ∃ xs, KT H kvs xs /\ h.DictOfH (tupleKind (mixKind P w)) a xs := dt_rd ok (.inl e)
end
def DGet (H : Hp) (a : Addr) (y : V) (r : Option V) : Prop :=
 (∃ kvs k, Rd H a (.dK kvs) /\ y = kV k /\ r = valV kvs k) \/ ∃ kvs k b, Rd H a (.dT kvs) /\ y = .ref b /\ H b = some (.tup (k.map kV)) /\ r = valV kvs k
def DPut (H : Hp) (a : Addr) (y v : V) (H' : Hp) : Prop :=
 (∃ kvs k, H a = some (.dK kvs) /\ y = kV k /\ kvs.length < sizeLine /\ H' = upd H a (.dK (putK kvs k v))) \/
 ∃ kvs k b, H a = some (.dT kvs) /\ y = .ref b /\ H b = some (.tup (k.map kV)) /\ kvs.length < sizeLine /\ H' = upd H a (.dT (putK kvs k v))
theorem DPut.t {H : Hp} {a b : Addr} {kvs : List (List Key × V)} {k : List Key} {v : V} (e : H a = some (.dT kvs)) (eb : H b = some (.tup (k.map kV))) (hl : kvs.length < sizeLine) :
  DPut H a (.ref b) v (upd H a (.dT (putK kvs k v))) := .inr ⟨kvs, k, b, e, rfl, eb, hl, rfl⟩
section
variable {X : Cx} {pins : List (Addr × Obj)} {σ : St} {H : Hp} {s : Shared} {a : Addr} {y v : V} {u r : Value} {o : Option V} {A : Around} {E : Value -> Shared -> Prop}
theorem Inv.big (I : Inv X pins σ H s) : sysModules < s.heap.objs.size := by
 have h : mainGlobals < s.heap.objs.size := (I.mod.glob.keeps I.bk).lt
 exact Nat.lt_trans (by decide) h
theorem d_getItem {Q : Value -> Shared -> Prop} (hu : A.units + 1 < cLine) (I : Inv X pins σ H s) (g : DGet H a y (some v)) (ry : RelV y u) (h : ∀ w' s', Inv X pins σ H s' -> RelV v w' -> Q w' s') :
  wpAny (model X.prog X.w) A (getItem (.ref a) u) Q E s := by
 rcases g with ⟨kvs, k, e, ey, l⟩ | ⟨kvs, k, b, e, ey, eb, l⟩
 ·subst ey
  obtain ⟨z, hd, vs, rel, dd⟩ := dk_rd I.hok e
  obtain ⟨w', hw, rw'⟩ := RelO.some_of (v := v) (o := valueAt vs k) (by rw [l]; exact rel.val k)
  exact wpAny_getItem_of (kV_is ry) dd.mapOf hw (h w' _ (I.tok _) rw')
 ·subst ey
  cases (show u = Value.ref b from ry)
  obtain ⟨z, hd, xs, rel, dd⟩ := dt_rd I.hok e
  obtain ⟨w', hw, rw'⟩ := RelO.some_of (v := v) (o := (atKey xs k).map (·.2)) (by rw [l]; exact rel.val k)
  obtain ⟨p, hp, hp2⟩ := Option.map_eq_some_iff.mp hw
  refine wpAny_getItem_heap (tupleKind_room_in1 hu) (key_of I.hok eb) dd hp ?_
  rw [hp2]
  exact h w' _ (I.tok _) rw'
theorem d_write {h' : Heap} {t' : Nat} {ob : HO} (I : Inv X pins σ H s) (mu : Mut (H a)) (hs : Heap.SameBut a s.heap h') (he : ∃ q, h'.get? a = some q) (new : ObjOk X.prog X.w (upd H a ob) h' a ob) :
  Inv X pins σ (upd H a ob) { s with heap := h', toks := t' } :=
 I.write (x := a) (e := a) mu (.inl rfl) (fun b q hb z => (hs.2 b hb).trans z) he new
theorem dk_new {P : Program} {w : World} {H' : Hp} {h' : Heap} {kvs : List (Key × V)} {vs : List (Key × Value)} (z : kvs.length <= sizeLine) (hd : (a == sysModules) = false) (rel : KV kvs vs) (dd : h'.DictOf (mixKind P w) a vs) :
  ObjOk P w H' h' a (.dK kvs) := ⟨z, hd, vs, rel, dd⟩
theorem d_setItem {H' : Hp} {Q : Unit -> Shared -> Prop} (hu : A.units + 1 < cLine) (I : Inv X pins σ H s) (g : DPut H a y v H') (ry : RelV y u) (rv : RelV v r) (h : ∀ s', Inv X pins σ H' s' -> Q () s') :
  wpAny (model X.prog X.w) A (setItem (.ref a) u r) Q E s := by
 rcases g with ⟨kvs, k, e, ey, l, eH⟩ | ⟨kvs, k, b, e, ey, eb, l, eH⟩
 ·subst ey eH
  obtain ⟨z, hd, vs, rel, dd⟩ := dk_of I.hok e
  have hz : vs.length <= sizeLine := by rw [← rel.length]; exact z
  have hl : (putK kvs k v).length <= sizeLine := by have := length_putK kvs k v; omega
  refine wpAny_setItem_pairs (hsz := hz) (kV_is ry) dd fun h' dd' hs => h _ ?_
  have he : ∃ q, h'.get? a = some q := let ⟨q, _, _, hq, _⟩ := dd'; ⟨q, hq⟩
  exact d_write I (by rw [e]; exact True.intro) hs he (dk_new hl hd (rel.put k rv) dd')
 ·subst ey eH
  cases (show u = Value.ref b from ry)
  obtain ⟨z, hd, xs, rel, dd⟩ := dt_of I.hok e
  have hz : xs.length <= sizeLine := by rw [← Paired.length rel]; exact z
  have hl : (putK kvs k v).length <= sizeLine := by have := length_putK kvs k v; omega
  refine wpAny_setItem_heap (hsz := hz) (tupleKind_room_in1 hu) (key_of I.hok eb) dd fun h' dd' hs => h _ ?_
  obtain ⟨q, es, ep, hq, h2, h3, h4, _, h5⟩ := dd'
  refine d_write I (by rw [e]; exact True.intro) hs ⟨q, hq⟩ ⟨hl, hd, _, (rel.put k eb rv).keeps fun c ys ec => ?_, q, es, ep, hq, h2, h3, h4, h5⟩
  rw [upd_ne (ne_of ec e (fun z => nomatch z))]
  exact ec
end
section
variable {X : Cx} {pins : List (Addr × Obj)} {σ : St} {H : Hp} {s : Shared} {a : Addr} {kvs : List (Key × V)} {k : Key} {u : Value} {A : Around} {E : Value -> Shared -> Prop}
end
def NoSl (i : Expr) : Prop := ∀ ov iv, subscripted i false ov iv = operate [ov, iv] (getItem ov iv)
theorem subD_of {prog : Program} {w : World} {A : Around} {E : Value -> Shared -> Prop} {s : Shared} {env : Env} {value slice : Expr} {pos : Pos} {T id : String} {Q : Value -> Shared -> Prop}
  (hl : typeLookup (.type T) "__getitem__" = pure (some (.builtin id))) (hs : NoSl slice)
  (h : wpAny (model prog w) A (eval value env) (fun o s₁ => wpAny (model prog w) A (eval slice env) (fun i s₂ => s₂.TypeIs o T /\ wpAny (model prog w) A (getItem o i) Q E s₂) E s₁) E s) :
  wpAny (model prog w) A (eval (.Subscript value slice pos) env) Q E s := by
 refine Subscript_ (wpAny_mono h (fun o s₁ h₁ => wpAny_mono h₁ (fun i s₂ h₂ => ?_) fun _ _ x => x) fun _ _ x => x)
 obtain ⟨hT, h₂⟩ := h₂
 unfold subscriptTail
 refine wpAny_bind ?_
 rw [getitemInPython_of_ne hT.not_modules]
 refine wpAny_bind (wpAny_specialOf hT hl ?_)
 have fin : wpAny (model prog w) A (subscripted slice false o i) (fun r s₃ => wpAny (model prog w) A (letTemporaryGo value o r >>= fun _ => pure r) Q E s₃) E s₂ := by
  rw [hs o i]
  exact wpAny_operating (wpAny_mono h₂ (fun r s₃ h₃ => wpAny_bind (wpAny_letTemporaryGo (wpAny_pure h₃))) fun _ _ x => x)
 first
  | exact wpAny_pure (wpAny_bind fin)
  | exact wpAny_bind (wpAny_pure (wpAny_bind fin))
  | exact wpAny_bind fin
theorem dict_typeIs {X : Cx} {pins : List (Addr × Obj)} {σ : St} {H : Hp} {s : Shared} {a : Addr} {y : V} {o : Option V} (I : Inv X pins σ H s) (g : DGet H a y o) : s.TypeIs (.ref a) "dict" := by
 rcases g with ⟨kvs, k, e, _, _⟩ | ⟨kvs, k, b, e, _, _, _⟩
 ·obtain ⟨_, _, vs, _, dd⟩ := dk_rd I.hok e
  exact dd.typeIs
 ·obtain ⟨_, _, xs, _, dd⟩ := dt_rd I.hok e
  exact dd.typeIs
def tDGet (td ty : TE) : TE := fun σ H Q => td σ H fun x H1 => ty σ H1 fun y H2 => ∃ a v, x = .ref a /\ DGet H2 a y (some v) /\ Q v H2
section
variable {X : Cx} {o i e value : Expr} {pos pos' tpos : Pos} {td ty tv : TE}
theorem pe_dget (hu : X.A.units + 1 < cLine) (ho : PE X o td) (hi : PE X i ty) (hs : NoSl i) : PE X (.Subscript o i pos) (tDGet td ty) := by
 intro pins s σ H Q I h
 refine subD_of PySem.F.slot_dict_getitem.lookup hs (thn (ho pins s σ H _ I h) fun u s1 ⟨x, H1, I1, rx, q1⟩ => thn (hi pins s1 σ H1 _ I1 q1) fun iv s2 ⟨y, H2, I2, ry, a, v, ex, g, q2⟩ => ?_)
 subst ex
 obtain rfl : u = Value.ref a := rx
 exact ⟨dict_typeIs I2 g, d_getItem hu I2 g ry fun w' s3 I3 rw' => ⟨v, H2, I3, rw', q2⟩⟩
end
theorem dt_empty {P : Program} {w : World} {H : Hp} (h : Heap) (hb : sysModules < h.objs.size) : ObjOk P w H (h.push { cls := .type "dict", data := .dict #[] }) h.objs.size (.dT []) :=
 ⟨Nat.zero_le _, beq_eq_false_iff_ne.mpr (Ne.symm (Nat.ne_of_lt hb)), [], .nil, _, #[], 0, Heap.get?_push_size _ rfl, ⟨rfl, rfl, rfl⟩, rfl, rfl, List.nodup_nil⟩
def tDNewT : TE := fun _ H Q => ∀ p, H p = none -> Q (.ref p) (upd H p (.dT []))
section
variable {X : Cx} {pos : Pos}
theorem pe_dnewT : PE X (.Dict [] [] pos) tDNewT := fun pins s σ H Q I h =>
 wpAny_Dict_empty ⟨.ref s.heap.objs.size, _, I.laid (a := s.heap.objs.size) (o := .dT []) (t' := s.toks) (fun _ _ q => Heap.get?_push_of_some _ q) (Nat.le_refl _) (dt_empty s.heap I.big), rfl, h _ (I.hok.fresh (Nat.le_refl _))⟩
end
structure M2 (X : Cx) (o : Expr) (m : Str) (apos : Pos) (e f : Expr) (cpos : Pos) : Prop where
 base : attributeBase o m X.env (eval o X.env) = eval o X.env
 few : ((backTo cpos (starEach [e, f] X.env)).all (fun x => !x.1) && (backToKw cpos (keywordEach [] X.env)).all (fun x => x.1.isSome)
  && decide (([e, f] : List Expr).length + ([] : List Keyword).length + (if ([] : List Keyword).isEmpty then 0 else 1) < 30)) = true
 line : (apos.endLine == cpos.line) = true
 trees : backTo cpos (starEach [e, f] X.env) = [(false, eval e X.env), (false, eval f X.env)]
section
variable {X : Cx} {pins : List (Addr × Obj)} {σ : St} {H : Hp} {s : Shared} {a : Addr} {y d : V} {u r : Value} {o : Option V} {A : Around} {E : Value -> Shared -> Prop}
end
section
variable {X : Cx} {o e f : Expr} {apos cpos : Pos} {td ty tx : TE}
end
section
variable {X : Cx} {pins : List (Addr × Obj)} {σ : St} {H : Hp} {s : Shared} {a : Addr} {kvs : List (Key × V)} {A : Around} {E : Value -> Shared -> Prop}
end
section
variable {X : Cx} {pins : List (Addr × Obj)} {σ : St} {H : Hp} {s : Shared} {a : Addr} {y : V} {u : Value} {A : Around} {E : Value -> Shared -> Prop}
end
end L2
namespace Att
open PySem PySem.W PySem.Calls PyProof.Rows
theorem ints_of_wellAll {P : Params} {h : Heap} : ∀ (ns : List Int) (vs : List Value), WellAll P h vs (ns.map WData.int) -> IntsAre vs ns := by
 intro ns
 induction ns with
 | nil =>
  intro vs w
  rw [List.map_nil] at w
  cases w
  exact .nil
 | cons n ns ih =>
  intro vs w
  rw [List.map_cons] at w
  cases w with
  | cons a b =>
   cases a
   exact .cons _ _ (ih _ b)
theorem script_of {l : OpenLaw} {n : Nat} (hn : l.most = some n) {P : Params} {h : Heap} {args : List WData} {vals : List Value}
  (hpre : l.row.toRowW.claim.pre args = true) (hwl : WellAll P h vals args) :
  ∃ a vs ns, vals = [Value.ref a] /\ args = [WData.list (ns.map WData.int)] /\ h.get? a = some { cls := .type "list", data := .seq vs.toArray } /\ IntsAre vs ns /\ ns.length <= n := by
 have hsh : WShape.hasAll [] args [.list .int] = true := (pre_splitW hpre).1
 have hc : l.pre.holds [] { args := args } = true := (pre_splitW hpre).2
 obtain ⟨d, r, rfl, h1, h2⟩ := hasAllW_cons hsh
 obtain rfl := hasAllW_nil h2
 obtain ⟨xs, rfl, h3⟩ := hasW_list h1
 obtain ⟨ns, rfl⟩ := items_int h3
 have hlen : ns.length <= n := by
  unfold OpenLaw.pre at hc
  have h4 : (WTm.not (.lt (.lit (.int (n : Int))) (.len (.arg 0)))).holds [] { args := [.list (ns.map .int)] } = true := by
   have h4 := (holds_andW hc).1
   rw [hn] at h4
   exact h4
  have h5 := condW_of h4 (w_not (w_lt w_lit (w_len_list (w_arg rfl))))
  rw [List.length_map] at h5
  refine Nat.le_of_not_lt fun q => ?_
  have q' : (n : Int) < ((ns.length : Nat) : Int) := by omega
  first
   | (rw [decide_eq_true q'] at h5; exact absurd h5 (by decide))
   | (simp at h5; omega)
 cases hwl with
 | cons w1 w2 =>
  cases w2
  cases w1 with
  | list ho hall => exact ⟨_, _, ns, rfl, rfl, ho, ints_of_wellAll ns _ hall, hlen⟩
theorem post_true (l : OpenLaw) (args : List WData) : l.row.toRowW.claim.post args (.bool true) args = true :=
 postW_of (r := l.row.toRowW) (X := (true == true))
  (show WShape.has [] (.bool true) .bool = true by first | rfl | decide | simp [WShape.has, WShape.arms, WShape.armsAll])
  (show (WTm.eq .res (.lit (.bool true))).value [] { args := args, res := some (.bool true), after := args } = some (.bool (true == true)) from w_eq_bool (w_res rfl) w_lit) rfl
theorem attach_call {l : OpenLaw} {n : Nat} {q : Program} {loose : List Str} {XP : (Str -> Option Value) -> Heap -> Prop} {YP : World -> Heap -> Prop} {d : DefRec}
  (hn : l.most = some n) (hdf : d.params.defaults = [])
  (call : ∀ (w : World) (s₀ s₁ : Shared) (mg mb : Str -> Option Value) (fa : Addr) (o : Obj) (pm cd doc : Value) (a : Addr) (vs : List Value) (ns : List Int),
   Ground q loose [] XP w s₀ mg mb s₁.heap -> YP w s₁.heap ->
   s₁.heap.get? fa = some o -> o.data = .func (docDef d.name d.params d.body d.scope pm cd doc) -> s₁.heap.CodeRec cd d.name -> mg d.name = some (.ref fa) ->
   s₁.heap.get? a = some { cls := .type "list", data := .seq vs.toArray } -> IntsAre vs ns -> ns.length <= n -> s₁.gens = #[] ->
   codeAny (model l.prog w) callerA (.call (.ref fa) ⟨[.ref a], []⟩) (fun r s' => r = .ok (.ret (.bool true)) /\ OldK s₁.heap s'.heap /\ s'.os = s₁.os /\ AllBare s'.gens) s₁) :
  WalkO q loose XP YP l.row.toRowW d [] (fun f vs => PySem.call f vs) := by
 intro w s₀ s₁ mg mb G Y fa o pm cd doc dV kV ho hd hcd hD hmg hg args vals as hpre hlay hrd hwl hlo
 obtain rfl : dV = .none := Dflts.none hD hdf
 obtain rfl : kV = .none := Dflts.noKw hD
 obtain ⟨a, vs, ns, rfl, rfl, hobj, hints, hlen⟩ := script_of hn hpre hwl
 refine enter_call (codeAny_mono (call w s₀ s₁ mg mb fa o pm cd doc a vs ns G Y ho (fd_plain hd) hcd hmg hobj hints hlen hg) fun r s' hq => ?_)
 obtain ⟨rfl, h2, h3, h4⟩ := hq
 exact ⟨.inl ⟨.bool true, .bool true, [], rfl, fun _ => rfl, .bool true, post_true l _, fun _ => ⟨List.Pairwise.nil, fun _ hm => (nomatch hm)⟩⟩, h2, h3, h4⟩
section
variable {prog : Program} {w : World} {A : Around} {E : Value -> Shared -> Prop} {s : Shared} {K : Frag}
end
end Att
namespace L2
open PySem PySem.Spec PyProof.Rows
theorem vals_ints : ∀ {vs : List Value} {ns : List Int}, IntsAre vs ns -> Vals (ns.map V.int) vs
 | _, _, .nil => .nil
 | _, _, .cons n t h => .cons ⟨t, rfl⟩ (vals_ints h)
def Only (H : Hp) : Prop := ∀ b, H b = none \/ ∃ o xs, H b = some (.frz o (.lst xs))
theorem law_call {P : Program} {w : World} {K : PySem.W.Frag} {mg mb : Str -> Option Value} {CX : CXT} {k : Nat} {fa a : Addr} {fd : FuncData} {x : Str} {sp : Sp} {s₁ : Shared} {vs : List Value} {ns : List Int}
  (KX : K.In s₁.heap) (hns : s₁.heap.Ns mainGlobals mg) (hb : s₁.heap.Ns builtinsNs mb) (hbb : ∀ x : Str, x ≠ "__name__" -> mb x = bootBuiltins x) (hlim : s₁.heap.NoLimit) (hg : s₁.gens = #[])
  (ha : s₁.heap.get? a = some { cls := .type "list", data := .seq vs.toArray }) (hi : IntsAre vs ns) (hl : ns.length <= sizeLine) (hr : Room k callerA)
  (F : ∀ base : Heap, K.In base -> base.Ns mainGlobals mg -> FnOk P w K mg base CX k fa fd [x] sp) (hbind : ∀ (s : Shared) (u : Value), BindsTo s fd ⟨[u], []⟩ [(x, u)])
  (hsp : ∀ H : Hp, Only H -> SqL K H a (ns.map V.int) -> sp [.ref a] H (fun v _ => v = .bl true) fun _ _ _ => False)
  (hCX : ∀ H e s', CX [] H s₁ (fun _ _ _ => False) e s' -> False) :
  codeAny (model P w) callerA (.call (.ref fa) ⟨[.ref a], []⟩) (fun r s' => r = .ok (.ret (.bool true)) /\ OldK s₁.heap s'.heap /\ s'.os = s₁.os /\ AllBare s'.gens) s₁ := by
 have rv := vals_ints hi
 have lenV := hi.length
 -- from an abstract heap in which nothing but the script may be tracked
 have core : ∀ H : Hp, Only H -> SqL K H a (ns.map V.int) -> HOk P w H s₁.heap -> (∀ b, H b ≠ none -> b = a) -> (H a ≠ none -> K.lookup a = none) ->
   codeAny (model P w) callerA (.call (.ref fa) ⟨[.ref a], []⟩) (fun r s' => r = .ok (.ret (.bool true)) /\ OldK s₁.heap s'.heap /\ s'.os = s₁.os /\ AllBare s'.gens) s₁ := by
  intro H hO hS hok hA hK
  have base_of : ∀ {b : Addr} {o : Obj}, s₁.heap.get? b = some o -> H b = none -> (hidT s₁.heap H).get? b = some o := fun e n => hidT_get e n
  have noA : ∀ {b : Addr} {o : Obj} {es : Array DictEntry} {ep : Nat}, s₁.heap.get? b = some o -> o.data = .dict es ep -> H b = none := fun {b o es ep} e d => by
   cases q : H b with
   | none => rfl
   | some u =>
    have e' : b = a := hA b (by rw [q]; simp)
    subst e'
    rw [ha] at e; cases e
    have d' : Data.seq vs.toArray _ = Data.dict es ep := d
    cases d'
  have nsK : ∀ {b : Addr} {m : Str -> Option Value}, s₁.heap.Ns b m -> (hidT s₁.heap H).Ns b m := fun {b m} ⟨o, es, ep, e, d, r⟩ => ⟨o, es, ep, base_of e (noA e d), d, r⟩
  have hKb : K.In (hidT s₁.heap H) := fun b o e => base_of (KX b o e) (by
   cases q : H b with
   | none => rfl
   | some u =>
    have e' : b = a := hA b (by rw [q]; simp)
    subst e'
    rw [hK (by rw [q]; simp)] at e; cases e)
  have hM : Mod K mg (hidT s₁.heap H) := ⟨hKb, nsK hns, ⟨mb, nsK hb, hbb⟩, let ⟨mc, h1, h2⟩ := hlim; ⟨mc, nsK h1, h2⟩⟩
  have e0 : Env0 P w K mg (hidT s₁.heap H) callerA [] s₁ H := ⟨rfl, hM, fun b o e => of_hidT e, Nat.le_of_eq (hidT_size _ _), trivial, fun b hb => absurd (show b ∈ ([] : List Addr) from hb) (by simp), hok, .of_eq hg⟩
  refine codeAny_mono ((F _ hKb (nsK hns)).run callerA [] s₁ H ⟨[.ref a], []⟩ [.ref a] [.ref a] _ _ hr e0 (hbind s₁ (.ref a)) (.cons rfl .nil) (hsp H hO hS)) fun r s' h => ?_
  cases r with
  | error e => exact (hCX H e s' h).elim
  | ok fl =>
   cases fl with
   | next => exact False.elim h
   | brk => exact False.elim h
   | cont => exact False.elim h
   | ret u =>
    obtain ⟨v, H', os, bare, un, hok', r', q⟩ := h
    have q' : v = .bl true := q
    subst q'
    obtain rfl : u = Value.bool true := r'
    refine ⟨rfl, OldK.of_keep fun b o e => ?_, os, bare⟩
    cases q : H b with
    | none => exact un.keep b o e q (by intro z; exact absurd (show b ∈ ([] : List Addr) from z) (by simp)) (by simp)
    | some u =>
     rcases hO b with z | ⟨ob, xs, z⟩
     ·rw [q] at z; cases z
     ·have z2 := un.frzs b ob _ z
      obtain ⟨e1, _⟩ := hok b _ z
      obtain ⟨e2, _⟩ := hok' b _ z2
      rw [e] at e1; cases e1
      exact e2
 cases hk : K.lookup a with
 | some o =>
  -- the script is one of the module's own objects
  have e := KX a o hk
  rw [ha] at e
  cases e
  refine core (fun _ => none) (fun _ => .inl rfl) (.inr ⟨_, vs.toArray, _, hk, rfl, ⟨rfl, rfl⟩, rfl, by rw [List.size_toArray, lenV]; exact hl, by simpa using rv⟩) (fun b u z => by have z' : (none : Option HO) = some u := z; cases z') (fun b z => absurd rfl z) fun z => absurd rfl z
 | none =>
  refine core (fun b => if b = a then some (.frz { cls := .type "list", data := .seq vs.toArray } (.lst (ns.map V.int))) else none) (fun b => ?_) (.inl (.inr ⟨{ cls := .type "list", data := .seq vs.toArray }, if_pos rfl⟩)) (fun b u z => ?_) (fun b z => ?_) fun _ => hk
  ·by_cases hb : b = a
   ·exact .inr ⟨_, _, if_pos hb⟩
   ·exact .inl (if_neg hb)
  ·by_cases hb : b = a
   ·have z' := (if_pos hb).symm.trans z
    cases z'
    subst hb
    exact ⟨ha, by rw [List.length_map]; exact hl, vs, _, rv, ha⟩
   ·have z' := (if_neg hb).symm.trans z
    cases z'
  ·by_cases hb : b = a
   ·exact hb
   ·exact absurd (if_neg hb) z
end L2
namespace L2
open PySem PySem.Spec PyProof.Rows
theorem walk_of {l : PySem.W.OpenLaw} {n k : Nat} {q : Program} {loose : List Str} {XP : (Str -> Option Value) -> Heap -> Prop} {YP : World -> Heap -> Prop} {d : DefRec} {K : Params -> PySem.W.Frag} {CX : World -> CXT} {sp : World -> Sp} {x : Str}
  (hn : l.most = some n) (hn2 : n <= sizeLine) (hdf : d.params.defaults = []) (hr : Room k callerA)
  (hY : ∀ (w : World) (h : Heap), YP w h -> (K w.params).In h)
  (F : ∀ (w : World) (mg : Str -> Option Value) (fa : Addr) (h : Heap), (K w.params).In h -> h.Ns mainGlobals mg -> mg d.name = some (.ref fa) ->
   ∃ fd : FuncData, (∀ (s : Shared) (u : Value), BindsTo s fd ⟨[u], []⟩ [(x, u)]) /\
    ∀ base : Heap, (K w.params).In base -> base.Ns mainGlobals mg -> FnOk l.prog w (K w.params) mg base (CX w) k fa fd [x] (sp w))
  (hsp : ∀ (w : World) (H : Hp) (a : Addr) (ns : List Int), ns.length <= n -> Only H -> SqL (K w.params) H a (ns.map V.int) -> sp w [.ref a] H (fun v _ => v = .bl true) fun _ _ _ => False)
  (hCX : ∀ (w : World) (H : Hp) (s : Shared) (e : Value) (s' : Shared), CX w [] H s (fun _ _ _ => False) e s' -> False) :
  PySem.W.WalkO q loose XP YP l.row.toRowW d [] (fun f vs => PySem.call f vs) := by
 refine Att.attach_call hn hdf fun w s₀ s₁ mg mb fa o pm cd doc a vs ns G Y ho hd hcd hmg hobj hints hlen hg => ?_
 have KX := hY w _ Y
 obtain ⟨fd, hb, hF⟩ := F w mg fa _ KX G.T.g hmg
 exact law_call KX G.T.g G.T.b G.T.builtins G.T.nolimit hg hobj hints (Nat.le_trans hlen hn2) hr hF hb (fun H hO hS => hsp w H a ns hlen hO hS) fun H e s' => hCX w H s₁ e s'
theorem walk_ofK {l : PySem.W.OpenLaw} {n k : Nat} {q : Program} {loose : List Str} {XP : (Str -> Option Value) -> Heap -> Prop} {YP : World -> Heap -> Prop} {d : DefRec} {K : Params -> PySem.W.Frag} {CX : CXT} {sp : PySem.W.Frag -> Sp} {x : Str}
  (hn : l.most = some n) (hn2 : n <= sizeLine) (hdf : d.params.defaults = []) (hr : Room k callerA)
  (hY : ∀ (w : World) (h : Heap), YP w h -> (K w.params).In h)
  (F : ∀ (w : World) (mg : Str -> Option Value) (fa : Addr) (h : Heap), (K w.params).In h -> h.Ns mainGlobals mg -> mg d.name = some (.ref fa) ->
   ∃ fd : FuncData, (∀ (s : Shared) (u : Value), BindsTo s fd ⟨[u], []⟩ [(x, u)]) /\
    ∀ base : Heap, (K w.params).In base -> base.Ns mainGlobals mg -> FnOk l.prog w (K w.params) mg base CX k fa fd [x] (sp (K w.params)))
  (hsp : ∀ (K : PySem.W.Frag) (H : Hp) (a : Addr) (ns : List Int), ns.length <= n -> Only H -> SqL K H a (ns.map V.int) -> sp K [.ref a] H (fun v _ => v = .bl true) fun _ _ _ => False)
  (hCX : ∀ (H : Hp) (s : Shared) (e : Value) (s' : Shared), CX [] H s (fun _ _ _ => False) e s' -> False) :
  PySem.W.WalkO q loose XP YP l.row.toRowW d [] (fun f vs => PySem.call f vs) :=
 walk_of (K := K) (CX := fun _ => CX) (sp := fun w => sp (K w.params)) hn hn2 hdf hr hY F (fun w H a ns h1 h2 h3 => hsp (K w.params) H a ns h1 h2 h3) fun _ H s e s' => hCX H s e s'
end L2
/- THE LAST THEOREM (shape; LID, My.* are yours):
   My.Adr: a structure of the addresses that your layer names (classes, functions); My.Txt K t: a structure (Prop) of the equations over K;
   My.txt_mk : {K} {implicit addresses ..} (e1 : nsIn K mainGlobals "law" = some (some (.ref f))) (e2 : K.lookup f = some ⟨oc, od, .func (fnOf "law" "law" params body scope dV kV doc pm an cdv ct), sl⟩) (e3 : codeIn K cdv "law" = true) .. : ∃ t, My.Txt K t
set_option maxRecDepth 100000 in
set_option maxHeartbeats 0 in
theorem PySem.Challenge.cw_LID_holds : PySem.Challenge.rw_LID.Holds := by
 w_on; o_law; k_head; (case hw => w_witness2)
 k_fill
 refine L2.walk_of (l := PySem.Challenge.rw_LID) (n := 63) (k := 40) (x := "script") (CX := fun w => ..) (sp := fun _ => My.sp_law) rfl (by decide) rfl ⟨rfl, by decide, by decide⟩ (fun w h Y => PySem.W.kIn_of Y) ?F ?S ?C
 case F =>
  intro w mg fa h KX G hmg
  have T : ∃ t, My.Txt (L2.KOf KX) t := by
   dsimp only [L2.KOf]                          -- K must stand as «<heap const> w.params» for k_is
   refine' My.txt_mk ?e1 ?e2 ?e3 ..
   (case e1 => PySem.W.k_is)                    -- in the order: a name -> its address -> its object -> its parts
   (case e2 => PySem.W.k_is)
   ..
  obtain ⟨t, T⟩ := T
  have e0 := hmg.symm.trans (PySem.W.mg_of KX G T.law)
  cases e0                                       -- fa is the law's own address
  exact ⟨_, fun s u => .of_eq rfl, fun base kb nb => My.law_fn T kb nb⟩     -- if «.of_eq rfl» comes too early: refine' ⟨_, ?b, fun base kb nb => My.law_fn T kb nb⟩; exact fun s u => .of_eq rfl
 case S => exact fun w H a ns hl hO hS => ..
 case C => exact ..
(the tactic k_is has no namespace: write k_is) -/
namespace L2
open PySem PySem.Spec PyProof.Rows
noncomputable def defArgs (s : Stmt) : Arguments := match s with
 | .FunctionDef _ a _ _ _ _ _ _ _ _ => a
 | _ => { posonlyargs := [], args := [], vararg := none, kwonlyargs := [], kw_defaults := [], kwarg := none, defaults := [] }
noncomputable def defBody (s : Stmt) : List Stmt := match s with
 | .FunctionDef _ _ b _ _ _ _ _ _ _ => b
 | _ => []
noncomputable def defScope (s : Stmt) : Scope := match s with
 | .FunctionDef _ _ _ _ _ _ sc _ _ _ => sc
 | _ => { kind := .function, names := [], isGenerator := false, isCoroutine := false }
noncomputable abbrev CX0 : CXT := fun _ _ _ _ _ _ => False
abbrev E0 : XK := fun _ _ _ => False
theorem pass0 {X : Cx} : Passes CX0 X E0 := fun _ _ _ _ _ _ _ h => h.elim
structure Fun (K : PySem.W.Frag) (x qual : Str) (st : Stmt) (f : Addr) (fd : FuncData) : Prop where
 ex : ∃ (oc : Value) (od : Option Addr) (kV doc pm : Value) (an : Option Addr) (cdv ct : Value) (osl : Array (Option Value)),
  fd = PySem.W.fnOf x qual (defArgs st) (defBody st) (defScope st) .none kV doc pm an cdv ct /\ K.lookup f = some ⟨oc, od, .func fd, osl⟩ /\ PySem.W.codeIn K cdv qual = true
 kp : PySem.W.keepIn K (.ref f) = true
section
variable {P : Program} {w : World} {K : PySem.W.Frag} {mg : Str -> Option Value} {base : Heap}
theorem Fun.ok {x qual : Str} {st : Stmt} {f : Addr} {fd : FuncData} {N ps : List Str} {k : Nat} {sp : Sp} (F : Fun K x qual st f fd) (S : FnScope N ps (defScope st)) (len : ∀ vs H Q E, sp vs H Q E -> vs.length = ps.length)
  (hbody : ∀ (cdv : Value) (A : Around) (outer : List Env) (s : Shared) (H : Hp) (vs : List V) (Q : VK) (E : XK), Room k (A.deeper (envOfC qual (defScope st) s.heap.objs.size f cdv)) -> sp vs H Q E ->
   ∃ t, PSs (cxOf CX0 P w K mg base N qual (defScope st) f cdv A outer s H E).nox (defBody st) t /\ t { nx := fun _ H' => Q .non H', rt := Q } (start N vs) H) : FnOk P w K mg base CX0 (k + 1) f fd ps sp := by
 obtain ⟨oc, od, kV, doc, pm, an, cdv, ct, osl, rfl, lk, hcd⟩ := F.ex
 refine fn_of lk hcd S len fun A outer s H vs Q E hr hsp => ?_
 obtain ⟨t, h, q⟩ := hbody cdv A outer s H vs Q E hr hsp
 exact ⟨t, h.nox, q⟩
theorem Fun.binds {x qual : Str} {st : Stmt} {f : Addr} {fd : FuncData} {ps : List Str} (F : Fun K x qual st f fd)
  (h : ∀ (kV doc pm : Value) (an : Option Addr) (cdv ct : Value) (us : List Value), us.length = ps.length -> bindArgs (PySem.W.fnOf x qual (defArgs st) (defBody st) (defScope st) .none kV doc pm an cdv ct) ⟨us, []⟩ = pure (ps.zip us)) : Binds K fd ps [] := by
 obtain ⟨oc, od, kV, doc, pm, an, cdv, ct, osl, rfl, lk, hcd⟩ := F.ex
 exact .all (h kV doc pm an cdv ct)
theorem fun_mk {x qual : Str} {st : Stmt} {f : Addr} {oc : Value} {od an : Option Addr} {osl : Array (Option Value)} {kV doc pm cdv ct : Value} (l : K.lookup f = some ⟨oc, od, .func (PySem.W.fnOf x qual (defArgs st) (defBody st) (defScope st) .none kV doc pm an cdv ct), osl⟩)
  (c : PySem.W.codeIn K cdv qual = true) (k : PySem.W.keepIn K (.ref f) = true) : Fun K x qual st f (PySem.W.fnOf x qual (defArgs st) (defBody st) (defScope st) .none kV doc pm an cdv ct) := ⟨⟨oc, od, kV, doc, pm, an, cdv, ct, osl, rfl, l, c⟩, k⟩
end
section
variable {X : Cx}
end
end L2
namespace HS
open PySem PySem.Spec
theorem below_go (xs : Array Nat) (j : Nat) (hs : xs.toList.Pairwise (· < ·)) : ∀ (fuel lo hi : Nat), hi - lo <= fuel -> lo <= hi -> hi <= xs.size ->
  (∀ i (h : i < xs.size), i < lo -> xs[i] < j) -> (∀ i (h : i < xs.size), hi <= i -> j <= xs[i]) ->
  SetTable.below.go xs j fuel lo hi <= xs.size /\ (∀ i (h : i < xs.size), i < SetTable.below.go xs j fuel lo hi -> xs[i] < j) /\ (∀ i (h : i < xs.size), SetTable.below.go xs j fuel lo hi <= i -> j <= xs[i]) := by
 intro fuel
 have mono : ∀ i k (hi : i < xs.size) (hk : k < xs.size), i <= k -> xs[i] <= xs[k] := fun i k hi hk h => by
  rcases Nat.lt_or_ge i k with h | h
  ·have := List.pairwise_iff_getElem.mp hs i k (by simpa using hi) (by simpa using hk) h
   simp at this; omega
  ·have : i = k := by omega
   subst this; omega
 induction fuel with
 | zero =>
  intro lo hi hf hle hsz h1 h2
  have : lo = hi := by omega
  subst this
  exact ⟨hsz, h1, h2⟩
 | succ fuel ih =>
  intro lo hi hf hle hsz h1 h2
  unfold SetTable.below.go
  by_cases hlt : lo < hi
  ·rw [if_pos hlt]
   dsimp only
   have hm : (lo + hi) / 2 < xs.size := by omega
   have hg : xs.getD ((lo + hi) / 2) j = xs[(lo + hi) / 2] := by simp [Array.getD, hm]
   rw [hg]
   split
   ·rename_i hc
    exact ih _ _ (by omega) (by omega) hsz (fun i h hi' => Nat.lt_of_le_of_lt (mono i _ h hm (by omega)) hc) h2
   ·rename_i hc
    exact ih _ _ (by omega) (by omega) (by omega) h1 (fun i h hi' => Nat.le_trans (by omega) (mono _ i hm h hi'))
  ·rw [if_neg hlt]
   have : lo = hi := by omega
   subst this
   exact ⟨hsz, h1, h2⟩
theorem below_ok {xs : Array Nat} (j : Nat) (hs : xs.toList.Pairwise (· < ·)) :
  SetTable.below xs j <= xs.size /\ (∀ i (h : i < xs.size), i < SetTable.below xs j -> xs[i] < j) /\ (∀ i (h : i < xs.size), SetTable.below xs j <= i -> j <= xs[i]) :=
 below_go xs j hs xs.size 0 xs.size (by omega) (by omega) (by omega) (fun _ _ h => by omega) (fun _ h h' => by omega)
def Rises (t : SetTable) : Prop := t.plain = true -> t.place.toList.Pairwise (· < ·)
theorem insert_rises {xs : Array Nat} {j : Nat} (hs : xs.toList.Pairwise (· < ·)) (hn : xs[SetTable.below xs j]? ≠ some j) : (SetTable.insertAt xs (SetTable.below xs j) j).toList.Pairwise (· < ·) := by
 obtain ⟨b1, b2, b3⟩ := below_ok j hs
 rw [SetTable.toList_insertAt]
 generalize SetTable.below xs j = p at *
 rw [List.pairwise_append]
 refine ⟨hs.sublist (List.take_sublist _ _), List.pairwise_cons.mpr ⟨fun y hy => ?_, hs.sublist (List.drop_sublist _ _)⟩, fun x hx y hy => ?_⟩
 ·obtain ⟨i, hi, rfl⟩ := List.mem_iff_getElem.mp hy
  simp only [List.length_drop, Array.length_toList] at hi
  rw [List.getElem_drop, Array.getElem_toList]
  have h1 := b3 (p + i) (by omega) (by omega)
  rcases Nat.lt_or_eq_of_le h1 with h | h
  ·exact h
  ·exfalso
   rcases Nat.eq_zero_or_pos i with rfl | hi0
   ·exact hn (by rw [Array.getElem?_eq_getElem (by omega)]; simp only [Nat.add_zero] at h; rw [← h])
   ·have h2 := b3 p (by omega) (by omega)
    have h3 := List.pairwise_iff_getElem.mp hs p (p + i) (by simp; omega) (by simp; omega) (by omega)
    simp only [Array.getElem_toList] at h3
    omega
 ·obtain ⟨i, hi, rfl⟩ := List.mem_iff_getElem.mp hx
  simp only [List.length_take, Array.length_toList] at hi
  rw [List.getElem_take, Array.getElem_toList]
  have h1 := b2 i (by omega) (by omega)
  rcases List.mem_cons.mp hy with rfl | hy
  ·exact h1
  ·obtain ⟨k, hk, rfl⟩ := List.mem_iff_getElem.mp hy
   simp only [List.length_drop, Array.length_toList] at hk
   rw [List.getElem_drop, Array.getElem_toList]
   have := b3 (p + k) (by omega) (by omega)
   omega
theorem laid_rises {mask finger moves : Nat} {led plain : Bool} {hs : Array Int} {t' : SetTable} {o : Array Nat} (e : SetTable.laid mask finger moves led plain hs = some (t', o)) : t'.place.toList.Pairwise (· < ·) /\ t'.led = led := by
 unfold SetTable.laid at e
 simp only [bind, Option.bind, pure] at e
 split at e
 ·cases e
 ·cases e
  refine ⟨?_, rfl⟩
  rw [List.pairwise_map, List.pairwise_filterMap]
  refine List.Pairwise.imp ?_ (List.pairwise_lt_range)
  intro a b hab x hx y hy
  simp only [Option.map_eq_some_iff] at hx hy
  obtain ⟨_, _, rfl⟩ := hx
  obtain ⟨_, _, rfl⟩ := hy
  exact hab
end HS
namespace HS
open PySem PySem.Spec PyProof.Rows
noncomputable def val (e : Int × Value) : Int := match e.2 with | .int n _ => n | _ => 0
def IsE (e : Int × Value) : Prop := ∃ n t, e = (hashInt n, .int n t)
structure TabOk (led : Bool) (es : Array (Int × Value)) (t : SetTable) (xs : List Int) : Prop where
 el : ∀ e ∈ es.toList, IsE e
 pm : (es.toList.map val).Perm xs
 nd : xs.Nodup
 bd : es.size < scanBound
 ft : t.fits es.size = true
 rs : Rises t
 ld : t.led = led
structure TabW (led : Bool) (es : Array (Int × Value)) (t : SetTable) : Prop where
 bd : es.size < scanBound
 ft : t.fits es.size = true
 rs : Rises t
 ld : t.led = led
def SetG (led : Bool) (o : Obj) (xs : List Int) : Prop := ∃ es ep t, o.ExactSet /\ o.data = .set es ep t /\ TabOk led es t xs
section
variable {prog : Program} {w : World} {A : Around} {E : Value -> Shared -> Prop} {s : Shared}
noncomputable def plus (xs : List Int) (k : Int) : List Int := if k ∈ xs then xs else xs ++ [k]
theorem store_ok {a : Addr} {o : Obj} {es es' : Array (Int × Value)} {ep : Nat} {t t' : SetTable} {Q : Unit -> Shared -> Prop} (ho : s.heap.get? a = some o) (hx : o.ExactSet) (hd : o.data = .set es ep t)
  (hb : es'.size < scanBound)
  (h : ∀ h', Heap.SameBut a s.heap h' -> h'.get? a = some { o with data := .set es' (ep + 1) t' } -> Q () { s with heap := h' }) : wpAny (model prog w) A (storeSet a es' t') Q E s := by
 refine wpAny_storeSet_of ho hd (h _ (Heap.SameBut.update s.heap a _) ?_) (fits_of_scanBound hb)
 have q := Heap.get?_update_self (Obj.putSet es' t') ho (by rw [putSet_of es' t' hd]; rfl)
 rwa [putSet_of es' t' hd] at q
end
end HS
namespace HS
open PySem PySem.Spec PyProof.Rows
noncomputable def metOf (xs : List Int) (ns : List Int) : List Int := ns.foldl plus xs
noncomputable abbrev freshSet (led : Bool) : Obj := { cls := .type "set", dict := none, data := .set #[] 0 (.fresh 0 0 led) }
section
variable {prog : Program} {w : World} {A : Around} {R : Result -> Shared -> Prop} {I : Addr} {fp wr : List Addr} {G : Array GenState -> Array GenState -> Prop} {n : Nat} {P : Nat -> Value -> Prop} {St : Nat -> Shared -> Prop}
end
section
variable {prog : Program} {w : World} {A : Around} {E : Value -> Shared -> Prop} {s : Shared}
theorem new_ok (a : Value) {Q₁ : Value -> Shared -> Prop} (h : Q₁ (.ref s.heap.objs.size) { s with heap := s.heap.push (freshSet (!w.params.followText "set-order")) }) :
  codeAny (model prog w) A (.call (.builtin "set.__new__") ⟨[.type "set", a], []⟩) (wants Q₁ E) s := by
 refine codeAny_of_tree (show wpAny _ A.in1 (do checkBuiltinCall "set.__new__" ⟨[.type "set", a], []⟩; again (.builtin "set.__new__" ⟨[.type "set", a], []⟩)) _ _ s from ?_)
 refine wpAny_bind (wpAny_of_eq (F.newCall_set_1 a) (wpAny_pure ⟨plainId_quiet F.plain_set_new _, codeAny_builtin F.entry_set_new ?_⟩)); rw [Around.under_plainId F.plain_set_new _]
 have hsub := sub_set_self; unfold Builtin.«set.__new__» Builtin.Frozenset.newClass
 obtain ⟨hp, g, d, tk, os⟩ := s; dsimp only; wp_walk
 refine wpAny_askSetting (wpAny_pure ?_); dsimp only; simp only [newObj]
 exact wpAny_bind (wpAny_alloc (wpAny_pure (wpAny_pure h)))
end
end HS
namespace HS
open PySem PySem.Spec PyProof.Rows
theorem slot_si_next : Slot "set_iterator" "__next__" "set_iterator.__next__" := by
 refine .of (owner := "set_iterator") (n := "__next__") ?_ (by decide +kernel) (by decide +kernel) (by decide +kernel) ?_ ?_
 ·rw [typeLookup_type, builtinLookup_eq_fast]; kernel_rfl
 ·first | exact .inl (by decide +kernel) | exact .inr (by decide +kernel)
 ·rw [isSubtype_type]; kernel_rfl
theorem entry_si_next : entryFor table "set_iterator.__next__" = some Builtin.«set_iterator.__next__» := entryFor_of_tree (by kernel_rfl)
theorem args_si_next (a : Value) : argsOk "set_iterator.__next__" ⟨[a], []⟩ := by unfold argsOk; kernel_rfl
theorem entry_s_iter : entryFor table "set.__iter__" = some Builtin.«frozenset.__iter__» :=
 entryFor_alias (id' := "frozenset.__iter__") (by kernel_rfl) (by first | rfl | decide +kernel) (by decide +kernel) (by kernel_rfl)
theorem erase_perm {α : Type} : ∀ {l : List α} {i : Nat} (h : i < l.length), (l[i] :: l.eraseIdx i).Perm l
 | x :: xs, 0, _ => by simp
 | x :: xs, i + 1, h => by
  simp only [List.getElem_cons_succ, List.eraseIdx_cons_succ]
  exact (List.Perm.swap _ _ _).trans ((erase_perm (by simpa using h)).cons x)
section
variable {α : Type} {M : Model} {A : Around} {E : Value -> Shared -> Prop} {s : Shared}
theorem choose_ok {src : Source} {n : Nat} {Q : Nat -> Shared -> Prop} (hn : 0 < n) (h : ∀ i d, i < n -> Q i { s with drawn := d }) : wpAny M A (choose src n) Q E s :=
 fun _ _ _ => ⟨Nat.pos_iff_ne_zero.mp hn, h _ _ (Nat.mod_lt _ hn)⟩
theorem draw_ok (n : Nat) : ∀ (xs : List α) (s : Shared) (Q : List α -> Shared -> Prop), xs.length = n -> (∀ ys d, ys.Perm xs -> Q ys { s with drawn := d }) -> wpAny M A (drawOrder n xs) Q E s := by
 induction n with
 | zero =>
  intro xs s Q hl h
  have e : xs = [] := List.length_eq_zero_iff.mp hl
  subst e
  exact wpAny_pure (h [] s.drawn (List.Perm.refl _))
 | succ n ih =>
  intro xs s Q hl h
  cases xs with
  | nil => cases hl
  | cons x xs =>
   unfold drawOrder
   refine wpAny_bind (choose_ok (by simp) fun i d hi => ?_)
   rw [List.getElem?_eq_getElem hi]
   dsimp only
   refine wpAny_bind (ih _ _ _ (by rw [List.length_eraseIdx_of_lt hi]; simp at hl; simp; omega) fun ys d' hp => wpAny_pure ?_)
   exact h _ d' ((hp.cons _).trans (erase_perm hi))
end
end HS
namespace HS
open PySem PySem.Spec PyProof.Rows
noncomputable abbrev bt (w : World) : Bool := w.params.followText "set-order"
noncomputable def itObj (f : Value) (i : Nat) (a : Addr) (n ep : Nat) : Obj := { cls := .type "set_iterator", data := .fields #[f, .int i 0, .ref a, .int n 0, .int ep 0] }
theorem itT {s : Shared} {I : Addr} {f : Value} {i : Nat} {a : Addr} {n ep : Nat} (h : s.heap.get? I = some (itObj f i a n ep)) : s.TypeIs (.ref I) "set_iterator" := ⟨_, h, rfl⟩
theorem below_at {t : SetTable} (r : t.place.toList.Pairwise (· < ·)) (i : Nat) (hi : i <= t.place.size) : SetTable.below t.place (if h : 0 < i then t.place[i - 1]'(by omega) + 1 else 0) = i := by
 obtain ⟨b1, b2, b3⟩ := below_ok (if h : 0 < i then t.place[i - 1]'(by omega) + 1 else 0) r
 generalize hB : SetTable.below t.place (if h : 0 < i then t.place[i - 1]'(by omega) + 1 else 0) = B at *
 have lt : ∀ (x y : Nat) (hx : x < t.place.size) (hy : y < t.place.size), x < y -> t.place[x] < t.place[y] := fun x y hx hy hxy => by
  have := List.pairwise_iff_getElem.mp r x y (by simpa using hx) (by simpa using hy) hxy
  simpa using this
 rcases Nat.lt_trichotomy B i with h | h | h
 ·exfalso
  have hp : 0 < i := by omega
  simp only [hp, dite_true] at b3
  have h1 := b3 B (by omega) (Nat.le_refl _)
  rcases Nat.lt_or_ge B (i - 1) with h2 | h2
  ·have := lt B (i - 1) (by omega) (by omega) h2; omega
  ·have : B = i - 1 := by omega
   subst this; omega
 ·exact h
 ·exfalso
  have h1 := b2 i (by omega) h
  by_cases hp : 0 < i
  ·simp only [hp, dite_true] at h1
   have := lt (i - 1) i (by omega) (by omega) (by omega)
   omega
  ·simp only [hp, dite_false] at h1
   omega
section
variable {prog : Program} {w : World} {A : Around} {E : Value -> Shared -> Prop} {s : Shared}
theorem next_plain {led : Bool} {a : Addr} {o : Obj} {es : Array (Int × Value)} {ep : Nat} {t : SetTable} {i : Nat} {Q : Option (Value × Nat) -> Shared -> Prop} (hb : bt w = false) (hl : led = true)
  (ho : s.heap.get? a = some o) (hd : o.data = .set es ep t) (G : TabW led es t) (hdr : (!t.plain && decide (es.size > 1)) = false) (hi : i <= es.size) (hp : t.place.size = es.size)
  (h : Q (if hlt : i < es.size then some (es[i].2, t.place[i] + 1) else none) s) :
  wpAny (model prog w) A (setNext a (if h : 0 < i then t.place[i - 1]'(by omega) + 1 else 0) i ep) Q E s := by
 have r : t.place.toList.Pairwise (· < ·) := by
  cases hpl : t.plain with
  | true => exact G.rs hpl
  | false =>
   have h1 : ¬ es.size > 1 := by simpa [hpl] using hdr
   have : t.place.toList.length <= 1 := by simp; omega
   match hq : t.place.toList, this with
   | [], _ => exact List.Pairwise.nil
   | [x], _ => exact List.pairwise_singleton _ _
 unfold setNext
 refine wpAny_bind (wpAny_setState_of ho hd G.ft ?_)
 dsimp only
 unfold setsByText
 refine wpAny_bind (wpAny_bind (wpAny_askSetting (wpAny_pure ?_)))
 dsimp only
 rw [show ((model prog w).w.params.followText "set-order") = false from hb]
 simp only [Bool.false_eq_true, ↓reduceIte]
 split
 ·rename_i hc
  have : (!t.plain && decide (es.size > 1)) = true := hc
  rw [hdr] at this; cases this
 ·refine wpAny_bind (show wpAny _ _ (if (!t.led && !es.isEmpty) = true then unsupported "set:maker-not-led" else pure ()) _ _ _ from ?_)
  rw [if_neg (by rw [G.ld, hl]; simp)]
  refine wpAny_pure ?_
  rw [below_at r i (by omega)]
  refine wpAny_pure ?_
  by_cases hlt : i < es.size
  ·have h2 : i < t.place.size := by omega
   rw [dif_pos hlt] at h
   rw [Array.getElem?_eq_getElem hlt, Array.getElem?_eq_getElem h2]
   exact h
  ·rw [dif_neg hlt] at h
   rw [Array.getElem?_eq_none (by omega)]
   exact h
theorem pick_go {α : Type} (nx : Nat -> Nat) : ∀ (fuel k : Nat) (left : List α) (out : Array α), left.length = fuel -> (pickOrder.go nx fuel k left out).toList.Perm (out.toList ++ left)
 | 0, k, [], out, _ => by unfold pickOrder.go; simp
 | fuel + 1, k, x :: xs, out, hl => by
  unfold pickOrder.go
  have hlt : nx k % (x :: xs).length < (x :: xs).length := Nat.mod_lt _ (by simp)
  generalize nx k % (x :: xs).length = j at hlt
  rw [List.getElem?_eq_getElem hlt]
  dsimp only
  refine (pick_go nx fuel (k + 1) _ _ (by rw [List.length_eraseIdx_of_lt hlt]; simp at hl; simp; omega)).trans ?_
  rw [Array.toList_push, List.append_assoc]
  exact (List.Perm.refl _).append (erase_perm hlt)
theorem pick_perm {α : Type} (nx : Nat -> Nat) (xs : Array α) : (pickOrder nx xs).toList.Perm xs.toList := by
 have := pick_go nx xs.size 0 xs.toList #[] (by simp)
 simpa [pickOrder] using this
theorem next_text {led : Bool} {a : Addr} {o : Obj} {es : Array (Int × Value)} {ep : Nat} {t : SetTable} {sl i : Nat} {Q : Option (Value × Nat) -> Shared -> Prop} (hb : bt w = true)
  (ho : s.heap.get? a = some o) (hd : o.data = .set es ep t) (G : TabW led es t)
  (h : Q (((pickOrder (w.params.setOrder a ep) es)[i]?).map fun e => (e.2, sl)) s) :
  wpAny (model prog w) A (setNext a sl i ep) Q E s := by
 unfold setNext
 refine wpAny_bind (wpAny_setState_of ho hd G.ft ?_)
 dsimp only
 unfold setsByText
 refine wpAny_bind (wpAny_bind (wpAny_askSetting (wpAny_pure ?_)))
 dsimp only
 rw [show ((model prog w).w.params.followText "set-order") = true from hb]
 simp only [bne_self_eq_false, Bool.false_eq_true, ↓reduceIte]
 unfold setWalk setsByText
 refine wpAny_bind (wpAny_bind (wpAny_setState_of ho hd G.ft (wpAny_bind (wpAny_bind (wpAny_askSetting (wpAny_pure ?_))))))
 dsimp only
 rw [show ((model prog w).w.params.followText "set-order") = true from hb]
 simp only [↓reduceIte]
 refine wpAny_bind (wpAny_askSetting (wpAny_pure (wpAny_pure ?_)))
 exact h
end
end HS
namespace HS
open PySem PySem.Spec PyProof.Rows
section
variable {prog : Program} {w : World} {A : Around} {E : Value -> Shared -> Prop} {s : Shared}
theorem ends_ok {M : Model} {E : Value -> Shared -> Prop} {s : Shared} {A : Around} {Q : Fin -> Shared -> Prop} (hh : A.handled = none)
  (h : ∀ h' a, (∀ b o, s.heap.get? b = some o -> h'.get? b = some o) -> Shared.TypeIs { s with heap := h' } (.ref a) "StopIteration" -> E (.ref a) { s with heap := h' }) :
  wpAny M A (newExc (.type "StopIteration") [] >>= fun e => raiseNew e) Q E s := by
 refine wpAny_bind ?_
 simp only [newExc, newTuple]
 refine wpAny_bind (wpAny_newObj_type ?_ (by size_fits))
 refine wpAny_bind (m := firstArgMember _ _) (wpAny_of_eq (a := Value.none) (by first | rfl | (simp only [firstArgMember]; rfl)) ?_)
 refine wpAny_newObj_type ?_ (by size_fits)
 simp only [raiseNew]
 refine wpAny_bind (wpAny_handled ?_)
 rw [hh]
 refine wpAny_bind (wpAny_pure (wpAny_throw (h _ _ (fun b o e => Heap.get?_push_of_some _ (Heap.get?_push_of_some _ e)) ?_)))
 exact ⟨_, Heap.get?_push_size _ rfl, rfl⟩
theorem it_item {led : Bool} {I a : Addr} {o : Obj} {es : Array (Int × Value)} {ep : Nat} {t : SetTable} {i sl sl' : Nat} {x : Value} {Q : Option Value -> Shared -> Prop}
  (hI : s.heap.get? I = some (itObj (.int sl 0) i a es.size ep)) (ho : s.heap.get? a = some o) (hd : o.data = .set es ep t) (G : TabW led es t)
  (hnx : ∀ A' E' (Q' : Option (Value × Nat) -> Shared -> Prop), Q' (some (x, sl')) s -> wpAny (model prog w) A' (setNext a sl i ep) Q' E' s)
  (h : ∀ h', h'.get? I = some (itObj (.int sl' 0) (i + 1) a es.size ep) -> Heap.SameBut I s.heap h' -> Q (some x) { s with heap := h' }) : wpAny (model prog w) A (pyNext (.ref I)) Q E s := by
 unfold pyNext
 refine wpAny_bind (wpAny_attempt (wpAny_callSpecial?_slot (name := Str.ofString "__next__") (itT hI) slot_si_next (wpAny_call_entry slot_si_next (itT hI) entry_si_next ?_ (args_si_next _))))
 unfold Builtin.«set_iterator.__next__»
 refine wpAny_bind (show wpAny _ _ (pure (Value.ref I, ([] : List Value))) _ _ _ from wpAny_pure ?_)
 refine wpAny_bind (wpAny_fieldsOf hI rfl ?_)
 dsimp only
 unfold setEntries
 refine wpAny_bind (wpAny_bind (wpAny_setState_of ho hd G.ft (wpAny_pure ?_)))
 dsimp only
 rw [if_neg (by simp)]
 refine wpAny_bind (show wpAny _ _ (setNext a sl i ep) _ _ _ from hnx _ _ _ ?_)
 dsimp only
 refine wpAny_bind (wpAny_setField hI rfl (by simp) ?_)
 have h1 := Heap.get?_update_self (Obj.mapFields (·.setIfInBounds 0 (rawInt (sl' : Int)))) hI rfl
 refine wpAny_bind (wpAny_setField (s := { s with heap := _ }) h1 rfl (by simp) ?_)
 have h2 := Heap.get?_update_self (Obj.mapFields (·.setIfInBounds 1 (rawInt ((i : Int) + 1)))) h1 rfl
 refine wpAny_pure ⟨x, rfl, wpAny_pure (h _ (h2.trans ?_) ((Heap.SameBut.update ..).trans (Heap.SameBut.update ..)))⟩
 rfl
theorem it_end {led : Bool} {I a : Addr} {o : Obj} {es : Array (Int × Value)} {ep : Nat} {t : SetTable} {i sl : Nat} {Q : Option Value -> Shared -> Prop} (hh : A.handled = none)
  (hI : s.heap.get? I = some (itObj (.int sl 0) i a es.size ep)) (ho : s.heap.get? a = some o) (hd : o.data = .set es ep t) (G : TabW led es t)
  (hnx : ∀ A' E' (Q' : Option (Value × Nat) -> Shared -> Prop), Q' none s -> wpAny (model prog w) A' (setNext a sl i ep) Q' E' s)
  (h : ∀ h', (∀ b o, b ∉ [I] -> s.heap.get? b = some o -> h'.get? b = some o) -> Q none { s with heap := h' }) : wpAny (model prog w) A (pyNext (.ref I)) Q E s := by
 unfold pyNext
 refine wpAny_bind (wpAny_attempt (wpAny_callSpecial?_slot (name := Str.ofString "__next__") (itT hI) slot_si_next (wpAny_call_entry slot_si_next (itT hI) entry_si_next ?_ (args_si_next _))))
 unfold Builtin.«set_iterator.__next__»
 refine wpAny_bind (show wpAny _ _ (pure (Value.ref I, ([] : List Value))) _ _ _ from wpAny_pure ?_)
 refine wpAny_bind (wpAny_fieldsOf hI rfl ?_)
 dsimp only
 unfold setEntries
 refine wpAny_bind (wpAny_bind (wpAny_setState_of ho hd G.ft (wpAny_pure ?_)))
 dsimp only
 rw [if_neg (by simp)]
 refine wpAny_bind (show wpAny _ _ (setNext a sl i ep) _ _ _ from hnx _ _ _ ?_)
 dsimp only
 refine wpAny_bind (wpAny_setField hI rfl (by simp) ?_)
 refine ends_ok (show A.in1.handled = none from hh) fun h' b kp hT => ?_
 refine wpAny_bind (wpAny_isInstance (T := "StopIteration") (b := true) hT isSubtype_stop ?_)
 exact wpAny_pure (h _ fun b o hb e => kp b o (by rw [Heap.get?_update_other _ _ (fun q : I = b => hb (by simp [q]))]; exact e))
theorem it_itemB {led : Bool} {I a tp : Addr} {o : Obj} {es : Array (Int × Value)} {ep : Nat} {t : SetTable} {i : Nat} {pl : List Nat} {x : Int × Value} {p : Nat} {Q : Option Value -> Shared -> Prop}
  (hI : s.heap.get? I = some (itObj (.ref tp) i a es.size ep)) (htp : s.heap.get? tp = some { cls := .type "tuple", data := .seq (pl.map fun i : Nat => rawInt i).toArray })
  (ho : s.heap.get? a = some o) (hd : o.data = .set es ep t) (G : TabW led es t) (hp : pl[i]? = some p) (hx : es[p]? = some x)
  (h : ∀ h', h'.get? I = some (itObj (.ref tp) (i + 1) a es.size ep) -> Heap.SameBut I s.heap h' -> Q (some x.2) { s with heap := h' }) : wpAny (model prog w) A (pyNext (.ref I)) Q E s := by
 unfold pyNext
 refine wpAny_bind (wpAny_attempt (wpAny_callSpecial?_slot (name := Str.ofString "__next__") (itT hI) slot_si_next (wpAny_call_entry slot_si_next (itT hI) entry_si_next ?_ (args_si_next _))))
 unfold Builtin.«set_iterator.__next__»
 refine wpAny_bind (show wpAny _ _ (pure (Value.ref I, ([] : List Value))) _ _ _ from wpAny_pure ?_)
 refine wpAny_bind (wpAny_fieldsOf hI rfl ?_)
 dsimp only
 unfold setEntries
 refine wpAny_bind (wpAny_bind (wpAny_setState_of ho hd G.ft (wpAny_pure ?_)))
 dsimp only
 rw [if_neg (by simp)]
 refine wpAny_bind (wpAny_seqItems htp rfl ?_)
 dsimp only
 have hq : (pl.map fun i : Nat => rawInt i).toArray[((i : Nat) : Int).toNat]? = some (.int p 0) := by simp [hp, rawInt]
 rw [hq]
 dsimp only
 unfold setNextDrawn
 refine wpAny_bind (wpAny_bind (wpAny_setState_of ho hd G.ft ?_))
 dsimp only
 rw [if_neg (by simp)]
 simp only [Int.toNat_natCast, hx]
 refine wpAny_pure (wpAny_bind (wpAny_setField hI rfl (by simp) ?_))
 have h1 := Heap.get?_update_self (Obj.mapFields (·.setIfInBounds 1 (rawInt ((i : Int) + 1)))) hI rfl
 exact wpAny_pure ⟨x.2, rfl, wpAny_pure (h _ (h1.trans rfl) (Heap.SameBut.update ..))⟩
theorem it_endB {led : Bool} {I a tp : Addr} {o : Obj} {es : Array (Int × Value)} {ep : Nat} {t : SetTable} {i : Nat} {pl : List Nat} {Q : Option Value -> Shared -> Prop} (hh : A.handled = none)
  (hI : s.heap.get? I = some (itObj (.ref tp) i a es.size ep)) (htp : s.heap.get? tp = some { cls := .type "tuple", data := .seq (pl.map fun i : Nat => rawInt i).toArray })
  (ho : s.heap.get? a = some o) (hd : o.data = .set es ep t) (G : TabW led es t) (hp : pl.length <= i)
  (h : ∀ h', (∀ b o, b ∉ [I] -> s.heap.get? b = some o -> h'.get? b = some o) -> Q none { s with heap := h' }) : wpAny (model prog w) A (pyNext (.ref I)) Q E s := by
 unfold pyNext
 refine wpAny_bind (wpAny_attempt (wpAny_callSpecial?_slot (name := Str.ofString "__next__") (itT hI) slot_si_next (wpAny_call_entry slot_si_next (itT hI) entry_si_next ?_ (args_si_next _))))
 unfold Builtin.«set_iterator.__next__»
 refine wpAny_bind (show wpAny _ _ (pure (Value.ref I, ([] : List Value))) _ _ _ from wpAny_pure ?_)
 refine wpAny_bind (wpAny_fieldsOf hI rfl ?_)
 dsimp only
 unfold setEntries
 refine wpAny_bind (wpAny_bind (wpAny_setState_of ho hd G.ft (wpAny_pure ?_)))
 dsimp only
 rw [if_neg (by simp)]
 refine wpAny_bind (wpAny_seqItems htp rfl ?_)
 dsimp only
 have hq : (pl.map fun i : Nat => rawInt i).toArray[((i : Nat) : Int).toNat]? = none := by simp; omega
 rw [hq]
 dsimp only
 refine wpAny_bind (wpAny_setField hI rfl (by simp) ?_)
 have h1 := Heap.get?_update_self (Obj.mapFields (·.setIfInBounds 0 (rawInt 0))) hI rfl
 refine wpAny_bind (wpAny_setField (s := { s with heap := _ }) h1 rfl (by simp) ?_)
 refine ends_ok (show A.in1.handled = none from hh) fun h' b kp hT => ?_
 refine wpAny_bind (wpAny_isInstance (T := "StopIteration") (b := true) hT isSubtype_stop ?_)
 refine wpAny_pure (h _ fun b o hb e => kp b o ?_)
 have ne : I ≠ b := fun q => hb (by simp [q])
 rw [Heap.get?_update_other _ _ ne, Heap.get?_update_other _ _ ne]; exact e
end
end HS
namespace HS
open PySem PySem.Spec PyProof.Rows
theorem slot_si_iter : Slot "set_iterator" "__iter__" "set_iterator.__iter__" := by
 refine .of (owner := "set_iterator") (n := "__iter__") ?_ (by decide +kernel) (by decide +kernel) (by decide +kernel) ?_ ?_
 ·rw [typeLookup_type, builtinLookup_eq_fast]; kernel_rfl
 ·first | exact .inl (by decide +kernel) | exact .inr (by decide +kernel)
 ·rw [isSubtype_type]; kernel_rfl
theorem args_si_iter (a : Value) : argsOk "set_iterator.__iter__" ⟨[a], []⟩ := by unfold argsOk; kernel_rfl
theorem entry_si_iter : entryFor table "set_iterator.__iter__" = some Builtin.«dict_keyiterator.__iter__» :=
 entryFor_alias (id' := "dict_keyiterator.__iter__") (by kernel_rfl) (by first | rfl | decide +kernel) (by decide +kernel) (by kernel_rfl)
section
variable {prog : Program} {w : World} {A : Around} {E : Value -> Shared -> Prop} {s : Shared}
theorem self_ok {I : Addr} {f : Value} {i : Nat} {a : Addr} {n ep : Nat} {Q : Value -> Shared -> Prop} (hI : s.heap.get? I = some (itObj f i a n ep)) (h : Q (.ref I) s) : wpAny (model prog w) A (pyIter (.ref I)) Q E s := by
 refine wpAny_pyIter_slot (itT hI) slot_si_iter (wpAny_call_entry slot_si_iter (itT hI) entry_si_iter ?_ (args_si_iter _))
 exact (show wpAny _ _ (ret (.ref I)) _ _ s from wpAny_pure ⟨_, rfl, "set_iterator", _, itT hI, slot_si_next.lookup, h⟩)
end
variable {prog : Program} {w : World}
abbrev nth (ord : List (Int × Value)) (i : Nat) (x : Value) : Prop := (ord[i]?).map (·.2) = some x
theorem walksA {A : Around} (hh : A.handled = none) {led : Bool} {I a : Addr} (hne : a ≠ I) {o : Obj} {es : Array (Int × Value)} {ep : Nat} {t : SetTable} (hd : o.data = .set es ep t) (G : TabW led es t)
  (ord : List (Int × Value)) (hl : ord.length = es.size) (sl : Nat -> Nat)
  (hnx : ∀ i (s : Shared) A' E' (Q' : Option (Value × Nat) -> Shared -> Prop), i <= es.size -> s.heap.get? a = some o -> Q' ((ord[i]?).map fun e => (e.2, sl (i + 1))) s -> wpAny (model prog w) A' (setNext a (sl i) i ep) Q' E' s) :
  Walks prog w A I [I, a] [I] ord.length (nth ord) (fun i h => h.get? I = some (itObj (.int (sl i) 0) i a es.size ep) /\ h.get? a = some o) where
 sub := fun b hb => by simp at hb; simp [hb]
 frame := fun _ _ _ st hk => ⟨hk I (by simp) _ st.1, hk a (by simp) _ st.2⟩
 item := fun i s Q E hi st hQ => by
  have hx : ord[i]? = some ord[i] := List.getElem?_eq_getElem hi
  refine it_item (x := ord[i].2) (sl' := sl (i + 1)) st.1 st.2 hd G (fun A' E' Q' q => hnx i s A' E' Q' (by omega) st.2 (by rw [hx]; exact q)) fun h' hI' hs => ?_
  refine hQ _ h' s.toks (by simp [nth, hx]) ⟨hI', hs.extBut a o hne st.2⟩ fun b o hb e => hs.extBut b o (fun h => hb (by simp [h])) e
 done := fun s Q E st hQ => by
  refine it_end hh st.1 st.2 hd G (fun A' E' Q' q => hnx _ s A' E' Q' (by omega) st.2 (by rw [List.getElem?_eq_none (by omega)]; exact q)) fun h' hk => hQ h' s.toks hk
 self := fun _ _ _ _ st hQ => self_ok st.1 hQ
theorem walksB {A : Around} (hh : A.handled = none) {led : Bool} {I a tp : Addr} (hne : a ≠ I) (hnt : tp ≠ I) {o : Obj} {es : Array (Int × Value)} {ep : Nat} {t : SetTable} (hd : o.data = .set es ep t) (G : TabW led es t)
  (pl : List Nat) (hpl : ∀ p ∈ pl, p < es.size) :
  Walks prog w A I [I, a, tp] [I] pl.length (nth (pl.filterMap (es[·]?))) (fun i h => h.get? I = some (itObj (.ref tp) i a es.size ep) /\ h.get? a = some o /\ h.get? tp = some { cls := .type "tuple", data := .seq (pl.map fun i : Nat => rawInt i).toArray }) where
 sub := fun b hb => by simp at hb; simp [hb]
 frame := fun _ _ _ st hk => ⟨hk I (by simp) _ st.1, hk a (by simp) _ st.2.1, hk tp (by simp) _ st.2.2⟩
 item := fun i s Q E hi st hQ => by
  have hp : pl[i]? = some pl[i] := List.getElem?_eq_getElem hi
  have hx : es[pl[i]]? = some (es[pl[i]]'(hpl _ (List.getElem_mem hi))) := Array.getElem?_eq_getElem _
  have hmap : pl.filterMap (es[·]?) = pl.pmap (fun p h => es[p]'h) hpl := by
   clear hQ st hp hx hi
   induction pl with
   | nil => rfl
   | cons p ps ih => rw [List.filterMap_cons_some (b := es[p]'(hpl p (by simp))) (Array.getElem?_eq_getElem _), ih (fun q hq => hpl q (by simp [hq]))]; rfl
  refine it_itemB st.1 st.2.2 st.2.1 hd G hp hx fun h' hI' hs => ?_
  refine hQ _ h' s.toks ?_ ⟨hI', hs.extBut a o hne st.2.1, hs.extBut tp _ hnt st.2.2⟩ fun b o hb e => hs.extBut b o (fun h => hb (by simp [h])) e
  rw [hmap]; simp [nth, hp]
 done := fun s Q E st hQ => it_endB hh st.1 st.2.2 st.2.1 hd G (Nat.le_refl _) fun h' hk => hQ h' s.toks hk
 self := fun _ _ _ _ st hQ => self_ok st.1 hQ
end HS
namespace HS
open PySem PySem.Spec PyProof.Rows
theorem filter_perm {es : Array (Int × Value)} {pl : List Nat} (h : pl.Perm (List.range es.size)) : (pl.filterMap (es[·]?)).Perm es.toList :=
 (h.filterMap _).trans (by rw [filterMap_getElem?_range])
theorem filter_len {es : Array (Int × Value)} {pl : List Nat} (h : pl.Perm (List.range es.size)) : (pl.filterMap (es[·]?)).length = pl.length := by
 rw [(filter_perm h).length_eq, h.length_eq]; simp
noncomputable def slotOf (t : SetTable) (i : Nat) : Nat := if h : 0 < i /\ i <= t.place.size then t.place[i - 1]'(by omega) + 1 else 0
section
variable {prog : Program} {w : World} {A : Around} {E : Value -> Shared -> Prop} {s : Shared}
theorem iter_set {a : Addr} {o : Obj} {es : Array (Int × Value)} {ep : Nat} {t : SetTable} {Q : Value -> Shared -> Prop} (ho : s.heap.get? a = some o) (hx : o.ExactSet) (hd : o.data = .set es ep t) (G : TabW (!bt w) es t)
  (h : ∀ (h' : Heap) (d : Drawn) (I : Addr) (fp : List Addr) (St : Nat -> Heap -> Prop) (ord : List (Int × Value)), (∀ A', A'.handled = none -> Walks prog w A' I fp [I] ord.length (nth ord) St) -> St 0 h' -> (∀ b ∈ fp, b = a \/ s.heap.objs.size <= b) ->
   (∀ b o, s.heap.get? b = some o -> h'.get? b = some o) -> s.heap.objs.size <= I -> ord.Perm es.toList -> Q (.ref I) { s with heap := h', drawn := d }) :
  wpAny (model prog w) A (pyIter (.ref a)) Q E s := by
 have hlt := Heap.lt_size ho
 have hT : s.TypeIs (.ref a) "set" := ⟨o, ho, hx.1⟩
 have hpz : t.place.size = es.size := by have := G.ft; simp [SetTable.fits] at this; exact this.1
 refine wpAny_pyIter_slot hT F.slot_set_iter (wpAny_call_entry F.slot_set_iter hT entry_s_iter ?_ (F.args_set_iter_1 _))
 unfold Builtin.«frozenset.__iter__» Builtin.Frozenset.slot0 Builtin.Frozenset.sizeOf
 refine wpAny_bind (wpAny_bind (show wpAny _ _ (pure (Value.ref a, ([] : List Value))) _ _ _ from wpAny_pure (show wpAny _ _ (pure a) _ _ _ from wpAny_pure ?_)))
 unfold setEntries
 refine wpAny_bind (wpAny_bind (wpAny_bind (wpAny_setState_of ho hd G.ft (wpAny_pure (wpAny_pure ?_)))))
 dsimp only
 unfold setDrawn setsByText
 refine wpAny_bind (wpAny_bind (wpAny_setState_of ho hd G.ft (wpAny_bind (wpAny_bind (wpAny_askSetting (wpAny_pure (wpAny_pure ?_)))))))
 dsimp only
 split
 ·rename_i hc
  have hdr : (!bt w && (!t.plain && decide (es.size > 1))) = true := hc
  simp only [Bool.and_eq_true] at hdr
  refine wpAny_bind (draw_ok es.size (List.range es.size) _ _ (by simp) fun pl d hp => ?_)
  unfold newTuple
  refine wpAny_bind (wpAny_newObj_type ?_ (show (pl.map fun i : Nat => rawInt i).toArray.size <= sizeLine by have := fits_of_scanBound G.bd; rw [List.size_toArray, List.length_map, hp.length_eq, List.length_range]; exact this))
  unfold setEpoch
  refine wpAny_bind (wpAny_bind (wpAny_setState_of (Heap.get?_push_of_some _ ho) hd G.ft (wpAny_pure ?_)))
  unfold newFields
  refine wpAny_bind (wpAny_newObj_type (wpAny_pure ⟨_, rfl, "set_iterator", _, ⟨_, Heap.get?_push_size _ rfl, rfl⟩, slot_si_next.lookup, ?_⟩))
  have hz : (s.heap.push { cls := .type "tuple", data := .seq (pl.map fun i : Nat => rawInt i).toArray }).objs.size = s.heap.objs.size + 1 := Heap.size_push ..
  refine h _ d _ [_, a, s.heap.objs.size] _ (pl.filterMap (es[·]?)) (fun A' hA => by rw [filter_len hp]; exact walksB hA (I := (s.heap.push { cls := .type "tuple", data := .seq (pl.map fun i : Nat => rawInt i).toArray }).objs.size) (tp := s.heap.objs.size) (by rw [hz]; exact Nat.ne_of_lt (Nat.lt_succ_of_lt hlt)) (by rw [hz]; exact Nat.ne_of_lt (Nat.lt_succ_self _)) hd G pl (fun p hp' => by simpa using hp.mem_iff.mp hp')) ?_ ?_ ?_ ?_ (filter_perm hp)
  ·exact ⟨Heap.get?_push_size _ rfl, Heap.get?_push_of_some _ (Heap.get?_push_of_some _ ho), Heap.get?_push_of_some _ (Heap.get?_push_size _ rfl)⟩
  ·intro b hb
   simp only [List.mem_cons, List.not_mem_nil, or_false] at hb
   rcases hb with rfl | rfl | rfl
   ·right; rw [hz]; exact Nat.le_succ _
   ·left; rfl
   ·right; exact Nat.le_refl _
  ·exact fun b o e => Heap.get?_push_of_some _ (Heap.get?_push_of_some _ e)
  ·rw [hz]; exact Nat.le_succ _
 ·rename_i hc
  have hdr : ¬ (!bt w && (!t.plain && decide (es.size > 1))) = true := hc
  refine wpAny_bind (wpAny_pure ?_)
  unfold setEpoch
  refine wpAny_bind (wpAny_bind (wpAny_setState_of ho hd G.ft (wpAny_pure ?_)))
  unfold newFields
  refine wpAny_bind (wpAny_newObj_type (wpAny_pure ⟨_, rfl, "set_iterator", _, ⟨_, Heap.get?_push_size _ rfl, rfl⟩, slot_si_next.lookup, ?_⟩))
  have kp : ∀ b o, s.heap.get? b = some o -> (s.heap.push (itObj (.int ((0 : Nat) : Int) 0) 0 a es.size ep)).get? b = some o := fun b o e => Heap.get?_push_of_some _ e
  have fpo : ∀ b ∈ [s.heap.objs.size, a], b = a \/ s.heap.objs.size <= b := fun b hb => by
   simp only [List.mem_cons, List.not_mem_nil, or_false] at hb
   rcases hb with rfl | rfl
   ·right; exact Nat.le_refl _
   ·left; rfl
  cases hb : bt w with
  | true =>
   refine h _ s.drawn _ [s.heap.objs.size, a] _ (pickOrder (w.params.setOrder a ep) es).toList (fun A' hA => walksA hA (Nat.ne_of_lt hlt) hd G _ (by have := (pick_perm (w.params.setOrder a ep) es).length_eq; simpa using this) (fun _ => 0) ?_) ⟨Heap.get?_push_size _ rfl, kp _ _ ho⟩ fpo kp (Nat.le_refl _) (pick_perm _ _)
   intro i s' A' E' Q' hi ho' q
   exact next_text hb ho' hd G (by rw [Array.getElem?_toList] at q; exact q)
  | false =>
   rw [hb] at hdr G
   have hdr' : (!t.plain && decide (es.size > 1)) = false := by simpa using hdr
   refine h _ s.drawn _ [s.heap.objs.size, a] _ es.toList (fun A' hA => walksA hA (Nat.ne_of_lt hlt) hd G es.toList (by simp) (slotOf t) ?_) ⟨Heap.get?_push_size _ rfl, kp _ _ ho⟩ fpo kp (Nat.le_refl _) (List.Perm.refl _)
   intro i s' A' E' Q' hi ho' q
   have e1 : slotOf t i = (if h : 0 < i then t.place[i - 1]'(by omega) + 1 else 0) := by
    by_cases h0 : 0 < i
    ·unfold slotOf; rw [dif_pos ⟨h0, by omega⟩, dif_pos h0]
    ·unfold slotOf; rw [dif_neg (fun h => h0 h.1), dif_neg h0]
   rw [e1]
   refine next_plain hb rfl ho' hd G hdr' hi hpz ?_
   by_cases hlt : i < es.size
   ·rw [dif_pos hlt]
    rw [Array.getElem?_toList, Array.getElem?_eq_getElem hlt] at q
    simp only [Option.map_some] at q
    unfold slotOf at q
    rw [dif_pos ⟨by omega, by omega⟩] at q
    exact q
   ·rw [dif_neg hlt]
    rw [List.getElem?_eq_none (by simp; omega)] at q
    exact q
theorem acc_ord {ord : List (Int × Value)} {acc : Array Value} (h : ItemsOf (nth ord) acc ord.length) : acc.toList = ord.map (·.2) := by
 refine List.ext_getElem? fun i => ?_
 rw [List.getElem?_map, Array.getElem?_toList]
 rcases Nat.lt_or_ge i ord.length with hi | hi
 ·have hs : i < acc.size := by rw [h.1]; exact hi
  have := h.2 i acc[i] (Array.getElem?_eq_getElem hs)
  rw [Array.getElem?_eq_getElem hs]; exact this.symm
 ·rw [List.getElem?_eq_none hi, Array.getElem?_eq_none (by rw [h.1]; exact hi)]; rfl
theorem hint_set {a : Addr} {Q : Bool -> Shared -> Prop} (hT : s.TypeIs (.ref a) "set") (h : Q false s) : wpAny (model prog w) A (Builtin.List.listLengthHint (.ref a)) Q E s := by
  unfold Builtin.List.listLengthHint
  refine wpAny_bind (wpAny_specialOf hT F.slot_set_len.lookup ?_)
  have hsp : splitId "set.__len__" = some ("set", "__len__") := by decide +kernel
  simp only [hsp]
  refine wpAny_bind (wpAny_isInstance hT sub_set_self ?_)
  simp only [Bool.not_true, Bool.false_eq_true, ↓reduceIte]
  refine (show wpAny _ _ (do let .ref _ ← typeOf (Value.ref a) | return false
                             let some k ← asInt? (← call (.builtin "len") [.ref a]) | unsupported "internal:len-gave-no-int"
                             return k != 0) _ _ _ from wpAny_bind (wpAny_typeOf hT (wpAny_pure h)))
theorem collect_w {a : Addr} {o : Obj} {es : Array (Int × Value)} {ep : Nat} {t : SetTable} {Q : List Value -> Shared -> Prop} (hh : A.handled = none) (ho : s.heap.get? a = some o) (hx : o.ExactSet) (hd : o.data = .set es ep t) (G : TabW (!bt w) es t)
  (h : ∀ (ord : List (Int × Value)) (h' : Heap) (d : Drawn) (tk : Nat), ord.Perm es.toList -> (∀ b o, s.heap.get? b = some o -> h'.get? b = some o) -> s.toks <= tk -> s.heap.objs.size <= h'.objs.size -> Q (ord.map (·.2)) { s with heap := h', drawn := d, toks := tk }) :
  wpAny (model prog w) A (collect (.ref a)) Q E s := by
 have hlt := Heap.lt_size ho
 unfold collect
 refine wpAny_bind (wpAny_runValue (codeAny_builtin F.entry_proto_collect ?_))
 rw [Around.under_plainId F.plain_proto_collect _]
 refine (show wpAny _ A.in1 (newList [] >>= fun l => again (.builtin "list.__iadd__" ⟨[l, .ref a], []⟩)) _ _ s from wpAny_bind (wpAny_newObj_type ?_))
 refine wpAny_pure ⟨plainId_quiet F.plain_list_iadd _, codeAny_builtin F.entry_list_iadd ?_⟩
 rw [Around.under_plainId F.plain_list_iadd _]
 refine (show wpAny _ A.in1 (Builtin.List.listExtendWith (.ref s.heap.objs.size) (.ref a) (.ref s.heap.objs.size)) _ _ _ from ?_)
 unfold Builtin.List.listExtendWith
 have ho1 : (s.heap.push { cls := .type "list", data := .seq ([] : List Value).toArray }).get? a = some o := Heap.get?_push_of_some _ ho
 have hT : Shared.TypeIs { s with heap := s.heap.push { cls := .type "list", data := .seq ([] : List Value).toArray } } (.ref a) "set" := ⟨o, ho1, hx.1⟩
 refine wpAny_bind (wpAny_typeOf hT ?_)
 have h1 : Builtin.List.listSameRef (.ref s.heap.objs.size) (.ref a) = false := by simp [Builtin.List.listSameRef, Nat.ne_of_gt hlt]
 simp only [h1, show (Value.type "set" == Value.type "list") = false by decide, show (Value.type "set" == Value.type "tuple") = false by decide, Bool.or_false, Bool.false_eq_true, if_false]
 refine wpAny_bind (iter_set ho1 hx hd G fun h1 d I fp St ord W st hfp kp hI hord => ?_)
 have hTa : Shared.TypeIs { s with heap := h1, drawn := d } (.ref a) "set" := ⟨o, kp _ _ ho1, hx.1⟩
 refine wpAny_bind (wpAny_holding (hint_set hTa ?_))
 refine (show wpAny _ A.in1 (rule "list.extend.makes-room" >>= fun _ => Builtin.List.listTouch (.ref s.heap.objs.size) >>= fun _ =>
  again (.builtin "list.extend.loop" ⟨[.ref s.heap.objs.size, .ref I, .ref s.heap.objs.size], []⟩)) _ _ _ from wpAny_bind (wpAny_rule (wpAny_bind ?_)))
 have hL : h1.get? s.heap.objs.size = some { cls := .type "list", data := .seq ([] : List Value).toArray } := kp _ _ (Heap.get?_push_size _ rfl)
 have hsz : (s.heap.push { cls := .type "list", data := .seq ([] : List Value).toArray }).objs.size = s.heap.objs.size + 1 := Heap.size_push ..
 have hSf : s.heap.objs.size ∉ fp := fun hm => by
  rcases hfp _ hm with e | e
  ·exact Nat.lt_irrefl _ (e ▸ hlt)
  ·rw [hsz] at e; exact Nat.lt_irrefl _ e
 refine (show wpAny _ A.in1 (updateSeq s.heap.objs.size (·.push .none) >>= fun _ => updateSeq s.heap.objs.size (·.pop)) _ _ _ from wpAny_bind (wpAny_updateSeq hL rfl ?_))
 have hL2 := Heap.get?_update_self (Obj.mapSeq (·.push Value.none)) hL rfl
 refine wpAny_updateSeq (s := { s with heap := _, drawn := d }) hL2 rfl ?_
 have hL3 := Heap.get?_update_self (Obj.mapSeq (·.pop)) hL2 rfl
 have oth : ∀ b o, b ≠ s.heap.objs.size -> h1.get? b = some o -> ((h1.update s.heap.objs.size (Obj.mapSeq (·.push Value.none))).update s.heap.objs.size (Obj.mapSeq (·.pop))).get? b = some o :=
  fun b o hb e => (Heap.get?_update_other _ _ (Ne.symm hb)).trans ((Heap.get?_update_other _ _ (Ne.symm hb)).trans e)
 have W1 := W A.in1 (show A.in1.handled = none from hh)
 have hol : ord.length = es.size := by have := hord.length_eq; simpa using this
 refine wpAny_pure ⟨plainId_quiet F.plain_extend_loop _, codeAny_extend_loopS W1.toS (by rw [hol]; exact fits_of_scanBound G.bd) _ hSf _ ord.length 0 _ _ _ rfl (Nat.zero_le _)
  (W1.frame 0 h1 _ st fun b hb o e => oth b o (fun q => hSf (q ▸ hb)) e) hL3 (ItemsOf.nil _) fun s' acc c hm hS' hacc => ?_⟩
 refine (show wpAny _ A (load s.heap.objs.size >>= _) _ _ s' from wpAny_bind (wpAny_load hS' ?_))
 dsimp only
 obtain ⟨h', g', d', tk', os'⟩ := s'
 have eg : g' = s.gens := hm.gens
 have ed : d' = d := hm.drawn
 have eo : os' = s.os := hm.os
 subst eg; subst ed; subst eo
 refine wpAny_pure ?_
 rw [acc_ord hacc]
 refine h ord h' d' tk' hord (fun b o e => hm.heap b o (fun hb => ?_) (oth b o (fun q => ?_) (kp _ _ (Heap.get?_push_of_some _ e)))) hm.toks (Nat.le_of_lt (Heap.lt_size hS'))
 ·have hb1 := Heap.lt_size e
  simp only [List.mem_cons, List.not_mem_nil, or_false] at hb
  rcases hb with q | q
  ·exact Nat.lt_irrefl _ (q ▸ hb1)
  ·rw [hsz, ← q] at hI; exact Nat.lt_irrefl _ (Nat.lt_of_lt_of_le hb1 (Nat.le_of_succ_le hI))
 ·exact Nat.lt_irrefl _ (q ▸ Heap.lt_size e)
end
end HS
namespace HS
open PySem PySem.Spec PyProof.Rows
noncomputable def step5 (M i : Nat) : Nat := (i * 5 + 1) % M
noncomputable def orb (M : Nat) : Nat -> Nat -> Nat
 | 0, i => i
 | t + 1, i => orb M t (step5 M i)
theorem orb_add (M : Nat) : ∀ s t i, orb M (s + t) i = orb M t (orb M s i)
 | 0, t, i => by rw [Nat.zero_add]; rfl
 | s + 1, t, i => by rw [Nat.succ_add]; exact orb_add M s t _
noncomputable def masks : List Nat := [7, 15, 31, 63, 127, 255]
theorem orb_zero : ∀ m ∈ masks, orb (m + 1) (m + 1) 0 = 0 := by decide +kernel
theorem orb_all0 : ∀ m ∈ masks, ∀ j < m + 1, ∃ t < m + 1, orb (m + 1) t 0 = j := by
 have : ∀ m ∈ masks, ∀ j < m + 1, ((List.range (m + 1)).any fun t => orb (m + 1) t 0 == j) = true := by decide +kernel
 intro m hm j hj
 obtain ⟨t, ht, e⟩ := List.any_eq_true.mp (this m hm j hj)
 exact ⟨t, by simpa using ht, by simpa using e⟩
theorem orb_all {m : Nat} (hm : m ∈ masks) {i j : Nat} (hi : i < m + 1) (hj : j < m + 1) : ∃ t < m + 1, orb (m + 1) t i = j := by
 obtain ⟨s, hs, rfl⟩ := orb_all0 m hm i hi
 obtain ⟨t, ht, rfl⟩ := orb_all0 m hm j hj
 rcases Nat.lt_or_ge t s with h | h
 ·refine ⟨m + 1 - s + t, by omega, ?_⟩
  rw [← orb_add, show s + (m + 1 - s + t) = (m + 1) + t by omega, orb_add, orb_zero m hm]
 ·refine ⟨t - s, by omega, ?_⟩
  rw [← orb_add, show s + (t - s) = t by omega]
theorem free_sound (m : Nat) (owner : Array (Option Nat)) : ∀ fuel i p r, SetTable.layClean.free m owner fuel i p = some r -> owner[r]? = some none
 | 0, i, p, r, e => by simp [SetTable.layClean.free] at e
 | fuel + 1, i, p, r, e => by
  unfold SetTable.layClean.free at e
  split at e
  ·rename_i k hk
   cases e
   have := List.find?_some hk
   simp only [Array.getD] at this
   split at this
   ·rename_i hlt
    rw [Array.getElem?_eq_getElem hlt]
    simpa using this
   ·simp at this
  ·exact free_sound m owner fuel _ _ r e
noncomputable def seen (m : Nat) : Nat -> Nat -> Nat -> Nat × Nat
 | 0, i, p => (i, p)
 | t + 1, i, p => seen m t (SetTable.leap m i p).1 (SetTable.leap m i p).2
theorem free_none (m : Nat) (owner : Array (Option Nat)) : ∀ fuel i p, SetTable.layClean.free m owner fuel i p = none -> ∀ t < fuel, owner[(seen m t i p).1]? ≠ some none
 | 0, i, p, _, t, ht => by omega
 | fuel + 1, i, p, e, t, ht => by
  unfold SetTable.layClean.free at e
  split at e
  ·cases e
  ·rename_i hk
   cases t with
   | zero =>
    intro hq
    have h0 := List.find?_eq_none.mp hk 0 (by
     have : i <= SetTable.runEnd m i := by unfold SetTable.runEnd; split <;> omega
     simp; omega)
    simp only [seen] at hq
    obtain ⟨hlt, hq⟩ := Array.getElem?_eq_some_iff.mp hq
    simp [Array.getD, hlt, hq] at h0
   | succ t => exact free_none m owner fuel _ _ e t (by omega)
theorem seen_p (m : Nat) : ∀ t i p, (seen m t i p).2 = p / 32 ^ t
 | 0, i, p => by simp [seen]
 | t + 1, i, p => by
  unfold seen
  rw [seen_p m t]
  simp only [SetTable.leap]
  rw [Nat.div_div_eq_div_mul, Nat.pow_succ, Nat.mul_comm]
theorem seen_add (m : Nat) : ∀ s t i p, seen m (s + t) i p = seen m t (seen m s i p).1 (seen m s i p).2
 | 0, t, i, p => by rw [Nat.zero_add]; rfl
 | s + 1, t, i, p => by rw [Nat.succ_add]; exact seen_add m s t _ _
theorem seen_zero (m : Nat) : ∀ t i, (seen m t i 0).1 = orb (m + 1) t i
 | 0, i => rfl
 | t + 1, i => by
  have e : SetTable.leap m i 0 = (step5 (m + 1) i, 0) := by simp [SetTable.leap, step5]
  unfold seen orb
  rw [e]
  exact seen_zero m t _
theorem seen_lt (m : Nat) : ∀ t i p, i < m + 1 -> (seen m t i p).1 < m + 1
 | 0, i, p, h => h
 | t + 1, i, p, h => seen_lt m t _ _ (Nat.mod_lt _ (by omega))
theorem free_ok {m : Nat} (hm : m ∈ masks) {owner : Array (Option Nat)} (h : Int) {j : Nat} (hj : j < m + 1) (hf : owner[j]? = some none) :
  ∃ r, SetTable.layClean.free m owner (SetTable.turns m) (SetTable.bits h % (m + 1)) (SetTable.bits h) = some r /\ owner[r]? = some none := by
 cases e : SetTable.layClean.free m owner (SetTable.turns m) (SetTable.bits h % (m + 1)) (SetTable.bits h) with
 | some r => exact ⟨r, rfl, free_sound m owner _ _ _ r e⟩
 | none =>
  exfalso
  have hn := free_none m owner _ _ _ e
  have hb : SetTable.bits h < 2 ^ 64 := by
   unfold SetTable.bits
   have := Int.emod_lt_of_pos h (show (0 : Int) < 2 ^ 64 by decide)
   have := Int.emod_nonneg h (show (2 ^ 64 : Int) ≠ 0 by decide)
   omega
  have hp : (seen m 13 (SetTable.bits h % (m + 1)) (SetTable.bits h)).2 = 0 := by
   rw [seen_p]
   exact Nat.div_eq_of_lt (Nat.lt_trans hb (by decide))
  have hi : (seen m 13 (SetTable.bits h % (m + 1)) (SetTable.bits h)).1 < m + 1 := seen_lt m _ _ _ (Nat.mod_lt _ (by omega))
  obtain ⟨t, ht, e⟩ := orb_all hm hi hj
  refine hn (13 + t) (by unfold SetTable.turns; omega) ?_
  rw [seen_add, hp, seen_zero, e]
  exact hf
noncomputable def liveOf (M : Nat) (owner : Array (Option Nat)) : List (Nat × Nat) := (List.range M).filterMap fun j => (owner.getD j none).map (j, ·)
theorem fm_same {α β : Type} {f g : α -> Option β} : ∀ {l : List α}, (∀ y ∈ l, g y = f y) -> l.filterMap g = l.filterMap f
 | [], _ => rfl
 | x :: l, h => by
  have ih := fm_same (l := l) fun y hy => h y (by simp [hy])
  simp only [List.filterMap_cons, h x (by simp), ih]
theorem fm_put {f g : Nat -> Option (Nat × Nat)} {j : Nat} {v : Nat × Nat} (hf : f j = none) (hg : g j = some v) (hx : ∀ x, x ≠ j -> g x = f x) : ∀ {l : List Nat}, l.Nodup -> j ∈ l -> (l.filterMap g).Perm (v :: l.filterMap f)
 | [], _, h => by simp at h
 | x :: l, hn, h => by
  obtain ⟨h1, h2⟩ := List.nodup_cons.mp hn
  by_cases e : x = j
  ·subst e
   have : l.filterMap g = l.filterMap f := fm_same fun y hy => hx y fun z => h1 (z ▸ hy)
   rw [List.filterMap_cons_some hg, List.filterMap_cons_none hf, this]
  ·have hj : j ∈ l := by
    rcases List.mem_cons.mp h with q | q
    ·exact absurd q.symm e
    ·exact q
   have ih := fm_put hf hg hx h2 hj
   cases q : f x with
   | none => rw [List.filterMap_cons_none (by rw [hx x e]; exact q), List.filterMap_cons_none q]; exact ih
   | some u =>
    rw [List.filterMap_cons_some (by rw [hx x e]; exact q), List.filterMap_cons_some q]
    exact (ih.cons u).trans (.swap _ _ _)
theorem live_put {M k r : Nat} {owner : Array (Option Nat)} (hs : owner.size = M) (hr : owner[r]? = some none) : (liveOf M (owner.setIfInBounds r (some k))).Perm ((r, k) :: liveOf M owner) := by
 obtain ⟨hlt, hq⟩ := Array.getElem?_eq_some_iff.mp hr
 refine fm_put (j := r) (v := (r, k)) ?_ ?_ ?_ List.nodup_range (List.mem_range.mpr (by omega))
 ·simp [Array.getD, hlt, hq]
 ·simp [Array.getD, hlt]
 ·intro x hx
  simp only [Array.getD, Array.size_setIfInBounds]
  split
  ·rename_i h
   have e : (owner.setIfInBounds r (some k))[x]'(by simpa using h) = owner[x] := Array.getElem_setIfInBounds_ne _ (Ne.symm hx)
   exact congrArg _ e
  ·rfl
theorem live_full {M : Nat} {owner : Array (Option Nat)} (hs : owner.size = M) (h : ∀ j < M, owner[j]? ≠ some none) : (liveOf M owner).length = M := by
 have : ∀ l : List Nat, (∀ j ∈ l, j < M) -> (l.filterMap fun j => (owner.getD j none).map (j, ·)).length = l.length := by
  intro l
  induction l with
  | nil => intro _; rfl
  | cons x l ih =>
   intro hl
   have hx := hl x (by simp)
   have hlt : x < owner.size := by omega
   cases q : owner[x] with
   | none => exact absurd (by rw [Array.getElem?_eq_getElem hlt, q]) (h x hx)
   | some v =>
    rw [List.filterMap_cons_some (b := (x, v)) (by simp [Array.getD, hlt, q])]
    rw [List.length_cons, ih fun j hj => hl j (by simp [hj]), List.length_cons]
 have := this (List.range M) (by simp)
 simpa [liveOf] using this
theorem fold_ok {m : Nat} (hm : m ∈ masks) : ∀ (hs : List Int) (owner : Array (Option Nat)) (k : Nat), owner.size = m + 1 -> ((liveOf (m + 1) owner).map (·.2)).Perm (List.range k) -> k + hs.length <= m + 1 ->
  ∃ owner', (hs.foldl (init := some (owner, k)) fun acc h => do
   let (owner, k) ← acc
   let j ← SetTable.layClean.free m owner (SetTable.turns m) (SetTable.bits h % (m + 1)) (SetTable.bits h)
   pure (owner.setIfInBounds j (some k), k + 1)) = some (owner', k + hs.length) /\ owner'.size = m + 1 /\ ((liveOf (m + 1) owner').map (·.2)).Perm (List.range (k + hs.length))
 | [], owner, k, h1, h2, h3 => ⟨owner, by simp, h1, by simpa using h2⟩
 | h :: hs, owner, k, h1, h2, h3 => by
  have hex : ∃ j, j < m + 1 /\ owner[j]? = some none := by
   refine Classical.byContradiction fun hc => ?_
   have := live_full h1 fun j hj q => hc ⟨j, hj, q⟩
   have h4 := h2.length_eq
   simp at h4 h3
   omega
  obtain ⟨j, hj, hf⟩ := hex
  obtain ⟨r, e, hr⟩ := free_ok hm h hj hf
  have ih := fold_ok hm hs (owner.setIfInBounds r (some k)) (k + 1) (by simpa using h1) (by
   refine ((live_put h1 hr).map (·.2)).trans ?_
   rw [List.map_cons, List.range_succ]
   exact (h2.cons k).trans (List.perm_append_singleton k _).symm) (by simp at h3; omega)
  obtain ⟨o', e1, e2, e3⟩ := ih
  refine ⟨o', ?_, e2, ?_⟩
  ·rw [List.foldl_cons]
   simp only [bind, Option.bind, e, pure]
   rw [show k + (h :: hs).length = k + 1 + hs.length by simp; omega]
   exact e1
  ·rw [show k + (h :: hs).length = k + 1 + hs.length by simp; omega]; exact e3
theorem clean_ok {m : Nat} (hm : m ∈ masks) (hs : Array Int) (hl : hs.size <= m + 1) : ∃ owner, SetTable.layClean m hs = some owner /\ owner.size = m + 1 /\ ((liveOf (m + 1) owner).map (·.2)).Perm (List.range hs.size) := by
 obtain ⟨o, e1, e2, e3⟩ := fold_ok hm hs.toList (Array.replicate (m + 1) none) 0 (by simp) (by
  have : liveOf (m + 1) (Array.replicate (m + 1) none) = [] := by
   unfold liveOf
   rw [List.filterMap_eq_nil_iff]
   intro j hj
   simp at hj
   simp [Array.getD, hj]
  rw [this]; exact .refl _) (by simpa using hl)
 refine ⟨o, ?_, e2, by simpa using e3⟩
 unfold SetTable.layClean
 rw [← Array.foldl_toList, e1]
 rfl
theorem laid_ok {m finger moves : Nat} {led plain : Bool} (hm : m ∈ masks) (hs : Array Int) (hl : hs.size <= m) :
  ∃ t o, SetTable.laid m finger moves led plain hs = some (t, o) /\ o.toList.Perm (List.range hs.size) /\ t.fits hs.size = true /\ t.place.toList.Pairwise (· < ·) /\ t.led = led /\ t.plain = plain /\ t.mask = m /\ t.dummies = #[] /\ t.place.size = hs.size := by
 obtain ⟨owner, e, e2, e3⟩ := clean_ok hm hs (by omega)
 have hlen : (liveOf (m + 1) owner).length = hs.size := by have := e3.length_eq; simpa using this
 have hlaid : SetTable.laid m finger moves led plain hs = some (({ mask := m, place := ((liveOf (m + 1) owner).map (·.1)).toArray, dummies := #[], finger, led, moves, plain } : SetTable), ((liveOf (m + 1) owner).map (·.2)).toArray) := by
  unfold SetTable.laid; rw [e]; rfl
 refine ⟨_, _, hlaid, by simpa using e3, ?_, (laid_rises hlaid).1, rfl, rfl, rfl, rfl, by simpa using hlen⟩
 simp [SetTable.fits, SetTable.fill, hlen]; omega
theorem above_ok : ∀ n < 256, SetTable.sizeAbove n - 1 ∈ masks /\ n < SetTable.sizeAbove n /\ SetTable.sizeAbove n <= 256 := by decide +kernel
end HS
namespace HS
open PySem PySem.Spec PyProof.Rows
section
variable {prog : Program} {w : World} {A : Around} {E : Value -> Shared -> Prop} {s : Shared}
end
end HS
namespace HS
open PySem PySem.Spec PyProof.Rows
section
variable {prog : Program} {w : World} {A : Around} {E : Value -> Shared -> Prop} {s : Shared}
end
end HS
namespace HS
open PySem PySem.Spec PyProof.Rows
section
variable {prog : Program} {w : World} {A : Around} {E : Value -> Shared -> Prop} {s : Shared}
end
end HS
namespace HS
open PySem PySem.Spec PyProof.Rows
section
variable {prog : Program} {w : World} {A : Around} {E : Value -> Shared -> Prop} {s : Shared}
end
end HS
namespace HS
open PySem PySem.Spec PyProof.Rows
section
variable {prog : Program} {w : World} {A : Around} {E : Value -> Shared -> Prop} {h : Heap} {g : Array GenState} {d : Drawn} {t : Nat} {os : OsState} {a : Addr} {its : Array Value} {n : Nat}
end
section
variable {prog : Program} {w : World} {A : Around} {R : Result -> Shared -> Prop} {I : Addr} {fp wr : List Addr} {n : Nat} {P : Nat -> Value -> Prop} {St : Nat -> Heap -> Prop}
structure PairAt (h : Heap) (v key val : Value) : Prop where
 ex : ∃ a o c, v = .ref a /\ h.get? a = some o /\ o.cls = .type "tuple" /\ o.data = .seq #[key, val] c
end
end HS
namespace HS
open PySem PySem.Spec PyProof.Rows
section
variable {prog : Program} {w : World} {A : Around} {E : Value -> Shared -> Prop} {s : Shared}
end
end HS
namespace L2
open PySem PySem.Spec PyProof.Rows
end L2
namespace L2
open PySem PySem.Spec PyProof.Rows
def LamGood (H : Hp) (q : Str) (ps : Array Value) : Prop := TriplesOk ps.toList /\ ∀ pos cv, codeAmong pos ps.toList = some cv -> ∃ c' oc vs t, cv = .ref c' /\ H c' = some (.frz oc (.ext fun _ => True)) /\ oc.data = .fields vs /\ vs[1]? = some (.str q t)
theorem LamGood.mono {H H' : Hp} {q : Str} {ps : Array Value} (g : LamGood H q ps) (k : ∀ b o u, H b = some (.frz o u) -> H' b = some (.frz o u)) : LamGood H' q ps :=
 ⟨g.1, fun pos cv e => let ⟨c', oc, vs, t, e1, e2, r⟩ := g.2 pos cv e; ⟨c', oc, vs, t, e1, k _ _ _ e2, r⟩⟩
end L2
namespace L2
open PySem PySem.Spec PyProof.Rows
structure LamScope (x : Str) (caps : List Str) (sc : Scope) (cl : List (Str × Addr)) : Prop where
 kind : sc.kind = .function
 co : sc.isCoroutine = false
 gen : sc.isGenerator = false
 nd : (x :: caps).Nodup
 par : sc.names.lookup x = some .local
 nocell : ∀ y ∈ sc.names, y.2 ≠ .cell
 free : ∀ y, sc.names.lookup y = some .free -> ∃ c, cl.lookup y = some c
 inj : ∀ y z c, cl.lookup y = some c -> cl.lookup z = some c -> y = z
end L2
namespace HW
open PySem L2
inductive D where
 | non | bl (b : Bool) | int (i : Int) | str (x : Str)
 | tup (xs : List D) | fl (xs : List D) | fd (ks : List Key) (ds : List D) | key (ks : List Int)
structure LamD where
 qual : Str
 params : Arguments
 body : Expr
 scope : Scope
 x : Str
 caps : List Str
inductive R where
 | v (d : D) | p (n : Nat) | s (b : Bool) (xs : List Int) | x (c : Str) | f (L : LamD) (ds : List D)
inductive Cell where
 | lst (xs : List D) | fz (xs : List D) | dct (kvs : List (Key × D)) | fzd (kvs : List (Key × D)) | dr (kvs : List (Key × R)) | lr (xs : List R) | dt (kvs : List (List Int × D)) | tb (P : Nat) (q : Str)
noncomputable abbrev Store := List Cell
noncomputable abbrev Lo := List (Option R)
noncomputable abbrev FE := Lo -> Store -> Option (R × Store)
noncomputable abbrev FT := Lo -> Store -> Option (Bool × Store)
noncomputable abbrev FA := Lo -> Store -> Option (List R × Store)
inductive Out where
 | nx (ρ : Lo) (μ : Store) | rt (d : R) (μ : Store) | bk (ρ : Lo) (μ : Store) | ct (ρ : Lo) (μ : Store)
noncomputable abbrev FS := Lo -> Store -> Option Out
def FAt (K : PySem.W.Frag) (H : Hp) (a : Addr) (vs : List V) : Prop := (∃ o, H a = some (.frz o (.lst vs))) \/ SqL K (fun _ => none) a vs
mutual
def RelD (K : PySem.W.Frag) (H : Hp) : D -> V -> Prop
 | .non, v => v = .non
 | .bl b, v => v = .bl b
 | .int i, v => v = .int i
 | .str x, v => v = .str x
 | .tup xs, v => ∃ a vs, v = .ref a /\ SqT K H a vs /\ RelDs K H xs vs
 | .fl xs, v => ∃ a vs, v = .ref a /\ FAt K H a vs /\ RelDs K H xs vs
 | .fd ks ds, v => ∃ a o es, v = .ref a /\ H a = some (.frz o (.dK es)) /\ es.map (·.1) = ks /\ RelDs K H ds (es.map (·.2))
 | .key ks, v => ∃ a, v = .ref a /\ H a = some (.tup (ks.map V.int))
def RelDs (K : PySem.W.Frag) (H : Hp) : List D -> List V -> Prop
 | [], vs => vs = []
 | x :: xs, vs => ∃ v r, vs = v :: r /\ RelD K H x v /\ RelDs K H xs r
end
structure LamR (K : PySem.W.Frag) (H : Hp) (L : LamD) (ds : List D) (a : Addr) (cl : List (Str × Addr)) (pm ctv : Value) (c' : Addr) : Prop where
 fn : H a = some (.frz (PySem.W.kla_obj "<lambda>" L.qual L.params L.body L.scope cl pm c' ctv) (.ext fun _ => True))
 code : ∃ oc vs t, H c' = some (.frz oc (.ext fun _ => True)) /\ oc.data = .fields vs /\ vs[1]? = some (.str L.qual t)
 len : ds.length = L.caps.length
 cell : ∀ y c, cl.lookup y = some c -> ∃ z o, H c = some (.frz o (.ext fun _ => True)) /\ o.data = .cell z
 cap : ∀ (i : Nat) y d, L.caps[i]? = some y -> ds[i]? = some d -> ∃ c o u vy, L.scope.names.lookup y = some .free /\ cl.lookup y = some c /\ H c = some (.frz o (.ext fun _ => True)) /\ o.data = .cell (some u) /\ RelV vy u /\ RelD K H d vy
 sc : LamScope L.x L.caps L.scope cl
def RelR (K : PySem.W.Frag) (m : List Addr) (H : Hp) : R -> V -> Prop
 | .v d, v => RelD K H d v
 | .p n, v => ∃ a, v = .ref a /\ m[n]? = some a
 | .s b xs, v => ∃ a o, v = .ref a /\ H a = some (.frz o (.ext fun _ => True)) /\ HS.SetG b o xs
 | .x c, v => ∃ a vs C, v = .ref a /\ H a = some (.frz { cls := .ref C, dict := none, data := .fields vs, slots := #[] } (.ext fun _ => True)) /\ PySem.W.nsIn K mainGlobals c = some (some (.ref C))
 | .f L ds, v => ∃ a cl pm ctv c', v = .ref a /\ LamR K H L ds a cl pm ctv c'
def RelRs (K : PySem.W.Frag) (m : List Addr) (H : Hp) : List R -> List V -> Prop
 | [], vs => vs = []
 | x :: xs, vs => ∃ v r, vs = v :: r /\ RelR K m H x v /\ RelRs K m H xs r
def CellR (K : PySem.W.Frag) (m : List Addr) (H : Hp) : Cell -> Addr -> Prop
 | .lst xs, a => ∃ vs, H a = some (.lst vs) /\ RelDs K H xs vs
 | .fz xs, a => ∃ o vs, H a = some (.frz o (.lst vs)) /\ RelDs K H xs vs
 | .dct kvs, a => ∃ es, H a = some (.dK es) /\ es.map (·.1) = kvs.map (·.1) /\ RelDs K H (kvs.map (·.2)) (es.map (·.2))
 | .fzd kvs, a => ∃ o es, H a = some (.frz o (.dK es)) /\ es.map (·.1) = kvs.map (·.1) /\ RelDs K H (kvs.map (·.2)) (es.map (·.2))
 | .dr kvs, a => ∃ es, H a = some (.dK es) /\ es.map (·.1) = kvs.map (·.1) /\ RelRs K m H (kvs.map (·.2)) (es.map (·.2))
 | .lr xs, a => ∃ vs, H a = some (.lst vs) /\ RelRs K m H xs vs
 | .tb P q, a => a = P /\ ∃ ps, H P = some (.tbl ps) /\ LamGood H q ps
 | .dt kvs, a => ∃ es, H a = some (.dT es) /\ es.map (·.1) = kvs.map (fun p => p.1.map Sum.inl) /\ RelDs K H (kvs.map (·.2)) (es.map (·.2))
structure SRel (K : PySem.W.Frag) (m : List Addr) (H : Hp) (μ : Store) : Prop where
 nd : m.Nodup
 len : m.length = μ.length
 cell : ∀ (i : Nat) c a, μ[i]? = some c -> m[i]? = some a -> CellR K m H c a
structure TF (H H' : Hp) : Prop where
 tup : ∀ a xs, H a = some (.tup xs) -> H' a = some (.tup xs)
 frz : ∀ a o u, H a = some (.frz o u) -> H' a = some (.frz o u)
structure Ext (m : List Addr) (H : Hp) (m' : List Addr) (H' : Hp) : Prop where
 ext : ∃ e, m' = m ++ e /\ ∀ a ∈ e, H a = none
 tf : TF H H'
 keep : ∀ a o, H a = some o -> a ∉ m -> H' a = some o
 live : ∀ a, H' a = none -> H a = none
def LRel (K : PySem.W.Frag) (m : List Addr) (H : Hp) (ρ : Lo) (σ : St) : Prop :=
 ρ.length = σ.length /\ ∀ (i : Nat) d, ρ[i]? = some (some d) -> ∃ v, σ[i]? = some (some v) /\ RelR K m H d v
section
variable {K : PySem.W.Frag} {m m' m1 m2 : List Addr} {H H' H1 H2 : Hp} {μ μ' : Store} {ρ : Lo} {σ : St}
theorem TF.refl : TF H H := ⟨fun _ _ h => h, fun _ _ _ h => h⟩
theorem TF.trans (a : TF H H1) (b : TF H1 H2) : TF H H2 := ⟨fun _ _ h => b.tup _ _ (a.tup _ _ h), fun _ _ _ h => b.frz _ _ _ (a.frz _ _ _ h)⟩
theorem TF.of (h : ∀ a o, H a = some o -> H' a = some o) : TF H H' := ⟨fun _ _ e => h _ _ e, fun _ _ _ e => h _ _ e⟩
theorem SqT.tf {a vs} (t : TF H H') (h : SqT K H a vs) : SqT K H' a vs := by
 rcases h with (h | ⟨o, h⟩) | h
 ·exact .inl (.inl (t.tup _ _ h))
 ·exact .inl (.inr ⟨o, t.frz _ _ _ h⟩)
 ·exact .inr h
theorem FAt.tf {a vs} (t : TF H H') (h : FAt K H a vs) : FAt K H' a vs := by
 rcases h with ⟨o, h⟩ | h
 ·exact .inl ⟨o, t.frz _ _ _ h⟩
 ·exact .inr h
theorem FAt.sq {a vs} (h : FAt K H a vs) : SqL K H a vs := by
 rcases h with ⟨o, h⟩ | (h | ⟨_, h⟩) | h
 ·exact .inl (.inr ⟨o, h⟩)
 ·cases h
 ·cases h
 ·exact .inr h
mutual
theorem RelD.tf (t : TF H H') : ∀ (d : D) (v : V), RelD K H d v -> RelD K H' d v
 | .non, _, h => by simpa only [RelD] using h
 | .bl _, _, h => by simpa only [RelD] using h
 | .int _, _, h => by simpa only [RelD] using h
 | .str _, _, h => by simpa only [RelD] using h
 | .tup xs, v, h => by
  simp only [RelD] at h ⊢
  obtain ⟨a, vs, e, s, r⟩ := h
  exact ⟨a, vs, e, SqT.tf t s, RelDs.tf t xs vs r⟩
 | .fl xs, v, h => by
  simp only [RelD] at h ⊢
  obtain ⟨a, vs, e, s, r⟩ := h
  exact ⟨a, vs, e, s.tf t, RelDs.tf t xs vs r⟩
 | .fd ks ds, v, h => by
  simp only [RelD] at h ⊢
  obtain ⟨a, o, es, e, s, k, r⟩ := h
  exact ⟨a, o, es, e, t.frz _ _ _ s, k, RelDs.tf t ds _ r⟩
 | .key ks, v, h => by
  simp only [RelD] at h ⊢
  obtain ⟨a, e, q⟩ := h
  exact ⟨a, e, t.tup _ _ q⟩
theorem RelDs.tf (t : TF H H') : ∀ (ds : List D) (vs : List V), RelDs K H ds vs -> RelDs K H' ds vs
 | [], _, h => by simpa only [RelDs] using h
 | d :: ds, vs, h => by
  simp only [RelDs] at h ⊢
  obtain ⟨v, r, e, h1, h2⟩ := h
  exact ⟨v, r, e, RelD.tf t d v h1, RelDs.tf t ds r h2⟩
end
theorem LamR.tf {L ds a cl pm ctv c'} (t : TF H H') (h : LamR K H L ds a cl pm ctv c') : LamR K H' L ds a cl pm ctv c' :=
 ⟨t.frz _ _ _ h.fn, let ⟨oc, vs, u, e, r⟩ := h.code; ⟨oc, vs, u, t.frz _ _ _ e, r⟩, h.len, fun y c e => let ⟨z, o, q, r⟩ := h.cell y c e; ⟨z, o, t.frz _ _ _ q, r⟩,
  fun i y d e1 e2 => let ⟨c, o, u, vy, k1, k2, k3, k4, k5, k6⟩ := h.cap i y d e1 e2; ⟨c, o, u, vy, k1, k2, t.frz _ _ _ k3, k4, k5, RelD.tf t _ _ k6⟩, h.sc⟩
theorem Ext.refl : Ext m H m H := ⟨⟨[], by simp⟩, .refl, fun _ _ h _ => h, fun _ h => h⟩
theorem Ext.trans (x : Ext m H m1 H1) (y : Ext m1 H1 m2 H2) : Ext m H m2 H2 := by
 obtain ⟨e1, rfl, f1⟩ := x.ext
 obtain ⟨e2, rfl, f2⟩ := y.ext
 refine ⟨⟨e1 ++ e2, by simp, fun a ha => ?_⟩, x.tf.trans y.tf, fun a o h n => ?_, fun a h => x.live a (y.live a h)⟩
 ·rcases List.mem_append.mp ha with h | h
  ·exact f1 a h
  ·exact x.live a (f2 a h)
 ·refine y.keep a o (x.keep a o h n) fun z => ?_
  rcases List.mem_append.mp z with z | z
  ·exact n z
  ·rw [f1 a z] at h; cases h
theorem RelR.ext (x : Ext m H m' H') {d : R} {v : V} (h : RelR K m H d v) : RelR K m' H' d v := by
 cases d with
 | v d => exact RelD.tf x.tf d v h
 | p n =>
  obtain ⟨a, e, q⟩ := h
  obtain ⟨e1, rfl, _⟩ := x.ext
  refine ⟨a, e, ?_⟩
  obtain ⟨hl, hq⟩ := List.getElem?_eq_some_iff.mp q
  rw [List.getElem?_append_left hl]; exact q
 | s b xs =>
  obtain ⟨a, o, e, q, r⟩ := h
  exact ⟨a, o, e, x.tf.frz _ _ _ q, r⟩
 | x c =>
  obtain ⟨a, vs, C, e, q, r⟩ := h
  exact ⟨a, vs, C, e, x.tf.frz _ _ _ q, r⟩
 | f L ds =>
  obtain ⟨a, cl, pm, ctv, c', e, q⟩ := h
  exact ⟨a, cl, pm, ctv, c', e, q.tf x.tf⟩
theorem RelRs.ext (x : Ext m H m' H') : ∀ {ds : List R} {vs : List V}, RelRs K m H ds vs -> RelRs K m' H' ds vs
 | [], _, h => h
 | _ :: _, _, ⟨v, r, e, h1, h2⟩ => ⟨v, r, e, h1.ext x, RelRs.ext x h2⟩
theorem LRel.ext (x : Ext m H m' H') (h : LRel K m H ρ σ) : LRel K m' H' ρ σ :=
 ⟨h.1, fun i d e => let ⟨v, q, r⟩ := h.2 i d e; ⟨v, q, r.ext x⟩⟩
theorem RelR.tfm (t : TF H H') (y : ∃ e, m' = m ++ e) {d : R} {v : V} (h : RelR K m H d v) : RelR K m' H' d v := by
 cases d with
 | v d => exact RelD.tf t d v h
 | p n =>
  obtain ⟨a, e, q⟩ := h
  obtain ⟨e1, rfl⟩ := y
  refine ⟨a, e, ?_⟩
  obtain ⟨hl, hq⟩ := List.getElem?_eq_some_iff.mp q
  rw [List.getElem?_append_left hl]; exact q
 | s b xs =>
  obtain ⟨a, o, e, q, r⟩ := h
  exact ⟨a, o, e, t.frz _ _ _ q, r⟩
 | x c =>
  obtain ⟨a, vs, C, e, q, r⟩ := h
  exact ⟨a, vs, C, e, t.frz _ _ _ q, r⟩
 | f L ds =>
  obtain ⟨a, cl, pm, ctv, c', e, q⟩ := h
  exact ⟨a, cl, pm, ctv, c', e, q.tf t⟩
theorem RelRs.tfm (t : TF H H') (y : ∃ e, m' = m ++ e) : ∀ {ds : List R} {vs : List V}, RelRs K m H ds vs -> RelRs K m' H' ds vs
 | [], _, h => h
 | _ :: _, _, ⟨v, r, e, h1, h2⟩ => ⟨v, r, e, h1.tfm t y, RelRs.tfm t y h2⟩
theorem CellR.same (s : ∀ a o, H a = some o -> H' a = some o) (y : ∃ e, m' = m ++ e) {c : Cell} {a : Addr} (h : CellR K m H c a) : CellR K m' H' c a := by
 cases c with
 | lst xs => obtain ⟨vs, e, r⟩ := h; exact ⟨vs, s _ _ e, RelDs.tf (.of s) _ _ r⟩
 | fz xs => obtain ⟨o, vs, e, r⟩ := h; exact ⟨o, vs, s _ _ e, RelDs.tf (.of s) _ _ r⟩
 | dct kvs => obtain ⟨es, e, k, r⟩ := h; exact ⟨es, s _ _ e, k, RelDs.tf (.of s) _ _ r⟩
 | fzd kvs => obtain ⟨o, es, e, k, r⟩ := h; exact ⟨o, es, s _ _ e, k, RelDs.tf (.of s) _ _ r⟩
 | dr kvs => obtain ⟨es, e, k, r⟩ := h; exact ⟨es, s _ _ e, k, RelRs.tfm (.of s) y r⟩
 | lr xs => obtain ⟨vs, e, r⟩ := h; exact ⟨vs, s _ _ e, RelRs.tfm (.of s) y r⟩
 | dt kvs => obtain ⟨es, e, k, r⟩ := h; exact ⟨es, s _ _ e, k, RelDs.tf (.of s) _ _ r⟩
 | tb P q => obtain ⟨e, ps, k, r⟩ := h; exact ⟨e, ps, s _ _ k, r.mono fun b o u g => s _ _ g⟩
theorem CellR.some {c : Cell} {a : Addr} (h : CellR K m H c a) : ∃ o, H a = some o := by
 cases c with
 | lst xs => obtain ⟨vs, e, r⟩ := h; exact ⟨_, e⟩
 | fz xs => obtain ⟨o, vs, e, r⟩ := h; exact ⟨_, e⟩
 | dct kvs => obtain ⟨es, e, k, r⟩ := h; exact ⟨_, e⟩
 | fzd kvs => obtain ⟨o, es, e, k, r⟩ := h; exact ⟨_, e⟩
 | dr kvs => obtain ⟨es, e, k, r⟩ := h; exact ⟨_, e⟩
 | lr xs => obtain ⟨vs, e, r⟩ := h; exact ⟨_, e⟩
 | dt kvs => obtain ⟨es, e, k, r⟩ := h; exact ⟨_, e⟩
 | tb P q => obtain ⟨e, ps, k, r⟩ := h; exact ⟨_, e ▸ k⟩
theorem SRel.same (h : SRel K m H μ) (s : ∀ a o, H a = some o -> H' a = some o) : SRel K m H' μ :=
 ⟨h.nd, h.len, fun i c a e1 e2 => (h.cell i c a e1 e2).same s ⟨[], by simp⟩⟩
theorem SRel.mem (h : SRel K m H μ) {a : Addr} (ha : a ∈ m) : ∃ o, H a = some o := by
 obtain ⟨i, hi, e⟩ := List.getElem_of_mem ha
 have hi' : i < μ.length := by rw [← h.len]; exact hi
 exact (h.cell i μ[i] a (List.getElem?_eq_getElem hi') (by rw [← e]; exact List.getElem?_eq_getElem hi)).some
theorem SRel.fresh (h : SRel K m H μ) {p : Addr} (hp : H p = none) : p ∉ m := fun z => by
 obtain ⟨o, e⟩ := h.mem z
 rw [hp] at e; cases e
theorem SRel.nil : SRel K [] H [] := ⟨.nil, rfl, fun i c a e => by simp at e⟩
theorem upd_keeps {p : Addr} {o : HO} (hp : H p = none) : ∀ a u, H a = some u -> upd H p o a = some u := fun a u e => by
 unfold upd; rw [if_neg (fun z => by rw [z, hp] at e; cases e)]; exact e
theorem upd_live {p : Addr} {o : HO} {a : Addr} (h : upd H p o a = none) : H a = none := by
 unfold upd at h; split at h
 ·cases h
 ·exact h
theorem upd_at {p : Addr} {o : HO} : upd H p o p = some o := by unfold upd; rw [if_pos rfl]
theorem Ext.new {p : Addr} {o : HO} (hp : H p = none) : Ext m H m (upd H p o) :=
 ⟨⟨[], by simp⟩, .of (upd_keeps hp), fun a u e _ => upd_keeps hp a u e, fun _ h => upd_live h⟩
theorem Ext.newH {p : Addr} {o : HO} (hp : H p = none) : Ext m H (m ++ [p]) (upd H p o) :=
 ⟨⟨[p], rfl, fun a h => by rw [List.mem_singleton.mp h]; exact hp⟩, .of (upd_keeps hp), fun a u e _ => upd_keeps hp a u e, fun _ h => upd_live h⟩
theorem SRel.newH {p : Addr} {o : HO} {c : Cell} (h : SRel K m H μ) (hp : H p = none) (hc : CellR K (m ++ [p]) (upd H p o) c p) : SRel K (m ++ [p]) (upd H p o) (μ ++ [c]) := by
 refine ⟨?_, by simp [h.len], fun i c' a e1 e2 => ?_⟩
 ·refine List.nodup_append.mpr ⟨h.nd, by simp, fun a ha b hb => ?_⟩
  rw [List.mem_singleton.mp hb]
  rintro rfl
  exact h.fresh hp ha
 ·by_cases hi : i < m.length
  ·rw [List.getElem?_append_left hi] at e2
   rw [List.getElem?_append_left (by rw [← h.len]; exact hi)] at e1
   exact (h.cell i c' a e1 e2).same (upd_keeps hp) ⟨[p], rfl⟩
  ·rw [List.getElem?_append_right (by omega)] at e2
   rw [List.getElem?_append_right (by have := h.len; omega)] at e1
   have hl := h.len
   have : i - m.length = 0 := by
    cases q : i - m.length with
    | zero => rfl
    | succ k => rw [q] at e2; simp at e2
   have e3 : i - μ.length = 0 := by omega
   rw [this] at e2; rw [e3] at e1
   simp at e1 e2
   subst e1 e2
   exact hc
theorem Ext.put {a : Addr} {o o' : HO} (ha : a ∈ m) (e : H a = some o) (ho : ∀ xs, o ≠ .tup xs) (hf : ∀ x u, o ≠ .frz x u) : Ext m H m (upd H a o') := by
 have ne : ∀ b u, H b = some u -> u ≠ o -> b ≠ a := fun b u q n z => by rw [z, e] at q; exact n (Option.some.inj q).symm
 refine ⟨⟨[], by simp⟩, ⟨fun b xs q => ?_, fun b x u q => ?_⟩, fun b u q n => ?_, fun b h => upd_live h⟩
 ·unfold upd; rw [if_neg (ne b _ q fun z => ho xs z.symm)]; exact q
 ·unfold upd; rw [if_neg (ne b _ q fun z => hf x u z.symm)]; exact q
 ·unfold upd; rw [if_neg (fun z : b = a => n (by rw [z]; exact ha))]; exact q
theorem SRel.put {n : Nat} {a : Addr} {o o' : HO} {c : Cell} (h : SRel K m H μ) (hn : m[n]? = some a) (e : H a = some o) (ho : ∀ xs, o ≠ .tup xs) (hf : ∀ x u, o ≠ .frz x u) (hc : CellR K m (upd H a o') c a) : SRel K m (upd H a o') (μ.set n c) := by
 have ha : a ∈ m := List.mem_of_getElem? hn
 have x : Ext m H m (upd H a o') := .put ha e ho hf
 refine ⟨h.nd, by simp [h.len], fun i c' b e1 e2 => ?_⟩
 by_cases hi : i = n
 ·subst hi
  rw [hn] at e2; cases e2
  rw [List.getElem?_set_self (by have := (List.getElem?_eq_some_iff.mp hn).1; have := h.len; omega)] at e1
  cases e1
  exact hc
 ·rw [List.getElem?_set_ne (Ne.symm hi)] at e1
  have nb : b ≠ a := by
   rintro rfl
   obtain ⟨h1, q1⟩ := List.getElem?_eq_some_iff.mp e2
   obtain ⟨h2, q2⟩ := List.getElem?_eq_some_iff.mp hn
   exact hi ((List.getElem_inj h.nd).mp (q1.trans q2.symm))
  have at' : ∀ u, H b = some u -> upd H a o' b = some u := fun u q => by unfold upd; rw [if_neg nb]; exact q
  have z := h.cell i c' b e1 e2
  cases c' with
  | lst xs => obtain ⟨vs, e, r⟩ := z; exact ⟨vs, at' _ e, RelDs.tf x.tf _ _ r⟩
  | fz xs => obtain ⟨o, vs, e, r⟩ := z; exact ⟨o, vs, at' _ e, RelDs.tf x.tf _ _ r⟩
  | dct kvs => obtain ⟨es, e, k, r⟩ := z; exact ⟨es, at' _ e, k, RelDs.tf x.tf _ _ r⟩
  | fzd kvs => obtain ⟨o, es, e, k, r⟩ := z; exact ⟨o, es, at' _ e, k, RelDs.tf x.tf _ _ r⟩
  | dr kvs => obtain ⟨es, e, k, r⟩ := z; exact ⟨es, at' _ e, k, RelRs.tfm x.tf ⟨[], by simp⟩ r⟩
  | lr xs => obtain ⟨vs, e, r⟩ := z; exact ⟨vs, at' _ e, RelRs.tfm x.tf ⟨[], by simp⟩ r⟩
  | dt kvs => obtain ⟨es, e, k, r⟩ := z; exact ⟨es, at' _ e, k, RelDs.tf x.tf _ _ r⟩
  | tb P q => obtain ⟨e, ps, k, r⟩ := z; subst e; exact ⟨rfl, ps, at' _ k, r.mono x.tf.frz⟩
end
def rdE (K : PySem.W.Frag) (f : FE) : TE := fun σ H Q => ∃ ρ μ m d μ', LRel K m H ρ σ /\ SRel K m H μ /\ f ρ μ = some (d, μ') /\
 ∀ v H' m', Ext m H m' H' -> SRel K m' H' μ' -> RelR K m' H' d v -> Q v H'
def rdT (K : PySem.W.Frag) (f : FT) : TT := fun σ H Q => ∃ ρ μ m b μ', LRel K m H ρ σ /\ SRel K m H μ /\ f ρ μ = some (b, μ') /\
 ∀ H' m', Ext m H m' H' -> SRel K m' H' μ' -> Q b H'
def rdA (K : PySem.W.Frag) (f : FA) : TA := fun σ H Q => ∃ ρ μ m ds μ', LRel K m H ρ σ /\ SRel K m H μ /\ f ρ μ = some (ds, μ') /\
 ∀ vs H' m', Ext m H m' H' -> SRel K m' H' μ' -> RelRs K m' H' ds vs -> Q vs H'
def Ends.of (K : PySem.W.Frag) (m : List Addr) (H : Hp) (D : Ends) : Out -> Prop
 | .nx ρ μ => ∀ σ H' m', Ext m H m' H' -> SRel K m' H' μ -> LRel K m' H' ρ σ -> D.nx σ H'
 | .bk ρ μ => ∀ σ H' m', Ext m H m' H' -> SRel K m' H' μ -> LRel K m' H' ρ σ -> D.bk σ H'
 | .ct ρ μ => ∀ σ H' m', Ext m H m' H' -> SRel K m' H' μ -> LRel K m' H' ρ σ -> D.ct σ H'
 | .rt d μ => ∀ v H' m', Ext m H m' H' -> SRel K m' H' μ -> RelR K m' H' d v -> D.rt v H'
def rdS (K : PySem.W.Frag) (f : FS) : TS := fun D σ H => ∃ ρ μ m out, LRel K m H ρ σ /\ SRel K m H μ /\ f ρ μ = some out /\ Ends.of K m H D out
noncomputable def fVar (i : Nat) : FE := fun ρ μ => match ρ[i]? with | some (some d) => some (d, μ) | _ => none
noncomputable def fK (d : D) : FE := fun _ μ => some (.v d, μ)
noncomputable def fOp (g : R -> R -> Store -> Option (R × Store)) (fa fb : FE) : FE := fun ρ μ => (fa ρ μ).bind fun a => (fb ρ a.2).bind fun b => g a.1 b.1 b.2
noncomputable def fUn (g : R -> Store -> Option (R × Store)) (fa : FE) : FE := fun ρ μ => (fa ρ μ).bind fun a => g a.1 a.2
def GOp (K : PySem.W.Frag) (g : R -> R -> Store -> Option (R × Store)) (r : R2) : Prop :=
 ∀ m H μ x y d μ' v u Q, SRel K m H μ -> RelR K m H x v -> RelR K m H y u -> g x y μ = some (d, μ') -> (∀ w H' m', Ext m H m' H' -> SRel K m' H' μ' -> RelR K m' H' d w -> Q w H') -> r v u H Q
def GUn (K : PySem.W.Frag) (g : R -> Store -> Option (R × Store)) (r : V -> Hp -> VK -> Prop) : Prop :=
 ∀ m H μ x d μ' v Q, SRel K m H μ -> RelR K m H x v -> g x μ = some (d, μ') -> (∀ w H' m', Ext m H m' H' -> SRel K m' H' μ' -> RelR K m' H' d w -> Q w H') -> r v H Q
def GAr (K : PySem.W.Frag) (g : List R -> Store -> Option (R × Store)) (r : List V -> Hp -> VK -> Prop) : Prop :=
 ∀ m H μ xs d μ' vs Q, SRel K m H μ -> RelRs K m H xs vs -> g xs μ = some (d, μ') -> (∀ w H' m', Ext m H m' H' -> SRel K m' H' μ' -> RelR K m' H' d w -> Q w H') -> r vs H Q
noncomputable def fNil : FA := fun _ μ => some ([], μ)
noncomputable def fCons (fa : FE) (fr : FA) : FA := fun ρ μ => (fa ρ μ).bind fun a => (fr ρ a.2).bind fun r => some (a.1 :: r.1, r.2)
noncomputable def fAr (g : List R -> Store -> Option (R × Store)) (fa : FA) : FE := fun ρ μ => (fa ρ μ).bind fun a => g a.1 a.2
section
variable {K : PySem.W.Frag} {σ : St} {H : Hp} {Q : VK}
theorem rd_var {i : Nat} (h : rdE K (fVar i) σ H Q) : tVar i σ H Q := by
 obtain ⟨ρ, μ, m, d, μ', hl, hs, e, k⟩ := h
 unfold fVar at e
 split at e
 ·rename_i d' q
  cases e
  obtain ⟨v, q1, q2⟩ := hl.2 i _ q
  exact ⟨v, q1, k v H m .refl hs q2⟩
 ·cases e
theorem rd_const {d : D} {v : V} (hv : ∀ m H, RelR K m H (.v d) v) (h : rdE K (fK d) σ H Q) : tC v σ H Q := by
 obtain ⟨ρ, μ, m, d', μ', hl, hs, e, k⟩ := h
 cases e
 exact k v H m .refl hs (hv _ _)
theorem rd_op {g r fa fb} (hg : GOp K g r) (h : rdE K (fOp g fa fb) σ H Q) : tOp r (rdE K fa) (rdE K fb) σ H Q := by
 obtain ⟨ρ, μ, m, d, μ', hl, hs, e, k⟩ := h
 obtain ⟨⟨x, μ1⟩, e1, e⟩ := Option.bind_eq_some_iff.mp e
 obtain ⟨⟨y, μ2⟩, e2, e⟩ := Option.bind_eq_some_iff.mp e
 refine ⟨ρ, μ, m, x, μ1, hl, hs, e1, fun v H1 m1 x1 s1 r1 => ?_⟩
 refine ⟨ρ, μ1, m1, y, μ2, hl.ext x1, s1, e2, fun u H2 m2 x2 s2 r2 => ?_⟩
 exact hg m2 H2 μ2 x y d μ' v u Q s2 (r1.ext x2) r2 e fun w H3 m3 x3 s3 r3 => k w H3 m3 ((x1.trans x2).trans x3) s3 r3
theorem rd_un {g r fa} (hg : GUn K g r) (h : rdE K (fUn g fa) σ H Q) : tUn r (rdE K fa) σ H Q := by
 obtain ⟨ρ, μ, m, d, μ', hl, hs, e, k⟩ := h
 obtain ⟨⟨x, μ1⟩, e1, e⟩ := Option.bind_eq_some_iff.mp e
 refine ⟨ρ, μ, m, x, μ1, hl, hs, e1, fun v H1 m1 x1 s1 r1 => ?_⟩
 exact hg m1 H1 μ1 x d μ' v Q s1 r1 e fun w H3 m3 x3 s3 r3 => k w H3 m3 (x1.trans x3) s3 r3
theorem rd_nil {Q : List V -> Hp -> Prop} (h : rdA K fNil σ H Q) : tNil σ H Q := by
 obtain ⟨ρ, μ, m, ds, μ', hl, hs, e, k⟩ := h
 cases e
 exact k [] H m .refl hs rfl
theorem rd_cons {fa fr} {Q : List V -> Hp -> Prop} (h : rdA K (fCons fa fr) σ H Q) : tCons (rdE K fa) (rdA K fr) σ H Q := by
 obtain ⟨ρ, μ, m, ds, μ', hl, hs, e, k⟩ := h
 obtain ⟨⟨x, μ1⟩, e1, e⟩ := Option.bind_eq_some_iff.mp e
 obtain ⟨⟨xs, μ2⟩, e2, e⟩ := Option.bind_eq_some_iff.mp e
 cases e
 refine ⟨ρ, μ, m, x, μ1, hl, hs, e1, fun v H1 m1 x1 s1 r1 => ?_⟩
 refine ⟨ρ, μ1, m1, xs, μ2, hl.ext x1, s1, e2, fun vs H2 m2 x2 s2 r2 => ?_⟩
 exact k (v :: vs) H2 m2 (x1.trans x2) s2 ⟨v, vs, rfl, r1.ext x2, r2⟩
theorem rd_ar {g r fa} (hg : GAr K g r) (h : rdE K (fAr g fa) σ H Q) : tCB r (rdA K fa) σ H Q := by
 obtain ⟨ρ, μ, m, d, μ', hl, hs, e, k⟩ := h
 obtain ⟨⟨xs, μ1⟩, e1, e⟩ := Option.bind_eq_some_iff.mp e
 refine ⟨ρ, μ, m, xs, μ1, hl, hs, e1, fun vs H1 m1 x1 s1 r1 => ?_⟩
 exact hg m1 H1 μ1 xs d μ' vs Q s1 r1 e fun w H3 m3 x3 s3 r3 => k w H3 m3 (x1.trans x3) s3 r3
end
noncomputable def fB (fa : FE) : FT := fun ρ μ => (fa ρ μ).bind fun a => match a.1 with | .v (.bl b) => some (b, a.2) | _ => none
noncomputable def truD : R -> Store -> Option Bool
 | .v .non, _ => some false
 | .v (.bl b), _ => some b
 | .v (.int i), _ => some (i != 0)
 | .v (.str x), _ => if x.length <= sizeLine then some ((x.length : Int) != 0) else none
 | .v (.tup xs), _ => some (!xs.isEmpty)
 | .v (.fl xs), _ => some (!xs.isEmpty)
 | .v (.fd _ _), _ => none
 | .v (.key _), _ => none
 | .s _ _, _ => none
 | .x _, _ => none
 | .f _ _, _ => none
 | .p n, μ => match μ[n]? with | some (.lst xs) => some (!xs.isEmpty) | some (.fz xs) => some (!xs.isEmpty) | some (.dct kvs) => some (!kvs.isEmpty) | _ => none
noncomputable def fTru (fa : FE) : FT := fun ρ μ => (fa ρ μ).bind fun a => (truD a.1 a.2).bind fun b => some (b, a.2)
noncomputable def tAndF (t u : FT) : FT := fun ρ μ => (t ρ μ).bind fun c => if c.1 = true then u ρ c.2 else some (false, c.2)
noncomputable def tOrF (t u : FT) : FT := fun ρ μ => (t ρ μ).bind fun c => if c.1 = true then some (true, c.2) else u ρ c.2
noncomputable def tNotF (t : FT) : FT := fun ρ μ => (t ρ μ).bind fun c => some (!c.1, c.2)
noncomputable def fAnd (fa fb : FE) : FE := fun ρ μ => (fa ρ μ).bind fun a => match a.1 with | .v (.bl c) => if c = true then fb ρ a.2 else some (.v (.bl false), a.2) | _ => none
noncomputable def fOr (fa fb : FE) : FE := fun ρ μ => (fa ρ μ).bind fun a => match a.1 with | .v (.bl c) => if c = true then some (.v (.bl true), a.2) else fb ρ a.2 | _ => none
noncomputable def fNot (fa : FE) : FE := fun ρ μ => (fa ρ μ).bind fun a => match a.1 with | .v (.bl c) => some (.v (.bl (!c)), a.2) | _ => none
noncomputable def fIf (t : FT) (fa fb : FE) : FE := fun ρ μ => (t ρ μ).bind fun c => if c.1 = true then fa ρ c.2 else fb ρ c.2
theorem RelDs.length {K : PySem.W.Frag} {H : Hp} : ∀ {ds : List D} {vs : List V}, RelDs K H ds vs -> ds.length = vs.length
 | [], _, h => by simp only [RelDs] at h; subst h; rfl
 | _ :: _, _, h => by
  simp only [RelDs] at h
  obtain ⟨v, r, rfl, _, h2⟩ := h
  simp [RelDs.length h2]
theorem RelDs.empty {K : PySem.W.Frag} {H : Hp} {ds : List D} {vs : List V} (h : RelDs K H ds vs) : ds.isEmpty = vs.isEmpty := by
 have := h.length
 cases ds <;> cases vs <;> simp_all
section
variable {K : PySem.W.Frag} {σ : St} {H : Hp} {Q : VK} {B : Bool -> Hp -> Prop}
theorem rd_B {fa} (h : rdT K (fB fa) σ H B) : tB (rdE K fa) σ H B := by
 obtain ⟨ρ, μ, m, d, μ', hl, hs, e, k⟩ := h
 obtain ⟨⟨x, μ1⟩, e1, e⟩ := Option.bind_eq_some_iff.mp e
 split at e
 ·rename_i b q
  cases e
  subst q
  exact ⟨ρ, μ, m, _, μ1, hl, hs, e1, fun v H1 m1 x1 s1 r1 => ⟨_, by simpa only [RelR, RelD] using r1, k H1 m1 x1 s1⟩⟩
 ·cases e
theorem rd_Test {fa} (h : rdT K (fB fa) σ H B) : tTest (rdE K fa) σ H B := rd_B h
theorem tru_ok {m : List Addr} {μ : Store} {x : R} {b : Bool} {v : V} (s : SRel K m H μ) (r : RelR K m H x v) (e : truD x μ = some b) : TruV K v H b := by
 cases x with
 | v d =>
  cases d with
  | non => cases e; cases r; rfl
  | bl c => cases e; simp only [RelR, RelD] at r; subst r; rfl
  | int i => cases e; simp only [RelR, RelD] at r; subst r; rfl
  | str x =>
   simp only [RelR, RelD] at r
   subst r
   simp only [truD] at e
   split at e
   ·rename_i z; cases e; exact ⟨z, rfl⟩
   ·cases e
  | tup xs =>
   cases e
   simp only [RelR, RelD] at r
   obtain ⟨a, vs, rfl, q, r⟩ := r
   exact .inr (.inl ⟨vs, q, by rw [r.empty]⟩)
  | fl xs =>
   cases e
   simp only [RelR, RelD] at r
   obtain ⟨a, vs, rfl, q, r⟩ := r
   exact .inl ⟨vs, q.sq, by rw [r.empty]⟩
  | fd ks ds => cases e
  | key ks => cases e
 | s b xs => cases e
 | x _ => cases e
 | f _ _ => cases e
 | p n =>
  obtain ⟨a, rfl, ha⟩ := r
  simp only [truD] at e
  split at e
  ·rename_i xs q
   cases e
   obtain ⟨vs, e, r⟩ := s.cell n _ a q ha
   exact .inl ⟨vs, .inl (.inl e), by rw [r.empty]⟩
  ·rename_i xs q
   cases e
   obtain ⟨o, vs, e, r⟩ := s.cell n _ a q ha
   exact .inl ⟨vs, .inl (.inr ⟨o, e⟩), by rw [r.empty]⟩
  ·rename_i kvs q
   cases e
   obtain ⟨es, e, k, r⟩ := s.cell n _ a q ha
   refine .inr (.inr ⟨es, e, ?_⟩)
   have := congrArg List.length k
   cases es <;> cases kvs <;> simp_all
  ·cases e
theorem rd_tru {fa} (h : rdT K (fTru fa) σ H B) : (fun σ H (Q : Bool -> Hp -> Prop) => rdE K fa σ H fun x H1 => ∃ k, TruV K x H1 k /\ Q k H1) σ H B := by
 obtain ⟨ρ, μ, m, d, μ', hl, hs, e, k⟩ := h
 obtain ⟨⟨x, μ1⟩, e1, e⟩ := Option.bind_eq_some_iff.mp e
 obtain ⟨b, e2, e⟩ := Option.bind_eq_some_iff.mp e
 cases e
 exact ⟨ρ, μ, m, x, _, hl, hs, e1, fun v H1 m1 x1 s1 r1 => ⟨_, tru_ok s1 r1 e2, k H1 m1 x1 s1⟩⟩
theorem rd_tand {t u} (h : rdT K (tAndF t u) σ H B) : tAnd (rdT K t) (rdT K u) σ H B := by
 obtain ⟨ρ, μ, m, d, μ', hl, hs, e, k⟩ := h
 obtain ⟨⟨c, μ1⟩, e1, e⟩ := Option.bind_eq_some_iff.mp e
 refine ⟨ρ, μ, m, c, μ1, hl, hs, e1, fun H1 m1 x1 s1 => ?_⟩
 cases c with
 | true => exact ⟨ρ, μ1, m1, d, μ', hl.ext x1, s1, e, fun H2 m2 x2 s2 => k H2 m2 (x1.trans x2) s2⟩
 | false => cases e; exact k H1 m1 x1 s1
theorem rd_tor {t u} (h : rdT K (tOrF t u) σ H B) : tOr (rdT K t) (rdT K u) σ H B := by
 obtain ⟨ρ, μ, m, d, μ', hl, hs, e, k⟩ := h
 obtain ⟨⟨c, μ1⟩, e1, e⟩ := Option.bind_eq_some_iff.mp e
 refine ⟨ρ, μ, m, c, μ1, hl, hs, e1, fun H1 m1 x1 s1 => ?_⟩
 cases c with
 | false => exact ⟨ρ, μ1, m1, d, μ', hl.ext x1, s1, e, fun H2 m2 x2 s2 => k H2 m2 (x1.trans x2) s2⟩
 | true => cases e; exact k H1 m1 x1 s1
theorem rd_tnot {t} (h : rdT K (tNotF t) σ H B) : tNot (rdT K t) σ H B := by
 obtain ⟨ρ, μ, m, d, μ', hl, hs, e, k⟩ := h
 obtain ⟨⟨c, μ1⟩, e1, e⟩ := Option.bind_eq_some_iff.mp e
 cases e
 exact ⟨ρ, μ, m, c, μ1, hl, hs, e1, fun H1 m1 x1 s1 => k H1 m1 x1 s1⟩
theorem rd_and {fa fb} (h : rdE K (fAnd fa fb) σ H Q) : tAndV (rdE K fa) (rdE K fb) σ H Q := by
 obtain ⟨ρ, μ, m, d, μ', hl, hs, e, k⟩ := h
 obtain ⟨⟨x, μ1⟩, e1, e⟩ := Option.bind_eq_some_iff.mp e
 split at e
 ·rename_i c q
  subst q
  refine ⟨ρ, μ, m, _, μ1, hl, hs, e1, fun v H1 m1 x1 s1 r1 => ⟨c, by simpa only [RelR, RelD] using r1, ?_⟩⟩
  cases c with
  | true => exact ⟨ρ, μ1, m1, d, μ', hl.ext x1, s1, e, fun w H2 m2 x2 s2 r2 => k w H2 m2 (x1.trans x2) s2 r2⟩
  | false => cases e; exact k _ H1 m1 x1 s1 (by simp only [RelR, RelD])
 ·cases e
theorem rd_not {fa} (h : rdE K (fNot fa) σ H Q) : tNotV (rdE K fa) σ H Q := by
 obtain ⟨ρ, μ, m, d, μ', hl, hs, e, k⟩ := h
 obtain ⟨⟨x, μ1⟩, e1, e⟩ := Option.bind_eq_some_iff.mp e
 split at e
 ·rename_i c q
  cases e
  subst q
  exact ⟨ρ, μ, m, _, μ1, hl, hs, e1, fun v H1 m1 x1 s1 r1 => ⟨c, by simpa only [RelR, RelD] using r1, k _ H1 m1 x1 s1 (by simp only [RelR, RelD])⟩⟩
 ·cases e
theorem rd_if {t fa fb} (h : rdE K (fIf t fa fb) σ H Q) : tIf (rdT K t) (rdE K fa) (rdE K fb) σ H Q := by
 obtain ⟨ρ, μ, m, d, μ', hl, hs, e, k⟩ := h
 obtain ⟨⟨c, μ1⟩, e1, e⟩ := Option.bind_eq_some_iff.mp e
 refine ⟨ρ, μ, m, c, μ1, hl, hs, e1, fun H1 m1 x1 s1 => ?_⟩
 cases c with
 | true => exact ⟨ρ, μ1, m1, d, μ', hl.ext x1, s1, e, fun w H2 m2 x2 s2 r2 => k w H2 m2 (x1.trans x2) s2 r2⟩
 | false => exact ⟨ρ, μ1, m1, d, μ', hl.ext x1, s1, e, fun w H2 m2 x2 s2 r2 => k w H2 m2 (x1.trans x2) s2 r2⟩
end
noncomputable def vals : List R -> Option (List D)
 | [] => some []
 | .v d :: r => (vals r).bind fun ds => some (d :: ds)
 | .p _ :: _ => none
 | .s _ _ :: _ => none
 | .x _ :: _ => none
 | .f _ _ :: _ => none
theorem vals_rel {K : PySem.W.Frag} {m : List Addr} {H : Hp} : ∀ {rs : List R} {ds : List D} {vs : List V}, vals rs = some ds -> RelRs K m H rs vs -> RelDs K H ds vs
 | [], _, _, e, h => by cases e; simp only [RelDs]; exact h
 | .v d :: r, _, _, e, ⟨v, vs, rfl, h1, h2⟩ => by
  obtain ⟨ds, e1, e⟩ := Option.bind_eq_some_iff.mp e
  cases e
  simp only [RelDs]
  exact ⟨v, vs, rfl, h1, vals_rel e1 h2⟩
 | .p _ :: _, _, _, e, _ => by cases e
 | .s _ _ :: _, _, _, e, _ => by cases e
 | .x _ :: _, _, _, e, _ => by cases e
 | .f _ _ :: _, _, _, e, _ => by cases e
noncomputable def fTup (fa : FA) : FE := fun ρ μ => (fa ρ μ).bind fun a => (vals a.1).bind fun ds => if ds.length <= sizeLine then some (.v (.tup ds), a.2) else none
noncomputable def fLst (fa : FA) : FE := fun ρ μ => (fa ρ μ).bind fun a => (vals a.1).bind fun ds => if ds.length <= sizeLine then some (.p a.2.length, a.2 ++ [.lst ds]) else none
section
variable {K : PySem.W.Frag} {m : List Addr} {σ : St} {H : Hp} {Q : VK} {μ : Store}
theorem new_tup {ds : List D} {vs : List V} {p : Addr} (s : SRel K m H μ) (r : RelDs K H ds vs) (hp : H p = none) : Ext m H m (upd H p (.tup vs)) /\ SRel K m (upd H p (.tup vs)) μ /\ RelR K m (upd H p (.tup vs)) (.v (.tup ds)) (.ref p) := by
 refine ⟨.new hp, s.same (upd_keeps hp), ?_⟩
 simp only [RelR, RelD]
 exact ⟨p, vs, rfl, .inl (.inl upd_at), RelDs.tf (.of (upd_keeps hp)) _ _ r⟩
theorem new_lst {ds : List D} {vs : List V} {p : Addr} (s : SRel K m H μ) (r : RelDs K H ds vs) (hp : H p = none) : Ext m H (m ++ [p]) (upd H p (.lst vs)) /\ SRel K (m ++ [p]) (upd H p (.lst vs)) (μ ++ [.lst ds]) /\ RelR K (m ++ [p]) (upd H p (.lst vs)) (.p μ.length) (.ref p) := by
 refine ⟨.newH hp, s.newH hp ⟨vs, upd_at, RelDs.tf (.of (upd_keeps hp)) _ _ r⟩, p, rfl, ?_⟩
 rw [← s.len]; simp
theorem rd_tup {fa} (h : rdE K (fTup fa) σ H Q) : tTup (rdA K fa) σ H Q := by
 obtain ⟨ρ, μ, m, d, μ', hl, hs, e, k⟩ := h
 obtain ⟨⟨xs, μ1⟩, e1, e⟩ := Option.bind_eq_some_iff.mp e
 obtain ⟨ds, e2, e⟩ := Option.bind_eq_some_iff.mp e
 split at e
 ·rename_i z
  cases e
  refine ⟨ρ, μ, m, xs, _, hl, hs, e1, fun vs H1 m1 x1 s1 r1 => ?_⟩
  have r2 := vals_rel e2 r1
  refine ⟨by rw [← r2.length]; exact z, fun p hp => ?_⟩
  obtain ⟨a, b, c⟩ := new_tup s1 r2 hp
  exact k _ _ _ (x1.trans a) b c
 ·cases e
theorem rd_lst {fa} (h : rdE K (fLst fa) σ H Q) : tLst (rdA K fa) σ H Q := by
 obtain ⟨ρ, μ, m, d, μ', hl, hs, e, k⟩ := h
 obtain ⟨⟨xs, μ1⟩, e1, e⟩ := Option.bind_eq_some_iff.mp e
 obtain ⟨ds, e2, e⟩ := Option.bind_eq_some_iff.mp e
 split at e
 ·rename_i z
  cases e
  refine ⟨ρ, μ, m, xs, _, hl, hs, e1, fun vs H1 m1 x1 s1 r1 => ?_⟩
  have r2 := vals_rel e2 r1
  refine ⟨by rw [← r2.length]; exact z, fun p hp => ?_⟩
  obtain ⟨a, b, c⟩ := new_lst s1 r2 hp
  exact k _ _ _ (x1.trans a) b c
 ·cases e
end
noncomputable def sNext : FS := fun ρ μ => some (.nx ρ μ)
noncomputable def sSeq (a b : FS) : FS := fun ρ μ => (a ρ μ).bind fun o => match o with | .nx ρ' μ' => b ρ' μ' | o => some o
noncomputable def sBreak : FS := fun ρ μ => some (.bk ρ μ)
noncomputable def sCont : FS := fun ρ μ => some (.ct ρ μ)
noncomputable def sDrop (f : FE) : FS := fun ρ μ => (f ρ μ).bind fun a => some (.nx ρ a.2)
noncomputable def sRet (f : FE) : FS := fun ρ μ => (f ρ μ).bind fun a => some (.rt a.1 a.2)
noncomputable def sRetN : FS := fun _ μ => some (.rt (.v .non) μ)
noncomputable def sIf (t : FT) (a b : FS) : FS := fun ρ μ => (t ρ μ).bind fun c => if c.1 = true then a ρ c.2 else b ρ c.2
noncomputable def sSet (i : Nat) (f : FE) : FS := fun ρ μ => (f ρ μ).bind fun a => some (.nx (ρ.set i (some a.1)) a.2)
section
variable {K : PySem.W.Frag} {m m' m1 : List Addr} {σ : St} {H H' H1 : Hp} {D : Ends} {μ : Store} {ρ : Lo}
theorem Ends.of_ext {o : Out} (x : Ext m H m1 H1) (h : Ends.of K m H D o) : Ends.of K m1 H1 D o := by
 cases o with
 | nx ρ μ => exact fun σ H' m' y => h σ H' m' (x.trans y)
 | bk ρ μ => exact fun σ H' m' y => h σ H' m' (x.trans y)
 | ct ρ μ => exact fun σ H' m' y => h σ H' m' (x.trans y)
 | rt d μ => exact fun σ H' m' y => h σ H' m' (x.trans y)
theorem LRel.set {d : R} {v : V} (h : LRel K m H ρ σ) (r : RelR K m H d v) (i : Nat) : LRel K m H (ρ.set i (some d)) (σ.set i (some v)) := by
 refine ⟨by simp [h.1], fun j d' e => ?_⟩
 by_cases hj : j = i
 ·subst hj
  by_cases hi : j < ρ.length
  ·rw [List.getElem?_set_self hi] at e
   cases e
   exact ⟨v, List.getElem?_set_self (by rw [← h.1]; exact hi), r⟩
  ·rw [List.getElem?_eq_none (by simp; omega)] at e
   cases e
 ·rw [List.getElem?_set_ne (Ne.symm hj)] at e
  obtain ⟨u, q1, q2⟩ := h.2 j d' e
  exact ⟨u, by rw [List.getElem?_set_ne (Ne.symm hj)]; exact q1, q2⟩
theorem rd_next (h : rdS K sNext D σ H) : tNext D σ H := by
 obtain ⟨ρ, μ, m, o, hl, hs, e, k⟩ := h
 cases e
 exact k σ H m .refl hs hl
theorem rd_seq {a b} (h : rdS K (sSeq a b) D σ H) : tSeq (rdS K a) (rdS K b) D σ H := by
 obtain ⟨ρ, μ, m, o, hl, hs, e, k⟩ := h
 obtain ⟨o1, e1, e⟩ := Option.bind_eq_some_iff.mp e
 refine ⟨ρ, μ, m, o1, hl, hs, e1, ?_⟩
 cases o1 with
 | nx ρ1 μ1 => exact fun σ1 H1 m1 x1 s1 l1 => ⟨ρ1, μ1, m1, o, l1, s1, e, Ends.of_ext x1 k⟩
 | bk ρ1 μ1 => cases e; exact k
 | ct ρ1 μ1 => cases e; exact k
 | rt d μ1 => cases e; exact k
theorem rd_break (h : rdS K sBreak D σ H) : tBreak D σ H := by
 obtain ⟨ρ, μ, m, o, hl, hs, e, k⟩ := h
 cases e
 exact k σ H m .refl hs hl
theorem rd_drop {f} (h : rdS K (sDrop f) D σ H) : tDrop (rdE K f) D σ H := by
 obtain ⟨ρ, μ, m, o, hl, hs, e, k⟩ := h
 obtain ⟨⟨x, μ1⟩, e1, e⟩ := Option.bind_eq_some_iff.mp e
 cases e
 exact ⟨ρ, μ, m, x, μ1, hl, hs, e1, fun v H1 m1 x1 s1 r1 => k σ H1 m1 x1 s1 (hl.ext x1)⟩
theorem rd_ret {f} (h : rdS K (sRet f) D σ H) : tRet (rdE K f) D σ H := by
 obtain ⟨ρ, μ, m, o, hl, hs, e, k⟩ := h
 obtain ⟨⟨x, μ1⟩, e1, e⟩ := Option.bind_eq_some_iff.mp e
 cases e
 exact ⟨ρ, μ, m, x, μ1, hl, hs, e1, k⟩
theorem rd_ifS {t a b} (h : rdS K (sIf t a b) D σ H) : tIfS (rdT K t) (rdS K a) (rdS K b) D σ H := by
 obtain ⟨ρ, μ, m, o, hl, hs, e, k⟩ := h
 obtain ⟨⟨c, μ1⟩, e1, e⟩ := Option.bind_eq_some_iff.mp e
 refine ⟨ρ, μ, m, c, μ1, hl, hs, e1, fun H1 m1 x1 s1 => ?_⟩
 cases c with
 | true => exact ⟨ρ, μ1, m1, o, hl.ext x1, s1, e, Ends.of_ext x1 k⟩
 | false => exact ⟨ρ, μ1, m1, o, hl.ext x1, s1, e, Ends.of_ext x1 k⟩
theorem rd_set {i f} (h : rdS K (sSet i f) D σ H) : tAsg (rdE K f) (gName i) D σ H := by
 obtain ⟨ρ, μ, m, o, hl, hs, e, k⟩ := h
 obtain ⟨⟨x, μ1⟩, e1, e⟩ := Option.bind_eq_some_iff.mp e
 cases e
 exact ⟨ρ, μ, m, x, μ1, hl, hs, e1, fun v H1 m1 x1 s1 r1 => k _ H1 m1 x1 s1 ((hl.ext x1).set r1 i)⟩
end
noncomputable abbrev FG := R -> Lo -> Store -> Option (Lo × Store)
def rdG (K : PySem.W.Frag) (g : FG) : TG := fun v σ H Q => ∃ ρ μ m d ρ' μ', LRel K m H ρ σ /\ SRel K m H μ /\ RelR K m H d v /\ g d ρ μ = some (ρ', μ') /\
 ∀ σ' H' m', Ext m H m' H' -> SRel K m' H' μ' -> LRel K m' H' ρ' σ' -> Q σ' H'
noncomputable abbrev FGs := List R -> Lo -> Store -> Option (Lo × Store)
def rdGs (K : PySem.W.Frag) (g : FGs) : TGs := fun vs σ H Q => ∃ ρ μ m ds ρ' μ', LRel K m H ρ σ /\ SRel K m H μ /\ RelRs K m H ds vs /\ g ds ρ μ = some (ρ', μ') /\
 ∀ σ' H' m', Ext m H m' H' -> SRel K m' H' μ' -> LRel K m' H' ρ' σ' -> Q σ' H'
noncomputable def gNm (i : Nat) : FG := fun d ρ μ => some (ρ.set i (some d), μ)
noncomputable def gsNil : FGs := fun ds ρ μ => match ds with | [] => some (ρ, μ) | _ => none
noncomputable def gsCons (g : FG) (r : FGs) : FGs := fun ds ρ μ => match ds with | [] => none | d :: ds => (g d ρ μ).bind fun a => r ds a.1 a.2
noncomputable def gTp (n : Nat) (g : FGs) : FG := fun d ρ μ => match d with | .v (.tup xs) => if xs.length = n then g (xs.map .v) ρ μ else none | _ => none
noncomputable def sAsg (f : FE) (g : FG) : FS := fun ρ μ => (f ρ μ).bind fun a => (g a.1 ρ a.2).bind fun b => some (.nx b.1 b.2)
section
variable {K : PySem.W.Frag} {m m' m1 : List Addr} {σ : St} {H H' H1 : Hp} {D : Ends} {μ : Store} {ρ : Lo} {v : V} {Q : St -> Hp -> Prop}
theorem rd_gNm {i} (h : rdG K (gNm i) v σ H Q) : gName i v σ H Q := by
 obtain ⟨ρ, μ, m, d, ρ', μ', hl, hs, r, e, k⟩ := h
 cases e
 exact k _ H m .refl hs (hl.set r i)
theorem rd_gsNil {vs} (h : rdGs K gsNil vs σ H Q) : gNil vs σ H Q := by
 obtain ⟨ρ, μ, m, ds, ρ', μ', hl, hs, r, e, k⟩ := h
 cases ds with
 | nil => cases e; exact ⟨r, k σ H m .refl hs hl⟩
 | cons d ds => cases e
theorem rd_gsCons {g r vs} (h : rdGs K (gsCons g r) vs σ H Q) : gCons (rdG K g) (rdGs K r) vs σ H Q := by
 obtain ⟨ρ, μ, m, ds, ρ', μ', hl, hs, rr, e, k⟩ := h
 cases ds with
 | nil => cases e
 | cons d ds =>
  obtain ⟨v, vr, rfl, r1, r2⟩ := rr
  obtain ⟨⟨ρ1, μ1⟩, e1, e⟩ := Option.bind_eq_some_iff.mp e
  refine ⟨v, vr, rfl, ρ, μ, m, d, ρ1, μ1, hl, hs, r1, e1, fun σ1 H1 m1 x1 s1 l1 => ?_⟩
  exact ⟨ρ1, μ1, m1, ds, ρ', μ', l1, s1, r2.ext x1, e, fun σ2 H2 m2 x2 s2 l2 => k σ2 H2 m2 (x1.trans x2) s2 l2⟩
theorem RelDs.rs : ∀ {ds : List HW.D} {vs : List V}, RelDs K H ds vs -> RelRs K m H (ds.map .v) vs
 | [], _, h => by simp only [RelDs] at h; exact h
 | d :: ds, _, h => by
  simp only [RelDs] at h
  obtain ⟨v, r, rfl, h1, h2⟩ := h
  exact ⟨v, r, rfl, h1, RelDs.rs h2⟩
theorem rd_gTp {n g} (h : rdG K (gTp n g) v σ H Q) : gTup K n (rdGs K g) v σ H Q := by
 obtain ⟨ρ, μ, m, d, ρ', μ', hl, hs, r, e, k⟩ := h
 unfold gTp at e
 split at e
 ·rename_i xs
  split at e
  ·rename_i hn
   simp only [RelR, RelD] at r
   obtain ⟨a, vs, rfl, q, rr⟩ := r
   exact ⟨a, vs, rfl, q, by rw [← rr.length]; exact hn, ρ, μ, m, _, ρ', μ', hl, hs, rr.rs, e, k⟩
  ·cases e
 ·cases e
theorem rd_asg {f g} (h : rdS K (sAsg f g) D σ H) : tAsg (rdE K f) (rdG K g) D σ H := by
 obtain ⟨ρ, μ, m, o, hl, hs, e, k⟩ := h
 obtain ⟨⟨x, μ1⟩, e1, e⟩ := Option.bind_eq_some_iff.mp e
 obtain ⟨⟨ρ2, μ2⟩, e2, e⟩ := Option.bind_eq_some_iff.mp e
 cases e
 exact ⟨ρ, μ, m, x, μ1, hl, hs, e1, fun v H1 m1 x1 s1 r1 => ⟨ρ, μ1, m1, x, ρ2, μ2, hl.ext x1, s1, r1, e2, fun σ2 H2 m2 x2 s2 l2 => k σ2 H2 m2 (x1.trans x2) s2 l2⟩⟩
end
def FzOk : HO -> Prop
 | .lst _ => True
 | .set _ _ => True
 | .dK _ => True
 | _ => False
def tFz (t : TE) : TE := fun σ H Q => t σ H fun v H1 => Q v H1 \/ ∃ a u, H1 a = some u /\ FzOk u /\ ∀ o, Q v (upd H1 a (.frz o u))
noncomputable def fzD : R -> Store -> Option (D × Store)
 | .v d, μ => some (d, μ)
 | .s _ _, _ => none
 | .x _, _ => none
 | .f _ _, _ => none
 | .p n, μ => match μ[n]? with | some (.lst xs) => some (.fl xs, μ.set n (.fz xs)) | some (.fz xs) => some (.fl xs, μ) | some (.dct kvs) => some (.fd (kvs.map (·.1)) (kvs.map (·.2)), μ.set n (.fzd kvs)) | some (.fzd kvs) => some (.fd (kvs.map (·.1)) (kvs.map (·.2)), μ) | _ => none
noncomputable def fFz (f : FE) : FE := fun ρ μ => (f ρ μ).bind fun a => (fzD a.1 a.2).bind fun b => some (.v b.1, b.2)
section
variable {K : PySem.W.Frag} {m : List Addr} {σ : St} {H : Hp} {μ : Store} {Q : VK}
theorem fz_ok {x : R} {d : D} {μ' : Store} {v : V} {B : Hp -> Prop} (hs : SRel K m H μ) (r : RelR K m H x v) (e : fzD x μ = some (d, μ'))
  (k : ∀ H', Ext m H m H' -> SRel K m H' μ' -> RelD K H' d v -> B H') : B H \/ ∃ a u, H a = some u /\ FzOk u /\ ∀ o, B (upd H a (.frz o u)) := by
 cases x with
 | v d' => cases e; exact .inl (k H .refl hs r)
 | s b xs => cases e
 | x _ => cases e
 | f _ _ => cases e
 | p n =>
  obtain ⟨a, rfl, ha⟩ := r
  simp only [fzD] at e
  split at e
  ·rename_i xs q
   cases e
   obtain ⟨vs, ea, rr⟩ := hs.cell n _ a q ha
   refine .inr ⟨a, _, ea, trivial, fun o => ?_⟩
   have x : Ext m H m (upd H a (.frz o (.lst vs))) := .put (List.mem_of_getElem? ha) ea (by simp) (by simp)
   refine k _ x (hs.put ha ea (by simp) (by simp) ⟨o, vs, upd_at, RelDs.tf x.tf _ _ rr⟩) ?_
   simp only [RelD]
   exact ⟨a, vs, rfl, .inl ⟨o, upd_at⟩, RelDs.tf x.tf _ _ rr⟩
  ·rename_i xs q
   cases e
   obtain ⟨o, vs, ea, rr⟩ := hs.cell n _ a q ha
   refine .inl (k H .refl hs ?_)
   simp only [RelD]
   exact ⟨a, vs, rfl, .inl ⟨o, ea⟩, rr⟩
  ·rename_i kvs q
   cases e
   obtain ⟨es, ea, ke, rr⟩ := hs.cell n _ a q ha
   refine .inr ⟨a, _, ea, trivial, fun o => ?_⟩
   have x : Ext m H m (upd H a (.frz o (.dK es))) := .put (List.mem_of_getElem? ha) ea (by simp) (by simp)
   refine k _ x (hs.put ha ea (by simp) (by simp) ⟨o, es, upd_at, ke, RelDs.tf x.tf _ _ rr⟩) ?_
   simp only [RelD]
   exact ⟨a, o, es, rfl, upd_at, ke, RelDs.tf x.tf _ _ rr⟩
  ·rename_i kvs q
   cases e
   obtain ⟨o, es, ea, ke, rr⟩ := hs.cell n _ a q ha
   refine .inl (k H .refl hs ?_)
   simp only [RelD]
   exact ⟨a, o, es, rfl, ea, ke, rr⟩
  ·cases e
theorem rd_fz {f} (h : rdE K (fFz f) σ H Q) : tFz (rdE K f) σ H Q := by
 obtain ⟨ρ, μ, m, d, μ', hl, hs, e, k⟩ := h
 obtain ⟨⟨x, μ1⟩, e1, e⟩ := Option.bind_eq_some_iff.mp e
 obtain ⟨⟨d1, μ2⟩, e2, e⟩ := Option.bind_eq_some_iff.mp e
 cases e
 refine ⟨ρ, μ, m, x, μ1, hl, hs, e1, fun v H1 m1 x1 s1 r1 => ?_⟩
 exact fz_ok (B := fun H' => Q v H') s1 r1 e2 fun H' y s2 r2 => k v H' m1 (x1.trans y) s2 r2
end
noncomputable abbrev FI := Lo -> Store -> Option (List D × Store)
structure ItOk (K : PySem.W.Frag) (J : It) (xs : List D) (P : Hp -> Prop) : Prop where
 st : ∀ H H', TF H H' -> P H -> P H'
 stop : ∀ i H, P H -> xs.length <= i -> J.stop i H
 go : ∀ (i : Nat) d H, xs[i]? = some d -> P H -> J.go i H
 yld : ∀ (i : Nat) d H x H', xs[i]? = some d -> P H -> J.yld i H x H' -> H' = H /\ RelD K H d x
def rdI (K : PySem.W.Frag) (f : FI) : TI := fun σ H R => ∃ ρ μ m xs μ', LRel K m H ρ σ /\ SRel K m H μ /\ f ρ μ = some (xs, μ') /\
 ∀ J P H' m', Ext m H m' H' -> SRel K m' H' μ' -> ItOk K J xs P -> P H' -> R J H'
noncomputable def loop (g : FG) (b : FS) : List D -> Lo -> Store -> Option Out
 | [], ρ, μ => some (.nx ρ μ)
 | x :: xs, ρ, μ => (g (.v x) ρ μ).bind fun a => (b a.1 a.2).bind fun o => match o with
  | .nx ρ' μ' => loop g b xs ρ' μ'
  | .ct ρ' μ' => loop g b xs ρ' μ'
  | .bk ρ' μ' => some (.nx ρ' μ')
  | .rt d μ' => some (.rt d μ')
noncomputable def sFor (i : FI) (g : FG) (b : FS) : FS := fun ρ μ => (i ρ μ).bind fun a => loop g b a.1 ρ a.2
section
variable {K : PySem.W.Frag} {m : List Addr} {σ : St} {H : Hp} {μ : Store} {D : Ends}
theorem rd_for {fi g b} (h : rdS K (sFor fi g b) D σ H) : tFor (rdI K fi) (rdG K g) (rdS K b) D σ H := by
 obtain ⟨ρ, μ, m, o, hl, hs, e, k⟩ := h
 obtain ⟨⟨xs, μ1⟩, e1, e⟩ := Option.bind_eq_some_iff.mp e
 refine ⟨ρ, μ, m, xs, μ1, hl, hs, e1, fun J P H1 m1 x1 s1 ok p1 => ?_⟩
 refine ⟨fun i n σ H => n = xs.length - i /\ i <= xs.length /\ P H /\ ∃ ρ μ m, LRel K m H ρ σ /\ SRel K m H μ /\ loop g b (xs.drop i) ρ μ = some o /\ Ends.of K m H D o,
  ⟨_, rfl, Nat.zero_le _, p1, ρ, μ1, m1, hl.ext x1, s1, by simpa using e, Ends.of_ext x1 k⟩, ?_⟩
 rintro i n σ H ⟨rfl, hi, p, ρ, μ, m, hl, hs, e, k⟩
 by_cases hlt : i < xs.length
 ·have hx : xs[i]? = some xs[i] := List.getElem?_eq_getElem hlt
  rw [List.drop_eq_getElem_cons hlt, loop] at e
  obtain ⟨⟨ρ1, μ1⟩, e1, e⟩ := Option.bind_eq_some_iff.mp e
  obtain ⟨o1, e2, e⟩ := Option.bind_eq_some_iff.mp e
  refine .inr ⟨ok.go i _ H hx p, fun σ H => i + 1 <= xs.length /\ P H /\ ∃ ρ μ m, LRel K m H ρ σ /\ SRel K m H μ /\ loop g b (xs.drop (i + 1)) ρ μ = some o /\ Ends.of K m H D o,
   fun σ' H' z => ⟨xs.length - (i + 1), by omega, rfl, z⟩, fun x H' y => ?_⟩
  obtain ⟨rfl, rx⟩ := ok.yld i _ H x H' hx p y
  refine ⟨ρ, μ, m, .v xs[i], ρ1, μ1, hl, hs, rx, e1, fun σ1 H1 m1 x1 s1 l1 => ?_⟩
  refine ⟨ρ1, μ1, m1, o1, l1, s1, e2, ?_⟩
  cases o1 with
  | nx ρ2 μ2 => exact fun σ2 H2 m2 x2 s2 l2 => ⟨hlt, ok.st _ _ (x1.trans x2).tf p, ρ2, μ2, m2, l2, s2, e, Ends.of_ext (x1.trans x2) k⟩
  | ct ρ2 μ2 => exact fun σ2 H2 m2 x2 s2 l2 => ⟨hlt, ok.st _ _ (x1.trans x2).tf p, ρ2, μ2, m2, l2, s2, e, Ends.of_ext (x1.trans x2) k⟩
  | bk ρ2 μ2 => cases e; exact fun σ2 H2 m2 x2 s2 l2 => k σ2 H2 m2 (x1.trans x2) s2 l2
  | rt d μ2 => cases e; exact fun v H2 m2 x2 s2 l2 => k v H2 m2 (x1.trans x2) s2 l2
 ·have : i = xs.length := by omega
  subst this
  rw [List.drop_length, loop] at e
  cases e
  exact .inl ⟨ok.stop _ H p (Nat.le_refl _), k σ H m .refl hs hl⟩
end
noncomputable def fiSeq (f : FE) : FI := fun ρ μ => (fFz f ρ μ).bind fun a => match a.1 with | .v (.fl xs) => some (xs, a.2) | .v (.tup xs) => some (xs, a.2) | _ => none
def iSeq (K : PySem.W.Frag) (tl : TE) : TI := fun σ H R => tl σ H fun x H1 => ∃ a, x = .ref a /\ (((∃ xs, SqL K H1 a xs) /\ R (Itl K a) H1) \/ ((∃ xs, SqT K H1 a xs) /\ R (Itt K a) H1))
noncomputable def fiR1 (f : FE) : FI := fun ρ μ => (f ρ μ).bind fun a => match a.1 with | .v (.int j) => if -(2 ^ 62) <= j /\ j < 2 ^ 62 then some ((List.range j.toNat).map fun i => .int (i : Nat), a.2) else none | _ => none
noncomputable def fiR2 (f g : FE) : FI := fun ρ μ => (f ρ μ).bind fun a => (g ρ a.2).bind fun b => match a.1, b.1 with
 | .v (.int i), .v (.int j) => if -(2 ^ 62) <= i /\ i < 2 ^ 62 /\ -(2 ^ 62) <= j /\ j < 2 ^ 62 then some ((List.range (j - i).toNat).map fun k => .int (i + (k : Nat)), b.2) else none | _, _ => none
section
variable {K : PySem.W.Frag} {m : List Addr} {σ : St} {H : Hp} {μ : Store} {R : It -> Hp -> Prop}
theorem RelDs.get : ∀ {ds : List D} {vs : List V} {i : Nat} {d : D}, RelDs K H ds vs -> ds[i]? = some d -> ∃ v, vs[i]? = some v /\ RelD K H d v
 | [], _, _, _, _, e => by simp at e
 | x :: xs, vs, 0, d, h, e => by
  simp only [RelDs] at h
  obtain ⟨v, r, rfl, h1, h2⟩ := h
  simp at e; subst e
  exact ⟨v, rfl, h1⟩
 | x :: xs, vs, i + 1, d, h, e => by
  simp only [RelDs] at h
  obtain ⟨v, r, rfl, h1, h2⟩ := h
  obtain ⟨u, q1, q2⟩ := RelDs.get (i := i) h2 (by simpa using e)
  exact ⟨u, by simpa using q1, q2⟩
theorem itl_ok {a vs xs} (r0 : RelDs K H xs vs) : ItOk K (Itl K a) xs (fun H => FAt K H a vs /\ RelDs K H xs vs) where
 st := fun H H' t ⟨f, r⟩ => ⟨f.tf t, RelDs.tf t _ _ r⟩
 stop := fun i H ⟨f, r⟩ hi => ⟨vs, f.sq, by rw [← r.length]; exact hi⟩
 go := fun i d H e ⟨f, r⟩ => let ⟨v, q, _⟩ := r.get e; ⟨vs, v, f.sq, q⟩
 yld := fun i d H x H' e ⟨f, r⟩ ⟨e1, e2⟩ => by
  obtain ⟨v, q, rv⟩ := r.get e
  have := e2 vs f.sq
  rw [q] at this; cases this
  exact ⟨e1, rv⟩
theorem itt_ok {a vs xs} (r0 : RelDs K H xs vs) : ItOk K (Itt K a) xs (fun H => SqT K H a vs /\ RelDs K H xs vs) where
 st := fun H H' t ⟨f, r⟩ => ⟨SqT.tf t f, RelDs.tf t _ _ r⟩
 stop := fun i H ⟨f, r⟩ hi => ⟨vs, f, by rw [← r.length]; exact hi⟩
 go := fun i d H e ⟨f, r⟩ => let ⟨v, q, _⟩ := r.get e; ⟨vs, v, f, q⟩
 yld := fun i d H x H' e ⟨f, r⟩ ⟨e1, e2⟩ => by
  obtain ⟨v, q, rv⟩ := r.get e
  have := e2 vs f
  rw [q] at this; cases this
  exact ⟨e1, rv⟩
theorem itr_ok (lo : Int) (n : Nat) : ItOk K (Itr lo n) ((List.range n).map fun k => .int (lo + (k : Nat))) (fun _ => True) where
 st := fun _ _ _ _ => trivial
 stop := fun i H _ hi => by show n <= i; simpa using hi
 go := fun i d H e _ => by
  have := (List.getElem?_eq_some_iff.mp e).1
  show i < n; simpa using this
 yld := fun i d H x H' e _ ⟨e1, e2⟩ => by
  have hi := (List.getElem?_eq_some_iff.mp e).1
  have hi' : i < n := by simpa using hi
  refine ⟨e1, ?_⟩
  simp [hi'] at e
  subst e e2
  simp only [RelD]
theorem rd_iSeq {f} (h : rdI K (fiSeq f) σ H R) : iSeq K (tFz (rdE K f)) σ H R := by
 obtain ⟨ρ, μ, m, xs, μ', hl, hs, e, k⟩ := h
 obtain ⟨⟨x, μ1⟩, e1, e⟩ := Option.bind_eq_some_iff.mp e
 refine rd_fz ⟨ρ, μ, m, x, μ1, hl, hs, e1, fun v H1 m1 x1 s1 r1 => ?_⟩
 split at e
 ·rename_i ys q
  cases e
  simp only at q
  subst q
  simp only [RelR, RelD] at r1
  obtain ⟨a, vs, rfl, f, r⟩ := r1
  exact ⟨a, rfl, .inl ⟨⟨vs, f.sq⟩, k _ _ H1 m1 x1 s1 (itl_ok r) ⟨f, r⟩⟩⟩
 ·rename_i ys q
  cases e
  simp only at q
  subst q
  simp only [RelR, RelD] at r1
  obtain ⟨a, vs, rfl, f, r⟩ := r1
  exact ⟨a, rfl, .inr ⟨⟨vs, f⟩, k _ _ H1 m1 x1 s1 (itt_ok r) ⟨f, r⟩⟩⟩
 ·cases e
theorem rd_iR1 {f} (h : rdI K (fiR1 f) σ H R) : iRng1 (rdA K (fCons f fNil)) σ H R := by
 obtain ⟨ρ, μ, m, xs, μ', hl, hs, e, k⟩ := h
 obtain ⟨⟨x, μ1⟩, e1, e⟩ := Option.bind_eq_some_iff.mp e
 refine ⟨ρ, μ, m, [x], μ1, hl, hs, by simp [fCons, fNil, e1], fun vs H1 m1 x1 s1 r1 => ?_⟩
 split at e
 ·rename_i j q
  split at e
  ·rename_i z
   cases e
   simp only at q
   subst q
   obtain ⟨v, r, rfl, r1, r2⟩ := r1
   have r2 : r = [] := r2
   simp only [RelR, RelD] at r1
   subst r1 r2
   have := itr_ok (K := K) 0 j.toNat
   simp only [Int.zero_add] at this
   exact ⟨j, rfl, z.1, z.2, k _ _ H1 m1 x1 s1 this trivial⟩
  ·cases e
 ·cases e
end
end HW
namespace HW
open PySem L2
noncomputable abbrev MF := List D -> Option D
def Sam (H H' : Hp) : Prop := ∀ a o, H a = some o -> H' a = some o
noncomputable def spP (K : PySem.W.Frag) (n : Nat) (f : MF) : Sp := fun vs H Q _ => ∃ ds d, ds.length = n /\ RelDs K H ds vs /\ f ds = some d /\ ∀ v H', Sam H H' -> RelD K H' d v -> Q v H'
noncomputable def fin : Out -> Option D
 | .rt r μ => (fzD r μ).bind fun a => some a.1
 | .nx _ _ => some .non
 | _ => none
noncomputable def runP (k : Nat) (b : FS) : MF := fun ds => (b (ds.map (fun d => some (.v d)) ++ List.replicate (k - ds.length) none) []).bind fin
noncomputable def fCall (f : MF) (n : Nat) (fa : FA) : FE := fun ρ μ => (fa ρ μ).bind fun a => (vals a.1).bind fun ds => if ds.length = n then (f ds).bind fun d => some (.v d, a.2) else none
section
variable {K : PySem.W.Frag} {m : List Addr} {σ : St} {H H' : Hp} {μ : Store} {Q : VK}
theorem Sam.ext (s : Sam H H') : Ext m H m H' := ⟨⟨[], by simp⟩, .of s, fun a o e _ => s a o e, fun a h => by
 cases q : H a with
 | none => rfl
 | some o => rw [s a o q] at h; cases h⟩
theorem rd_call {f n fa} {E : XK} (h : rdE K (fCall f n fa) σ H Q) : tCall (spP K n f) [] E (rdA K fa) σ H Q := by
 obtain ⟨ρ, μ, m, d, μ', hl, hs, e, k⟩ := h
 obtain ⟨⟨xs, μ1⟩, e1, e⟩ := Option.bind_eq_some_iff.mp e
 obtain ⟨ds, e2, e⟩ := Option.bind_eq_some_iff.mp e
 split at e
 ·rename_i hn
  obtain ⟨d1, e3, e⟩ := Option.bind_eq_some_iff.mp e
  cases e
  refine ⟨ρ, μ, m, xs, _, hl, hs, e1, fun vs H1 m1 x1 s1 r1 => ?_⟩
  refine ⟨ds, d1, hn, by simpa using vals_rel e2 r1, e3, fun v H2 z r2 => ?_⟩
  exact k v H2 m1 (x1.trans z.ext) (s1.same z) r2
 ·cases e
theorem start_rel {N : List Str} {ds : List D} {vs : List V} (r : RelDs K H ds vs) : LRel K [] H (ds.map (fun d => some (.v d)) ++ List.replicate (N.length - ds.length) none) (L2.start N vs) := by
 have hl := r.length
 unfold L2.start
 refine ⟨by simp [hl], fun i d e => ?_⟩
 by_cases hi : i < ds.length
 ·rw [List.getElem?_append_left (by simpa using hi), List.getElem?_map] at e
  cases q : ds[i]? with
  | none => rw [q] at e; cases e
  | some d' =>
   rw [q] at e
   cases e
   obtain ⟨v, q1, q2⟩ := r.get q
   exact ⟨v, by rw [List.getElem?_append_left (by simp; omega), List.getElem?_map, q1]; rfl, q2⟩
 ·rw [List.getElem?_append_right (by simpa using hi), List.getElem?_replicate] at e
  split at e <;> cases e
def orFz (Q : VK) : VK := fun v H => Q v H \/ ∃ a u, H a = some u /\ FzOk u /\ ∀ o, Q v (upd H a (.frz o u))
theorem Ext.sam (x : Ext [] H m H') : Sam H H' := fun a o e => x.keep a o e (by simp)
theorem run_ok {N : List Str} {b : FS} {ds : List D} {vs : List V} {d : D} {E : XK} (r : RelDs K H ds vs) (e : runP N.length b ds = some d) (k : ∀ v H', Sam H H' -> RelD K H' d v -> Q v H') :
  rdS K b { nx := fun _ H' => orFz Q .non H', rt := orFz Q } (L2.start N vs) H := by
 obtain ⟨o, e1, e⟩ := Option.bind_eq_some_iff.mp e
 refine ⟨_, [], [], o, start_rel r, .nil, e1, ?_⟩
 cases o with
 | nx ρ μ =>
  cases e
  exact fun σ H' m' x _ _ => .inl (k _ _ x.sam (by simp only [RelD]))
 | bk ρ μ => cases e
 | ct ρ μ => cases e
 | rt q μ =>
  obtain ⟨⟨d1, μ1⟩, e2, e⟩ := Option.bind_eq_some_iff.mp e
  cases e
  intro v H' m' x s r'
  exact fz_ok (B := fun H' => Q v H') s r' e2 fun H2 y s2 r2 => k v H2 (x.trans y).sam r2
end
noncomputable def iOp (C : Int -> Int -> Bool) (f : Int -> Int -> D) : R -> R -> Store -> Option (R × Store)
 | .v (.int i), .v (.int j), μ => if C i j = true then some (.v (f i j), μ) else none
 | _, _, _ => none
theorem gI {K : PySem.W.Frag} {C : Int -> Int -> Bool} {C' : Int -> Int -> Prop} {f : Int -> Int -> D} {g : Int -> Int -> V} (hC : ∀ i j, C i j = true -> C' i j) (hg : ∀ H i j, RelD K H (f i j) (g i j)) : GOp K (iOp C f) (rI C' g) := by
 intro m H μ x y d μ' v u Q s rx ry e k
 unfold iOp at e
 split at e
 ·rename_i i j
  split at e
  ·rename_i z
   cases e
   simp only [RelR, RelD] at rx ry
   subst rx ry
   exact ⟨i, j, rfl, rfl, hC i j z, k _ H m .refl s (hg H i j)⟩
  ·cases e
 ·cases e
theorem gI0 {K : PySem.W.Frag} {f : Int -> Int -> D} {g : Int -> Int -> V} (hg : ∀ H i j, RelD K H (f i j) (g i j)) : GOp K (iOp (fun _ _ => true) f) (rI0 g) := by
 intro m H μ x y d μ' v u Q s rx ry e k
 unfold iOp at e
 split at e
 ·rename_i i j
  split at e
  ·cases e
   simp only [RelR, RelD] at rx ry
   subst rx ry
   exact ⟨i, j, rfl, rfl, k _ H m .refl s (hg H i j)⟩
  ·cases e
 ·cases e
noncomputable abbrev subD := iOp (fun _ _ => true) fun i j => .int (i - j)
noncomputable abbrev mulD := iOp (fun i j => decide (-(2 ^ 64) < i /\ i < 2 ^ 64) || decide (-(2 ^ 64) < j /\ j < 2 ^ 64)) fun i j => .int (i * j)
noncomputable abbrev divD := iOp (fun _ j => decide (0 < j /\ j < 1073741824)) fun i j => .int (i / j)
noncomputable abbrev modD := iOp (fun _ j => decide (0 < j)) fun i j => .int (i % j)
noncomputable abbrev powD := iOp (fun i j => decide (0 <= j /\ j <= 1000000 /\ i.natAbs < 2 ^ 64)) fun i j => .int (i ^ j.toNat)
noncomputable abbrev ltD := iOp (fun _ _ => true) fun i j => .bl (decide (i < j))
noncomputable abbrev leD := iOp (fun _ _ => true) fun i j => .bl (decide (i <= j))
noncomputable abbrev gtD := iOp (fun _ _ => true) fun i j => .bl (decide (j < i))
noncomputable abbrev geD := iOp (fun _ _ => true) fun i j => .bl (decide (j <= i))
noncomputable def negD : R -> Store -> Option (R × Store)
 | .v (.int i), μ => some (.v (.int (-i)), μ)
 | _, _ => none
section
variable {K : PySem.W.Frag}
theorem rInt {H : Hp} {i : Int} : RelD K H (.int i) (.int i) := by simp only [RelD]
theorem rBl {H : Hp} {i : Bool} : RelD K H (.bl i) (.bl i) := by simp only [RelD]
theorem g_sub : GOp K subD (rI0 fun i j => .int (i - j)) := gI0 fun _ _ _ => rInt
theorem g_mul : GOp K mulD (rI CMul fun i j => .int (i * j)) := gI (fun i j h => by simpa [CMul] using h) fun _ _ _ => rInt
theorem g_div : GOp K divD (rI CDiv fun i j => .int (i / j)) := gI (fun i j h => by simpa [CDiv] using h) fun _ _ _ => rInt
theorem g_mod : GOp K modD (rI (fun _ j => 0 < j) fun i j => .int (i % j)) := gI (fun i j h => by simpa using h) fun _ _ _ => rInt
theorem g_pow : GOp K powD (rI CPow fun i j => .int (i ^ j.toNat)) := gI (fun i j h => by simpa [CPow] using h) fun _ _ _ => rInt
theorem g_lt : GOp K ltD (rI0 fun i j => .bl (decide (i < j))) := gI0 fun _ _ _ => rBl
theorem g_le : GOp K leD (rI0 fun i j => .bl (decide (i <= j))) := gI0 fun _ _ _ => rBl
theorem g_gt : GOp K gtD (rI0 fun i j => .bl (decide (j < i))) := gI0 fun _ _ _ => rBl
theorem g_neg : GUn K negD (rU fun i => .int (-i)) := by
 intro m H μ x d μ' v Q s rx e k
 unfold negD at e
 split at e
 ·rename_i i
  cases e
  simp only [RelR, RelD] at rx
  subst rx
  exact ⟨i, rfl, k _ H m .refl s (by simp only [RelR, RelD])⟩
 ·cases e
end
noncomputable def addD : R -> R -> Store -> Option (R × Store)
 | .v (.int i), .v (.int j), μ => some (.v (.int (i + j)), μ)
 | .v (.str x), .v (.str y), μ => if x.length + y.length <= sizeLine then some (.v (.str (x ++ y)), μ) else none
 | .v (.tup xs), .v (.tup ys), μ => if xs ≠ [] /\ xs.length + ys.length <= sizeLine then some (.v (.tup (xs ++ ys)), μ) else none
 | .p a, .p b, μ => match μ[a]?, μ[b]? with | some (.lst xs), some (.lst ys) => if xs.length + ys.length <= sizeLine then some (.p μ.length, μ ++ [.lst (xs ++ ys)]) else none | _, _ => none
 | _, _, _ => none
noncomputable def rAddS : R2 := fun x y H Q => ∃ i j, x = .str i /\ y = .str j /\ i.length + j.length <= sizeLine /\ Q (.str (i ++ j)) H
noncomputable def rOr (r r' : R2) : R2 := fun x y H Q => r x y H Q \/ r' x y H Q
noncomputable def rAdd' (K : PySem.W.Frag) : R2 := rOr (rI0 fun i j => .int (i + j)) (rOr rAddS (rOr (rCatT K) rCat))
theorem RelDs.append {K : PySem.W.Frag} {H : Hp} : ∀ {xs ys : List D} {vs ws : List V}, RelDs K H xs vs -> RelDs K H ys ws -> RelDs K H (xs ++ ys) (vs ++ ws)
 | [], _, _, _, h, h' => by simp only [RelDs] at h; subst h; exact h'
 | x :: xs, _, _, _, h, h' => by
  simp only [RelDs] at h
  obtain ⟨v, r, rfl, h1, h2⟩ := h
  show RelDs K H (x :: (xs ++ _)) _
  simp only [RelDs]
  exact ⟨v, r ++ _, rfl, h1, RelDs.append h2 h'⟩
theorem RelDs.nil_iff {K : PySem.W.Frag} {H : Hp} {xs : List D} {vs : List V} (h : RelDs K H xs vs) : xs = [] ↔ vs = [] := by
 have := h.length
 cases xs <;> cases vs <;> simp_all
theorem g_add {K : PySem.W.Frag} : GOp K addD (rAdd' K) := by
 intro m H μ x y d μ' v u Q s rx ry e k
 unfold addD at e
 split at e
 ·cases e
  simp only [RelR, RelD] at rx ry
  subst rx ry
  exact .inl ⟨_, _, rfl, rfl, k _ H m .refl s (by simp only [RelR, RelD])⟩
 ·split at e
  ·rename_i z
   cases e
   simp only [RelR, RelD] at rx ry
   subst rx ry
   exact .inr (.inl ⟨_, _, rfl, rfl, z, k _ H m .refl s (by simp only [RelR, RelD])⟩)
  ·cases e
 ·split at e
  ·rename_i z
   cases e
   simp only [RelR, RelD] at rx ry
   obtain ⟨a, vs, rfl, qa, ra⟩ := rx
   obtain ⟨b, ws, rfl, qb, rb⟩ := ry
   refine .inr (.inr (.inl ⟨a, b, vs, ws, rfl, rfl, qa, qb, fun h => z.1 (ra.nil_iff.mpr h), by rw [← ra.length, ← rb.length]; exact z.2, fun h => ?_, fun h p hp => ?_⟩))
   ·refine k _ H m .refl s ?_
    have := rb.nil_iff.mpr h
    subst this
    simp only [RelR, RelD, List.append_nil]
    exact ⟨a, vs, rfl, qa, ra⟩
   ·obtain ⟨x1, x2, x3⟩ := new_tup s (ra.append rb) hp
    exact k _ _ _ x1 x2 x3
  ·cases e
 ·split at e
  ·rename_i xs ys qa qb
   split at e
   ·rename_i z
    cases e
    obtain ⟨a', rfl, ha⟩ := rx
    obtain ⟨b', rfl, hb⟩ := ry
    obtain ⟨vs, ea, ra⟩ := s.cell _ _ a' qa ha
    obtain ⟨ws, eb, rb⟩ := s.cell _ _ b' qb hb
    refine .inr (.inr (.inr ⟨a', b', vs, ws, rfl, rfl, ea, eb, by rw [← ra.length, ← rb.length]; exact z, fun p hp => ?_⟩))
    obtain ⟨x1, x2, x3⟩ := new_lst s (ra.append rb) hp
    exact k _ _ _ x1 x2 x3
   ·cases e
  ·cases e
 ·cases e
noncomputable def itemsD : R -> Store -> Option (List D)
 | .v (.tup xs), _ => some xs
 | .v (.fl xs), _ => some xs
 | .p n, μ => match μ[n]? with | some (.lst xs) => some xs | some (.fz xs) => some xs | _ => none
 | _, _ => none
noncomputable def lstD : R -> Store -> Option (List D)
 | .v (.fl xs), _ => some xs
 | .p n, μ => match μ[n]? with | some (.lst xs) => some xs | some (.fz xs) => some xs | _ => none
 | _, _ => none
section
variable {K : PySem.W.Frag} {m : List Addr} {H : Hp} {μ : Store}
theorem lst_ok {x : R} {xs : List D} {v : V} (s : SRel K m H μ) (r : RelR K m H x v) (e : lstD x μ = some xs) : ∃ a vs, v = .ref a /\ SqL K H a vs /\ RelDs K H xs vs := by
 unfold lstD at e
 split at e
 ·cases e
  simp only [RelR, RelD] at r
  obtain ⟨a, vs, rfl, q, r⟩ := r
  exact ⟨a, vs, rfl, q.sq, r⟩
 ·obtain ⟨a, rfl, ha⟩ := r
  split at e
  ·rename_i q
   cases e
   obtain ⟨vs, e, r⟩ := s.cell _ _ a q ha
   exact ⟨a, vs, rfl, .inl (.inl e), r⟩
  ·rename_i q
   cases e
   obtain ⟨o, vs, e, r⟩ := s.cell _ _ a q ha
   exact ⟨a, vs, rfl, .inl (.inr ⟨o, e⟩), r⟩
  ·cases e
 ·cases e
theorem items_ok {x : R} {xs : List D} {v : V} (s : SRel K m H μ) (r : RelR K m H x v) (e : itemsD x μ = some xs) : ∃ a vs, v = .ref a /\ (SqL K H a vs \/ SqT K H a vs) /\ RelDs K H xs vs := by
 cases x with
 | v d =>
  cases d with
  | tup ys =>
   cases e
   simp only [RelR, RelD] at r
   obtain ⟨a, vs, rfl, q, r⟩ := r
   exact ⟨a, vs, rfl, .inr q, r⟩
  | fl ys => obtain ⟨a, vs, q1, q2, q3⟩ := lst_ok s r (xs := xs) e; exact ⟨a, vs, q1, .inl q2, q3⟩
  | non => cases e
  | bl _ => cases e
  | int _ => cases e
  | str _ => cases e
  | fd _ _ => cases e
  | key _ => cases e
 | p n => obtain ⟨a, vs, q1, q2, q3⟩ := lst_ok s r (xs := xs) e; exact ⟨a, vs, q1, .inl q2, q3⟩
 | s _ _ => cases e
 | x _ => cases e
 | f _ _ => cases e
end
noncomputable def ixD : R -> R -> Store -> Option (R × Store)
 | x, .v (.int i), μ => (itemsD x μ).bind fun xs => (atI xs i).bind fun d => some (.v d, μ)
 | _, _, _ => none
noncomputable def lenD : List R -> Store -> Option (R × Store)
 | [x], μ => (itemsD x μ).bind fun xs => some (.v (.int xs.length), μ)
 | _, _ => none
theorem atI_rel {K : PySem.W.Frag} {H : Hp} {xs : List D} {vs : List V} {i : Int} {d : D} (r : RelDs K H xs vs) (e : atI xs i = some d) : ∃ v, atI vs i = some v /\ RelD K H d v := by
 obtain ⟨j, e1, e2⟩ := Option.bind_eq_some_iff.mp e
 obtain ⟨v, q1, q2⟩ := r.get e2
 exact ⟨v, by unfold atI; rw [← r.length, e1]; exact q1, q2⟩
theorem g_ix {K : PySem.W.Frag} : GOp K ixD (rIx K) := by
 intro m H μ x y d μ' v u Q s rx ry e k
 unfold ixD at e
 split at e
 ·rename_i i
  obtain ⟨xs, e1, e⟩ := Option.bind_eq_some_iff.mp e
  obtain ⟨d1, e2, e⟩ := Option.bind_eq_some_iff.mp e
  cases e
  simp only [RelR, RelD] at ry
  subst ry
  obtain ⟨a, vs, rfl, q, r⟩ := items_ok s rx e1
  obtain ⟨w, q1, q2⟩ := atI_rel r e2
  rcases q with q | q
  ·exact .inl ⟨a, vs, i, w, rfl, rfl, q, q1, k _ H m .refl s q2⟩
  ·exact .inr (.inl ⟨a, vs, i, w, rfl, rfl, q, q1, k _ H m .refl s q2⟩)
 ·cases e
def rLen (K : PySem.W.Frag) : List V -> Hp -> VK -> Prop := fun xs H Q => ∃ p ys, xs = [.ref p] /\ (SqL K H p ys \/ SqT K H p ys) /\ Q (.int ys.length) H
theorem rel1 {K : PySem.W.Frag} {m : List Addr} {H : Hp} {x : R} {vs : List V} (r : RelRs K m H [x] vs) : ∃ v, vs = [v] /\ RelR K m H x v := by
 obtain ⟨v, r, rfl, h1, h2⟩ := r
 have h2 : r = [] := h2
 subst h2
 exact ⟨v, rfl, h1⟩
theorem g_len {K : PySem.W.Frag} : GAr K lenD (rLen K) := by
 intro m H μ xs d μ' vs Q s r e k
 unfold lenD at e
 split at e
 ·rename_i x
  obtain ⟨ys, e1, e⟩ := Option.bind_eq_some_iff.mp e
  cases e
  obtain ⟨v, rfl, r1⟩ := rel1 r
  obtain ⟨a, ws, rfl, q, r⟩ := items_ok s r1 e1
  exact ⟨a, ws, rfl, q, k _ H m .refl s (by simp only [RelR, RelD]; rw [r.length])⟩
 ·cases e
noncomputable def listD : List R -> Store -> Option (R × Store)
 | [x], μ => (itemsD x μ).bind fun xs => some (.p μ.length, μ ++ [.lst xs])
 | _, _ => none
def rList (K : PySem.W.Frag) : List V -> Hp -> VK -> Prop := fun xs H Q => ∃ p ys, xs = [.ref p] /\ (SqL K H p ys \/ SqT K H p ys) /\ ∀ l, H l = none -> Q (.ref l) (upd H l (.lst ys))
theorem g_list {K : PySem.W.Frag} : GAr K listD (rList K) := by
 intro m H μ xs d μ' vs Q s r e k
 unfold listD at e
 split at e
 ·rename_i x
  obtain ⟨ys, e1, e⟩ := Option.bind_eq_some_iff.mp e
  cases e
  obtain ⟨v, rfl, r1⟩ := rel1 r
  obtain ⟨a, ws, rfl, q, r⟩ := items_ok s r1 e1
  refine ⟨a, ws, rfl, q, fun p hp => ?_⟩
  obtain ⟨x1, x2, x3⟩ := new_lst s r hp
  exact k _ _ _ x1 x2 x3
 ·cases e
noncomputable def tupD : List R -> Store -> Option (R × Store)
 | [x], μ => (itemsD x μ).bind fun xs => some (.v (.tup xs), μ)
 | _, _ => none
def rTup (K : PySem.W.Frag) : List V -> Hp -> VK -> Prop := fun xs H Q => ∃ p ys, xs = [.ref p] /\ ((SqL K H p ys /\ ∀ l, H l = none -> Q (.ref l) (upd H l (.tup ys))) \/ (SqT K H p ys /\ Q (.ref p) H))
theorem g_tup {K : PySem.W.Frag} : GAr K tupD (rTup K) := by
 intro m H μ xs d μ' vs Q s r e k
 unfold tupD at e
 split at e
 ·rename_i x
  obtain ⟨ys, e1, e⟩ := Option.bind_eq_some_iff.mp e
  cases e
  obtain ⟨v, rfl, r1⟩ := rel1 r
  obtain ⟨a, ws, rfl, q, r⟩ := items_ok s r1 e1
  rcases q with q | q
  ·refine ⟨a, ws, rfl, .inl ⟨q, fun p hp => ?_⟩⟩
   obtain ⟨x1, x2, x3⟩ := new_tup s r hp
   exact k _ _ _ x1 x2 x3
  ·refine ⟨a, ws, rfl, .inr ⟨q, k _ H m .refl s ?_⟩⟩
   simp only [RelR, RelD]
   exact ⟨a, ws, rfl, q, r⟩
 ·cases e
noncomputable def appD : R -> List R -> Store -> Option (R × Store)
 | .p n, [.v d], μ => match μ[n]? with | some (.lst xs) => if xs.length < sizeLine then some (.v .non, μ.set n (.lst (xs ++ [d]))) else none | _ => none
 | _, _, _ => none
def GMt (K : PySem.W.Frag) (g : R -> List R -> Store -> Option (R × Store)) (r : V -> List V -> Hp -> VK -> Prop) : Prop :=
 ∀ m H μ x xs d μ' v vs Q, SRel K m H μ -> RelR K m H x v -> RelRs K m H xs vs -> g x xs μ = some (d, μ') -> (∀ w H' m', Ext m H m' H' -> SRel K m' H' μ' -> RelR K m' H' d w -> Q w H') -> r v vs H Q
theorem g_app {K : PySem.W.Frag} : GMt K appD rAppend := by
 intro m H μ x xs d μ' v vs Q s rx rs e k
 unfold appD at e
 split at e
 ·split at e
  ·rename_i ys q
   split at e
   ·rename_i z
    cases e
    obtain ⟨a, rfl, ha⟩ := rx
    obtain ⟨w, rfl, rw'⟩ := rel1 rs
    obtain ⟨ws, ea, ra⟩ := s.cell _ _ a q ha
    have x : Ext m H m (upd H a (.lst (ws ++ [w]))) := .put (List.mem_of_getElem? ha) ea (by simp) (by simp)
    refine ⟨a, ws, w, rfl, rfl, ea, by rw [← ra.length]; exact z, k _ _ m x (s.put ha ea (by simp) (by simp) ⟨_, upd_at, ?_⟩) (by simp only [RelR, RelD])⟩
    refine RelDs.tf x.tf _ _ (ra.append ?_)
    simp only [RelDs]
    exact ⟨w, [], rfl, rw', rfl⟩
   ·cases e
  ·cases e
 ·cases e
noncomputable def compL (g : FG) (c : FT) (f : FE) : List D -> Lo -> Store -> Option (List D × Store)
 | [], _, μ => some ([], μ)
 | x :: xs, ρ, μ => (g (.v x) ρ μ).bind fun a => (c a.1 a.2).bind fun b => if b.1 = true then (f a.1 b.2).bind fun y => match y.1 with
   | .v d => (compL g c f xs a.1 y.2).bind fun r => some (d :: r.1, r.2)
   | _ => none
  else compL g c f xs a.1 b.2
noncomputable def blockLo (k : Nat) (ix : List Nat) (ρ : Lo) : Lo := List.replicate k none ++ ix.map fun i => (ρ[i]?).join
noncomputable def fComp (ix : List Nat) (k : Nat) (i : FI) (g : FG) (c : FT) (f : FE) : FE := fun ρ μ => (i ρ μ).bind fun a => if a.1.length <= sizeLine then
 (compL g c f a.1 (blockLo k ix ρ) a.2).bind fun r => some (.p r.2.length, r.2 ++ [.lst r.1]) else none
noncomputable def cYes : FT := fun _ μ => some (true, μ)
end HW
namespace HW
open PySem PySem.Spec PyProof.Rows L2
section
variable {X : Cx}
theorem PE.imp {e : Expr} {t t' : TE} (h : PE X e t) (k : ∀ {σ H Q}, t' σ H Q -> t σ H Q) : PE X e t' := fun pins s σ H Q I q => h pins s σ H Q I (k q)
theorem PT.imp {e : Expr} {t t' : TT} (h : PT X e t) (k : ∀ {σ H Q}, t' σ H Q -> t σ H Q) : PT X e t' := fun pins s σ H Q I q => h pins s σ H Q I (k q)
theorem PW.imp {e : Expr} {t t' : TT} (h : PW X e t) (k : ∀ {σ H Q}, t' σ H Q -> t σ H Q) : PW X e t' := fun wh pins s σ H Q I q => h wh pins s σ H Q I (k q)
theorem PA.imp {e : List Expr} {t t' : TA} (h : PA X e t) (k : ∀ {σ H Q}, t' σ H Q -> t σ H Q) : PA X e t' := fun pos pins s σ H Q I q => h pos pins s σ H Q I (k q)
theorem PS.imp {e : Stmt} {t t' : TS} (h : PS X e t) (k : ∀ {D σ H}, t' D σ H -> t D σ H) : PS X e t' := fun pins s σ H Q I q => h pins s σ H Q I (k q)
theorem PSs.imp {e : List Stmt} {t t' : TS} (h : PSs X e t) (k : ∀ {D σ H}, t' D σ H -> t D σ H) : PSs X e t' := fun pins s σ H Q I q => h pins s σ H Q I (k q)
theorem PI.imp {tg e : Expr} {t t' : TI} (h : PI X tg e t) (k : ∀ {σ H R}, t' σ H R -> t σ H R) : PI X tg e t' := fun pins s σ H R I q => h pins s σ H R I (k q)
theorem PG.imp {e : Expr} {t t' : TG} (h : PG X e t) (k : ∀ {v σ H Q}, t' v σ H Q -> t v σ H Q) : PG X e t' := fun pins s σ H v u Q I r q => h pins s σ H v u Q I r (k q)
theorem PGs.imp {e : List Expr} {t t' : TGs} (h : PGs X e t) (k : ∀ {v σ H Q}, t' v σ H Q -> t v σ H Q) : PGs X e t' := fun pins s σ H v u Q I r q => h pins s σ H v u Q I r (k q)
end
section
variable {P : Program} {w : World} {H H0 : Hp} {h h0 : Heap} {a : Addr} {u : HO} {fs ex : List Addr}
theorem FzOk.ne {b : Addr} {v : HO} (e : H a = some u) (hu : FzOk u) (q : H b = some v) (n : ¬ FzOk v) : b ≠ a := fun z => by
 rw [z, e] at q; cases q; exact n hu
theorem HOk.frz (ok : HOk P w H h) (e : H a = some u) (hu : FzOk u) : ∃ o, HOk P w (upd H a (.frz o u)) h := by
 have ho : ∃ o, h.get? a = some o := by
  have z := ok a u e
  cases u with
  | lst xs => obtain ⟨_, _, _, _, q⟩ := z; exact ⟨_, q⟩
  | set S n => obtain ⟨o, _, _, _, q, _⟩ := z; exact ⟨_, q⟩
  | dK kvs => obtain ⟨_, _, _, _, o, _, _, q, _⟩ := z; exact ⟨_, q⟩
  | _ => exact hu.elim
 obtain ⟨o, ho⟩ := ho
 refine ⟨o, fun b v q => ?_⟩
 have own : ∀ c y, H c = some (.own y) -> upd H a (.frz o u) c = some (.own y) := fun c y r => by rw [L2.upd_ne (FzOk.ne e hu r fun z => z)]; exact r
 have tup : ∀ c xs, H c = some (.tup xs) -> upd H a (.frz o u) c = some (.tup xs) := fun c xs r => by rw [L2.upd_ne (FzOk.ne e hu r fun z => z)]; exact r
 by_cases hb : b = a
 ·subst hb
  rw [L2.upd_same] at q
  cases q
  exact ⟨ho, (ok b u e).stay (fun c v _ q => q) (fun c r => own c _ r) tup⟩
 ·rw [L2.upd_ne hb] at q
  exact (ok b v q).stay (fun c v _ q => q) (fun c r => own c _ r) tup
theorem Un.frz {o : Obj} (un : Un fs ex H0 H h0 h) (e : H a = some u) (hu : FzOk u) : Un fs ex H0 (upd H a (.frz o u)) h0 h where
 keep := un.keep
 slot := un.slot
 free := fun b ob q n hx => by
  have z := un.free b ob q n hx
  rw [L2.upd_ne (fun y => by rw [y, e] at z; cases z)]; exact z
 there := un.there
 tups := fun b xs q => by rw [L2.upd_ne (FzOk.ne e hu (un.tups b xs q) fun z => z)]; exact un.tups b xs q
 frzs := fun b ob v q => by rw [L2.upd_ne (FzOk.ne e hu (un.frzs b ob v q) fun z => z)]; exact un.frzs b ob v q
 tbls := fun b ps q => by
  obtain ⟨more, r⟩ := un.tbls b ps q
  exact ⟨more, by rw [L2.upd_ne (FzOk.ne e hu r fun z => z)]; exact r⟩
theorem Inv.frz {X : Cx} {pins : List (Addr × Obj)} {σ : L2.St} {s : Shared} (I : Inv X pins σ H s) (e : H a = some u) (hu : FzOk u) : ∃ o, Inv X pins σ (upd H a (.frz o u)) s := by
 obtain ⟨o, ok⟩ := HOk.frz I.hok e hu
 have nn : ∀ b, H b = none -> upd H a (.frz o u) b = none := fun b z => by rw [L2.upd_ne (fun y => by rw [y, e] at z; cases z)]; exact z
 refine ⟨o, I.ok, I.os, I.bare, Un.frz I.base e hu, I.loc, I.cell, nn _ I.free, fun x c q => nn _ (I.freeC x c q), fun p hp => ?_, ok, I.len⟩
 obtain ⟨q1, q2, q3⟩ := I.pin p hp
 exact ⟨q1, nn _ q2, q3⟩
end
theorem pe_fz0 {X : Cx} {e : Expr} {t : TE} (h : PE X e t) : PE X e (tFz t) := fun pins s σ H Q I q => by
 refine thn (h pins s σ H _ I q) fun v s1 ⟨x, H1, I1, r1, q1⟩ => ?_
 rcases q1 with q1 | ⟨a, u, e, hu, q1⟩
 ·exact ⟨x, H1, I1, r1, q1⟩
 ·obtain ⟨o, I2⟩ := Inv.frz I1 e hu
  exact ⟨x, _, I2, r1, q1 o⟩
theorem FnOk.fz {P : Program} {w : World} {K : PySem.W.Frag} {mg : Str -> Option Value} {base : Heap} {CX : CXT} {k : Nat} {f : Addr} {fd : FuncData} {ps : List Str} {sp : Sp} (F : FnOk P w K mg base CX k f fd ps sp) :
  FnOk P w K mg base CX k f fd ps (fun vs H Q E => sp vs H (orFz Q) E) := by
 refine ⟨fun vs H Q E h => F.len vs H _ E h, fun A outer s H args us vs Q E hr he hb hv hs => ?_⟩
 refine codeAny_mono (F.run A outer s H args us vs (orFz Q) E hr he hb hv hs) fun r s' hq => ?_
 cases r with
 | error e => exact hq
 | ok fl =>
  cases fl with
  | next => exact hq
  | brk => exact hq
  | cont => exact hq
  | ret u =>
   obtain ⟨v, H', os, bare, un, hok, rv, q⟩ := hq
   rcases q with q | ⟨a, u', e, hu, q⟩
   ·exact ⟨v, H', os, bare, un, hok, rv, q⟩
   ·obtain ⟨o, ok⟩ := HOk.frz hok e hu
    exact ⟨v, _, os, bare, Un.frz un e hu, ok, rv, q o⟩
theorem Fun.okP {P : Program} {w : World} {K : PySem.W.Frag} {mg : Str -> Option Value} {base : Heap} {x qual : Str} {st : Stmt} {f : Addr} {fd : FuncData} {N ps : List Str} {k : Nat} {b : FS} (F : Fun K x qual st f fd) (S : FnScope N ps (defScope st))
  (hbody : ∀ (cdv : Value) (A : Around) (outer : List Env) (s : Shared) (H : Hp) (E : XK), Room k (A.deeper (envOfC qual (defScope st) s.heap.objs.size f cdv)) -> PSs (cxOf CX0 P w K mg base N qual (defScope st) f cdv A outer s H E).nox (defBody st) (rdS K b)) :
  FnOk P w K mg base CX0 (k + 1) f fd ps (spP K ps.length (runP N.length b)) := by
 have G : FnOk P w K mg base CX0 (k + 1) f fd ps (fun vs H Q _ => vs.length = ps.length /\ rdS K b { nx := fun _ H' => Q .non H', rt := Q } (L2.start N vs) H) :=
  L2.Fun.ok F S (fun vs H Q E h => h.1) fun cdv A outer s H vs Q E hr h => ⟨_, hbody cdv A outer s H E hr, h.2⟩
 refine (FnOk.fz G).imp fun vs H Q E ⟨ds, d, hn, r, e, k⟩ => ⟨by rw [← r.length]; exact hn, run_ok (E := E) r e k⟩
theorem pi_seq0 {X : Cx} {tg l : Expr} {tl : TE} (hl : PE X l tl) : PI X tg l (iSeq X.K tl) := by
 intro pins s σ H R I h
 refine thn (hl pins s σ H _ I h) fun v s1 ⟨x, H1, I1, r1, q1⟩ => ?_
 obtain ⟨a, e, q1⟩ := q1
 subst e
 cases r1
 rcases q1 with ⟨⟨xs, hq⟩, q⟩ | ⟨⟨xs, hq⟩, q⟩
 ·obtain ⟨its, rv, p, hz⟩ := I1.list hq
  refine wpAny_pyIter_list p.isList ?_
  refine ⟨s1.heap.objs.size, [s1.heap.objs.size], _, _, H1, rfl, I1.kept (t' := s1.toks) fun b o e => Heap.get?_push_of_some _ e, turn_list a _, ⟨_, Heap.get?_push_size _ rfl, rfl, rfl⟩, fun b hb => ?_, q⟩
  have e : b = s1.heap.objs.size := by simpa using hb
  subst e
  exact I1.fpOk (Nat.le_refl _) (I1.hok.fresh (Nat.le_refl _))
 ·obtain ⟨its, rv, p, hz⟩ := I1.tuple hq
  refine wpAny_pyIter_tuple (show s1.heap.IsTuple a its.toArray from p) ?_
  refine ⟨s1.heap.objs.size, [s1.heap.objs.size], _, _, H1, rfl, I1.kept (t' := s1.toks) fun b o e => Heap.get?_push_of_some _ e, turn_tuple a _, ⟨_, Heap.get?_push_size _ rfl, rfl, rfl⟩, fun b hb => ?_, q⟩
  have e : b = s1.heap.objs.size := by simpa using hb
  subst e
  exact I1.fpOk (Nat.le_refl _) (I1.hok.fresh (Nat.le_refl _))
end HW
namespace HW
open PySem PySem.Spec PyProof.Rows L2
open Classical in
noncomputable def loopL (n : Nat) (xs : List D) (g : FG) (b : FS) : List D -> Lo -> Store -> Option Out
 | [], ρ, μ => some (.nx ρ μ)
 | x :: r, ρ, μ => (g (.v x) ρ μ).bind fun a => (b a.1 a.2).bind fun o => match o with
  | .nx ρ' μ' => if μ'[n]? = some (.lst xs) then loopL n xs g b r ρ' μ' else none
  | .ct ρ' μ' => if μ'[n]? = some (.lst xs) then loopL n xs g b r ρ' μ' else none
  | .bk ρ' μ' => some (.nx ρ' μ')
  | .rt d μ' => some (.rt d μ')
noncomputable def sForL (f : FE) (g : FG) (b : FS) : FS := fun ρ μ => (f ρ μ).bind fun a => match a.1 with | .p n => (match a.2[n]? with | some (.lst xs) => loopL n xs g b xs ρ a.2 | _ => none) | _ => none
theorem rd_forL {K : PySem.W.Frag} {σ : L2.St} {H : Hp} {D : Ends} {f g b} (h : rdS K (sForL f g b) D σ H) : tFor (iSeq K (rdE K f)) (rdG K g) (rdS K b) D σ H := by
 obtain ⟨ρ, μ, m, o, hl, hs, e, k⟩ := h
 obtain ⟨⟨x, μ1⟩, e1, e⟩ := Option.bind_eq_some_iff.mp e
 dsimp only at e
 split at e
 ·rename_i n
  split at e
  ·rename_i xs q
   refine ⟨ρ, μ, m, .p n, μ1, hl, hs, e1, fun v H1 m1 x1 s1 r1 => ?_⟩
   obtain ⟨a, rfl, ha⟩ := r1
   obtain ⟨vs, ea, ra⟩ := s1.cell _ _ a q ha
   refine ⟨a, rfl, .inl ⟨⟨vs, SqL.of ea⟩, ?_⟩⟩
   refine ⟨fun i c σ H => c = xs.length - i /\ i <= xs.length /\ ∃ ρ μ m, LRel K m H ρ σ /\ SRel K m H μ /\ μ[n]? = some (.lst xs) /\ m[n]? = some a /\ loopL n xs g b (xs.drop i) ρ μ = some o /\ Ends.of K m H D o,
    ⟨_, rfl, Nat.zero_le _, ρ, μ1, m1, hl.ext x1, s1, q, ha, by simpa using e, Ends.of_ext x1 k⟩, ?_⟩
   clear ea ra
   rintro i c σ H ⟨rfl, hi, ρ, μ, m, hl, hs, q, ha, e, k⟩
   obtain ⟨vs, ea, ra⟩ := hs.cell _ _ a q ha
   have hvl := ra.length
   by_cases hlt : i < xs.length
   ·have hx : xs[i]? = some xs[i] := List.getElem?_eq_getElem hlt
    obtain ⟨v, hv, rv⟩ := ra.get hx
    rw [List.drop_eq_getElem_cons hlt, loopL] at e
    obtain ⟨⟨ρ1, μ1⟩, e1, e⟩ := Option.bind_eq_some_iff.mp e
    obtain ⟨o1, e2, e⟩ := Option.bind_eq_some_iff.mp e
    refine .inr ⟨⟨vs, v, SqL.of ea, hv⟩, fun σ H => i + 1 <= xs.length /\ ∃ ρ μ m, LRel K m H ρ σ /\ SRel K m H μ /\ μ[n]? = some (.lst xs) /\ m[n]? = some a /\ loopL n xs g b (xs.drop (i + 1)) ρ μ = some o /\ Ends.of K m H D o,
     fun σ' H' z => ⟨xs.length - (i + 1), by omega, rfl, z⟩, fun x H' y => ?_⟩
    obtain ⟨rfl, y⟩ := y
    have hxv : x = v := by have := y vs (SqL.of ea); rw [hv] at this; exact (Option.some.inj this).symm
    subst hxv
    refine ⟨ρ, μ, m, .v xs[i], ρ1, μ1, hl, hs, rv, e1, fun σ1 H1 m1 x1 s1 l1 => ?_⟩
    refine ⟨ρ1, μ1, m1, o1, l1, s1, e2, ?_⟩
    have keep : ∀ {m2 : List Addr} {H2 : Hp}, Ext m1 H1 m2 H2 -> m2[n]? = some a := fun x2 => by
     obtain ⟨r, hr, _⟩ := (x1.trans x2).1
     rw [hr, List.getElem?_append_left (List.getElem?_eq_some_iff.mp ha).1]
     exact ha
    cases o1 with
    | nx ρ2 μ2 =>
     dsimp only at e
     split at e
     ·rename_i q2
      exact fun σ2 H2 m2 x2 s2 l2 => ⟨hlt, ρ2, μ2, m2, l2, s2, q2, keep x2, e, Ends.of_ext (x1.trans x2) k⟩
     ·cases e
    | ct ρ2 μ2 =>
     dsimp only at e
     split at e
     ·rename_i q2
      exact fun σ2 H2 m2 x2 s2 l2 => ⟨hlt, ρ2, μ2, m2, l2, s2, q2, keep x2, e, Ends.of_ext (x1.trans x2) k⟩
     ·cases e
    | bk ρ2 μ2 => cases e; exact fun σ2 H2 m2 x2 s2 l2 => k σ2 H2 m2 (x1.trans x2) s2 l2
    | rt d μ2 => cases e; exact fun v H2 m2 x2 s2 l2 => k v H2 m2 (x1.trans x2) s2 l2
   ·have : i = xs.length := by omega
    subst this
    rw [List.drop_length, loopL] at e
    cases e
    exact .inl ⟨⟨vs, SqL.of ea, by omega⟩, k σ H m .refl hs hl⟩
  ·cases e
 ·cases e
end HW
namespace HW
open PySem PySem.Spec PyProof.Rows L2
theorem relabel_lookup {env : Env} : ∀ {names : List (Str × NameKind)} {x : Str},
  (names.map fun (n, k) => if (k == NameKind.free && env.scope.kind == .function && env.kindOf n == some .cell) then (n, NameKind.cell) else (n, k)).lookup x =
   (names.lookup x).map fun k => if (k == NameKind.free && env.scope.kind == .function && env.kindOf x == some .cell) then NameKind.cell else k
 | [], _ => rfl
 | (n, k) :: r, x => by
  have ih := @relabel_lookup env r x
  show List.lookup x ((if (k == NameKind.free && env.scope.kind == .function && env.kindOf n == some .cell) = true then (n, NameKind.cell) else (n, k)) :: _) = _
  cases hx : x == n with
  | true =>
   have : x = n := eq_of_beq hx
   subst this
   simp only [List.lookup_cons, hx, Option.map_some]
   by_cases hc : (k == NameKind.free && env.scope.kind == .function && env.kindOf x == some .cell) = true
   ·simp [hc]
   ·simp [hc]
  | false =>
   by_cases hc : (k == NameKind.free && env.scope.kind == .function && env.kindOf n == some .cell) = true
   ·rw [if_pos hc]; simp only [List.lookup_cons, hx]; exact ih
   ·rw [if_neg hc]; simp only [List.lookup_cons, hx]; exact ih
theorem closure_loop {env : Env} : ∀ (names : List (Str × NameKind)) (acc : List (Str × Addr)), (∀ x c, acc.lookup x = some c -> env.cells.lookup x = some c) ->
  (∀ y ∈ names, y.2 = .free -> ∃ c, env.cells.lookup y.1 = some c) ->
  ∃ cl : List (Str × Addr), (forIn names acc fun (x : Str × NameKind) (r : List (Str × Addr)) => (if (x.2 == NameKind.free) = true then do let a ← cellOf env x.1; pure (ForInStep.yield ((x.1, a) :: r)) else pure (ForInStep.yield r) : Sem (ForInStep (List (Str × Addr))))) = pure cl /\
   (∀ x c, cl.lookup x = some c -> env.cells.lookup x = some c) /\ (∀ x c, acc.lookup x = some c -> ∃ c', cl.lookup x = some c') /\ ∀ y ∈ names, y.2 = .free -> ∃ c, cl.lookup y.1 = some c
 | [], acc, h1, _ => ⟨acc, rfl, h1, fun x c e => ⟨c, e⟩, fun y hy => by simp at hy⟩
 | (n, k) :: r, acc, h1, h2 => by
  by_cases hk : k = .free
  ·subst hk
   obtain ⟨c, hc⟩ := h2 (n, .free) List.mem_cons_self rfl
   have step : ∀ x c', List.lookup x ((n, c) :: acc) = some c' -> env.cells.lookup x = some c' := fun x c' e => by
    rw [List.lookup_cons] at e
    cases hx : x == n with
    | true => rw [hx] at e; have : x = n := eq_of_beq hx; subst this; rw [hc]; exact e
    | false => rw [hx] at e; exact h1 x c' e
   obtain ⟨cl, e, p1, p2, p3⟩ := closure_loop r ((n, c) :: acc) step fun y hy => h2 y (List.mem_cons_of_mem _ hy)
   have hn : ∃ c', List.lookup n ((n, c) :: acc) = some c' := ⟨c, by rw [List.lookup_cons]; simp⟩
   refine ⟨cl, ?_, p1, fun x c' e' => ?_, fun y hy hf => ?_⟩
   ·rw [List.forIn_cons]
    show ((cellOf env n >>= fun a => pure (ForInStep.yield ((n, a) :: acc))) >>= _) = _
    unfold cellOf
    rw [hc]
    exact e
   ·cases hx : x == n with
    | true => have : x = n := eq_of_beq hx; subst this; obtain ⟨c'', q⟩ := hn; exact p2 _ _ q
    | false => exact p2 x c' (by rw [List.lookup_cons, hx]; exact e')
   ·rcases List.mem_cons.mp hy with rfl | hy
    ·obtain ⟨c'', q⟩ := hn; exact p2 _ _ q
    ·exact p3 y hy hf
  ·obtain ⟨cl, e, p1, p2, p3⟩ := closure_loop r acc h1 fun y hy => h2 y (List.mem_cons_of_mem _ hy)
   have hb : (k == NameKind.free) = false := by simpa using hk
   refine ⟨cl, ?_, p1, p2, fun y hy hf => ?_⟩
   ·rw [List.forIn_cons]
    simp only [hb, Bool.false_eq_true, if_false]
    exact e
   ·rcases List.mem_cons.mp hy with rfl | hy
    ·exact absurd hf hk
    ·exact p3 y hy hf
theorem closure_ok {env : Env} {scope : Scope} (h : ∀ y ∈ scope.names, y.2 = .free -> ∃ c, env.cells.lookup y.1 = some c) :
  ∃ cl, closureFor scope env = pure cl /\ (∀ x c, cl.lookup x = some c -> env.cells.lookup x = some c) /\ ∀ y ∈ scope.names, y.2 = .free -> ∃ c, cl.lookup y.1 = some c := by
 obtain ⟨cl, e, p1, _, p3⟩ := closure_loop (env := env) scope.names [] (fun x c e => by simp at e) h
 refine ⟨cl, ?_, p1, p3⟩
 unfold closureFor
 first
  | (show (forIn scope.names [] _ >>= fun r => pure r) = _; rw [e]; rfl)
  | (simp only [bind_pure]; exact e)
structure CompNames (osc scope : Scope) (own : List Str) (caps : List Str) : Prop where
 kind : scope.kind = .function
 cell : ∀ y ∈ scope.names, y.2 ≠ .cell
 loc : ∀ y ∈ scope.names, y.2 = .local -> scope.names.lookup y.1 = some .local
 free : ∀ y ∈ scope.names, y.2 = .free -> osc.names.lookup y.1 = some .cell \/ osc.names.lookup y.1 = some .free
 cap : ∀ y ∈ caps, (y, NameKind.free) ∈ scope.names /\ scope.names.lookup y = some .free
 nd : (own ++ caps).Nodup
def blockCx (X : Cx) (scope : Scope) (cl : List (Str × Addr)) (C : Addr) (s₂ : Shared) (H₂ : Hp) (fp : List Addr) (N : List Str) : Cx :=
 { X with N := N, s₀ := s₂, H₀ := H₂, env := compEnvC scope cl C X.env, outer := X.stack, stack := X.stack, ex := fp, fn := fun _ => false, pn := [], xe := fun _ _ => False }
theorem lookup_mem {names : List (Str × NameKind)} {x : Str} {k : NameKind} (h : names.lookup x = some k) : (x, k) ∈ names := PySem.mem_of_lookup h
theorem block_kind {X : Cx} {scope : Scope} {own caps : List Str} (n : CompNames X.env.scope scope own caps) {cl : List (Str × Addr)} {C : Addr} {x : Str} {k : NameKind} (h : (compEnvC scope cl C X.env).kindOf x = some k) (hk : k = .cell \/ k = .free) :
  (x, NameKind.free) ∈ scope.names := by
 have h' : (relabel scope X.env).names.lookup x = some k := h
 unfold relabel at h'
 rw [relabel_lookup] at h'
 cases q : scope.names.lookup x with
 | none => rw [q] at h'; cases h'
 | some k0 =>
  rw [q, Option.map_some] at h'
  have m := lookup_mem q
  have h2 := Option.some.inj h'
  by_cases hf : k0 = .free
  ·subst hf; exact m
  ·exfalso
   have hb : (k0 == NameKind.free) = false := by simpa using hf
   simp only [hb, Bool.false_and, Bool.false_eq_true, if_false] at h2
   rcases hk with hk | hk
   ·exact n.cell _ m (h2.trans hk)
   ·exact hf (h2.trans hk)
theorem block_free {X : Cx} {scope : Scope} {cl : List (Str × Addr)} {C : Addr} {x : Str} (h : scope.names.lookup x = some .free) :
  (compEnvC scope cl C X.env).kindOf x = some .cell \/ (compEnvC scope cl C X.env).kindOf x = some .free := by
 show (relabel scope X.env).names.lookup x = some .cell \/ (relabel scope X.env).names.lookup x = some .free
 unfold relabel
 rw [relabel_lookup, h]
 simp only [Option.map_some]
 split
 ·exact .inl rfl
 ·exact .inr rfl
theorem block_ok {X : Cx} {pins : List (Addr × Obj)} {σ : L2.St} {H₂ : Hp} {s₂ : Shared} {scope : Scope} {own caps : List Str} {cl : List (Str × Addr)} {C : Addr} {fp : List Addr} (I : Inv X pins σ H₂ s₂) (n : CompNames X.env.scope scope own caps)
  (hcl : ∀ x c, cl.lookup x = some c -> X.env.cells.lookup x = some c) (hcl2 : ∀ y ∈ scope.names, y.2 = .free -> ∃ c, cl.lookup y.1 = some c) (hC : s₂.heap.objs.size <= C) (hfs : ∀ b ∈ fp, b < C) (hf : ∀ b ∈ fp, FpOk X pins H₂ b) :
  (blockCx X scope cl C s₂ H₂ fp (own ++ caps)).Ok := by
 refine ⟨I.ok.mod, n.kind, I.ok.glob, I.ok.blt, hC, fun x y c h1 h2 => I.ok.inj x y c (hcl x c h1) (hcl y c h2), fun x hx => ?_, fun x c h _ => ?_, I.ok.hd, I.ok.frames, .inl rfl, fun b hb => ⟨Nat.ne_of_lt (hfs b hb), fun x c e => (hf b hb).2.2.2.2.1 x c (hcl x c e)⟩,
  I.bs, Nat.le_trans I.ok.bsz I.sz, fun b o e hb => ?_, fun b hb z => ?_, I.stack, I.stkFree⟩
 ·rcases hx with hx | hx
  ·obtain ⟨c, e⟩ := hcl2 _ (block_kind n hx (.inl rfl)) rfl; exact ⟨c, e⟩
  ·obtain ⟨c, e⟩ := hcl2 _ (block_kind n hx (.inr rfl)) rfl; exact ⟨c, e⟩
 ·exact absurd h (by simp [blockCx])
 ·rcases (hf b hb).2.2.2.1 with z | z
  ·exact I.ok.noex b o e z
  ·exact absurd (Nat.lt_of_lt_of_le (Nat.lt_of_lt_of_le (Heap.lt_size e) I.ok.bsz) z) (Nat.lt_irrefl _)
 ·rcases List.mem_cons.mp (I.stkSub b z) with e | e
  ·exact (hf b hb).2.1 e
  ·exact (hf b hb).2.2.1 e
noncomputable def blockSt (own : L2.St) (ix : List Nat) (σ : L2.St) : L2.St := own ++ ix.map fun i => (σ[i]?).join
theorem block_start {X : Cx} {pins : List (Addr × Obj)} {σ : L2.St} {H₂ : Hp} {s₂ : Shared} {scope : Scope} {own caps : List Str} {ix : List Nat} {cl : List (Str × Addr)} {C : Addr} {fp : List Addr} {h₁ : Heap} {tk : Nat} (I : Inv X pins σ H₂ s₂) (n : CompNames X.env.scope scope own caps)
  (hcl : ∀ x c, cl.lookup x = some c -> X.env.cells.lookup x = some c) (hcl2 : ∀ y ∈ scope.names, y.2 = .free -> ∃ c, cl.lookup y.1 = some c) (hC : s₂.heap.objs.size <= C) (hfs : ∀ b ∈ fp, b < C) (hf : ∀ b ∈ fp, FpOk X pins H₂ b)
  (hix : ix.length = caps.length) (hix2 : ∀ (j i : Nat) y, ix[j]? = some i -> caps[j]? = some y -> X.N[i]? = some y)
  (old : ∀ b o, s₂.heap.get? b = some o -> h₁.get? b = some o) {m : Str -> Option Value} (hns : h₁.Ns C m) :
  Inv (blockCx X scope cl C s₂ H₂ fp (own ++ caps)) [] (blockSt (own.map fun _ => none) ix σ) H₂ { s₂ with heap := h₁, toks := tk } := by
 refine ⟨block_ok I n hcl hcl2 hC hfs hf, rfl, I.bare, Un.kept old, ⟨m, hns, fun i x v e1 e2 hv => ?_⟩, fun x c e => ?_, I.hok.fresh hC, fun x c e => I.freeC x c (hcl x c e), fun p hp => ?_, I.hok.kept old, ?_⟩
 ·have e1 : (own ++ caps)[i]? = some x := e1
  unfold blockSt at e2
  by_cases hi : i < own.length
  ·rw [List.getElem?_append_left (by simpa using hi), List.getElem?_map] at e2
   cases q : own[i]? with
   | none => rw [q] at e2; cases e2
   | some y => rw [q] at e2; cases e2
  ·rw [List.getElem?_append_right (by simpa using hi)] at e2
   rw [List.getElem?_append_right (by omega)] at e1
   simp only [List.length_map] at e2
   generalize i - own.length = j at e1 e2
   rw [List.getElem?_map] at e2
   cases q : ix[j]? with
   | none => rw [q] at e2; cases e2
   | some i' =>
    rw [q] at e2
    have e3 : (σ[i']?).join = some v := Option.some.inj e2
    have e4 : σ[i']? = some (some v) := by
     cases z : σ[i']? with
     | none => rw [z] at e3; cases e3
     | some w' => rw [z] at e3; cases w' with
      | none => cases e3
      | some _ => cases e3; rfl
    have hN := hix2 j i' x q e1
    obtain ⟨mm, hl⟩ := n.cap x (List.mem_of_getElem? e1)
    have hk : X.env.kindOf x = some .cell \/ X.env.kindOf x = some .free := n.free _ mm rfl
    obtain ⟨m0, hn0, hl0⟩ := I.loc
    have vis : Vis X.env.scope x := by
     rcases hk with hk | hk
     ·exact .inr (.inl hk)
     ·exact .inr (.inr hk)
    obtain ⟨u, r, l⟩ := hl0 i' x v hN e4 vis
    refine ⟨u, r, .inr ⟨block_free hl, ?_⟩⟩
    obtain ⟨c, hc⟩ := hcl2 _ mm rfl
    rcases l with ⟨l, _⟩ | ⟨_, c', hc', z⟩
    ·exfalso
     rcases hk with hk | hk <;> rw [hk] at l <;> cases l
    ·have := hcl x c hc
     rw [hc'] at this; cases this
     obtain ⟨o, ho, hd⟩ := z
     exact ⟨_, hc, o, old _ _ ho, hd⟩
 ·obtain ⟨v, o, ho, hd⟩ := I.cell x c (hcl x c e)
  exact ⟨v, o, old _ _ ho, hd⟩
 ·exact absurd (show p ∈ ([] : List (Addr × Obj)) from hp) (by simp)
 ·show (blockSt _ ix σ).length = (own ++ caps).length
  unfold blockSt
  simp [hix]
def PIfs (X : Cx) (ifs : List Expr) (t : TT) : Prop :=
 ∀ (pins : List (Addr × Obj)) (s : Shared) (σ : L2.St) (H : Hp) (Q : Bool -> Hp -> Prop), Inv X pins σ H s -> t σ H Q ->
  wpAny (model X.prog X.w) X.A (forIn ifs true fun c r => if r = true then do let ok ← isTrue c X.env (eval c X.env); pure (ForInStep.yield ok) else pure (ForInStep.yield r)) (TP X pins σ Q) X.xe s
def tYes : TT := fun _ H Q => Q true H
theorem pifs_nil {X : Cx} : PIfs X [] tYes := fun pins s σ H Q I h => wpAny_tests_nil ⟨H, I, h⟩
theorem pifs_one {X : Cx} {c : Expr} {t : TT} (h : PT X c t) : PIfs X [c] t := fun pins s σ H Q I q => wpAny_tests_one (h pins s σ H Q I q)
theorem compLoop_go {prog : Program} {w : World} {A : Around} {R : Result -> Shared -> Prop} {s : Shared} {elt target iter : Expr} {ifs : List Expr} {scope : Scope} {pos : Pos} {it acc : Value} {env : Env} (I : Nat -> Shared -> Prop)
  (turn : ∀ n s, I n s -> wpAny (model prog w) A (pyNext it) (fun r s₁ => match r with
   | none => R (.ok .next) s₁
   | some v => wpAny (model prog w) A (letOwnedTupleGo target it v) (fun _ s₁' => wpAny (model prog w) A (assign target env v) (fun _ s₂ =>
     wpAny (model prog w) A (forIn ifs true fun c r => if r = true then do let ok ← isTrue c env (eval c env); pure (ForInStep.yield ok) else pure (ForInStep.yield r)) (fun ok s₃ =>
      if ok = true then wpAny (model prog w) A (eval elt env) (fun x s₄ =>
       wpAny (model prog w) A (call (.builtin "list.append") [acc, x]) (fun _ s₅ => ∃ m, m < n /\ I m s₅) (fun _ _ => False) s₄) (fun _ _ => False) s₃
      else ∃ m, m < n /\ I m s₃) (fun _ _ => False) s₂) (fun _ _ => False) s₁') (fun _ _ => False) s₁) (fun _ _ => False) s)
  (n : Nat) (h : I n s) : codeAny (model prog w) A (.compLoop (.ListComp elt [⟨target, iter, ifs, 0⟩] scope pos) 0 it acc env) R s := by
 refine codeAny_loop rfl I (fun n s hI => ?_) n h
 show wpAny _ A ((compTurn (.ListComp elt [⟨target, iter, ifs, 0⟩] scope pos) 0 it acc env).onRaise (fun x => do noteFrame x env; theTreesLotGoes x)) _ _ s
 refine wpAny_noted ?_
 rw [compTurn_list]
 refine wpAny_bind (wpAny_standAt (wpAny_bind (wpAny_mono (turn n s hI) (fun r s₁ h₁ => ?_) fun _ _ h' => h'.elim)))
 cases r with
 | none => exact wpAny_pure h₁
 | some v =>
  refine wpAny_bind (wpAny_mono h₁ (fun _ s₁' h₁' => ?_) fun _ _ h' => h'.elim)
  refine wpAny_bind (wpAny_mono h₁' (fun _ s₂ h₂ => wpAny_bind (wpAny_mono h₂ (fun ok s₃ h₃ => ?_) fun _ _ h' => h'.elim)) fun _ _ h' => h'.elim)
  cases ok with
  | false => exact wpAny_pure ⟨rfl, h₃⟩
  | true =>
   exact wpAny_bind (wpAny_bind (wpAny_mono h₃ (fun x s₄ h₄ => wpAny_bind (wpAny_mono h₄ (fun _ s₅ h₅ => wpAny_pure (wpAny_pure ⟨rfl, h₅⟩)) fun _ _ h' => h'.elim)) fun _ _ h' => h'.elim))
theorem Inv.adopt {X : Cx} {pins : List (Addr × Obj)} {σ : L2.St} {H : Hp} {s : Shared} {a : Addr} {o : HO} (I : Inv X pins σ H s) (f : FpOk X pins H a) (hs : X.s₀.heap.objs.size <= a) (new : ObjOk X.prog X.w (upd H a o) s.heap a o) : Inv X pins σ (upd H a o) s := by
 obtain ⟨f0, f1, f2, f3, f4, f5⟩ := f
 have ne : ∀ b u, H b = some u -> b ≠ a := fun b u e z => by rw [z, f0] at e; cases e
 refine ⟨I.ok, I.os, I.bare, ⟨I.base.keep, I.base.slot, fun b ob q n hx' => ?_, I.base.there, fun b xs q => ?_, fun b ob u q => ?_, fun b ps q => ?_⟩, I.loc, I.cell, ?_, fun x c q => ?_, fun p hp => ?_, fun b u q => ?_, I.len⟩
 ·rw [L2.upd_ne (Nat.ne_of_lt (Nat.lt_of_lt_of_le (Heap.lt_size q) hs))]; exact I.base.free b ob q n hx'
 ·rw [L2.upd_ne (ne _ _ (I.base.tups b xs q))]; exact I.base.tups b xs q
 ·rw [L2.upd_ne (ne _ _ (I.base.frzs b ob u q))]; exact I.base.frzs b ob u q
 ·obtain ⟨more, r⟩ := I.base.tbls b ps q
  exact ⟨more, by rw [L2.upd_ne (ne _ _ r)]; exact r⟩
 ·rw [L2.upd_ne (Ne.symm f1)]; exact I.free
 ·rw [L2.upd_ne (f4 x c q)]; exact I.freeC x c q
 ·obtain ⟨q1, q2, q3⟩ := I.pin p hp
  exact ⟨q1, by rw [L2.upd_ne (f5 p hp)]; exact q2, q3⟩
 ·by_cases hb : b = a
  ·subst hb; rw [L2.upd_same] at q; cases q; exact new
  ·rw [L2.upd_ne hb] at q
   exact (I.hok b u q).stay (fun c v _ q => q) (fun c r => by rw [L2.upd_ne (ne _ _ r)]; exact r) fun c xs r => by rw [L2.upd_ne (ne _ _ r)]; exact r
def tComp (ix : List Nat) (own : List Str) (wi : TI) (g : TG) (tc : TT) (te : TE) : TE := fun σ H Q => wi σ H fun J H1 =>
 ∃ W : Nat -> Nat -> List V -> L2.St -> Hp -> Prop, (∃ n, W 0 n [] (blockSt (own.map fun _ => none) ix σ) H1) /\ ∀ i n ys τ H, W i n ys τ H ->
  (J.stop i H /\ ∀ p, H p = none -> Q (.ref p) (upd H p (.lst ys))) \/
  (J.go i H /\ ys.length < sizeLine /\ ∀ x H', J.yld i H x H' -> g x τ H' fun τ2 H2 => tc τ2 H2 fun b H3 => if b = true then te τ2 H3 fun y H4 => ∃ n', n' < n /\ W (i + 1) n' (ys ++ [y]) τ2 H4 else ∃ n', n' < n /\ W (i + 1) n' ys τ2 H3)
theorem block_run {X : Cx} {pins : List (Addr × Obj)} {σ : L2.St} {s₂ : Shared} {H₂ : Hp} {E : Value -> Shared -> Prop} {elt tg iter : Expr} {ifs : List Expr} {scope : Scope} {pos : Pos} {own caps : List Str} {ix : List Nat} {g : TG} {tc : TT} {te : TE} {Q : VK} {cl : List (Str × Addr)}
  {it : Addr} {fp : List Addr} {tn : Nat -> Heap -> Prop} {J : It} {RR : Value -> Addr -> Result -> Shared -> Prop}
  (hc : X.calm = true) (I : Inv X pins σ H₂ s₂) (T : Turn X.prog X.w X.K tg J fp it tn) (st : tn 0 s₂.heap) (hf : ∀ b ∈ fp, FpOk X pins H₂ b) (n : CompNames X.env.scope scope own caps)
  (hcl : ∀ x c, cl.lookup x = some c -> X.env.cells.lookup x = some c) (hcl2 : ∀ y ∈ scope.names, y.2 = .free -> ∃ c, cl.lookup y.1 = some c)
  (hix : ix.length = caps.length) (hix2 : ∀ (j i : Nat) y, ix[j]? = some i -> caps[j]? = some y -> X.N[i]? = some y)
  (hg : ∀ C, PG (blockCx X scope cl C s₂ H₂ fp (own ++ caps)) tg g) (ht : ∀ C, PIfs (blockCx X scope cl C s₂ H₂ fp (own ++ caps)) ifs tc) (he : ∀ C, PE (blockCx X scope cl C s₂ H₂ fp (own ++ caps)) elt te)
  (W : Nat -> Nat -> List V -> L2.St -> Hp -> Prop) (hW0 : ∃ n, W 0 n [] (blockSt (own.map fun _ => none) ix σ) H₂)
  (hW : ∀ i n ys τ H, W i n ys τ H -> (J.stop i H /\ ∀ p, H p = none -> Q (.ref p) (upd H p (.lst ys))) \/
   (J.go i H /\ ys.length < sizeLine /\ ∀ x H', J.yld i H x H' -> g x τ H' fun τ2 H2 => tc τ2 H2 fun b H3 => if b = true then te τ2 H3 fun y H4 => ∃ n', n' < n /\ W (i + 1) n' (ys ++ [y]) τ2 H4 else ∃ n', n' < n /\ W (i + 1) n' ys τ2 H3))
  (hRR : ∀ (D C : Addr) (s' : Shared) m H' ys, s'.heap.Ns C m -> Inv X pins σ (upd H' D (.lst ys)) s' -> FpOk X pins (upd H' D (.lst ys)) C -> Q (.ref D) (upd H' D (.lst ys)) -> RR (.ref D) C (.ok .next) s') :
  wpAny (model X.prog X.w) X.A (newList []) (fun acc s₃ => wpAny (model X.prog X.w) X.A (newFunctionEnv scope X.env.globals cl [] X.env.qual none .none (some X.env)) (fun cenv s₄ =>
   codeAny (model X.prog X.w) X.A (.compStart (.ListComp elt [⟨tg, iter, ifs, 0⟩] scope pos) 0 (.ref it) acc { cenv with scope := relabel scope X.env }) (RR acc cenv.locals) s₄) E s₃) E s₂ := by
 refine wpAny_newObj_type (wpAny_newFunctionEnv n.cell (by intro y hy; simp at hy) (fun h₁ hns₁ hsb₁ => ?_) n.kind)
 dsimp only at hns₁ hsb₁ ⊢
 generalize hH2 : s₂.heap.push { cls := .type "list", dict := none, data := .seq ([] : List Value).toArray } = H2 at hns₁ hsb₁ ⊢
 have hC : H2.objs.size = s₂.heap.objs.size + 1 := by rw [← hH2, Heap.size_push]
 have below : ∀ b, b < s₂.heap.objs.size -> b ≠ H2.objs.size /\ b ≠ s₂.heap.objs.size := fun b hb => ⟨by rw [hC]; exact Nat.ne_of_lt (Nat.lt_succ_of_lt hb), Nat.ne_of_lt hb⟩
 have hDC : s₂.heap.objs.size ≠ H2.objs.size := by rw [hC]; exact Nat.ne_of_lt (Nat.lt_succ_self _)
 have old : ∀ b o, s₂.heap.get? b = some o -> h₁.get? b = some o := fun b o e => hsb₁.extBut b o (below b (Heap.lt_size e)).1 (Heap.get?_push_of_some _ (hH2 ▸ Heap.get?_push_of_some _ e))
 have hacc : h₁.get? s₂.heap.objs.size = some { cls := .type "list", data := .seq ([] : List Value).toArray } := hsb₁.extBut _ _ hDC (Heap.get?_push_of_some _ (hH2 ▸ Heap.get?_push_size _ rfl))
 have fplt : ∀ b ∈ fp, b < s₂.heap.objs.size := fun b hb => by obtain ⟨o, e, _⟩ := T.obj _ _ st b hb; exact Heap.lt_size e
 have hCle : s₂.heap.objs.size <= H2.objs.size := by rw [hC]; exact Nat.le_succ _
 have hfC : ∀ b ∈ fp, b < H2.objs.size := fun b hb => Nat.lt_of_lt_of_le (fplt b hb) hCle
 have st₁ : tn 0 h₁ := T.keep 0 _ _ st fun b _ o e => old b o e
 have I₀ := block_start (tk := s₂.toks + ([] : List (Str × Value)).length) I n hcl hcl2 hCle hfC hf hix hix2 old hns₁
 clear hns₁ hsb₁
 -- the list's own place
 have cellD : ∀ x c, cl.lookup x = some c -> c < s₂.heap.objs.size := fun x c e => by
  obtain ⟨v, o, q, _⟩ := I.cell x c (hcl x c e); exact Heap.lt_size q
 have stkD : ∀ b ∈ frs X.stack, b < s₂.heap.objs.size := fun b hb => by
  rcases List.mem_cons.mp (I.stkSub b hb) with e | e
  ·rw [e]; exact I.lt
  ·obtain ⟨_, o, q, _⟩ := I.funs.mem e; exact Heap.lt_size q
 have fpok : ∀ {ps : List (Addr × Obj)} {H : Hp}, (∀ b ∈ fp, H b = none) -> (∀ p ∈ ps, p.1 ∉ fp) -> ∀ b ∈ fp, FpOk (blockCx X scope cl H2.objs.size s₂ H₂ fp (own ++ caps)) ps H b := fun {ps H} hn hp b hb =>
  ⟨hn b hb, Nat.ne_of_lt (hfC b hb), fun z => by
   rcases List.mem_cons.mp (I.stkSub b z) with e | e
   ·exact (hf b hb).2.1 e
   ·exact (hf b hb).2.2.1 e, .inl hb, fun x c e => (hf b hb).2.2.2.2.1 x c (hcl x c e), fun p hp' z => hp p (by simpa [blockCx] using hp') (z ▸ hb)⟩
 have Dfp : s₂.heap.objs.size ∉ fp := fun z => Nat.lt_irrefl _ (fplt _ z)
 have pinD : ∀ {H : Hp} {h : Heap} {its : List Value} {k : Nat}, H s₂.heap.objs.size = none -> h.get? s₂.heap.objs.size = some { cls := .type "list", data := .seq its.toArray k } ->
   ∀ p ∈ [((s₂.heap.objs.size, { cls := .type "list", data := .seq its.toArray k }) : Addr × Obj)], h.get? p.1 = some p.2 /\ H p.1 = none /\ p.1 ≠ H2.objs.size /\ p.1 ∉ frs X.stack /\ ∀ v, p.2.data ≠ .cell v := fun {H h its k} hn e p hp => by
  rw [List.mem_singleton.mp hp]
  exact ⟨e, hn, hDC, fun z => Nat.lt_irrefl _ (stkD _ z), fun v z => by cases z⟩
 have loop : ∀ s₃ : Shared, s₃ = { s₂ with heap := h₁, toks := s₂.toks + ([] : List (Str × Value)).length } ->
   codeAny (model X.prog X.w) X.A (.compLoop (.ListComp elt [⟨tg, iter, ifs, 0⟩] scope pos) 0 (.ref it) (.ref s₂.heap.objs.size) (compEnvC scope cl H2.objs.size X.env)) (RR (.ref s₂.heap.objs.size) H2.objs.size) s₃ := by
  rintro s₃ rfl
  obtain ⟨n0, hW0⟩ := hW0
  refine compLoop_go (fun n s' => ∃ i ys its k τ H, Inv (blockCx X scope cl H2.objs.size s₂ H₂ fp (own ++ caps)) [(s₂.heap.objs.size, { cls := .type "list", data := .seq its.toArray k })] τ H s' /\ tn i s'.heap /\ (∀ b ∈ fp, H b = none) /\ Vals ys its /\ ys.length <= sizeLine /\ W i n ys τ H) ?_ n0
   ⟨0, [], [], 0, _, H₂, I₀.pins_of (pinD (I.hok.fresh (Nat.le_refl _)) hacc), st₁, fun b hb => (hf b hb).1, .nil, Nat.zero_le _, hW0⟩
  rintro n s3 ⟨i, ys, its, k, τ, H, I3, st3, fr3, rv, hz, w3⟩
  have hD3 := I3.pin _ (List.mem_append_right _ List.mem_cons_self)
  have pfp : ∀ p ∈ [((s₂.heap.objs.size, { cls := .type "list", data := .seq its.toArray k }) : Addr × Obj)], p.1 ∉ fp := fun p hp => by rw [List.mem_singleton.mp hp]; exact Dfp
  rcases hW i n ys τ H w3 with ⟨stop, q⟩ | ⟨go, hlt, step⟩
  ·refine thn (T.done (blockCx X scope cl H2.objs.size s₂ H₂ fp (own ++ caps)) rfl rfl rfl hc i _ s3 τ H (fun _ _ => False) I3 (fpok fr3 pfp) st3 stop) fun r s4 ⟨hr, I4⟩ => ?_
   subst hr
   have hD4 := I4.pin _ (List.mem_append_right _ List.mem_cons_self)
   obtain ⟨m, hm, _⟩ := id I4.loc
   have IX : Inv X pins σ H s4 := I.call' (ch := fp) I4.os I4.base I4.hok I4.bare fun b hb => ⟨(hf b hb).2.2.2.1, (hf b hb).2.1, (hf b hb).2.2.2.2⟩
   have fD : FpOk X pins H s₂.heap.objs.size := I.fpOk (Nat.le_refl _) hD4.2.1
   have IY := Inv.adopt (o := .lst ys) IX fD I.sz ⟨hz, its, k, rv, hD4.1⟩
   exact hRR _ _ s4 m H ys hm IY (I.fpOk hCle (by rw [L2.upd_ne (Ne.symm hDC)]; exact I4.free)) (q _ hD4.2.1)
  ·refine thn (T.item (blockCx X scope cl H2.objs.size s₂ H₂ fp (own ++ caps)) rfl rfl rfl hc i _ s3 τ H (fun _ _ => False) I3 (fpok fr3 pfp) st3 go) fun r s4 ⟨u, hr, h4⟩ => ?_
   subst hr
   refine thn h4 fun _ s5 ⟨x, H5, I5, r5, y5, st5, fr5⟩ => ?_
   have I5' := I5.pinned (fpok fr5 pfp) (T.obj _ _ st5)
   refine thn (hg _ _ s5 τ H5 x u _ I5' r5 (step x H5 y5)) fun _ s6 ⟨σ6, H6, I6, q6⟩ => ?_
   refine thn (ht _ _ s6 σ6 H6 _ I6 q6) fun ok s7 ⟨H7, I7, q7⟩ => ?_
   have memD : ∀ p ∈ pinsAt fp s5.heap, p.1 ≠ s₂.heap.objs.size := fun p hp z => Dfp (z ▸ (of_pinsAt hp).1)
   cases ok with
   | true =>
    refine thn (he _ _ s7 σ6 H7 _ I7 q7) fun u8 s8 ⟨y, H8, I8, r8, n', hn', w8⟩ => ?_
    have hD8 := I8.pin (s₂.heap.objs.size, _) (List.mem_append_right _ (List.mem_append_left _ List.mem_cons_self))
    refine append_at (hsz := by rw [List.size_toArray, ← rv.length]; exact hz) hD8.1 fun h9 sb hD9 => ?_
    have I8' : Inv (blockCx X scope cl H2.objs.size s₂ H₂ fp (own ++ caps)) (pinsAt fp s5.heap) σ6 H8 s8 := I8.pins_of fun p hp => I8.pin p (List.mem_append_right _ (List.mem_append_right _ hp))
    have I9 : Inv (blockCx X scope cl H2.objs.size s₂ H₂ fp (own ++ caps)) (pinsAt fp s5.heap) σ6 H8 { s8 with heap := h9 } := I8'.turned (t' := s8.toks) (it := s₂.heap.objs.size) (fun b o hb e => sb.extBut b o hb e) hD8.2.1 hDC (.inr (Nat.le_refl _))
     (fun x c e => Nat.ne_of_lt (cellD x c e)) fun p hp => memD p (by simpa [blockCx] using hp)
    have e9 : (its.toArray.push u8) = (its ++ [u8]).toArray := by simp
    rw [e9] at hD9
    refine ⟨n', hn', i + 1, ys ++ [y], its ++ [u8], k + 1, σ6, H8, I9.pins_of (pinD hD8.2.1 hD9), T.keep _ _ _ st5 fun b hb o e => (I9.pin (b, o) (List.mem_append_right _ (mem_pinsAt hb e))).1, fun b hb => ?_, rv.append (.cons r8 .nil), by rw [List.length_append]; exact hlt, w8⟩
    obtain ⟨o, e, d⟩ := T.obj _ _ st5 b hb
    exact (I9.pin (b, o) (List.mem_append_right _ (mem_pinsAt hb e))).2.1
   | false =>
    obtain ⟨n', hn', w8⟩ := q7
    have hD7 := I7.pin (s₂.heap.objs.size, _) (List.mem_append_right _ (List.mem_append_left _ List.mem_cons_self))
    refine ⟨n', hn', i + 1, ys, its, k, σ6, H7, I7.pins_of (pinD hD7.2.1 hD7.1), T.keep _ _ _ st5 fun b hb o e => (I7.pin (b, o) (List.mem_append_right _ (List.mem_append_right _ (mem_pinsAt hb e)))).1, fun b hb => ?_, rv, hz, w8⟩
    obtain ⟨o, e, d⟩ := T.obj _ _ st5 b hb
    exact (I7.pin (b, o) (List.mem_append_right _ (List.mem_append_right _ (mem_pinsAt hb e)))).2.1
 exact codeAny_compStart_list (loop _ rfl) (T.self _ 0 _ _ _ st₁ (loop _ rfl))
theorem pe_comp0 {X : Cx} {elt tg iter : Expr} {ifs : List Expr} {scope : Scope} {pos : Pos} {own caps : List Str} {ix : List Nat} {wi : TI} {g : TG} {tc : TT} {te : TE} (hc : X.calm = true) (n : CompNames X.env.scope scope own caps)
  (hix : ix.length = caps.length) (hix2 : ∀ (j i : Nat) y, ix[j]? = some i -> caps[j]? = some y -> X.N[i]? = some y) (hi : PI X tg iter wi)
  (hb : ∀ cl C s₂ H₂ fp, PG (blockCx X scope cl C s₂ H₂ fp (own ++ caps)) tg g /\ PIfs (blockCx X scope cl C s₂ H₂ fp (own ++ caps)) ifs tc /\ PE (blockCx X scope cl C s₂ H₂ fp (own ++ caps)) elt te)
  (hs : ∀ x, foldedSetIterable iter X.env x = pure x := by intro _; rfl) : PE X (.ListComp elt [⟨tg, iter, ifs, 0⟩] scope pos) (tComp ix own wi g tc te) := by
 intro pins s σ H Q I h
 obtain ⟨cl, hclos, hcl, hcl2⟩ := closure_ok (env := X.env) (scope := scope) fun y hy hf => I.ok.has y.1 (n.free y hy hf)
 rw [eval_ListComp]
 refine wpAny_comprehension_free (use := none) rfl hs hclos n.kind n.loc (thn (hi pins s σ H _ I h) fun v s1 h1 => thn h1 fun itv s2 h2 => ?_)
 obtain ⟨it, fp, tn, J, H2, e, I2, T, st2, f2, W, w0, turn⟩ := h2
 subst e
 refine block_run (RR := fun acc C => compPost (model X.prog X.w) X.A X.xe none (EP X pins σ Q) acc C) hc I2 T st2 f2 n hcl hcl2 hix hix2 (fun C => (hb cl C s2 H2 fp).1) (fun C => (hb cl C s2 H2 fp).2.1) (fun C => (hb cl C s2 H2 fp).2.2) W w0 turn ?_
 intro D C s' m H' ys hm IY fC q
 refine ⟨m, hm, fun h' sb => ⟨.ref D, _, IY.turned (t' := s'.toks) (it := C) (fun b o hb e => sb.extBut b o hb e) fC.1 fC.2.1 fC.2.2.2.1 fC.2.2.2.2.1 fC.2.2.2.2.2, rfl, q⟩⟩
theorem ps_comp0 {X : Cx} {elt tg iter : Expr} {ifs : List Expr} {scope : Scope} {pos spos py : Pos} {own caps : List Str} {ix : List Nat} {wi : TI} {g : TG} {tc : TT} {te : TE} {i : Nat} {y : Str} (hc : X.calm = true) (n : CompNames X.env.scope scope own caps)
  (hN : X.N.Nodup) (hy : X.N[i]? = some y) (hyl : Loc X.env.scope y)
  (hix : ix.length = caps.length) (hix2 : ∀ (j i : Nat) y, ix[j]? = some i -> caps[j]? = some y -> X.N[i]? = some y) (hi : PI X tg iter wi)
  (hb : ∀ cl C s₂ H₂ fp, PG (blockCx X scope cl C s₂ H₂ fp (own ++ caps)) tg g /\ PIfs (blockCx X scope cl C s₂ H₂ fp (own ++ caps)) ifs tc /\ PE (blockCx X scope cl C s₂ H₂ fp (own ++ caps)) elt te)
  (hsw : swapsWith (.ListComp elt [⟨tg, iter, ifs, 0⟩] scope pos) (some (.Name y py)) spos.line X.env = pure true)
  (hs : ∀ x, foldedSetIterable iter X.env x = pure x := by intro _; rfl) (hf : X.fn y = true \/ X.env.scope.names.lookup y = some .local := by first | exact .inl rfl | exact .inr rfl | assumption) :
  PS X (.Assign [.Name y py] (.ListComp elt [⟨tg, iter, ifs, 0⟩] scope pos) spos) (tAsg (tComp ix own wi g tc te) (gName i)) := by
 intro pins s σ H Z I h
 obtain ⟨cl, hclos, hcl, hcl2⟩ := closure_ok (env := X.env) (scope := scope) fun y hy hf => I.ok.has y.1 (n.free y hy hf)
 rw [exec_Assign_Name_used _ _ _ _ hsw]
 refine wpAny_bind (wpAny_standAt (wpAny_bind ?_))
 show wpAny _ X.A (do let _ ← comprehension (.ListComp elt [⟨tg, iter, ifs, 0⟩] scope pos) scope X.env _ (newList []) false (eval iter X.env) (some (assign (.Name y py) X.env))) _ _ s
 refine wpAny_bind (wpAny_mono (wpAny_comprehension_free (use := some (assign (.Name y py) X.env)) (Q := fun _ s' => SP X pins Z .next s') rfl hs hclos n.kind n.loc (thn (hi pins s σ H _ I h) fun v s1 h1 => thn h1 fun itv s2 h2 => ?_)) (fun _ s' hq => wpAny_pure (wpAny_pure hq)) fun _ _ e => e)
 obtain ⟨it, fp, tn, J, H2, e, I2, T, st2, f2, W, w0, turn⟩ := h2
 subst e
 refine block_run (Q := fun x H1 => gName i x σ H1 Z.nx) (RR := fun acc C => compPost (model X.prog X.w) X.A X.xe (some (assign (.Name y py) X.env)) (fun _ s' => SP X pins Z .next s') acc C) hc I2 T st2 f2 n hcl hcl2 hix hix2 (fun C => (hb cl C s2 H2 fp).1) (fun C => (hb cl C s2 H2 fp).2.1) (fun C => (hb cl C s2 H2 fp).2.2) W w0 turn ?_
 intro D C s' m H' ys hm IY fC q
 show wpAny _ X.A (assign (.Name y py) X.env (.ref D)) _ _ _
 refine wpAny_assign_Name (store_ok2 (v := .ref D) IY hN hy hyl rfl (fun s'' IZ ⟨a, sa, ha⟩ => ?_) hf)
 have nC : C ≠ a := by
  rcases ha with ha | ha
  ·rw [ha]; exact fC.2.1
  ·exact Ne.symm (fC.2.2.2.2.1 _ _ ha)
 refine ⟨m, hm.sameBut sa nC, fun h' sb => ⟨_, _, IZ.turned (t' := s''.toks) (it := C) (fun b o hb e => sb.extBut b o hb e) fC.1 fC.2.1 fC.2.2.2.1 fC.2.2.2.2.1 fC.2.2.2.2.2, q⟩⟩
section
variable {K : PySem.W.Frag} {m : List Addr} {σ : L2.St} {H : Hp} {Q : VK} {μ : Store}
theorem rd_yes {B : Bool -> Hp -> Prop} (h : rdT K cYes σ H B) : tYes σ H B := by
 obtain ⟨ρ, μ, m, d, μ', hl, hs, e, k⟩ := h
 cases e
 exact k H m .refl hs
theorem block_rel {ρ : Lo} {k : Nat} {ix : List Nat} {own : List Str} (hk : own.length = k) (h : LRel K m H ρ σ) : LRel K m H (blockLo k ix ρ) (blockSt (own.map fun _ => none) ix σ) := by
 subst hk
 unfold blockLo blockSt
 refine ⟨by simp, fun i d e => ?_⟩
 by_cases hi : i < own.length
 ·rw [List.getElem?_append_left (by simpa using hi), List.getElem?_replicate] at e
  split at e <;> cases e
 ·rw [List.getElem?_append_right (by simpa using hi)] at e
  rw [List.getElem?_append_right (by simpa using hi)]
  simp only [List.length_replicate, List.length_map] at e ⊢
  generalize i - own.length = j at e ⊢
  rw [List.getElem?_map] at e ⊢
  cases q : ix[j]? with
  | none => rw [q] at e; cases e
  | some i' =>
   rw [q] at e
   have e3 : (ρ[i']?).join = some d := Option.some.inj e
   have e4 : ρ[i']? = some (some d) := by
    cases z : ρ[i']? with
    | none => rw [z] at e3; cases e3
    | some w' => rw [z] at e3; cases w' with
     | none => cases e3
     | some _ => cases e3; rfl
   obtain ⟨v, q1, q2⟩ := h.2 i' d e4
   exact ⟨v, by simp [q1], q2⟩
theorem rd_comp {ix : List Nat} {k : Nat} {own : List Str} {fi : FI} {g : FG} {c : FT} {f : FE} (hk : own.length = k) (h : rdE K (fComp ix k fi g c f) σ H Q) : tComp ix own (rdI K fi) (rdG K g) (rdT K c) (rdE K f) σ H Q := by
 obtain ⟨ρ, μ, m, d, μ', hl, hs, e, kk⟩ := h
 obtain ⟨⟨xs, μ1⟩, e1, e⟩ := Option.bind_eq_some_iff.mp e
 split at e
 ·rename_i hz
  obtain ⟨⟨r, μr⟩, e2, e⟩ := Option.bind_eq_some_iff.mp e
  cases e
  refine ⟨ρ, μ, m, xs, μ1, hl, hs, e1, fun J P H1 m1 x1 s1 ok p1 => ?_⟩
  refine ⟨fun i n ys τ H => n = xs.length - i /\ i <= xs.length /\ ys.length <= i /\ P H /\ ∃ ρ μ m ds r' , LRel K m H ρ τ /\ SRel K m H μ /\ RelDs K H ds ys /\ compL g c f (xs.drop i) ρ μ = some (r', μr) /\ r = ds ++ r' /\
   ∀ v H' m', Ext m H m' H' -> SRel K m' H' (μr ++ [.lst r]) -> RelR K m' H' (.p μr.length) v -> Q v H',
   ⟨_, rfl, Nat.zero_le _, Nat.le_refl _, p1, _, μ1, m1, [], r, block_rel hk (hl.ext x1), s1, by simp only [RelDs], by simpa using e2, rfl, fun v H' m' x2 s2 r2 => kk v H' m' (x1.trans x2) s2 r2⟩, ?_⟩
  rintro i n ys τ H ⟨rfl, hi, hy, p, ρ, μ, m, ds, r', hl, hs, rs, e, er, kk⟩
  by_cases hlt : i < xs.length
  ·have hx : xs[i]? = some xs[i] := List.getElem?_eq_getElem hlt
   rw [List.drop_eq_getElem_cons hlt, compL] at e
   obtain ⟨⟨ρ1, μ2⟩, q1, e⟩ := Option.bind_eq_some_iff.mp e
   obtain ⟨⟨b, μ3⟩, q2, e⟩ := Option.bind_eq_some_iff.mp e
   refine .inr ⟨ok.go i _ H hx p, Nat.lt_of_le_of_lt hy (Nat.lt_of_lt_of_le hlt hz), fun x H' y => ?_⟩
   obtain ⟨rfl, rx⟩ := ok.yld i _ H x H' hx p y
   refine ⟨ρ, μ, m, .v xs[i], ρ1, μ2, hl, hs, rx, q1, fun σ1 H1 m1 x1 s1 l1 => ?_⟩
   refine ⟨ρ1, μ2, m1, b, μ3, l1, s1, q2, fun H2 m2 x2 s2 => ?_⟩
   cases b with
   | true =>
    simp only [if_true] at e ⊢
    obtain ⟨⟨y', μ4⟩, q3, e⟩ := Option.bind_eq_some_iff.mp e
    refine ⟨ρ1, μ3, m2, y', μ4, l1.ext x2, s2, q3, fun w H3 m3 x3 s3 r3 => ?_⟩
    cases y' with
    | p _ => cases e
    | s _ _ => cases e
    | x _ => cases e
    | f _ _ => cases e
    | v d1 =>
     obtain ⟨⟨r1, μ5⟩, q4, e⟩ := Option.bind_eq_some_iff.mp e
     cases e
     have x4 := (x1.trans x2).trans x3
     refine ⟨_, (by omega : xs.length - (i + 1) < xs.length - i), rfl, hlt, by rw [List.length_append]; exact Nat.succ_le_succ hy, ok.st _ _ x4.tf p, ρ1, μ4, m3, ds ++ [d1], r1, l1.ext (x2.trans x3), s3,
      (RelDs.tf x4.tf _ _ rs).append (by simp only [RelDs]; exact ⟨w, [], rfl, r3, rfl⟩), q4, by rw [er, List.append_assoc]; rfl, fun v H' m' x5 s5 r5 => kk v H' m' (x4.trans x5) s5 r5⟩
   | false =>
    simp only [Bool.false_eq_true, if_false] at e ⊢
    have x4 := x1.trans x2
    exact ⟨_, (by omega : xs.length - (i + 1) < xs.length - i), rfl, hlt, Nat.le_succ_of_le hy, ok.st _ _ x4.tf p, ρ1, μ3, m2, ds, r', l1.ext x2, s2, RelDs.tf x4.tf _ _ rs, e, er, fun v H' m' x5 s5 r5 => kk v H' m' (x4.trans x5) s5 r5⟩
  ·have : i = xs.length := by omega
   subst this
   rw [List.drop_length, compL] at e
   cases e
   refine .inl ⟨ok.stop _ H p (Nat.le_refl _), fun p hp => ?_⟩
   obtain ⟨a1, a2, a3⟩ := new_lst hs rs hp
   rw [List.append_nil] at er
   subst er
   exact kk _ _ _ a1 a2 a3
 ·cases e
end
end HW
namespace HW
open PySem PySem.Spec PyProof.Rows L2
mutual
noncomputable def toPy : D -> PyData
 | .non => .none
 | .bl b => .bool b
 | .int i => .int i
 | .str x => .str x
 | .tup xs => .tuple (toPys xs)
 | .fl xs => .list (toPys xs)
 | .fd _ _ => .none
 | .key _ => .none
noncomputable def toPys : List D -> List PyData
 | [] => []
 | x :: xs => toPy x :: toPys xs
end
mutual
noncomputable def okD : Nat -> D -> Bool
 | _, .non => true
 | _, .bl _ => true
 | _, .int _ => true
 | _, .str x => PyData.strOk x
 | _, .fd _ _ => false
 | _, .key _ => false
 | 0, .tup _ => false
 | 0, .fl _ => false
 | n + 1, .tup xs => okDs n xs
 | n + 1, .fl xs => okDs n xs
noncomputable def okDs : Nat -> List D -> Bool
 | _, [] => true
 | n, x :: xs => okD n x && okDs n xs
end
mutual
noncomputable def eqD : D -> D -> Bool
 | .non, .non => true
 | .bl a, .bl b => a == b
 | .bl a, .int j => (if a then 1 else 0) == j
 | .int i, .bl b => i == (if b then 1 else 0)
 | .int i, .int j => i == j
 | .str x, .str y => x == y
 | .tup xs, .tup ys => eqDs xs ys
 | .fl xs, .fl ys => eqDs xs ys
 | .fd _ _, .fd _ _ => true
 | .fd _ _, .non => true
 | .non, .fd _ _ => true
 | .key _, .key _ => true
 | .key _, .fd _ _ => true
 | .fd _ _, .key _ => true
 | .key _, .non => true
 | .non, .key _ => true
 | _, _ => false
noncomputable def eqDs : List D -> List D -> Bool
 | [], [] => true
 | x :: xs, y :: ys => eqD x y && eqDs xs ys
 | _, _ => false
end
mutual
theorem eqD_py : ∀ a b : D, PyData.eqv (toPy a) (toPy b) = eqD a b
 | .non, b => by cases b <;> simp [toPy, PyData.eqv, eqD]
 | .bl _, b => by cases b <;> simp [toPy, PyData.eqv, eqD]
 | .int _, b => by cases b <;> simp [toPy, PyData.eqv, eqD]
 | .str _, b => by cases b <;> simp [toPy, PyData.eqv, eqD]
 | .tup xs, b => by
  cases b with
  | tup ys => simp only [toPy, PyData.eqv, eqD]; exact eqDs_py xs ys
  | _ => simp [toPy, PyData.eqv, eqD]
 | .fl xs, b => by
  cases b with
  | fl ys => simp only [toPy, PyData.eqv, eqD]; exact eqDs_py xs ys
  | _ => simp [toPy, PyData.eqv, eqD]
 | .fd _ _, b => by cases b <;> simp [toPy, PyData.eqv, eqD]
 | .key _, b => by cases b <;> simp [toPy, PyData.eqv, eqD]
theorem eqDs_py : ∀ a b : List D, PyData.eqvAll (toPys a) (toPys b) = eqDs a b
 | [], b => by cases b <;> simp [toPys, PyData.eqvAll, eqDs]
 | x :: xs, b => by
  cases b with
  | nil => simp [toPys, PyData.eqvAll, eqDs]
  | cons y ys => simp only [toPys, PyData.eqvAll, eqDs, eqD_py x y, eqDs_py xs ys]
end
mutual
theorem okD_py : ∀ (n : Nat) (d : D), okD n d = true -> (toPy d).canLay0 = true /\ (toPy d).depth <= n
 | _, .non, _ => by simp [toPy, PyData.canLay0, PyData.depth]
 | _, .bl _, _ => by simp [toPy, PyData.canLay0, PyData.depth]
 | _, .int _, _ => by simp [toPy, PyData.canLay0, PyData.depth]
 | n, .str x, h => by
  have h : PyData.strOk x = true := by cases n <;> simpa [okD] using h
  simp [toPy, PyData.canLay0, PyData.depth, h]
 | n, .fd _ _, h => by cases n <;> simp [okD] at h
 | n, .key _, h => by cases n <;> simp [okD] at h
 | 0, .tup _, h => by simp [okD] at h
 | 0, .fl _, h => by simp [okD] at h
 | n + 1, .tup xs, h => by
  obtain ⟨a, b⟩ := okDs_py n xs (by simpa [okD] using h)
  simp only [toPy, PyData.canLay0, PyData.depth]
  exact ⟨a, by omega⟩
 | n + 1, .fl xs, h => by
  obtain ⟨a, b⟩ := okDs_py n xs (by simpa [okD] using h)
  simp only [toPy, PyData.canLay0, PyData.depth]
  exact ⟨a, by omega⟩
theorem okDs_py : ∀ (n : Nat) (ds : List D), okDs n ds = true -> PyData.canLayAll0 (toPys ds) = true /\ PyData.depthAll (toPys ds) <= n
 | _, [], _ => by simp [toPys, PyData.canLayAll0, PyData.depthAll]
 | n, x :: xs, h => by
  have h' : okD n x = true /\ okDs n xs = true := by cases n <;> simpa [okDs] using h
  obtain ⟨a1, b1⟩ := okD_py n x h'.1
  obtain ⟨a2, b2⟩ := okDs_py n xs h'.2
  simp only [toPys, PyData.canLayAll0, PyData.depthAll, a1, a2, Bool.and_self, true_and]
  omega
end
theorem shaped_of {d : D} (h : okD 60 d = true) : SeqAt.shaped (toPy d) = true := by
 obtain ⟨a, b⟩ := okD_py 60 d h
 unfold SeqAt.shaped
 rw [a, Bool.true_and]
 exact decide_eq_true (by omega)
section
variable {X : Cx} {pins : List (Addr × Obj)} {σ : L2.St} {H : Hp} {s : Shared}
mutual
theorem reads_of (I : Inv X pins σ H s) : ∀ (k : Nat) (d : D) (v : V) (u : Value), okD k d = true -> RelD X.K H d v -> RelV v u -> ∃ as, Reads s.heap u (toPy d) as
 | _, .non, v, u, _, h, r => by simp only [RelD] at h; subst h; cases r; exact ⟨_, .none⟩
 | _, .bl b, v, u, _, h, r => by simp only [RelD] at h; subst h; cases r; exact ⟨_, .bool b⟩
 | _, .int i, v, u, _, h, r => by simp only [RelD] at h; subst h; obtain ⟨t, rfl⟩ := r; exact ⟨_, .int i t⟩
 | _, .str x, v, u, _, h, r => by simp only [RelD] at h; subst h; obtain ⟨t, rfl⟩ := r; exact ⟨_, .str x t⟩
 | _, .fd _ _, v, u, hk, h, r => by simp [okD] at hk
 | _, .key _, v, u, hk, h, r => by simp [okD] at hk
 | 0, .tup xs, v, u, hk, h, r => by simp [okD] at hk
 | 0, .fl xs, v, u, hk, h, r => by simp [okD] at hk
 | k + 1, .tup xs, v, u, hk, h, r => by
  simp only [RelD] at h
  obtain ⟨a, vs, rfl, q, h⟩ := h
  cases r
  obtain ⟨its, rv, ⟨o, e, c, n, hd⟩, _⟩ := I.tuple q
  obtain ⟨as, ra⟩ := readss_of I k xs vs its (by simpa [okD] using hk) h rv
  exact ⟨_, .tuple e c hd (by simpa using ra)⟩
 | k + 1, .fl xs, v, u, hk, h, r => by
  simp only [RelD] at h
  obtain ⟨a, vs, rfl, q, h⟩ := h
  cases r
  obtain ⟨its, rv, ⟨o, n, e, c, _, hd⟩, _⟩ := I.list q.sq
  obtain ⟨as, ra⟩ := readss_of I k xs vs its (by simpa [okD] using hk) h rv
  exact ⟨_, .list e c hd (by simpa using ra)⟩
theorem readss_of (I : Inv X pins σ H s) : ∀ (k : Nat) (ds : List D) (vs : List V) (us : List Value), okDs k ds = true -> RelDs X.K H ds vs -> Vals vs us -> ∃ as, ReadsAll s.heap us (toPys ds) as
 | _, [], vs, us, _, h, r => by simp only [RelDs] at h; subst h; cases r; exact ⟨_, .nil⟩
 | k, d :: ds, vs, us, hk, h, r => by
  have hk : okD k d = true /\ okDs k ds = true := by cases k <;> simpa [okDs] using hk
  simp only [RelDs] at h
  obtain ⟨v, vr, rfl, h1, h2⟩ := h
  cases r with
  | cons r1 r2 =>
   obtain ⟨as, q1⟩ := reads_of I k d v _ hk.1 h1 r1
   obtain ⟨bs, q2⟩ := readss_of I k ds vr _ hk.2 h2 r2
   exact ⟨_, .cons q1 q2⟩
end
end
noncomputable def viewD : R -> Store -> Option D
 | .v d, _ => some d
 | .p n, μ => match μ[n]? with | some (.lst xs) => some (.fl xs) | some (.fz xs) => some (.fl xs) | _ => none
 | _, _ => none
noncomputable def eqR (neg : Bool) : R -> R -> Store -> Option (R × Store) := fun x y μ => (viewD x μ).bind fun a => (viewD y μ).bind fun b => if (okD 60 a && okD 60 b) = true then some (.v (.bl (if neg then !eqD a b else eqD a b)), μ) else none
noncomputable def rEqD (K : PySem.W.Frag) (neg : Bool) : R2 := fun v u H Q => ∃ m μ x y d, SRel K m H μ /\ RelR K m H x v /\ RelR K m H y u /\ eqR neg x y μ = some (.v (.bl d), μ) /\ Q (.bl d) H
theorem g_eq {K : PySem.W.Frag} {neg : Bool} : GOp K (eqR neg) (rEqD K neg) := by
 intro m H μ x y d μ' v u Q s rx ry e k
 have e0 := e
 unfold eqR at e
 obtain ⟨a, e1, e⟩ := Option.bind_eq_some_iff.mp e
 obtain ⟨b, e2, e⟩ := Option.bind_eq_some_iff.mp e
 split at e
 ·cases e
  exact ⟨m, μ, x, y, _, s, rx, ry, e0, k _ H m .refl s (by simp only [RelR, RelD])⟩
 ·cases e
theorem view_reads {X : Cx} {pins : List (Addr × Obj)} {σ : L2.St} {H : Hp} {s : Shared} {m : List Addr} {μ : Store} {x : R} {d : D} {v : V} {u : Value} (I : Inv X pins σ H s) (S : SRel X.K m H μ) (r : RelR X.K m H x v) (ru : RelV v u) (e : viewD x μ = some d) (hk : okD 60 d = true) : ∃ as, Reads s.heap u (toPy d) as := by
 cases x with
 | v d' => cases e; exact reads_of I 60 _ _ _ hk r ru
 | s _ _ => cases e
 | x _ => cases e
 | f _ _ => cases e
 | p n =>
  have hl : ∃ xs, d = .fl xs /\ lstD (.p n) μ = some xs := by
   simp only [viewD] at e
   split at e
   ·rename_i xs q; cases e; exact ⟨xs, rfl, by simp [lstD, q]⟩
   ·rename_i xs q; cases e; exact ⟨xs, rfl, by simp [lstD, q]⟩
   ·cases e
  obtain ⟨xs, rfl, e2⟩ := hl
  obtain ⟨a, vs, rfl, q, rr⟩ := lst_ok S r e2
  cases ru
  obtain ⟨its, rv, ⟨o, n', e, c, _, hd⟩, _⟩ := I.list q
  obtain ⟨as, ra⟩ := readss_of I 59 xs vs its (by simpa [okD] using hk) rr rv
  exact ⟨_, .list e c hd (by simpa using ra)⟩
theorem op_eqD {X : Cx} (hu : X.A.units + 64 < cLine) : OpR X (compareOp .Eq) (rEqD X.K false) := by
 intro pins s σ H v u v' u' Q I rv ru q
 obtain ⟨m, μ, x, y, d, S, rx, ry, e, q⟩ := q
 unfold eqR at e
 obtain ⟨a, e1, e⟩ := Option.bind_eq_some_iff.mp e
 obtain ⟨b, e2, e⟩ := Option.bind_eq_some_iff.mp e
 split at e
 ·rename_i z
  rw [Bool.and_eq_true] at z
  cases e
  obtain ⟨as, r1⟩ := view_reads I S rx rv e1 z.1
  obtain ⟨bs, r2⟩ := view_reads I S ry ru e2 z.2
  exact eq_dataH r1 r2 (shaped_of z.1) (shaped_of z.2) hu ⟨_, H, I, by rw [eqD_py]; rfl, q⟩
 ·cases e
theorem op_neD {X : Cx} (hu : X.A.units + 64 < cLine) : OpR X (compareOp .NotEq) (rEqD X.K true) := by
 intro pins s σ H v u v' u' Q I rv ru q
 obtain ⟨m, μ, x, y, d, S, rx, ry, e, q⟩ := q
 unfold eqR at e
 obtain ⟨a, e1, e⟩ := Option.bind_eq_some_iff.mp e
 obtain ⟨b, e2, e⟩ := Option.bind_eq_some_iff.mp e
 split at e
 ·rename_i z
  rw [Bool.and_eq_true] at z
  cases e
  obtain ⟨as, r1⟩ := view_reads I S rx rv e1 z.1
  obtain ⟨bs, r2⟩ := view_reads I S ry ru e2 z.2
  exact ne_dataH r1 r2 (shaped_of z.1) (shaped_of z.2) hu ⟨_, H, I, by rw [eqD_py]; rfl, q⟩
 ·cases e
section
variable {X : Cx}
end
noncomputable def tyD : R -> Store -> Option String
 | .v .non, _ => some "NoneType"
 | .v (.bl _), _ => some "bool"
 | .v (.int _), _ => some "int"
 | .v (.str _), _ => some "str"
 | .v (.tup _), _ => some "tuple"
 | .v (.fl _), _ => some "list"
 | .v (.fd _ _), _ => some "dict"
 | .v (.key _), _ => some "tuple"
 | .p n, μ => match μ[n]? with | some (.lst _) => some "list" | some (.fz _) => some "list" | some (.dct _) => some "dict" | _ => none
 | .s _ _, _ => none
 | .x _, _ => none
 | .f _ _, _ => none
noncomputable def isiD (T : String) : R -> Store -> Option (R × Store) := fun x μ => (tyD x μ).bind fun t => some (.v (.bl (t == T || (t == "bool" && T == "int"))), μ)
def Kinds (K : PySem.W.Frag) (T : String) : Prop := ∀ t ∈ ["NoneType", "bool", "int", "str", "tuple", "list", "dict"], PySem.W.kitOne K (.type t) (.type T) = some (t == T || (t == "bool" && T == "int"))
def rIsi (K : PySem.W.Frag) (T : String) : List V -> Hp -> VK -> Prop := fun vs H Q => ∃ m μ x v d, vs = [v, .ty T] /\ SRel K m H μ /\ RelR K m H x v /\ isiD T x μ = some (.v (.bl d), μ) /\ Q (.bl d) H
theorem call_isi {X : Cx} {T : String} (hT : Kinds X.K T) : CallR X (.builtin "isinstance") (rIsi X.K T) := by
  intro pins s σ H vs us Q I rv q
  obtain ⟨m, μ, x, v, d, rfl, S, rx, e, q⟩ := q
  obtain ⟨t, e1, e⟩ := Option.bind_eq_some_iff.mp e
  cases e
  cases rv with
  | cons r1 rr =>
    cases rr with
    | cons r2 rr =>
      cases rr
      cases r2
      have fin : ∀ tk, EP X pins σ Q (.bool (t == T || (t == "bool" && T == "int"))) { s with toks := tk } := fun tk => ⟨.bl _, H, I.tok tk, rfl, q⟩
      cases x with
      | v d0 =>
        cases d0 with
        | non => cases e1; have r : v = .non := by simpa only [RelR, RelD] using rx
                 subst r; cases r1; exact PySem.W.kia_one PySem.W.kitx_none I.kIn True.intro (hT _ (by simp)) (fun z => nomatch z) fin
        | bl b => cases e1; have r : v = .bl b := by simpa only [RelR, RelD] using rx
                  subst r; cases r1; exact PySem.W.kia_one PySem.W.kitx_bool I.kIn True.intro (hT _ (by simp)) (fun z => nomatch z) fin
        | int i => cases e1; have r : v = .int i := by simpa only [RelR, RelD] using rx
                   subst r; obtain ⟨t, rfl⟩ := r1; exact PySem.W.kia_one PySem.W.kitx_int I.kIn True.intro (hT _ (by simp)) (fun z => nomatch z) fin
        | str i => cases e1; have r : v = .str i := by simpa only [RelR, RelD] using rx
                   subst r; obtain ⟨t, rfl⟩ := r1; exact PySem.W.kia_one PySem.W.kitx_str I.kIn True.intro (hT _ (by simp)) (fun z => nomatch z) fin
        | tup xs =>
          cases e1
          simp only [RelR, RelD] at rx
          obtain ⟨a, ws, rfl, q', _⟩ := rx
          cases r1
          obtain ⟨its, _, ⟨o, h1, h2, _⟩, _⟩ := I.tuple q'
          exact PySem.W.kia_one PySem.W.kitx_tuple I.kIn ⟨o, h1, h2⟩ (hT _ (by simp)) (fun z => nomatch z) fin
        | fl xs =>
          cases e1
          simp only [RelR, RelD] at rx
          obtain ⟨a, ws, rfl, q', _⟩ := rx
          cases r1
          obtain ⟨its, _, ⟨o, n, h1, h2, _⟩, _⟩ := I.list q'.sq
          exact PySem.W.kia_one PySem.W.kitx_list I.kIn ⟨o, h1, h2⟩ (hT _ (by simp)) (fun z => nomatch z) fin
        | fd ks ds =>
          cases e1
          simp only [RelR, RelD] at rx
          obtain ⟨a, o', es, rfl, q', _⟩ := rx
          cases r1
          obtain ⟨_, _, _, vs, _, p⟩ := (show ObjOk X.prog X.w H s.heap a (.frz o' (.dK es)) from I.hok a _ q')
          obtain ⟨o, es', ep, h1, h2, _⟩ := p
          exact PySem.W.kia_one PySem.W.kitx_dict I.kIn ⟨o, h1, h2.1⟩ (hT _ (by simp)) (fun z => nomatch z) fin
        | key ks =>
          cases e1
          simp only [RelR, RelD] at rx
          obtain ⟨a, rfl, q'⟩ := rx
          cases r1
          obtain ⟨its, _, ⟨o, h1, h2, _⟩, _⟩ := I.tuple (.inl (.inl q'))
          exact PySem.W.kia_one PySem.W.kitx_tuple I.kIn ⟨o, h1, h2⟩ (hT _ (by simp)) (fun z => nomatch z) fin
      | s _ _ => cases e1
      | x _ => cases e1
      | f _ _ => cases e1
      | p n =>
        obtain ⟨a, rfl, ha⟩ := rx
        cases r1
        simp only [tyD] at e1
        split at e1
        · rename_i xs z
          cases e1
          obtain ⟨ws, q', _⟩ := S.cell n _ a z ha
          obtain ⟨its, _, ⟨o, n, h1, h2, _⟩, _⟩ := I.list (.inl (.inl q'))
          exact PySem.W.kia_one PySem.W.kitx_list I.kIn ⟨o, h1, h2⟩ (hT _ (by simp)) (fun z => nomatch z) fin
        · rename_i xs z
          cases e1
          obtain ⟨o', ws, q', _⟩ := S.cell n _ a z ha
          obtain ⟨its, _, ⟨o, n, h1, h2, _⟩, _⟩ := I.list (.inl (.inr ⟨o', q'⟩))
          exact PySem.W.kia_one PySem.W.kitx_list I.kIn ⟨o, h1, h2⟩ (hT _ (by simp)) (fun z => nomatch z) fin
        · rename_i kvs z
          cases e1
          obtain ⟨es, q', _⟩ := S.cell n _ a z ha
          obtain ⟨_, _, vs, _, p⟩ := (show ObjOk X.prog X.w H s.heap a (.dK es) from I.hok a _ q')
          obtain ⟨o, es', ep, h1, h2, _⟩ := p
          exact PySem.W.kia_one PySem.W.kitx_dict I.kIn ⟨o, h1, h2.1⟩ (hT _ (by simp)) (fun z => nomatch z) fin
        · cases e1
theorem rd_isi {K : PySem.W.Frag} {σ : L2.St} {H : Hp} {Q : VK} {fa : FE} {T : String} (h : rdE K (fUn (isiD T) fa) σ H Q) : tCB (rIsi K T) (tCons (rdE K fa) (tCons (tC (.ty T)) tNil)) σ H Q := by
 obtain ⟨ρ, μ, m, d, μ', hl, hs, e, k⟩ := h
 obtain ⟨⟨x, μ1⟩, e1, e⟩ := Option.bind_eq_some_iff.mp e
 have e0 := e
 obtain ⟨t, e2, e⟩ := Option.bind_eq_some_iff.mp e
 cases e
 exact ⟨ρ, μ, m, x, _, hl, hs, e1, fun v H1 m1 x1 s1 r1 => ⟨m1, _, x, v, _, rfl, s1, r1, e0, k _ H1 m1 x1 s1 (by simp only [RelR, RelD])⟩⟩
noncomputable def boolsD : List D -> Option (List Bool)
 | [] => some []
 | .bl b :: r => (boolsD r).bind fun bs => some (b :: bs)
 | _ :: _ => none
noncomputable def allD (any : Bool) : List R -> Store -> Option (R × Store)
 | [x], μ => (lstD x μ).bind fun xs => (boolsD xs).bind fun bs => some (.v (.bl (if any then bs.any id else bs.all id)), μ)
 | _, _ => none
def rAll (K : PySem.W.Frag) (any : Bool) : List V -> Hp -> VK -> Prop := fun vs H Q => ∃ (a : Addr) (bs : List Bool), vs = [.ref a] /\ SqL K H a (bs.map V.bl) /\ Q (.bl (if any then bs.any id else bs.all id)) H
theorem bools_rel {K : PySem.W.Frag} {H : Hp} : ∀ {ds : List D} {bs : List Bool} {vs : List V}, boolsD ds = some bs -> RelDs K H ds vs -> vs = bs.map V.bl
 | [], _, _, e, h => by cases e; simp only [RelDs] at h; exact h
 | .bl b :: r, _, _, e, h => by
  obtain ⟨bs, e1, e⟩ := Option.bind_eq_some_iff.mp e
  cases e
  simp only [RelDs] at h
  obtain ⟨v, vr, rfl, h1, h2⟩ := h
  simp only [RelD] at h1
  subst h1
  rw [bools_rel e1 h2]; rfl
 | .non :: _, _, _, e, _ => by cases e
 | .int _ :: _, _, _, e, _ => by cases e
 | .str _ :: _, _, _, e, _ => by cases e
 | .tup _ :: _, _, _, e, _ => by cases e
 | .fl _ :: _, _, _, e, _ => by cases e
 | .fd _ _ :: _, _, _, e, _ => by cases e
 | .key _ :: _, _, _, e, _ => by cases e
theorem g_all {K : PySem.W.Frag} {any : Bool} : GAr K (allD any) (rAll K any) := by
 intro m H μ xs d μ' vs Q s r e k
 unfold allD at e
 split at e
 ·rename_i x
  obtain ⟨ys, e1, e⟩ := Option.bind_eq_some_iff.mp e
  obtain ⟨bs, e2, e⟩ := Option.bind_eq_some_iff.mp e
  cases e
  obtain ⟨v, rfl, r1⟩ := rel1 r
  obtain ⟨a, ws, rfl, q, r2⟩ := lst_ok s r1 e1
  rw [bools_rel e2 r2] at q
  exact ⟨a, bs, rfl, q, k _ H m .refl s (by simp only [RelR, RelD])⟩
 ·cases e
theorem bools_at {bs : List Bool} {its : List Value} (r : Vals (bs.map V.bl) its) : ∀ (i : Nat) v, its.toArray[i]? = some v -> v = .bool (bs.getD i false) /\ i < bs.length := fun i v e => by
 have e : its[i]? = some v := by simpa using e
 have hi : i < its.length := (List.getElem?_eq_some_iff.mp e).1
 have hl := r.length
 rw [List.length_map] at hl
 have hb : i < bs.length := by omega
 obtain ⟨u, q1, q2⟩ := Vals.get (i := i) (x := .bl bs[i]) r (by simp [hb])
 rw [e] at q1
 cases q1
 cases q2
 simp [hb]
theorem range_all {bs : List Bool} : ((List.range bs.length).all fun i => bs.getD i false) = bs.all id := by
 rw [Bool.eq_iff_iff, List.all_eq_true, List.all_eq_true]
 constructor
 ·intro h x hx
  obtain ⟨i, hi, rfl⟩ := List.getElem_of_mem hx
  have := h i (List.mem_range.mpr hi)
  simpa [hi] using this
 ·intro h i hi
  have hi := List.mem_range.mp hi
  have := h bs[i] (List.getElem_mem hi)
  simpa [hi] using this
theorem call_allB {X : Cx} (hc : X.calm = true) : CallR X (.builtin "all") (rAll X.K false) := by
 intro pins s σ H vs us Q I rv q
 obtain ⟨a, bs, rfl, q', q⟩ := q
 cases rv with
 | cons r1 rr =>
  cases rr
  cases r1
  obtain ⟨its, rv, p, hz⟩ := I.list q'
  have hlt : a < s.heap.objs.size := by obtain ⟨o, n, e, _⟩ := p; exact Heap.lt_size e
  refine call_all_walk (wpAny_pyIter_list p.isList ?_)
  refine ⟨_, _, _, _, _, _, fun i => bs.getD i false, rfl, Walks.list (A := X.A.in1) (show X.A.in1.handled = none from I.ok.hd hc) s.heap.objs.size a (Nat.ne_of_lt hlt) its.toArray, ⟨⟨_, Heap.get?_push_size _ rfl, rfl, rfl⟩, p.isList.push _⟩, fun i v s' Q' E' hv hq => ?_, fun h' tk hk => ?_⟩
  ·rw [(bools_at rv i v hv).1]
   exact wpAny_truthy_bool hq
  ·have hl : its.toArray.size = bs.length := by have := rv.length; rw [List.length_map] at this; simp [this]
   rw [hl, range_all]
   refine ⟨.bl _, H, I.kept (t' := tk) fun b o e => hk b o ?_ (Heap.get?_push_of_some _ e), rfl, q⟩
   intro z
   rw [List.mem_singleton.mp z] at e
   exact absurd (Heap.lt_size e) (Nat.lt_irrefl _)
end HW
namespace HW
open PySem PySem.Spec PyProof.Rows L2 HS
noncomputable def insI (x : Int) : List Int -> List Int
 | [] => [x]
 | y :: ys => if x <= y then x :: y :: ys else y :: insI x ys
noncomputable def isort : List Int -> List Int
 | [] => []
 | x :: xs => insI x (isort xs)
theorem vals_ints : ∀ {ns : List Int} {its : List Value}, Vals (ns.map V.int) its -> IntsAre its ns
 | [], its, h => by cases h; exact .nil
 | n :: ns, its, h => by
  cases h with
  | cons r t => obtain ⟨tk, rfl⟩ := r; exact .cons n tk (vals_ints t)
noncomputable abbrev heldSet (o : Obj) : HO := .frz o (.ext fun _ => True)
theorem Inv.drw {X : Cx} {pins : List (Addr × Obj)} {σ : L2.St} {H : Hp} {s : Shared} (I : Inv X pins σ H s) (d : Drawn) : Inv X pins σ H { s with drawn := d } :=
 ⟨I.ok, I.os, I.bare, I.base, I.loc, I.cell, I.free, I.freeC, I.pin, I.hok, I.len⟩
noncomputable def intsD : List D -> Option (List Int)
 | [] => some []
 | .int n :: r => (intsD r).map (n :: ·)
 | _ => none
theorem rel_ints {K : PySem.W.Frag} {H : Hp} : ∀ {ns : List Int}, RelDs K H (ns.map D.int) (ns.map V.int)
 | [] => rfl
 | n :: ns => ⟨_, _, rfl, by simp only [RelD], rel_ints⟩
end HW
namespace HW
open PySem PySem.Spec PyProof.Rows L2 HS
noncomputable def setQ (b : Bool) : List R -> Store -> Option (R × Store)
 | [x], μ => (itemsD x μ).bind fun ds => (intsD ds).bind fun ns => if ns.length < 4000 then some (.s b (metOf [] ns), μ) else none
 | _, _ => none
noncomputable def sortedQ (b : Bool) : List R -> Store -> Option (R × Store)
 | [.s c xs], μ => if c = b /\ xs.length < 64 then some (.p μ.length, μ ++ [.lst ((isort xs).map D.int)]) else none
 | [x], μ => (lstD x μ).bind fun ds => (intsD ds).bind fun ns => if ns.length < 64 then some (.p μ.length, μ ++ [.lst ((isort ns).map D.int)]) else none
 | _, _ => none
end HW
namespace HW
open PySem PySem.Spec PyProof.Rows L2 HS
noncomputable def pairsD : List D -> Option (List (Key × D))
 | [] => some []
 | .tup [.int i, d] :: r => (pairsD r).map ((.inl i, d) :: ·)
 | _ => none
noncomputable def putKD (kvs : List (Key × D)) (k : Key) (v : D) : List (Key × D) := if (kvs.any fun kv => decide (kv.1 = k)) = true then kvs.map (fun kv => if kv.1 = k then (kv.1, v) else kv) else kvs ++ [(k, v)]
noncomputable def putAllD (kvs ps : List (Key × D)) : List (Key × D) := ps.foldl (fun a p => putKD a p.1 p.2) kvs
noncomputable def dictD : List R -> Store -> Option (R × Store)
 | [.p n], μ => match μ[n]? with
  | some (.lst ds) => (pairsD ds).bind fun kvs => some (.p μ.length, μ ++ [.dct (putAllD [] kvs)])
  | _ => none
 | _, _ => none
end HW
namespace HW
open PySem PySem.Spec PyProof.Rows L2
mutual
noncomputable def flatD : D -> Bool
 | .tup xs => flatDs xs
 | .fl _ => false
 | .fd _ _ => false
 | .key _ => false
 | _ => true
noncomputable def flatDs : List D -> Bool
 | [] => true
 | x :: xs => flatD x && flatDs xs
end
noncomputable def asD : R -> Store -> Option D
 | .v d, _ => some d
 | .p n, μ => match μ[n]? with
  | some (.lst xs) => some (.fl xs) | some (.fz xs) => some (.fl xs)
  | some (.dct kvs) => some (.fd (kvs.map (·.1)) (kvs.map (·.2))) | some (.fzd kvs) => some (.fd (kvs.map (·.1)) (kvs.map (·.2)))
  | _ => none
 | .s _ _, _ => none
 | .x _, _ => none
 | .f _ _, _ => none
noncomputable def valsB : List R -> Store -> Option (List D)
 | [], _ => some []
 | x :: xs, μ => (asD x μ).bind fun d => (valsB xs μ).bind fun ds => some (d :: ds)
noncomputable def fCallQ (f : MF) (n : Nat) (fa : FA) : FE := fun ρ μ => (fa ρ μ).bind fun a => (valsB a.1 a.2).bind fun ds => if ds.length = n then (f ds).bind fun d => if flatD d = true then some (.v d, a.2) else none else none
noncomputable abbrev MC := List D -> Option Cell
noncomputable def flatC : Cell -> Bool
 | .lst xs => flatDs xs
 | .dct kvs => flatDs (kvs.map (·.2))
 | _ => false
noncomputable def finN : Out -> Option Cell
 | .rt (.p n) μ => match μ[n]? with | some (.lst xs) => some (.lst xs) | some (.dct kvs) => some (.dct kvs) | _ => none
 | _ => none
noncomputable def runN (k : Nat) (b : FS) : MC := fun ds => (b (ds.map (fun d => some (.v d)) ++ List.replicate (k - ds.length) none) []).bind finN
noncomputable def fCallN (f : MC) (n : Nat) (fa : FA) : FE := fun ρ μ => (fa ρ μ).bind fun a => (valsB a.1 a.2).bind fun ds => if ds.length = n then (f ds).bind fun c => if flatC c = true then some (.p a.2.length, a.2 ++ [c]) else none else none
noncomputable def clrD : R -> List R -> Store -> Option (R × Store)
 | .p n, [], μ => match μ[n]? with | some (.lst _) => some (.v .non, μ.set n (.lst [])) | _ => none
 | _, _, _ => none
noncomputable def extD : R -> List R -> Store -> Option (R × Store)
 | .p n, [.v (.tup ys)], μ => match μ[n]? with | some (.lst xs) => if xs.length + ys.length <= sizeLine then some (.v .non, μ.set n (.lst (xs ++ ys))) else none | _ => none
 | _, _, _ => none
section
variable {P : Program} {w : World} {H H0 : Hp} {h h0 : Heap} {a : Addr} {u : HO} {o : Obj} {fs ex : List Addr}
theorem HOk.thaw (ok : HOk P w H h) (e : H a = some (.frz o u)) (hu : FzOk u) : HOk P w (upd H a u) h := by
 have ne : ∀ c v, H c = some v -> v ≠ .frz o u -> c ≠ a := fun c v q n z => by rw [z, e] at q; exact n (Option.some.inj q).symm
 have own : ∀ c y, H c = some (.own y) -> upd H a u c = some (.own y) := fun c y r => by rw [L2.upd_ne (ne c _ r (by simp))]; exact r
 have tup : ∀ c xs, H c = some (.tup xs) -> upd H a u c = some (.tup xs) := fun c xs r => by rw [L2.upd_ne (ne c _ r (by simp))]; exact r
 intro b v q
 by_cases hb : b = a
 ·subst hb
  rw [L2.upd_same] at q
  cases q
  exact (ok b _ e).2.stay (fun c v _ q => q) (fun c r => own c _ r) tup
 ·rw [L2.upd_ne hb] at q
  exact (ok b v q).stay (fun c v _ q => q) (fun c r => own c _ r) tup
theorem Un.thaw (un : Un fs ex (upd H0 a (.frz o u)) H h0 h) (e : H0 a = some u) (hu : FzOk u) : Un fs ex H0 (upd H a u) h0 h := by
 have nn : ∀ b, H0 b = none -> b ≠ a := fun b z y => by rw [y, e] at z; cases z
 have nf : ∀ b v, H0 b = some v -> ¬ FzOk v -> b ≠ a := fun b v q n => FzOk.ne e hu q n
 refine ⟨fun b ob q n hb hx => un.keep b ob q (by rw [L2.upd_ne (nn b n)]; exact n) hb hx, fun b ob q n hb hx => un.slot b ob q (by rw [L2.upd_ne (nn b n)]; exact n) hb hx, fun b ob q n hx => ?_, un.there, fun b xs q => ?_, fun b ob v q => ?_, fun b ps q => ?_⟩
 ·rw [L2.upd_ne (nn b n)]; exact un.free b ob q (by rw [L2.upd_ne (nn b n)]; exact n) hx
 ·have hb := nf b _ q fun z => z
  rw [L2.upd_ne hb]; exact un.tups b xs (by rw [L2.upd_ne hb]; exact q)
 ·have hb := nf b _ q fun z => z
  rw [L2.upd_ne hb]; exact un.frzs b ob v (by rw [L2.upd_ne hb]; exact q)
 ·have hb := nf b _ q fun z => z
  obtain ⟨more, r⟩ := un.tbls b ps (by rw [L2.upd_ne hb]; exact q)
  exact ⟨more, by rw [L2.upd_ne hb]; exact r⟩
end
noncomputable def bor (sp : Sp) : Sp := fun vs H Q E => sp vs H Q E \/ ∃ a u, H a = some u /\ FzOk u /\ ∀ o, sp vs (upd H a (.frz o u)) (fun v H2 => Q v (upd H2 a u)) E
noncomputable def borN : Nat -> Sp -> Sp
 | 0, sp => sp
 | n + 1, sp => bor (borN n sp)
theorem FnOk.bor {P : Program} {w : World} {K : PySem.W.Frag} {mg : Str -> Option Value} {base : Heap} {k : Nat} {f : Addr} {fd : FuncData} {ps : List Str} {sp : Sp} (F : FnOk P w K mg base CX0 k f fd ps sp) :
  FnOk P w K mg base CX0 k f fd ps (HW.bor sp) := by
 refine ⟨fun vs H Q E h => ?_, fun A outer s H args us vs Q E hr he hb hv hs => ?_⟩
 ·rcases h with h | ⟨a, u, e, hu, h⟩
  ·exact F.len vs H Q E h
  ·exact F.len _ _ _ _ (h { cls := .none, data := .fields #[] })
 ·rcases hs with hs | ⟨a, u, e, hu, hs⟩
  ·exact F.run A outer s H args us vs Q E hr he hb hv hs
  ·obtain ⟨o, ok⟩ := HOk.frz he.hok e hu
   have nn : ∀ b, H b = none -> upd H a (.frz o u) b = none := fun b z => by rw [L2.upd_ne (fun y => by rw [y, e] at z; cases z)]; exact z
   refine codeAny_mono (F.run A outer s (upd H a (.frz o u)) args us vs _ E hr ⟨he.frames, he.mod, fun b ob q => ⟨(he.bs b ob q).1, nn b (he.bs b ob q).2⟩, he.bsz, he.funs, fun b hb => nn b (he.frf b hb), ok, he.bare⟩ hb hv (hs o)) fun r s' hq => ?_
   cases r with
   | error e => exact hq
   | ok fl =>
    cases fl with
    | next => exact hq
    | brk => exact hq
    | cont => exact hq
    | ret x =>
     obtain ⟨v, H', os, bare, un, hok, rv, q⟩ := hq
     exact ⟨v, _, os, bare, Un.thaw un e hu, HOk.thaw hok (un.frzs a o u L2.upd_same) hu, rv, q⟩
theorem FnOk.borN {P : Program} {w : World} {K : PySem.W.Frag} {mg : Str -> Option Value} {base : Heap} {k : Nat} {f : Addr} {fd : FuncData} {ps : List Str} {sp : Sp} (F : FnOk P w K mg base CX0 k f fd ps sp) :
  ∀ n, FnOk P w K mg base CX0 k f fd ps (HW.borN n sp)
 | 0 => F
 | n + 1 => FnOk.bor (FnOk.borN F n)
def ovr (H H2 : Hp) : Hp := fun b => match H b with | some u => some u | none => H2 b
def Cz (H H1 : Hp) : Prop := ∀ b, H1 b = H b \/ ∃ u o, H b = some u /\ FzOk u /\ H1 b = some (.frz o u)
section
variable {K : PySem.W.Frag} {H H1 H2 H' : Hp}
theorem Cz.refl : Cz H H := fun _ => .inl rfl
theorem Cz.upd {a : Addr} {u : HO} {o : Obj} (c : Cz H H1) (e : H1 a = some u) (hu : FzOk u) : Cz H (upd H1 a (.frz o u)) := fun b => by
 by_cases hb : b = a
 ·subst hb
  rw [L2.upd_same]
  rcases c b with z | ⟨u', o', _, _, z⟩
  ·exact .inr ⟨u, o, by rw [← z, e], hu, rfl⟩
  ·rw [e] at z; cases z; exact hu.elim
 ·rw [L2.upd_ne hb]; exact c b
theorem Cz.trans (c : Cz H H1) (c' : Cz H1 H2) : Cz H H2 := fun b => by
 rcases c' b with z | ⟨u, o, z1, z2, z3⟩
 ·rw [z]; exact c b
 ·rcases c b with y | ⟨u', o', _, _, y⟩
  ·exact .inr ⟨u, o, by rw [← y, z1], z2, z3⟩
  ·rw [z1] at y; cases y; exact z2.elim
theorem Cz.tf (c : Cz H H1) : TF H H1 := by
 refine ⟨fun a xs e => ?_, fun a o u e => ?_⟩
 ·rcases c a with z | ⟨u, o, z1, z2, z3⟩
  ·rw [z, e]
  ·rw [e] at z1; cases z1; exact z2.elim
 ·rcases c a with z | ⟨u', o', z1, z2, z3⟩
  ·rw [z, e]
  ·rw [e] at z1; cases z1; exact z2.elim
theorem ovr_sam (s : Sam H H2) : ovr H H2 = H2 := by
 funext b
 unfold ovr
 cases e : H b with
 | none => rfl
 | some u => exact (s b u e).symm
theorem sam_ovr : Sam H (ovr H H2) := fun a o e => by unfold ovr; rw [e]
theorem ovr_upd {a : Addr} {u v : HO} (e : H a = some u) : upd (ovr (upd H a v) H2) a u = ovr H H2 := by
 funext b
 by_cases hb : b = a
 ·subst hb; rw [L2.upd_same]; unfold ovr; rw [e]
 ·rw [L2.upd_ne hb]; unfold ovr; rw [L2.upd_ne hb]
theorem rd_ovr {a : Addr} {xs : List V} (c : Cz H H1) (s : Sam H1 H2) (h : SqT K H2 a xs) : SqT K (ovr H H2) a xs := by
 have back : ∀ v, ¬ FzOk v -> (∀ o u, v = .frz o u -> ¬ FzOk u) -> H2 a = some v -> ovr H H2 a = some v := fun v nf nz e => by
  unfold ovr
  cases q : H a with
  | none => exact e
  | some u =>
   rcases c a with z | ⟨u', o', z1, z2, z3⟩
   ·rw [q] at z
    rw [s a u z] at e
    exact e
   ·rw [s a _ z3] at e
    cases e
    exact absurd z2 (nz o' u' rfl)
 rcases h with (h | ⟨o, h⟩) | h
 ·exact .inl (.inl (back _ (fun z => z) (fun _ _ z => by cases z) h))
 ·exact .inl (.inr ⟨o, back _ (fun z => z) (fun o u z => by cases z; exact fun z => z) h⟩)
 ·exact .inr h
mutual
theorem flat_ovr (c : Cz H H1) (s : Sam H1 H2) : ∀ (d : D) (v : V), flatD d = true -> RelD K H2 d v -> RelD K (ovr H H2) d v
 | .non, _, _, h => by simpa only [RelD] using h
 | .bl _, _, _, h => by simpa only [RelD] using h
 | .int _, _, _, h => by simpa only [RelD] using h
 | .str _, _, _, h => by simpa only [RelD] using h
 | .tup xs, v, f, h => by
  simp only [RelD] at h ⊢
  obtain ⟨a, vs, e, q, r⟩ := h
  exact ⟨a, vs, e, rd_ovr c s q, flats_ovr c s xs vs (by simpa only [flatD] using f) r⟩
 | .fl _, _, f, _ => by simp [flatD] at f
 | .fd _ _, _, f, _ => by simp [flatD] at f
 | .key _, _, f, _ => by simp [flatD] at f
theorem flats_ovr (c : Cz H H1) (s : Sam H1 H2) : ∀ (ds : List D) (vs : List V), flatDs ds = true -> RelDs K H2 ds vs -> RelDs K (ovr H H2) ds vs
 | [], _, _, h => by simpa only [RelDs] using h
 | d :: ds, vs, f, h => by
  simp only [RelDs] at h ⊢
  obtain ⟨v, r, e, h1, h2⟩ := h
  have f' : flatD d = true /\ flatDs ds = true := by simpa [flatDs] using f
  exact ⟨v, r, e, flat_ovr c s d v f'.1 h1, flats_ovr c s ds r f'.2 h2⟩
end
end
def spX (K : PySem.W.Frag) (n : Nat) (f : List D -> Option (Hp -> V -> Hp -> Prop)) : Sp := fun vs H Q _ => ∃ ds P, ds.length = n /\ RelDs K H ds vs /\ f ds = some P /\ ∀ v H', Sam H H' -> P H v H' -> Q v H'
section
variable {K : PySem.W.Frag} {m : List Addr} {σ : L2.St} {H H0 : Hp} {μ : Store} {Q : VK}
theorem lend {n : Nat} {f : List D -> Option (Hp -> V -> Hp -> Prop)} {P : Hp -> V -> Hp -> Prop} {E : XK} (hs : SRel K m H0 μ) : ∀ (rs : List R) (vs vsP : List V) (ds dsP : List D) (H1 : Hp) (Q : VK), Cz H0 H1 -> RelDs K H1 dsP vsP -> RelRs K m H0 rs vs -> valsB rs μ = some ds ->
  f (dsP ++ ds) = some P -> (dsP ++ ds).length = n -> (∀ v H2 H1', Cz H1 H1' -> Sam H1' H2 -> P H1' v H2 -> Q v (ovr H1 H2)) -> borN rs.length (spX K n f) (vsP ++ vs) H1 Q E
 | [], vs, vsP, ds, dsP, H1, Q, c, rp, rr, ev, ef, el, k => by
  cases ev
  have rr : vs = [] := rr
  subst rr
  rw [List.append_nil] at ef el ⊢
  exact ⟨dsP, P, el, rp, ef, fun v H' s p => by have := k v H' H1 .refl s p; rwa [ovr_sam s] at this⟩
 | r :: rs, vs, vsP, ds, dsP, H1, Q, c, rp, rr, ev, ef, el, k => by
  obtain ⟨v, ws, rfl, r1, r2⟩ := rr
  obtain ⟨d, e1, ev⟩ := Option.bind_eq_some_iff.mp ev
  obtain ⟨es, e2, ev⟩ := Option.bind_eq_some_iff.mp ev
  cases ev
  have app : ∀ {α : Type} (a : List α) (x : α) (b : List α), a ++ x :: b = a ++ [x] ++ b := fun a x b => by simp
  rw [app] at ef el ⊢
  -- one more argument, its list made known or not
  have go : ∀ (H1' : Hp) (Q' : VK), Cz H1 H1' -> RelD K H1' d v -> (∀ v H2 H1'', Cz H1' H1'' -> Sam H1'' H2 -> P H1'' v H2 -> Q' v (ovr H1' H2)) -> borN rs.length (spX K n f) (vsP ++ [v] ++ ws) H1' Q' E := fun H1' Q' c' rd k' =>
   lend hs rs ws (vsP ++ [v]) es (dsP ++ [d]) H1' Q' (c.trans c') (RelDs.append (RelDs.tf c'.tf _ _ rp) (by simp only [RelDs]; exact ⟨_, _, rfl, rd, rfl⟩)) r2 e2 ef el k'
  cases r with
  | v d' =>
   cases e1
   exact .inl (go H1 Q .refl (RelD.tf c.tf _ _ r1) k)
  | s _ _ => cases e1
  | x _ => cases e1
  | f _ _ => cases e1
  | p i =>
   obtain ⟨a, rfl, ha⟩ := r1
   have e1 : (match μ[i]? with | some (.lst xs) => some (D.fl xs) | some (.fz xs) => some (D.fl xs) | some (.dct kvs) => some (D.fd (kvs.map (·.1)) (kvs.map (·.2))) | some (.fzd kvs) => some (D.fd (kvs.map (·.1)) (kvs.map (·.2))) | _ => none) = some d := e1
   have lent : ∀ u, FzOk u -> H0 a = some u -> (∀ H3 o, H3 a = some (.frz o u) -> TF H0 H3 -> RelD K H3 d (.ref a)) -> borN (rs.length + 1) (spX K n f) (vsP ++ [V.ref a] ++ ws) H1 Q E := fun u hu e0 rd => by
    rcases c a with z | ⟨u', o', z1, z2, z3⟩
    ·rw [e0] at z
     refine .inr ⟨a, u, z, hu, fun o => ?_⟩
     have c1 : Cz H1 (upd H1 a (.frz o u)) := Cz.refl.upd z hu
     exact go _ _ c1 (rd _ o L2.upd_same (c.tf.trans c1.tf)) fun v H2 H1'' c2 s2 p => by
      rw [ovr_upd z]
      exact k v H2 H1'' (c1.trans c2) s2 p
    ·rw [e0] at z1; cases z1
     exact .inl (go H1 Q .refl (rd _ o' z3 c.tf) k)
   have known : ∀ o u, H0 a = some (.frz o u) -> RelD K H1 d (.ref a) -> borN (rs.length + 1) (spX K n f) (vsP ++ [V.ref a] ++ ws) H1 Q E := fun o u e0 rd => .inl (go H1 Q .refl rd k)
   split at e1
   ·rename_i xs q
    cases e1
    obtain ⟨ws', ea, ra⟩ := hs.cell _ _ a q ha
    exact lent (.lst ws') trivial ea fun H3 o e3 t => by simp only [RelD]; exact ⟨a, ws', rfl, .inl ⟨o, e3⟩, RelDs.tf t _ _ ra⟩
   ·rename_i xs q
    cases e1
    obtain ⟨o, ws', ea, ra⟩ := hs.cell _ _ a q ha
    exact known o _ ea (by simp only [RelD]; exact ⟨a, ws', rfl, .inl ⟨o, c.tf.frz _ _ _ ea⟩, RelDs.tf c.tf _ _ ra⟩)
   ·rename_i kvs q
    cases e1
    obtain ⟨es', ea, e1, e2⟩ := hs.cell _ _ a q ha
    exact lent (.dK es') trivial ea fun H3 o e3 t => by simp only [RelD]; exact ⟨a, o, es', rfl, e3, e1, RelDs.tf t _ _ e2⟩
   ·rename_i kvs q
    cases e1
    obtain ⟨o, es', ea, e1, e2⟩ := hs.cell _ _ a q ha
    exact known o _ ea (by simp only [RelD]; exact ⟨a, o, es', rfl, c.tf.frz _ _ _ ea, e1, RelDs.tf c.tf _ _ e2⟩)
   ·cases e1
def pX (K : PySem.W.Frag) (f : MF) : List D -> Option (Hp -> V -> Hp -> Prop) := fun ds => (f ds).map fun d _ v H' => RelD K H' d v
def cX (K : PySem.W.Frag) (f : MC) : List D -> Option (Hp -> V -> Hp -> Prop) := fun ds => (f ds).map fun c H v H' => ∃ a, v = .ref a /\ H a = none /\ CellR K [] H' c a
theorem spP_X {n : Nat} {f : MF} {vs : List V} {E : XK} (h : spX K n (pX K f) vs H Q E) : spP K n f vs H Q E := by
 obtain ⟨ds, P, el, r, ef, k⟩ := h
 obtain ⟨d, e, rfl⟩ := Option.map_eq_some_iff.mp ef
 exact ⟨ds, d, el, r, e, k⟩
theorem vb_len : ∀ {rs : List R} {ds : List D}, valsB rs μ = some ds -> rs.length = ds.length
 | [], _, h => by cases h; rfl
 | r :: rs, ds, h => by
  obtain ⟨d, _, h⟩ := Option.bind_eq_some_iff.mp h
  obtain ⟨es, e2, h⟩ := Option.bind_eq_some_iff.mp h
  cases h
  simp [vb_len e2]
theorem rd_callQ {f n fa} {E : XK} (h : rdE K (fCallQ f n fa) σ H Q) : tCall (borN n (spX K n (pX K f))) [] E (rdA K fa) σ H Q := by
 obtain ⟨ρ, μ, m, d, μ', hl, hs, e, k⟩ := h
 obtain ⟨⟨xs, μ1⟩, e1, e⟩ := Option.bind_eq_some_iff.mp e
 obtain ⟨ds, e2, e⟩ := Option.bind_eq_some_iff.mp e
 split at e
 ·rename_i hn
  obtain ⟨d1, e3, e⟩ := Option.bind_eq_some_iff.mp e
  split at e
  ·rename_i hf
   cases e
   refine ⟨ρ, μ, m, xs, _, hl, hs, e1, fun vs H1 m1 x1 s1 r1 => ?_⟩
   have hx : xs.length = n := (vb_len e2).trans hn
   show borN n (spX K n (pX K f)) (vs ++ []) H1 Q E
   rw [List.append_nil, ← hx]
   refine lend (dsP := []) (vsP := []) (P := fun _ v H' => RelD K H' d1 v) s1 xs vs ds H1 Q .refl rfl r1 e2 ?_ (by simp [hn, hx]) fun v H2 H1' c s p => ?_
   ·rw [List.nil_append]; unfold pX; rw [e3]; rfl
   ·exact k v _ m1 (x1.trans (Sam.ext sam_ovr)) (s1.same sam_ovr) (flat_ovr c s _ _ hf p)
  ·cases e
 ·cases e
theorem rd_callN {f n fa} {E : XK} (h : rdE K (fCallN f n fa) σ H Q) : tCall (borN n (spX K n (cX K f))) [] E (rdA K fa) σ H Q := by
 obtain ⟨ρ, μ, m, d, μ', hl, hs, e, k⟩ := h
 obtain ⟨⟨xs, μ1⟩, e1, e⟩ := Option.bind_eq_some_iff.mp e
 obtain ⟨ds, e2, e⟩ := Option.bind_eq_some_iff.mp e
 split at e
 ·rename_i hn
  obtain ⟨c1, e3, e⟩ := Option.bind_eq_some_iff.mp e
  split at e
  ·rename_i hf
   cases e
   refine ⟨ρ, μ, m, xs, _, hl, hs, e1, fun vs H1 m1 x1 s1 r1 => ?_⟩
   have hx : xs.length = n := (vb_len e2).trans hn
   show borN n (spX K n (cX K f)) (vs ++ []) H1 Q E
   rw [List.append_nil, ← hx]
   refine lend (dsP := []) (vsP := []) (P := fun H v H' => ∃ a, v = .ref a /\ H a = none /\ CellR K [] H' c1 a) s1 xs vs ds H1 Q .refl rfl r1 e2 ?_ (by simp [hn, hx]) fun v H2 H1' c s p => ?_
   ·rw [List.nil_append]; unfold cX; rw [e3]; rfl
   ·obtain ⟨a, rfl, ha, hc⟩ := p
    have h1a : H1 a = none := by
     rcases c a with z | ⟨u, o, _, _, z⟩
     ·rw [← z, ha]
     ·rw [ha] at z; cases z
    have at' : ∀ u, H2 a = some u -> ovr H1 H2 a = some u := fun u q => by unfold ovr; rw [h1a]; exact q
    have hc' : CellR K (m1 ++ [a]) (ovr H1 H2) c1 a := by
     cases c1 with
     | lst xs => obtain ⟨vs, q, r⟩ := hc; exact ⟨vs, at' _ q, flats_ovr c s _ _ hf r⟩
     | dct kvs => obtain ⟨es, q, q2, r⟩ := hc; exact ⟨es, at' _ q, q2, flats_ovr c s _ _ hf r⟩
     | fz xs => cases hf
     | fzd kvs => cases hf
     | dr kvs => cases hf
     | lr xs => cases hf
     | dt kvs => cases hf
     | tb _ _ => cases hf
    have hn' : a ∉ m1 := s1.fresh h1a
    have ext : Ext m1 H1 (m1 ++ [a]) (ovr H1 H2) := by
     have z := Sam.ext (m := m1) (sam_ovr (H := H1) (H2 := H2))
     exact ⟨⟨[a], rfl, fun b hb => by rw [List.mem_singleton.mp hb]; exact h1a⟩, z.tf, z.keep, z.live⟩
    have srel : SRel K (m1 ++ [a]) (ovr H1 H2) (μ1 ++ [c1]) := by
     have s1' := s1.same (sam_ovr (H := H1) (H2 := H2))
     refine ⟨List.nodup_append.mpr ⟨s1.nd, by simp, fun b hb b' hb' => ?_⟩, by simp [s1.len], fun i c' b q1 q2 => ?_⟩
     ·rw [List.mem_singleton.mp hb']; rintro rfl; exact hn' hb
     ·by_cases hi : i < m1.length
      ·rw [List.getElem?_append_left hi] at q2
       rw [List.getElem?_append_left (by rw [← s1.len]; exact hi)] at q1
       exact (s1'.cell i c' b q1 q2).same (fun _ _ z => z) ⟨[a], rfl⟩
      ·have hl := s1.len
       rw [List.getElem?_append_right (by omega)] at q2
       rw [List.getElem?_append_right (by omega)] at q1
       have z : i - m1.length = 0 := by
        cases q : i - m1.length with
        | zero => rfl
        | succ k => rw [q] at q2; simp at q2
       have z' : i - μ1.length = 0 := by omega
       rw [z] at q2; rw [z'] at q1
       simp at q1 q2
       subst q1 q2
       exact hc'
    exact k _ _ (m1 ++ [a]) (x1.trans ext) srel ⟨a, rfl, by rw [← s1.len]; simp⟩
  ·cases e
 ·cases e
end
theorem Fun.okN {P : Program} {w : World} {K : PySem.W.Frag} {mg : Str -> Option Value} {base : Heap} {x qual : Str} {st : Stmt} {f : Addr} {fd : FuncData} {N ps : List Str} {k : Nat} {b : FS} (F : Fun K x qual st f fd) (S : FnScope N ps (defScope st))
  (hbody : ∀ (cdv : Value) (A : Around) (outer : List Env) (s : Shared) (H : Hp) (E : XK), Room k (A.deeper (envOfC qual (defScope st) s.heap.objs.size f cdv)) -> PSs (cxOf CX0 P w K mg base N qual (defScope st) f cdv A outer s H E).nox (defBody st) (rdS K b)) :
  FnOk P w K mg base CX0 (k + 1) f fd ps (spX K ps.length (cX K (runN N.length b))) := by
 have G : FnOk P w K mg base CX0 (k + 1) f fd ps (fun vs H Q _ => vs.length = ps.length /\ rdS K b { nx := fun _ H' => Q .non H', rt := Q } (L2.start N vs) H) :=
  L2.Fun.ok F S (fun vs H Q E h => h.1) fun cdv A outer s H vs Q E hr h => ⟨_, hbody cdv A outer s H E hr, h.2⟩
 refine G.imp fun vs H Q E ⟨ds, P', hn, r, e, k⟩ => ⟨by rw [← r.length]; exact hn, ?_⟩
 obtain ⟨c, ec, rfl⟩ := Option.map_eq_some_iff.mp e
 obtain ⟨o, e1, e2⟩ := Option.bind_eq_some_iff.mp ec
 refine ⟨_, [], [], o, start_rel r, .nil, e1, ?_⟩
 cases o with
 | nx ρ μ => cases e2
 | bk ρ μ => cases e2
 | ct ρ μ => cases e2
 | rt d μ =>
  cases d with
  | v d => cases e2
  | s b xs => cases e2
  | x _ => cases e2
  | f _ _ => cases e2
  | p n =>
   intro v H' m' x s' r'
   obtain ⟨a, rfl, ha⟩ := r'
   unfold finN at e2
   have cell : ∀ c', μ[n]? = some c' -> CellR K m' H' c' a := fun c' q => s'.cell n c' a q ha
   have free : H a = none := by
    obtain ⟨e, rfl, f⟩ := x.ext
    exact f a (by simpa using List.mem_of_getElem? ha)
   simp only at e2
   split at e2
   ·rename_i xs q; cases e2; exact k _ _ x.sam ⟨a, rfl, free, cell _ q⟩
   ·rename_i kvs q; cases e2; exact k _ _ x.sam ⟨a, rfl, free, cell _ q⟩
   ·cases e2
end HW
namespace HW
open PySem PySem.Spec PyProof.Rows L2
noncomputable def rAdd0 (K : PySem.W.Frag) : R2 := fun x y H Q => ∃ a b ys, x = .ref a /\ y = .ref b /\ SqT K H a [] /\ SqT K H b ys /\ ys.length <= sizeLine /\ Q (.ref b) H
theorem op_add0 {X : Cx} : OpR X (binaryOp .Add) (rAdd0 X.K) := by
 intro pins s σ H x y v u Q I rx ry h
 obtain ⟨a, b, ys, rfl, rfl, ha, hb, hz, q⟩ := h
 cases rx
 cases ry
 obtain ⟨its, r1, p1, _⟩ := I.tuple ha
 obtain ⟨its2, r2, p2, _⟩ := I.tuple hb
 cases r1
 obtain ⟨⟨cls, dd, data, sl⟩, ho, hc, n, hd⟩ := id p1
 obtain ⟨⟨cls2, dd2, data2, sl2⟩, ho2, hc2, n2, hd2⟩ := id p2
 simp only at hc hd hc2 hd2
 subst hc hd hc2 hd2
 exact concat_meets ⟨_, ho, rfl⟩ ⟨_, ho2, rfl⟩ noFill_tuple_add seq_tuple_add PySem.F.slot_tuple_add PySem.F.entry_tuple_add (PySem.F.args_tuple_add_2 _ _)
  (tuple_addW0 a b #[] its2.toArray n n2 dd dd2 sl sl2 (by simp)) ⟨ho, ho2, ⟨.ref b, H, I, rfl, q⟩⟩
noncomputable def addQ : R -> R -> Store -> Option (R × Store)
 | .v (.tup []), .v (.tup ys), μ => if ys.length <= sizeLine then some (.v (.tup ys), μ) else none
 | x, y, μ => addD x y μ
theorem g_addQ {K : PySem.W.Frag} : GOp K addQ (fun x y H Q => rAdd' K x y H Q \/ rAdd0 K x y H Q) := by
 intro m H μ x y d μ' v u Q s rx ry e k
 unfold addQ at e
 split at e
 ·split at e
  ·rename_i z
   cases e
   have ry' := ry
   simp only [RelR, RelD] at rx ry
   obtain ⟨a, vs, rfl, qa, ra⟩ := rx
   obtain ⟨b, ws, rfl, qb, rb⟩ := ry
   have ra : vs = [] := by simpa only [RelDs] using ra
   subst ra
   exact .inr ⟨a, b, ws, rfl, rfl, qa, qb, by rw [← rb.length]; exact z, k _ H m .refl s ry'⟩
  ·cases e
 ·exact .inl (g_add m H μ _ _ d μ' v u Q s rx ry e k)
noncomputable def intD : List R -> Store -> Option (R × Store)
 | [.v (.int i)], μ => some (.v (.int i), μ)
 | [.v (.bl b)], μ => some (.v (.int (if b then 1 else 0)), μ)
 | _, _ => none
noncomputable def strD : List R -> Store -> Option (R × Store)
 | [.v (.int i)], μ => if i.natAbs.log2 < 1920 then some (.v (.str (toString i)), μ) else none
 | _, _ => none
noncomputable def keyOf : R -> Option Key
 | .v (.int i) => some (.inl i)
 | .v (.str x) => some (.inr x)
 | _ => none
noncomputable def putC (o i : R) (dv : D) (μ : Store) : Option Store := match o with
 | .p n => match μ[n]? with
  | some (.lst xs) => (match i with | .v (.int k) => (ixN xs.length k).bind fun j => some (μ.set n (.lst (xs.set j dv))) | _ => none)
  | some (.dct kvs) => if kvs.length < sizeLine then (keyOf i).bind fun k => some (μ.set n (.dct (putKD kvs k dv))) else none
  | _ => none
 | _ => none
noncomputable def gSub (fo fi : FE) : FG := fun d ρ μ => match d with | .v dv => (fo ρ μ).bind fun o => (fi ρ o.2).bind fun i => (putC o.1 i.1 dv i.2).bind fun μ' => some (ρ, μ') | _ => none
end HW
namespace HW
open PySem PySem.Spec PyProof.Rows L2
noncomputable def bestOf (lt : Int -> Int -> Bool) (ns : List Int) : Int := ns.getD (argBest (fun i j => lt (ns.getD i 0) (ns.getD j 0)) (ns.length - 1)) 0
noncomputable def bestD (lt : Int -> Int -> Bool) : List R -> Store -> Option (R × Store)
 | [x], μ => (lstD x μ).bind fun ds => (intsD ds).bind fun ns => if ns = [] then none else some (.v (.int (bestOf lt ns)), μ)
 | _, _ => none
end HW
namespace HS
open PySem PySem.Spec PyProof.Rows L2
section
variable {prog : Program} {w : World} {A : Around} {E : Value -> Shared -> Prop} {s : Shared}
theorem hint_dict {a : Addr} {Q : Bool -> Shared -> Prop} (hT : s.TypeIs (.ref a) "dict") (h : Q false s) : wpAny (model prog w) A (Builtin.List.listLengthHint (.ref a)) Q E s := PySem.W.kdl_hint_dict hT h
end
end HS
namespace HW
open PySem PySem.Spec PyProof.Rows L2 HS
noncomputable def intKeys : List Key -> Option (List Int)
 | [] => some []
 | .inl n :: r => (intKeys r).map (n :: ·)
 | _ => none
noncomputable def srtK (b : Bool) : List R -> Store -> Option (R × Store)
 | [.p n], μ => match μ[n]? with
  | some (.dct kvs) => (intKeys (kvs.map (·.1))).bind fun ns => if ns.length < 64 then some (.p μ.length, μ ++ [.lst ((isort ns).map D.int)]) else none
  | some (.fzd kvs) => (intKeys (kvs.map (·.1))).bind fun ns => if ns.length < 64 then some (.p μ.length, μ ++ [.lst ((isort ns).map D.int)]) else none
  | _ => sortedQ b [.p n] μ
 | xs, μ => sortedQ b xs μ
noncomputable def fPairs : List (FE × FE) -> Lo -> Store -> Option (List (R × R) × Store)
 | [], _, μ => some ([], μ)
 | (fk, fv) :: r, ρ, μ => (fk ρ μ).bind fun a => (fv ρ a.2).bind fun b => (fPairs r ρ b.2).bind fun c => some ((a.1, b.1) :: c.1, c.2)
noncomputable def kvsOf : List (R × R) -> Option (List (Key × D))
 | [] => some []
 | (x, .v d) :: r => (keyOf x).bind fun k => (kvsOf r).bind fun kvs => some ((k, d) :: kvs)
 | _ => none
noncomputable def fDisp (prs : List (FE × FE)) : FE := fun ρ μ => (fPairs prs ρ (μ ++ [.dct []])).bind fun a => (kvsOf a.1).bind fun kvs => if kvs.length <= 15 then
 (match a.2[μ.length]? with | some (.dct []) => some (.p μ.length, a.2.set μ.length (.dct (putAllD [] kvs))) | _ => none) else none
section
variable {K : PySem.W.Frag} {σ : L2.St}
end
end HW
namespace HW
open PySem PySem.Spec PyProof.Rows L2
def ConstR (K : PySem.W.Frag) (mg : Str -> Option Value) (x : Str) (d : D) : Prop := ∃ u v, mg x = some u /\ RelV v u /\ ∀ H, RelD K H d v
def CRel (K : PySem.W.Frag) (d : D) (v : V) (u : Value) : Prop := RelV v u /\ ∀ H, RelD K H d v
def CRels (K : PySem.W.Frag) (ds : List D) (vs : List V) (us : List Value) : Prop := Vals vs us /\ ∀ H, RelDs K H ds vs
theorem crs_nil {K : PySem.W.Frag} : CRels K [] [] [] := ⟨.nil, fun _ => rfl⟩
theorem crs_cons {K : PySem.W.Frag} {d : D} {v : V} {u : Value} {ds : List D} {vs : List V} {us : List Value} (h : CRel K d v u) (h' : CRels K ds vs us) : CRels K (d :: ds) (v :: vs) (u :: us) :=
 ⟨.cons h.1 h'.1, fun H => by simp only [RelDs]; exact ⟨_, _, rfl, h.2 H, h'.2 H⟩⟩
theorem cr_bl {K : PySem.W.Frag} {b : Bool} : CRel K (.bl b) (.bl b) (.bool b) := ⟨rfl, fun H => by simp only [RelD]⟩
theorem cr_tup {K : PySem.W.Frag} {a : Addr} {us : List Value} {n : Nat} {sl : Array (Option Value)} {ds : List D} {vs : List V} (h : K.lookup a = some ⟨.type "tuple", none, .seq us.toArray n, sl⟩) (hz : us.length <= sizeLine) (r : CRels K ds vs us) : CRel K (.tup ds) (.ref a) (.ref a) :=
 ⟨rfl, fun H => by simp only [RelD]; exact ⟨a, vs, rfl, .inr ⟨_, us.toArray, n, h, rfl, rfl, rfl, by simpa using hz, by simpa using r.1⟩, r.2 H⟩⟩
theorem const_of {K : PySem.W.Frag} {mg : Str -> Option Value} {x : Str} {u : Value} {d : D} {v : V} (hm : mg x = some u) (r : CRel K d v u) : ConstR K mg x d := ⟨u, v, hm, r.1, r.2⟩
noncomputable def stepV {α : Type} (xs : List α) (lo hi : Option Int) (k : Int) : List α := (let b := sliceBounds lo hi (some k) xs.length; sliceRange b.1 b.2.1 b.2.2).filterMap fun i => xs[i]?
end HW
namespace HW
open PySem PySem.Spec PyProof.Rows L2
def stepOk (i j c : Int) : Prop := -(2 ^ 61) <= i /\ i < 2 ^ 61 /\ -(2 ^ 61) <= j /\ j < 2 ^ 61 /\ c ≠ 0 /\ -(2 ^ 30) < c /\ c < 2 ^ 30
instance {i j c : Int} : Decidable (stepOk i j c) := by unfold stepOk; infer_instance
section
variable {X : Cx} {tg : Expr}
end
end HW
namespace HW
open PySem PySem.Spec PyProof.Rows L2
end HW
namespace HW
open PySem PySem.Spec PyProof.Rows L2
end HW
namespace HW
open PySem PySem.Spec PyProof.Rows L2
noncomputable def valD (kvs : List (Key × D)) (k : Key) : Option D := (kvs.find? fun kv => decide (kv.1 = k)).map (·.2)
noncomputable def kvsD (x : R) (μ : Store) : Option (List (Key × D)) := match x with
 | .p n => match μ[n]? with | some (.dct kvs) => some kvs | some (.fzd kvs) => some kvs | _ => none
 | _ => none
noncomputable def fGet (fo fk fx : FE) : FE := fun ρ μ => (fo ρ μ).bind fun o => if (kvsD o.1 o.2).isSome = true then (fk ρ o.2).bind fun k => (fx ρ k.2).bind fun x => (kvsD o.1 x.2).bind fun kvs => (keyOf k.1).bind fun key => some ((match valD kvs key with | some d => .v d | none => x.1), x.2) else none
end HW
namespace HS
open PySem PySem.Spec PyProof.Rows
section
variable {prog : Program} {w : World} {A : Around} {E : Value -> Shared -> Prop} {h : Heap} {g : Array GenState} {d : Drawn} {t : Nat} {os : OsState} {a : Addr} {its : Array Value} {n : Nat} {sl : Array (Option Value)}
end
section
variable {prog : Program} {w : World} {A : Around} {E : Value -> Shared -> Prop} {s : Shared}
end
end HS
namespace HW
open PySem PySem.Spec PyProof.Rows L2 HS
noncomputable def dictQ : List R -> Store -> Option (R × Store)
 | [.v (.tup ds)], μ => (pairsD ds).bind fun ps => if ps.length <= sizeLine then some (.p μ.length, μ ++ [.dct (putAllD [] ps)]) else none
 | xs, μ => dictD xs μ
end HW
namespace HS
open PySem PySem.Spec PyProof.Rows
section
variable {prog : Program} {w : World} {A : Around} {E : Value -> Shared -> Prop} {s : Shared}
end
end HS
namespace HW
open PySem PySem.Spec PyProof.Rows L2 HS
noncomputable def setKs (b : Bool) : List R -> Store -> Option (R × Store)
 | [.p n], μ => match μ[n]? with
  | some (.dct kvs) => (intKeys (kvs.map (·.1))).bind fun ns => if ns.length < 60 then some (.s b (metOf [] ns), μ) else none
  | some (.fzd kvs) => (intKeys (kvs.map (·.1))).bind fun ns => if ns.length < 60 then some (.s b (metOf [] ns), μ) else none
  | _ => setQ b [.p n] μ
 | xs, μ => setQ b xs μ
end HW
namespace HX
open PySem
noncomputable abbrev eO (C : Value) (vs : Array Value) : Obj := { cls := C, dict := none, data := .fields vs, slots := #[] }
structure Fl (G : Addr -> Prop) (h : Heap) (e : Addr) (C fl : Value) : Prop where
 is : ∃ vs T ts c, ¬ G e /\ ¬ G T /\ T ≠ e /\ h.get? e = some (eO C vs) /\ vs[1]? = some (.ref T) /\ h.get? T = some (eO c ts) /\ ts[3]? = some fl
 all : ∀ b, G b -> ∃ o, h.get? b = some o
section
variable {prog : Program} {w : World} {A : Around} {E : Value -> Shared -> Prop} {s : Shared} {G : Addr -> Prop} {e : Addr} {C fl : Value} {Q : Unit -> Shared -> Prop}
end
end HX
namespace HW
open PySem PySem.Spec PyProof.Rows L2
abbrev clsAt (K : PySem.W.Frag) (c : Str) (C : Addr) : Prop := PySem.W.nsIn K mainGlobals c = some (some (.ref C))
section
variable {P : Program} {w : World} {H H0 H1 : Hp} {h h0 h1 h2 : Heap} {a : Addr} {o : HO} {fs fs' S : List Addr} {G : Addr -> Prop}
end
section
variable {P : Program} {w : World} {K : PySem.W.Frag} {mg : Str -> Option Value} {base : Heap} {N : List Str} {qual : Str} {scope : Scope} {f : Addr} {cd : Value} {A : Around} {outer : List Env} {s0 : Shared} {H0 : Hp} {E : XK}
end
end HW
namespace HW
open PySem PySem.Spec PyProof.Rows L2
structure ClsX (K : PySem.W.Frag) (D : Addr) : Prop where
 dc : PySem.W.hasDictIn K D = true
 ga : PySem.W.findIn K (.ref D) "__getattribute__" = some (some (.builtin "BaseException.__getattribute__"))
 gn : PySem.W.findIn K (.ref D) "__getattr__" = some none
 fi : PySem.W.findIn K (.ref D) "__class__" = some (some (.builtin "object.__class__"))
 mr : PySem.W.mroIn K D (.type "object") = some true
 mb : PySem.W.mroIn K D (.type "BaseException") = some true
 gt : PySem.W.specialIn K (.builtin "object.__class__") "__get__" = some (some (.builtin "getset_descriptor.__get__"))
 tk : PySem.W.takesIn K (.builtin "object.__class__") = some true
section
variable {K : PySem.W.Frag} {σ : L2.St} {H : Hp} {Q : VK} {fa : FE} {tbl : Str -> Option Bool}
end
end HW
namespace HW
open PySem PySem.Spec PyProof.Rows L2
section
variable {X : Cx} {pins : List (Addr × Obj)} {σ : L2.St} {H : Hp} {s : Shared} {ea : Addr}
end
end HW
namespace HW
open PySem L2
section
variable {K : PySem.W.Frag} {mg : Str -> Option Value} {a : Str} {q CH : Addr} {b : Bool} {l : List (Str × Bool)} {cs : List Str} {u : Value} {us : List Value}
end
end HW
namespace HX
open PySem
section
variable {prog : Program} {w : World} {A : Around} {E : Value -> Shared -> Prop} {s : Shared} {G : Addr -> Prop} {e L : Addr} {C fl : Value} {Q : Unit -> Shared -> Prop} {env : Env}
end
end HX
namespace HW
open PySem PySem.Spec PyProof.Rows L2
section
variable {P : Program} {w : World} {K : PySem.W.Frag} {mg : Str -> Option Value} {base : Heap} {N : List Str} {qual : Str} {scope : Scope} {f : Addr} {cd : Value} {A : Around} {outer : List Env} {s0 : Shared} {H0 : Hp} {E : XK}
end
end HW
namespace HW
open PySem PySem.Spec PyProof.Rows L2
section
variable {X : Cx} {a x : Str} {i j : Nat} {p1 p2 p3 pos : Pos}
end
end HW
namespace HW
open PySem PySem.Spec PyProof.Rows L2
section
variable {K : PySem.W.Frag} {σ : L2.St} {H : Hp} {Q : VK} {RR : It -> Hp -> Prop}
end
end HW
namespace HW
open PySem PySem.Spec PyProof.Rows L2
section
variable {K : PySem.W.Frag} {σ : L2.St} {H : Hp} {Q : VK}
end
end HW
namespace HS
open PySem PyProof.Rows
def Srt (xs : Array Keyed) (lo hi : Nat) : Prop := ∀ i j, lo <= i -> i <= j -> j < hi -> K xs i <= K xs j
def Out (lo hi : Nat) (xs ys : Array Keyed) : Prop := ∀ k, ¬ (lo <= k /\ k < hi) -> ys[k]? = xs[k]?
structure SB (a₀ : Array Keyed) (st : SortSt) : Prop where
 perm : (arrOf st).Perm a₀
 kind : kindOf st = oneType'
 ok : failedOf st = none
structure Stp (a₀ : Array Keyed) (lo hi : Nat) (st st' : SortSt) : Prop where
 b : SB a₀ st'
 pend : pendingOf st' = pendingOf st
 out : Out lo hi (arrOf st) (arrOf st')
section
variable {prog : Program} {w : World} {A : Around} {E : Value -> Shared -> Prop} {s : Shared} {a₀ : Array Keyed}
end
end HS
namespace HS
open PySem PyProof.Rows
section
variable {prog : Program} {w : World} {A : Around} {E : Value -> Shared -> Prop} {s : Shared} {a₀ : Array Keyed}
def IK (xs : Array Keyed) : Prop := ∀ i, i < xs.size -> ∃ t q, xs[i]? = some (.int (K xs i) t, q)
end
end HS
namespace HS
open PySem PyProof.Rows
noncomputable def kk (p : Keyed) : Int := numOf p.1
def Le (x y : Keyed) : Prop := kk x <= kk y
structure Mg (A B O : List Keyed) (ia ib : Nat) : Prop where
 perm : (O ++ A.drop ia ++ B.drop ib).Perm (A ++ B)
 srt : O.Pairwise Le
 toA : ∀ x ∈ O, ∀ y ∈ A.drop ia, Le x y
 toB : ∀ x ∈ O, ∀ y ∈ B.drop ib, Le x y
 len : O.length = ia + ib
structure SameG (st st' : SortSt) : Prop where
 kind : kindOf st' = kindOf st
 arr : arrOf st' = arrOf st
 pend : pendingOf st' = pendingOf st
 ok : failedOf st' = failedOf st
end HS
namespace HS
open PySem PyProof.Rows
section
variable {prog : Program} {w : World} {A : Around} {E : Value -> Shared -> Prop} {s : Shared} {a₀ : Array Keyed}
structure Pre (a b : Array Keyed) : Prop where
 ka : IK a
 kb : IK b
 sa : Srt a 0 a.size
 sb : Srt b 0 b.size
 na : 0 < a.size
 nb : 0 < b.size
end
end HS
namespace HS
open PySem PyProof.Rows
structure Mh (A B O : List Keyed) (na nb : Nat) : Prop where
 perm : (A.take na ++ B.take nb ++ O).Perm (A ++ B)
 srt : O.Pairwise Le
 toA : ∀ x ∈ A.take na, ∀ y ∈ O, Le x y
 toB : ∀ x ∈ B.take nb, ∀ y ∈ O, Le x y
section
variable {prog : Program} {w : World} {A : Around} {E : Value -> Shared -> Prop} {s : Shared} {a₀ : Array Keyed}
end
end HS
namespace HS
open PySem PyProof.Rows
section
variable {prog : Program} {w : World} {A : Around} {E : Value -> Shared -> Prop} {s : Shared} {a₀ : Array Keyed}
end
end HS
namespace HS
open PySem PyProof.Rows
def Runs (xs : Array Keyed) : List (Nat × Nat × Nat) -> Nat -> Nat -> Prop
 | [], b, e => b = e
 | (a, n, _) :: r, b, e => a = b /\ 0 < n /\ Srt xs a (a + n) /\ Runs xs r (b + n) e
section
variable {prog : Program} {w : World} {A : Around} {E : Value -> Shared -> Prop} {s : Shared} {a₀ : Array Keyed}
end
end HS
namespace HS
open PySem PySem.Spec PyProof.Rows L2
section
variable {prog : Program} {w : World} {A : Around} {E : Value -> Shared -> Prop} {s : Shared}
end
end HS
namespace HW
open PySem PySem.Spec PyProof.Rows L2 HS
end HW
namespace HS
open PySem PySem.Spec PyProof.Rows
section
variable {prog : Program} {w : World} {A : Around} {E : Value -> Shared -> Prop} {s : Shared}
end
end HS
namespace HW
open PySem PySem.Spec PyProof.Rows L2 HS
end HW
namespace HW
open PySem PySem.Spec PyProof.Rows L2
section
variable {K : PySem.W.Frag} {m m' : List Addr} {H H' : Hp}
end
section
variable {K : PySem.W.Frag} {m : List Addr}
end
section
variable {K : PySem.W.Frag} {σ : L2.St} {H : Hp} {Q : VK}
end
end HW
namespace HT2
open PySem PySem.W PyProof.Rows
section
variable {r : Nat -> Int} {n : Nat} {s : Shared} {cmp : Nat -> Nat -> (Bool -> Shared -> Prop) -> Shared -> Prop}
noncomputable abbrev key (r : Nat -> Int) (p : Array Nat) (k : Nat) : Int := r (p.getD k 0)
def Up (r : Nat -> Int) (p : Array Nat) (a : Nat) : Prop := ∀ i j, i < j -> j < a -> key r p i < key r p j
def Dn (r : Nat -> Int) (p : Array Nat) (a : Nat) : Prop := ∀ i j, i < j -> j < a -> key r p j < key r p i
structure Pm (n : Nat) (p : Array Nat) : Prop where
 pm : p.toList.Perm (List.range n)
theorem Pm.size {p : Array Nat} (h : Pm n p) : p.size = n := by have := h.pm.length_eq; simpa using this
theorem Pm.lt {p : Array Nat} (h : Pm n p) {k : Nat} (hk : k < n) : p.getD k 0 < n := by
 have hs := h.size
 have hm : p.getD k 0 ∈ p.toList := by
  have : p[k]? = some p[k] := Array.getElem?_eq_getElem (by omega)
  rw [Array.getD_eq_getD_getElem?, this, Option.getD_some]
  simp
 have := h.pm.mem_iff.mp hm
 simpa using this
theorem Pm.inj {p : Array Nat} (h : Pm n p) {i j : Nat} (hi : i < n) (hj : j < n) (e : p.getD i 0 = p.getD j 0) : i = j := by
 have hs := h.size
 have nd : p.toList.Nodup := h.pm.nodup_iff.mpr List.nodup_range
 have ei : p[i]? = some p[i] := Array.getElem?_eq_getElem (by omega)
 have ej : p[j]? = some p[j] := Array.getElem?_eq_getElem (by omega)
 rw [Array.getD_eq_getD_getElem?, Array.getD_eq_getD_getElem?, ei, ej, Option.getD_some, Option.getD_some] at e
 have e' : p.toList[i]'(by simpa using (by omega : i < p.size)) = p.toList[j]'(by simpa using (by omega : j < p.size)) := by simpa using e
 exact (List.getElem_inj nd).mp e'
structure Rk (r : Nat -> Int) (n : Nat) (s : Shared) (cmp : Nat -> Nat -> (Bool -> Shared -> Prop) -> Shared -> Prop) : Prop where
 inj : ∀ i j, i < n -> j < n -> r i = r j -> i = j
 ask : ∀ i j, i < n -> j < n -> ∀ C : Bool -> Shared -> Prop, C (decide (r i < r j)) s -> cmp i j C s
theorem Rk.ne (R : Rk r n s cmp) {p : Array Nat} (h : Pm n p) {i j : Nat} (hi : i < n) (hj : j < n) (ne : i ≠ j) : key r p i ≠ key r p j := fun e => ne (h.inj hi hj (R.inj _ _ (h.lt hi) (h.lt hj) e))
theorem asc_wp (R : Rk r n s cmp) {p : Array Nat} (h : Pm n p) {Q : Nat -> Shared -> Prop} : ∀ (f a : Nat), 1 <= a -> a + f <= n -> Up r p a -> (∀ m, a <= m -> m <= a + f -> Up r p m -> (m = a + f \/ key r p m < key r p (m - 1)) -> Q m s) -> (kas_asc p f a).kasWp cmp Q s
 | 0, a, _, _, hu, k => k a (Nat.le_refl _) (Nat.le_refl _) hu (.inl rfl)
 | f + 1, a, h1, h2, hu, k => by
  refine R.ask _ _ (h.lt (by omega)) (h.lt (by omega)) _ ?_
  by_cases hc : key r p a < key r p (a - 1)
  ·have hd : decide (r (p.getD a 0) < r (p.getD (a - 1) 0)) = true := decide_eq_true hc
   rw [hd]
   exact k a (Nat.le_refl _) (by omega) hu (.inr hc)
  ·have hd : decide (r (p.getD a 0) < r (p.getD (a - 1) 0)) = false := decide_eq_false hc
   rw [hd]
   have hne := R.ne h (show a < n by omega) (show a - 1 < n by omega) (by omega)
   refine asc_wp R h f (a + 1) (by omega) (by omega) (fun i j hij hj => ?_) fun m m1 m2 m3 m4 => k m (by omega) (by omega) m3 (by rcases m4 with q | q; exact .inl (by omega); exact .inr q)
   by_cases hja : j = a
   ·subst hja
    have : key r p i <= key r p (j - 1) := by
     by_cases hi : i = j - 1
     ·rw [hi]; exact Int.le_refl _
     ·exact Int.le_of_lt (hu i (j - 1) (by omega) (by omega))
    omega
   ·exact hu i j hij (by omega)
theorem desc_wp (R : Rk r n s cmp) {p : Array Nat} (h : Pm n p) {Q : Array Nat × Nat × Nat -> Shared -> Prop} : ∀ (f a : Nat), 1 <= a -> a + f <= n -> Dn r p a -> (∀ m, a <= m -> m <= a + f -> Dn r p m -> Q (p, m, 0) s) -> (kas_desc f p a 0).kasWp cmp Q s
 | 0, a, _, _, hu, k => k a (Nat.le_refl _) (Nat.le_refl _) hu
 | f + 1, a, h1, h2, hu, k => by
  refine R.ask _ _ (h.lt (by omega)) (h.lt (by omega)) _ ?_
  have hne := R.ne h (show a < n by omega) (show a - 1 < n by omega) (by omega)
  by_cases hc : key r p a < key r p (a - 1)
  ·have hd : decide (r (p.getD a 0) < r (p.getD (a - 1) 0)) = true := decide_eq_true hc
   rw [hd]
   refine desc_wp R h f (a + 1) (by omega) (by omega) (fun i j hij hj => ?_) fun m m1 m2 m3 => k m (by omega) (by omega) m3
   by_cases hja : j = a
   ·subst hja
    have : key r p (j - 1) <= key r p i := by
     by_cases hi : i = j - 1
     ·rw [hi]; exact Int.le_refl _
     ·exact Int.le_of_lt (hu i (j - 1) (by omega) (by omega))
    omega
   ·exact hu i j hij (by omega)
  ·have hd : decide (r (p.getD a 0) < r (p.getD (a - 1) 0)) = false := decide_eq_false hc
   rw [hd]
   refine R.ask _ _ (h.lt (by omega)) (h.lt (by omega)) _ ?_
   have hd2 : decide (r (p.getD (a - 1) 0) < r (p.getD a 0)) = true := decide_eq_true (show key r p (a - 1) < key r p a by omega)
   rw [hd2]
   exact k a (Nat.le_refl _) (by omega) hu
theorem rev_at {p : Array Nat} (h : Pm n p) {m k : Nat} (hm : m <= n) (hk : k < m) : (kas_rev p 0 m).getD k 0 = p.getD (m - 1 - k) 0 := by
 have hs := h.size
 have := getElem?_mirror_all (xs := p) (i := 0) (j := m) (by omega) k
 rw [if_pos (by omega)] at this
 unfold kas_rev
 rw [Array.getD_eq_getD_getElem?, this, Array.getD_eq_getD_getElem?]
 congr 2
 omega
theorem rev_pm {p : Array Nat} (h : Pm n p) {m : Nat} : Pm n (kas_rev p 0 m) := ⟨(Array.perm_iff_toList_perm.mp (mirror_perm p 0 m _)).trans h.pm⟩
theorem tail3_wp (R : Rk r n s cmp) {p : Array Nat} (h : Pm n p) {Q : Nat × Array Nat -> Shared -> Prop} {a : Nat} (h1 : 1 <= a) (h2 : a <= n) (hd : Dn r p a) (k : ∀ m p', Pm n p' -> Up r p' m -> 1 <= m -> m <= n -> Q (m, p') s) : (kas_tail3 a n p).kasWp cmp Q s := by
 unfold kas_tail3
 rw [KasT.kasWp_bind]
 have hr := rev_pm h (m := a)
 refine asc_wp R hr (n - a) a h1 (by omega) (fun i j hij hj => ?_) fun m m1 m2 m3 _ => k m _ hr m3 (by omega) (by omega)
 unfold key
 rw [rev_at h h2 (by omega), rev_at h h2 (by omega)]
 exact hd (a - 1 - j) (a - 1 - i) (by omega) (by omega)
theorem count_wp (R : Rk r n s cmp) {p : Array Nat} (h : Pm n p) (hn : 1 <= n) {Q : Nat × Array Nat -> Shared -> Prop} (k : ∀ m p', Pm n p' -> Up r p' m -> 1 <= m -> m <= n -> Q (m, p') s) : (kas_count n p).kasWp cmp Q s := by
 unfold kas_count
 rw [KasT.kasWp_bind]
 refine asc_wp R h (n - 1) 1 (Nat.le_refl _) (by omega) (fun i j hij hj => by omega) fun m m1 m2 m3 m4 => ?_
 by_cases hm : m = n
 ·subst hm
  rw [if_pos (by simp)]
  exact k m p h m3 hn (Nat.le_refl _)
 ·rw [if_neg (by simpa using hm)]
  by_cases hm1 : m > 1
  ·rw [if_pos hm1]
   refine R.ask _ _ (h.lt (by omega)) (h.lt (by omega)) _ ?_
   have hd : decide (r (p.getD 0 0) < r (p.getD (m - 1) 0)) = true := decide_eq_true (m3 0 (m - 1) (by omega) (by omega))
   rw [hd]
   exact k m p h m3 (by omega) (by omega)
  ·rw [if_neg hm1]
   have hm' : m = 1 := by omega
   subst hm'
   have hlt : key r p 1 < key r p 0 := by
    rcases m4 with q | q
    ·omega
    ·exact q
   unfold kas_descPart
   rw [KasT.kasWp_bind]
   refine desc_wp R h (n - (1 + 1)) (1 + 1) (by omega) (by omega) (fun i j hij hj => ?_) fun m' q1 q2 q3 => ?_
   ·have hj1 : j = 1 := by omega
    have hi0 : i = 0 := by omega
    subst hj1 hi0
    exact hlt
   ·show KasT.kasWp cmp (if (0 : Nat) > 0 then _ else _) Q s
    rw [if_neg (by omega)]
    exact tail3_wp R h (show 1 <= m' by omega) (show m' <= n by omega) q3 k
theorem place_wp (R : Rk r n s cmp) {p : Array Nat} (h : Pm n p) {Q : Nat -> Shared -> Prop} {k : Nat} (hk : k < n) : ∀ (f l u : Nat), l <= u -> u <= k -> u - l <= f -> (∀ i < l, key r p i < key r p k) -> (∀ i, u <= i -> i < k -> key r p k < key r p i) -> Up r p k ->
  (∀ x, x <= k -> (∀ i < x, key r p i < key r p k) -> (∀ i, x <= i -> i < k -> key r p k < key r p i) -> Q x s) -> (kas_place p k f l u).kasWp cmp Q s
 | 0, l, u, h1, h2, h3, hl, hu, _, kk => kk l (by omega) hl (fun i h4 h5 => hu i (by omega) h5)
 | f + 1, l, u, h1, h2, h3, hl, hu, up, kk => by
  unfold kas_place
  by_cases hlu : l >= u
  ·rw [if_pos hlu]
   exact kk l (by omega) hl (fun i h4 h5 => hu i (by omega) h5)
  ·rw [if_neg hlu]
   refine R.ask _ _ (h.lt hk) (h.lt (by omega)) _ ?_
   have hne := R.ne h hk (show (l + u) / 2 < n by omega) (by omega)
   by_cases hc : key r p k < key r p ((l + u) / 2)
   ·have hd : decide (r (p.getD k 0) < r (p.getD ((l + u) / 2) 0)) = true := decide_eq_true hc
    rw [hd]
    refine place_wp R h hk f l ((l + u) / 2) (by omega) (by omega) (by omega) hl (fun i h4 h5 => ?_) up kk
    by_cases hi : i = (l + u) / 2
    ·rw [hi]; exact hc
    ·have := up ((l + u) / 2) i (by omega) h5
     omega
   ·have hd : decide (r (p.getD k 0) < r (p.getD ((l + u) / 2) 0)) = false := decide_eq_false hc
    rw [hd]
    refine place_wp R h hk f ((l + u) / 2 + 1) u (by omega) h2 (by omega) (fun i hi => ?_) hu up kk
    by_cases hi' : i = (l + u) / 2
    ·rw [hi']; omega
    ·have := up i ((l + u) / 2) (by omega) (by omega)
     omega
theorem bub_at {p : Array Nat} (h : Pm n p) {k l i : Nat} (hk : k < n) (hl : l <= k) : (bubble p k (k - l)).getD i 0 = if i = l then p.getD k 0 else if l < i /\ i <= k then p.getD (i - 1) 0 else p.getD i 0 := by
 have hs := h.size
 have := getElem?_bubble (xs := p) (src := k) (by omega) (k - l) (by omega) i
 rw [show k - (k - l) = l by omega] at this
 simp only [Array.getD_eq_getD_getElem?]
 rw [this]
 split
 ·rfl
 ·split <;> rfl
theorem bin_wp (R : Rk r n s cmp) {Q : Array Nat -> Shared -> Prop} : ∀ (f : Nat) (p : Array Nat) (k : Nat), Pm n p -> Up r p k -> k + f = n -> (∀ p', Pm n p' -> Up r p' n -> Q p' s) -> (kas_bin f p k).kasWp cmp Q s
 | 0, p, k, h, hu, hk, kk => kk p h (by rw [← hk]; exact hu)
 | f + 1, p, k, h, hu, hk, kk => by
  unfold kas_bin
  rw [KasT.kasWp_bind]
  refine place_wp R h (by omega) k 0 k (by omega) (Nat.le_refl _) (by omega) (fun i hi => by omega) (fun i h4 h5 => by omega) hu fun l l1 l2 l3 => ?_
  refine bin_wp R f (bubble p k (k - l)) (k + 1) ⟨(Array.perm_iff_toList_perm.mp (bubble_perm p k _)).trans h.pm⟩ (fun i j hij hj => ?_) (by omega) kk
  have b := fun i => bub_at h (k := k) (l := l) (i := i) (by omega) l1
  show r _ < r _
  rw [b i, b j]
  by_cases hi : i = l
  ·rw [if_pos hi, if_neg (by omega), if_pos (by omega)]
   exact l3 (j - 1) (by omega) (by omega)
  ·rw [if_neg hi]
   by_cases hj' : j = l
   ·rw [if_pos hj', if_neg (by omega)]
    exact l2 i (by omega)
   ·rw [if_neg hj']
    by_cases h6 : l < i /\ i <= k
    ·rw [if_pos h6, if_pos (by omega)]
     exact hu (i - 1) (j - 1) (by omega) (by omega)
    ·rw [if_neg h6]
     by_cases h7 : l < j /\ j <= k
     ·rw [if_pos h7]
      by_cases h8 : i = j - 1
      ·omega
      ·exact hu i (j - 1) (by omega) (by omega)
     ·rw [if_neg h7]
      exact hu i j hij (by omega)
theorem sort_wp (R : Rk r n s cmp) (hn : 1 <= n) {Q : Array Nat -> Shared -> Prop} (k : ∀ p, Pm n p -> Up r p n -> Q p s) : (kas_sort n).kasWp cmp Q s := by
 unfold kas_sort
 rw [KasT.kasWp_bind]
 refine count_wp R (p := (List.range n).toArray) ⟨by simp⟩ hn fun m p h hu h1 h2 => ?_
 show KasT.kasWp cmp (if m < n then kas_bin (n - max m 1) p (max m 1) else .ret p) Q s
 rw [Nat.max_eq_left h1]
 by_cases hm : m < n
 ·rw [if_pos hm]
  exact bin_wp R (n - m) p m h hu (by omega) k
 ·rw [if_neg hm]
  have : m = n := by omega
  subst this
  exact k p h hu
end
end HT2
namespace HT2
open PySem PySem.W PyProof.Rows
noncomputable def llt : List Int -> List Int -> Bool
 | [], [] => false
 | [], _ :: _ => true
 | _ :: _, [] => false
 | x :: xs, y :: ys => if x = y then llt xs ys else decide (x < y)
theorem llt_irr : ∀ a, llt a a = false
 | [] => rfl
 | x :: xs => by simp [llt, llt_irr xs]
theorem llt_tot : ∀ a b, llt a b = true \/ a = b \/ llt b a = true
 | [], [] => .inr (.inl rfl)
 | [], _ :: _ => .inl rfl
 | _ :: _, [] => .inr (.inr rfl)
 | x :: xs, y :: ys => by
  by_cases e : x = y
  ·subst e
   rcases llt_tot xs ys with h | h | h
   ·exact .inl (by simp [llt, h])
   ·exact .inr (.inl (by rw [h]))
   ·exact .inr (.inr (by simp [llt, h]))
  ·by_cases hl : x < y
   ·exact .inl (by simp [llt, e, hl])
   ·exact .inr (.inr (by simp [llt, Ne.symm e]; omega))
theorem llt_trans : ∀ a b c, llt a b = true -> llt b c = true -> llt a c = true
 | [], [], _, h, _ => by cases h
 | [], _ :: _, [], _, h => by cases h
 | [], _ :: _, _ :: _, _, _ => rfl
 | _ :: _, [], _, h, _ => by cases h
 | _ :: _, _ :: _, [], _, h => by cases h
 | x :: xs, y :: ys, z :: zs, h, g => by
  simp only [llt] at h g ⊢
  by_cases e1 : x = y
  ·subst e1
   rw [if_pos rfl] at h
   by_cases e2 : x = z
   ·subst e2
    rw [if_pos rfl] at g ⊢
    exact llt_trans xs ys zs h g
   ·rw [if_neg e2] at g ⊢; exact g
  ·rw [if_neg e1] at h
   have h1 : x < y := of_decide_eq_true h
   by_cases e2 : y = z
   ·subst e2
    rw [if_neg e1]; exact h
   ·rw [if_neg e2] at g
    have h2 : y < z := of_decide_eq_true g
    rw [if_neg (by omega)]
    exact decide_eq_true (by omega)
noncomputable def rank (L : List (List Int)) (i : Nat) : Int := ((L.filter fun k => llt k (L.getD i [])).length : Nat)
theorem filter_lt {L : List (List Int)} {a b : List Int} (h : llt a b = true) (hm : a ∈ L) : (L.filter fun k => llt k a).length < (L.filter fun k => llt k b).length := by
 have sub : ∀ M : List (List Int), (M.filter fun k => llt k a).length <= (M.filter fun k => llt k b).length := fun M => by
  induction M with
  | nil => simp
  | cons x xs ih =>
   simp only [List.filter_cons]
   cases hx : llt x a with
   | true => rw [llt_trans x a b hx h]; simp; exact ih
   | false => cases llt x b <;> simp <;> omega
 induction L with
 | nil => simp at hm
 | cons x xs ih =>
  simp only [List.filter_cons]
  rcases List.mem_cons.mp hm with rfl | hm
  ·rw [llt_irr, h]
   have := sub xs
   simp
   omega
  ·have := ih hm
   cases hx : llt x a with
   | true => rw [llt_trans x a b hx h]; simp; exact this
   | false => cases llt x b <;> simp <;> omega
theorem getD_mem {L : List (List Int)} {i : Nat} (h : i < L.length) : L.getD i [] ∈ L := by
 rw [List.getD_eq_getElem?_getD, List.getElem?_eq_getElem h, Option.getD_some]
 exact List.getElem_mem h
theorem rank_lt {L : List (List Int)} {i j : Nat} (hi : i < L.length) (hj : j < L.length) : decide (rank L i < rank L j) = llt (L.getD i []) (L.getD j []) := by
 rcases llt_tot (L.getD i []) (L.getD j []) with h | h | h
 ·rw [h]
  refine decide_eq_true ?_
  have := filter_lt h (getD_mem hi)
  unfold rank; omega
 ·have hr : rank L i = rank L j := by unfold rank; rw [h]
  rw [hr, h, llt_irr]
  exact decide_eq_false (by omega)
 ·have := filter_lt h (getD_mem hj)
  have hn : llt (L.getD i []) (L.getD j []) = false := by
   cases q : llt (L.getD i []) (L.getD j []) with
   | false => rfl
   | true => have := llt_trans _ _ _ q h; rw [llt_irr] at this; cases this
  rw [hn]
  refine decide_eq_false ?_
  unfold rank; omega
theorem rank_inj {L : List (List Int)} (nd : L.Nodup) {i j : Nat} (hi : i < L.length) (hj : j < L.length) (e : rank L i = rank L j) : i = j := by
 have h1 := rank_lt hi hj
 have h2 := rank_lt hj hi
 rw [decide_eq_false (by omega)] at h1 h2
 rcases llt_tot (L.getD i []) (L.getD j []) with h | h | h
 ·rw [h] at h1; cases h1
 ·simp only [List.getD_eq_getElem?_getD, List.getElem?_eq_getElem hi, List.getElem?_eq_getElem hj, Option.getD_some] at h
  exact (List.getElem_inj nd).mp h
 ·rw [h] at h2; cases h2
section
variable {prog : Program} {w : World} {A : Around} {E : Value -> Shared -> Prop} {s : Shared}
theorem lex_ints {b : Bool} {Q : Bool -> Shared -> Prop} : ∀ {xs ys : List Value} {ns ms : List Int} (i : Nat), IntsAre xs ns -> IntsAre ys ms -> Q (llt ns ms) s -> KatLex prog w A b (decide (xs.length < ys.length)) Q (xs.zip ys) i s
 | [], [], _, _, i, .nil, .nil, h => h
 | [], _ :: _, _, _, i, .nil, .cons _ _ _, h => h
 | _ :: _, [], _, _, i, .cons _ _ _, .nil, h => h
 | _ :: _, _ :: _, _, _, i, .cons (vs := xs) (ns := ns) n t r, .cons (vs := ys) (ns := ms) m u q, h => by
  show KatLex prog w A b _ Q ((.int n t, .int m u) :: xs.zip ys) i s
  refine kat_cons (wpAny_eqBool_int ?_)
  by_cases e : n = m
  ·subst e
   rw [beq_self_eq_true]
   refine kat_yes ?_
   have hd : decide ((Value.int n t :: xs).length < (Value.int n u :: ys).length) = decide (xs.length < ys.length) := by simp
   rw [hd]
   exact lex_ints (i + 1) r q (by simpa [llt] using h)
  ·rw [show (n == m) = false by simpa using e]
   refine kat_no ?_
   have h' : Q (decide (n < m)) s := by simpa [llt, e] using h
   cases (b && i == 0) with
   | true => exact oneLt_int h'
   | false => first | exact kat_one _ _ (lt_int h') | exact kat_one _ _ (lt_int (boolBack_bool h'))
def TupsAre (h : Heap) : List Value -> List (List Int) -> Prop
 | [], [] => True
 | v :: vs, L :: Ls => (∃ a o its n, v = .ref a /\ h.get? a = some o /\ o.cls = .type "tuple" /\ o.data = .seq its n /\ IntsAre its.toList L) /\ TupsAre h vs Ls
 | _, _ => False
theorem TupsAre.len {h : Heap} : ∀ {vs : List Value} {L : List (List Int)}, TupsAre h vs L -> vs.length = L.length
 | [], [], _ => rfl
 | [], _ :: _, h => h.elim
 | _ :: _, [], h => h.elim
 | _ :: vs, _ :: L, h => by simp [TupsAre.len h.2]
theorem TupsAre.at {h : Heap} : ∀ {vs : List Value} {L : List (List Int)}, TupsAre h vs L -> ∀ i, i < L.length -> ∃ a o its n, vs.getD i .none = .ref a /\ h.get? a = some o /\ o.cls = .type "tuple" /\ o.data = .seq its n /\ IntsAre its.toList (L.getD i [])
 | [], [], _, i, hi => by simp at hi
 | [], _ :: _, h, _, _ => h.elim
 | _ :: _, [], h, _, _ => h.elim
 | v :: vs, x :: L, h, 0, _ => h.1
 | v :: vs, x :: L, h, i + 1, hi => TupsAre.at h.2 i (by simpa using hi)
theorem TupsAre.keep {h h' : Heap} (k : ∀ b o, h.get? b = some o -> h'.get? b = some o) : ∀ {vs : List Value} {L : List (List Int)}, TupsAre h vs L -> TupsAre h' vs L
 | [], [], _ => trivial
 | [], _ :: _, h => h.elim
 | _ :: _, [], h => h.elim
 | _ :: vs, _ :: L, h => by
  obtain ⟨⟨a, o, its, n, e, g, r⟩, t⟩ := h
  exact ⟨⟨a, o, its, n, e, k _ _ g, r⟩, TupsAre.keep k t⟩
theorem TupsAre.keepNe {h h' : Heap} {a : Addr} (k : ∀ b o, h.get? b = some o -> b ≠ a -> h'.get? b = some o) : ∀ {vs : List Value} {L : List (List Int)}, TupsAre h vs L -> (∀ v ∈ vs, v ≠ .ref a) -> TupsAre h' vs L
 | [], [], _, _ => trivial
 | [], _ :: _, h, _ => h.elim
 | _ :: _, [], h, _ => h.elim
 | v :: vs, _ :: L, h, hn => by
  obtain ⟨⟨b, o, its, n, e, g, r⟩, t⟩ := h
  exact ⟨⟨b, o, its, n, e, k _ _ g fun z => hn v (by simp) (by rw [e, z]), r⟩, TupsAre.keepNe k t fun u hu => hn u (by simp [hu])⟩
theorem TupsAre.firsts {h : Heap} : ∀ {vs : List Value} {L : List (List Int)}, TupsAre h vs L -> (∀ x ∈ L, x ≠ []) -> ∃ fs, KatTups h vs fs /\ fs.length = L.length /\ ∀ f ∈ fs, ∃ n t, f = .int n t
 | [], [], _, _ => ⟨[], trivial, rfl, by simp⟩
 | [], _ :: _, h, _ => h.elim
 | _ :: _, [], h, _ => h.elim
 | v :: vs, x :: L, h, hn => by
  obtain ⟨⟨a, o, its, n, e, g, c, d, r⟩, t⟩ := h
  obtain ⟨fs, q1, q2, q3⟩ := TupsAre.firsts t fun y hy => hn y (by simp [hy])
  have hx := hn x (by simp)
  generalize hits : its.toList = il at r
  cases r with
  | nil => exact absurd rfl hx
  | cons m tk r' =>
   have h0 : its[0]? = some (.int m tk) := by rw [← Array.getElem?_toList, hits]; rfl
   exact ⟨.int m tk :: fs, by subst e; exact KatTups.cons g c d h0 q1, by simp [q2], fun f hf => by
    rcases List.mem_cons.mp hf with rfl | hf
    ·exact ⟨m, tk, rfl⟩
    ·exact q3 f hf⟩
theorem range_getD {α : Type} : ∀ (l : List α) (d : α), l = (List.range l.length).map fun i => l.getD i d := fun l d => by
 refine List.ext_getElem (by simp) fun k h1 h2 => ?_
 simp only [List.getElem_map, List.getElem_range]
 rw [List.getD_eq_getElem?_getD, List.getElem?_eq_getElem h1]; rfl
theorem sort_tups {a : Addr} {vs : List Value} {L : List (List Int)} {n : Nat} {P : PySem.Fin -> Shared -> Prop} (ho : s.heap.get? a = some (seqObj "list" vs.toArray n)) (hT : TupsAre s.heap vs L) (nd : L.Nodup) (h64 : L.length < 64) (hne : 2 <= L.length -> ∀ x ∈ L, x ≠ [])
  (hna : ∀ v ∈ vs, v ≠ .ref a)
  (h : ∀ (out : Array Value) (L' : List (List Int)), (∃ is : List Nat, out.toList = is.map (fun i => vs.getD i .none) /\ L' = is.map (fun i => L.getD i []) /\ ∀ i ∈ is, i < L.length) -> L'.Perm L -> L'.Pairwise (fun x y => llt x y = true) -> P (.done (.ret .none)) { s with heap := sortedHeap s.heap a vs out }) : wpAny (model prog w) A (Builtin.«list.sort» ⟨[.ref a], []⟩) P E s := by
 have hl := hT.len
 rw [list_sort_plain]
 have ha : a < s.heap.objs.size := Heap.lt_size ho
 have hz : vs.length <= sizeLine := by rw [sizeLine_eq]; omega
 refine wpAny_bind (listItems_at ho rfl (wpAny_bind (listUpdate_at ho rfl ?_ (by simpa using hz) (by simp))))
 obtain ⟨c1, o1⟩ : ∃ c1, (s.heap.update a (Obj.mapSeq fun _ => #[])).get? a = some (seqObj "list" #[] c1) := ⟨_, get?_update_seq ho (fun _ => #[])⟩
 refine wpAny_bind (seqEpoch_at o1 rfl (wpAny_bind (wpAny_newTuple (wpAny_bind (wpAny_newList (wpAny_holding ?_) (Nat.zero_le _))) (by simpa using hz))))
 have o6 : (((s.heap.update a (Obj.mapSeq fun _ => #[])).push (seqObj "tuple" vs.toArray 0)).push (seqObj "list" #[] 0)).get? a = some (seqObj "list" #[] c1) := by
  rw [Heap.get?_push_ne _ _ _ (by rw [size_push', Heap.size_update]; exact Nat.ne_of_lt (Nat.lt_succ_of_lt ha)), Heap.get?_push_ne _ _ _ (by rw [Heap.size_update]; exact Nat.ne_of_lt ha)]
  exact o1
 show wpAny (model prog w) A _ P E { s with heap := ((s.heap.update a (Obj.mapSeq fun _ => #[])).push (seqObj "tuple" vs.toArray 0)).push (seqObj "list" #[] 0) }
 dsimp only
 by_cases h2 : vs.toArray.size < 2
 ·rw [if_pos h2, if_pos h2]
  refine wpAny_bind (wpAny_pure (wpAny_bind (wpAny_pure ?_)))
  dsimp only
  have hm : Array.map (fun x => x.snd) (arrOf (SortSt.mk' general' (vs.toArray.zip vs.toArray) #[] 7 none)) = vs.toArray := by
   show Array.map (fun x => x.snd) (vs.toArray.zip vs.toArray) = vs.toArray
   apply Array.ext
   ·simp
   ·intro i h1 h3; simp
  rw [hm]
  refine wpAny_bind (seqEpoch_at o6 rfl (wpAny_bind (listUpdate_at o6 rfl ?_ (by simp) (by rw [List.size_toArray]; omega))))
  show wpAny (model prog w) A (if (c1 != c1) = true then _ else _) P E _
  simp only [bne_self_eq_false, Bool.false_eq_true, if_false]
  refine wpAny_pure (h vs.toArray L ⟨List.range L.length, by rw [← hl]; simpa using range_getD vs .none, range_getD L [], fun i hi => by simpa using hi⟩ (List.Perm.refl _) ?_)
  have : L.length < 2 := by simp at h2; omega
  match L, this with
  | [], _ => exact .nil
  | [x], _ => simp
 ·rw [if_neg h2, if_neg h2]
  have hb2 : 2 <= L.length := by simp at h2; omega
  have keep : ∀ b o, s.heap.get? b = some o -> b ≠ a -> (((s.heap.update a (Obj.mapSeq fun _ => #[])).push (seqObj "tuple" vs.toArray 0)).push (seqObj "list" #[] 0)).get? b = some o := fun b o e ne =>
   Heap.get?_push_of_some _ (Heap.get?_push_of_some _ (by rw [Heap.get?_update_other _ _ (Ne.symm ne)]; exact e))
  have hT1 : TupsAre (((s.heap.update a (Obj.mapSeq fun _ => #[])).push (seqObj "tuple" vs.toArray 0)).push (seqObj "list" #[] 0)) vs L := hT.keepNe keep hna
  obtain ⟨fs, q1, q2, q3⟩ := hT1.firsts (hne hb2)
  refine wpAny_bind (kat_kind (T := .type "int") q1 (by omega) (fun v hv => ?_) (by decide) ?_)
  ·obtain ⟨m, tk, rfl⟩ := q3 v hv
   exact .now
  refine wpAny_bind (wpAny_mono (kat_run (ks := vs) (vs := vs) (Q := fun st' s' => ∃ p : Array Nat, p.size = vs.length /\ arrOf st' = p.map (kas_item (vs.toArray.zip vs.toArray)) /\ failedOf st' = none /\ s' = { s with heap := ((s.heap.update a (Obj.mapSeq fun _ => #[])).push (seqObj "tuple" vs.toArray 0)).push (seqObj "list" #[] 0) } /\ Pm L.length p /\ Up (rank L) p L.length)
   (G := fun p s' => s' = { s with heap := ((s.heap.update a (Obj.mapSeq fun _ => #[])).push (seqObj "tuple" vs.toArray 0)).push (seqObj "list" #[] 0) } /\ Pm L.length p /\ Up (rank L) p L.length)
   rfl (by omega) (by omega) (fun p' st' s' a1 a2 a3 a4 => ⟨p', a1, a2, a3, a4⟩) ?_) ?_ fun _ _ e => e)
  ·rw [hl]
   refine sort_wp (r := rank L) (n := L.length) ⟨fun i j hi hj e => rank_inj nd hi hj e, fun i j hi hj C hC => ?_⟩ (by omega) fun p hp hu => ⟨rfl, hp, hu⟩
   obtain ⟨x, ox, ix, nx, e1, e2, e3, e4, e5⟩ := hT1.at i hi
   obtain ⟨y, oy, iy, ny, f1, f2, f3, f4, f5⟩ := hT1.at j hj
   unfold kas_ask
   rw [e1, f1]
   refine kat_lt e2 e4 f2 f4 ?_
   rw [rank_lt hi hj] at hC
   have := lex_ints (prog := prog) (w := w) (A := A) (b := (Value.type "int" != Value.type "tuple")) 0 e5 f5 hC
   simpa using this
  ·rintro ⟨⟨⟩, st'⟩ s' ⟨p, hp, har, hf, rfl, hpm, hup⟩
   dsimp only
   have hout := kat_snds (ks := vs) (vs := vs) rfl har
   rw [hout]
   have hsz : (List.toArray (p.toList.map fun i => vs.getD i Value.none)).size <= sizeLine + 1 := by rw [List.size_toArray, List.length_map, Array.length_toList, hp]; omega
   refine wpAny_bind (seqEpoch_at o6 rfl (wpAny_bind (listUpdate_at o6 rfl ?_ (by simp) hsz)))
   rw [hf]
   simp only [bne_self_eq_false, Bool.false_eq_true, if_false]
   have hlt : ∀ i ∈ p.toList, i < L.length := fun i hi => by have := hpm.pm.mem_iff.mp hi; simpa using this
   refine wpAny_pure (h _ (p.toList.map fun i => L.getD i []) ⟨p.toList, by simp, rfl, hlt⟩ ?_ ?_)
   ·have := hpm.pm.map fun i => L.getD i []
    refine this.trans (List.Perm.of_eq ?_)
    refine List.ext_getElem (by simp) fun k h1 h2 => ?_
    simp only [List.getElem_map, List.getElem_range]
    rw [List.getD_eq_getElem?_getD, List.getElem?_eq_getElem (by simpa using h1)]
    rfl
   ·rw [List.pairwise_map, List.pairwise_iff_getElem]
    intro i j hi hj hij
    have hsz2 := hpm.size
    have hi' : i < p.size := by simpa using hi
    have hj' : j < p.size := by simpa using hj
    have hk := hup i j hij (by omega)
    unfold key at hk
    have gi : p.getD i 0 = p[i] := by rw [Array.getD_eq_getD_getElem?, Array.getElem?_eq_getElem hi']; rfl
    have gj : p.getD j 0 = p[j] := by rw [Array.getD_eq_getD_getElem?, Array.getElem?_eq_getElem hj']; rfl
    rw [gi, gj] at hk
    have := rank_lt (L := L) (i := p[i]) (j := p[j]) (hlt _ (by simp)) (hlt _ (by simp))
    rw [decide_eq_true hk] at this
    simpa using this.symm
end
end HT2
namespace HK
open PySem PySem.Spec PyProof.Rows L2
def DE (h : Heap) (d : Addr) (es : Array DictEntry) (ep : Nat) : Prop := ∃ ob, h.get? d = some ob /\ ob.ExactDict /\ ob.data = .dict es ep
section
variable {prog : Program} {w : World} {A : Around} {E : Value -> Shared -> Prop} {s : Shared} {d it : Addr} {es : Array DictEntry} {ep i : Nat}
theorem DE.ty (m : DE s.heap d es ep) : s.TypeIs (.ref d) "dict" := let ⟨ob, g, x, _⟩ := m; ⟨ob, g, x.1⟩
theorem DE.at {h h' : Heap} (m : DE h d es ep) (k : ∀ ob, h.get? d = some ob -> h'.get? d = some ob) : DE h' d es ep := let ⟨ob, g, r⟩ := m; ⟨ob, k _ g, r⟩
theorem iterT {Q : Value -> Shared -> Prop} (nd : (d == sysModules) = false) (m : DE s.heap d es ep)
  (fin : Q (.ref s.heap.objs.size) { s with heap := s.heap.push { cls := .type "dict_keyiterator", data := .fields #[.ref d, .int 0 0, .int es.size 0, .int ep 0] } }) : wpAny (model prog w) A (pyIter (.ref d)) Q E s := by
 obtain ⟨ob, g, x, dt⟩ := id m
 refine wpAny_pyIter_slot m.ty F.slot_dict_iter (wpAny_call_entry F.slot_dict_iter m.ty F.entry_dict_iter ?_ (F.args_dict_iter_1 _))
 unfold Builtin.«dict.__iter__» Builtin.Dict.dictSlotNone
 refine wpAny_bind (wpAny_bind (wpAny_notOrdered_dict m.ty ?_))
 refine (show wpAny _ _ (pure (Value.ref d)) _ _ s from wpAny_pure (show wpAny _ _ (Builtin.Dict.showsAll d >>= _) _ _ s from ?_))
 unfold Builtin.Dict.showsAll
 rw [if_neg (show ¬ (d == sysModules) = true by rw [nd]; decide)]
 refine wpAny_bind (wpAny_pure (wpAny_bind (wpAny_dictEntries g dt (wpAny_bind (wpAny_dictEpoch g dt (wpAny_bind (wpAny_newObj_type (wpAny_pure ⟨_, rfl, "dict_keyiterator", _, ⟨_, Heap.get?_push_size _ rfl, rfl⟩, F.slot_dict_keyiterator_next.lookup, ?_⟩))))))))
 simpa [rawInt] using fin
theorem nextT {e : DictEntry} {Q : Option Value -> Shared -> Prop} (k : s.heap.IsKeyIter it d i es.size ep) (m : DE s.heap d es ep) (ge : es[i]? = some e)
  (fin : ∀ h', h'.IsKeyIter it d (i + 1) es.size ep -> Heap.SameBut it s.heap h' -> Q (some e.key) { s with heap := h' }) : wpAny (model prog w) A (pyNext (.ref it)) Q E s := by
 obtain ⟨oi, gi, ci, di⟩ := id k
 obtain ⟨ob, g, x, dt⟩ := id m
 have ty := k.typeIs
 unfold pyNext
 refine wpAny_bind (wpAny_attempt (wpAny_callSpecial?_slot (name := Str.ofString "__next__") ty F.slot_dict_keyiterator_next (wpAny_call_entry F.slot_dict_keyiterator_next ty F.entry_dict_keyiterator_next ?_ (F.args_dict_keyiterator_next_1 _))))
 refine wpAny_bind (wpAny_pure (wpAny_bind (wpAny_bind ?_)))
 first | refine wpAny_bind (wpAny_typeNameOfWhole_keyiter ty (wpAny_pure (wpAny_bind (wpAny_fieldsOf gi di ?_)))) | refine wpAny_bind (wpAny_typeNameOf_keyiter ty (wpAny_pure (wpAny_bind (wpAny_fieldsOf gi di ?_))))
 simp only [show Builtin.Dict_items.ownsTuple "dict_keyiterator" = false by decide, Bool.false_eq_true, if_false]
 refine (show wpAny _ _ (if (Value.ref d == Value.none) = true then _ else _) _ _ s from ?_)
 rw [if_neg (show ¬ ((Value.ref d == Value.none) = true) by exact Bool.false_ne_true)]
 refine wpAny_bind (wpAny_pure (wpAny_bind (wpAny_dictEntries g dt ?_)))
 rw [if_neg (show ¬ _ by simp)]
 refine wpAny_bind (wpAny_pure (wpAny_bind (wpAny_dictEpoch g dt ?_)))
 rw [if_neg (show ¬ _ by simp)]
 refine wpAny_pure ?_
 simp only [show ¬ ((i : Int) < 0) by omega, if_false, Int.toNat_natCast, ge]
 refine wpAny_bind ?_
 first | refine wpAny_bind (wpAny_typeNameOfWhole_keyiter ty (wpAny_pure (wpAny_bind (wpAny_isOneOf_keyiter ty ?_)))) | refine wpAny_bind (wpAny_typeNameOf_keyiter ty (wpAny_pure (wpAny_bind (wpAny_isOneOf_keyiter ty ?_))))
 refine (show wpAny _ _ (setField (.ref it) 1 (rawInt ((i : Int) + 1)) >>= _) _ _ s from wpAny_bind (wpAny_setField gi di (by simp) ?_))
 have k' : (s.heap.update it (Obj.mapFields (·.setIfInBounds 1 (rawInt ((i : Int) + 1))))).IsKeyIter it d (i + 1) es.size ep :=
  ⟨_, Heap.get?_update_self _ gi (Obj.isFreed_of_fields (Obj.data_mapFields di _)), (Obj.cls_mapFields ..).trans ci, by rw [Obj.data_mapFields di]; simp [rawInt]⟩
 refine wpAny_bind (wpAny_holding (wpAny_bind (wpAny_isOneOf_keyiter (s := { s with heap := s.heap.update it (Obj.mapFields (·.setIfInBounds 1 (rawInt ((i : Int) + 1)))) }) k'.typeIs ?_)))
 exact (show wpAny _ _ (pure e.key) _ _ _ from wpAny_pure (wpAny_pure ⟨_, rfl, wpAny_pure (fin _ k' (Heap.SameBut.update ..))⟩))
theorem lastT {Q : Option Value -> Shared -> Prop} (hh : A.handled = none) (k : s.heap.IsKeyIter it d es.size es.size ep) (m : DE s.heap d es ep)
  (fin : ∀ h', Heap.ExtBut it s.heap h' -> Q none { s with heap := h' }) : wpAny (model prog w) A (pyNext (.ref it)) Q E s := by
 obtain ⟨oi, gi, ci, di⟩ := id k
 obtain ⟨ob, g, x, dt⟩ := id m
 have ty := k.typeIs
 unfold pyNext
 refine wpAny_bind (wpAny_attempt (wpAny_callSpecial?_slot (name := Str.ofString "__next__") ty F.slot_dict_keyiterator_next (wpAny_call_entry F.slot_dict_keyiterator_next ty F.entry_dict_keyiterator_next ?_ (F.args_dict_keyiterator_next_1 _))))
 refine wpAny_bind (wpAny_pure (wpAny_bind (wpAny_bind ?_)))
 first | refine wpAny_bind (wpAny_typeNameOfWhole_keyiter ty (wpAny_pure (wpAny_bind (wpAny_fieldsOf gi di ?_)))) | refine wpAny_bind (wpAny_typeNameOf_keyiter ty (wpAny_pure (wpAny_bind (wpAny_fieldsOf gi di ?_))))
 simp only [show Builtin.Dict_items.ownsTuple "dict_keyiterator" = false by decide, Bool.false_eq_true, if_false]
 refine (show wpAny _ _ (if (Value.ref d == Value.none) = true then _ else _) _ _ s from ?_)
 rw [if_neg (show ¬ ((Value.ref d == Value.none) = true) by exact Bool.false_ne_true)]
 refine wpAny_bind (wpAny_pure (wpAny_bind (wpAny_dictEntries g dt ?_)))
 rw [if_neg (show ¬ _ by simp)]
 refine wpAny_bind (wpAny_pure (wpAny_bind (wpAny_dictEpoch g dt ?_)))
 rw [if_neg (show ¬ _ by simp)]
 refine wpAny_pure ?_
 simp only [show ¬ ((es.size : Int) < 0) by omega, if_false, Int.toNat_natCast, Array.getElem?_eq_none (Nat.le_refl es.size)]
 refine wpAny_bind ?_
 first | refine wpAny_bind (wpAny_typeNameOfWhole_keyiter ty (wpAny_pure ?_)) | refine wpAny_bind (wpAny_typeNameOf_keyiter ty (wpAny_pure ?_))
 refine (show wpAny _ _ (setField (.ref it) 0 .none >>= _) _ _ s from wpAny_bind (wpAny_setField gi di (by simp) ?_))
 refine (show wpAny _ _ (newExc (.type "StopIteration") [] >>= _) _ _ _ from wpAny_bind ?_)
 simp only [newExc, newTuple]
 refine wpAny_bind (wpAny_newObj_type (wpAny_bind (m := firstArgMember _ _) (wpAny_of_eq (a := Value.none) (by first | rfl | (simp only [firstArgMember]; rfl)) (wpAny_newObj_type ?_ (by size_fits)))) (by size_fits))
 simp only [raiseNew]
 refine wpAny_bind (wpAny_handled ?_)
 rw [show A.in1.handled = none by exact hh]
 refine wpAny_bind (wpAny_pure (wpAny_throw (wpAny_bind ?_)))
 exact wpAny_isInstance (T := "StopIteration") (b := true) ⟨_, Heap.get?_push_size _ rfl, rfl⟩ isSubtype_stop (wpAny_pure (fin _ (((Heap.SameBut.update ..).extBut.push _).push _)))
theorem walksT (hh : A.handled = none) (I d : Addr) (ne : d ≠ I) (es : Array DictEntry) (ep : Nat) : Walks prog w A I [I, d] [I] es.size (fun i v => ∃ e, es[i]? = some e /\ v = e.key) (fun i h => h.IsKeyIter I d i es.size ep /\ DE h d es ep) where
 sub := fun b z => by simp at z; simp [z]
 frame := fun _ _ _ q z => ⟨q.1.at fun o e => z I (by simp) o e, q.2.at fun o e => z d (by simp) o e⟩
 item := fun i s Q E hi q fin => by
  refine nextT q.1 q.2 (Array.getElem?_eq_getElem hi) fun h' k' sb => fin _ h' s.toks ⟨_, Array.getElem?_eq_getElem hi, rfl⟩ ⟨k', q.2.at fun o e => sb.extBut d o ne e⟩ fun b o hb e => sb.extBut b o (fun z => hb (by simp [z])) e
 done := fun s Q E q fin => lastT hh q.1 q.2 fun h' eb => fin h' s.toks fun b o hb e => eb b o (fun z => hb (by simp [z])) e
 self := fun _ _ _ _ q fin => wpAny_pyIter_keyiter q.1 fin
end
end HK
namespace HK
open PySem PySem.Spec PyProof.Rows L2 HT2
section
variable {prog : Program} {w : World} {A : Around} {E : Value -> Shared -> Prop} {s : Shared}
theorem keys_of {es : Array DictEntry} {vs : List Value} (hl : vs.length = es.size) (h : ∀ (i : Nat) v, vs[i]? = some v -> ∃ e, es[i]? = some e /\ v = e.key) : vs = es.toList.map (·.key) := by
 refine List.ext_getElem (by simpa using hl) fun i h1 h2 => ?_
 obtain ⟨e, g, q⟩ := h i vs[i] (List.getElem?_eq_getElem h1)
 have hi : i < es.size := by simpa using h2
 rw [Array.getElem?_eq_getElem hi] at g
 cases g
 rw [q]; simp
theorem collectT {a : Addr} {es : Array DictEntry} {ep : Nat} {Q : List Value -> Shared -> Prop} (hh : A.handled = none) (hd : (a == sysModules) = false) (hm : DE s.heap a es ep) (hz : es.size <= sizeLine)
  (h : ∀ (h' : Heap) (tk : Nat), (∀ b o, s.heap.get? b = some o -> h'.get? b = some o) -> s.toks <= tk -> s.heap.objs.size <= h'.objs.size -> Q (es.toList.map (·.key)) { s with heap := h', toks := tk }) :
  wpAny (model prog w) A (collect (.ref a)) Q E s := by
 obtain ⟨o, ho, hx, hdat⟩ := id hm
 have hlt := Heap.lt_size ho
 unfold collect
 refine wpAny_bind (wpAny_runValue (codeAny_builtin F.entry_proto_collect ?_))
 rw [Around.under_plainId F.plain_proto_collect _]
 refine (show wpAny _ A.in1 (newList [] >>= fun l => again (.builtin "list.__iadd__" ⟨[l, .ref a], []⟩)) _ _ s from wpAny_bind (wpAny_newObj_type ?_))
 refine wpAny_pure ⟨plainId_quiet F.plain_list_iadd _, codeAny_builtin F.entry_list_iadd ?_⟩
 rw [Around.under_plainId F.plain_list_iadd _]
 refine (show wpAny _ A.in1 (Builtin.List.listExtendWith (.ref s.heap.objs.size) (.ref a) (.ref s.heap.objs.size)) _ _ _ from ?_)
 unfold Builtin.List.listExtendWith
 have hm1 : DE (s.heap.push { cls := .type "list", data := .seq ([] : List Value).toArray }) a es ep := hm.at fun _ e => Heap.get?_push_of_some _ e
 have hT : Shared.TypeIs { s with heap := s.heap.push { cls := .type "list", data := .seq ([] : List Value).toArray } } (.ref a) "dict" := DE.ty (s := { s with heap := s.heap.push { cls := .type "list", data := .seq ([] : List Value).toArray } }) hm1
 refine wpAny_bind (wpAny_typeOf hT ?_)
 have h1 : Builtin.List.listSameRef (.ref s.heap.objs.size) (.ref a) = false := by simp [Builtin.List.listSameRef, Nat.ne_of_gt hlt]
 simp only [h1, show (Value.type "dict" == Value.type "list") = false by decide, show (Value.type "dict" == Value.type "tuple") = false by decide, Bool.or_false, Bool.false_eq_true, if_false]
 refine wpAny_bind (iterT hd hm1 ?_)
 have hsz : (s.heap.push { cls := .type "list", data := .seq ([] : List Value).toArray }).objs.size = s.heap.objs.size + 1 := Heap.size_push ..
 generalize hI : (s.heap.push { cls := .type "list", data := .seq ([] : List Value).toArray }).objs.size = I at *
 have kp : ∀ b o, (s.heap.push { cls := .type "list", data := .seq ([] : List Value).toArray }).get? b = some o -> ((s.heap.push { cls := .type "list", data := .seq ([] : List Value).toArray }).push { cls := .type "dict_keyiterator", data := .fields #[.ref a, .int 0 0, .int es.size 0, .int ep 0] }).get? b = some o := fun b o e => Heap.get?_push_of_some _ e
 generalize hh1 : (s.heap.push { cls := .type "list", data := .seq ([] : List Value).toArray }).push { cls := .type "dict_keyiterator", data := .fields #[.ref a, .int 0 0, .int es.size 0, .int ep 0] } = h1 at *
 have hIt : h1.IsKeyIter I a 0 es.size ep := ⟨_, by rw [← hh1, ← hI]; exact Heap.get?_push_size _ rfl, rfl, rfl⟩
 have hma : DE h1 a es ep := hm1.at fun o e => kp _ o e
 have hTa : Shared.TypeIs { s with heap := h1 } (.ref a) "dict" := DE.ty (s := { s with heap := h1 }) hma
 refine wpAny_bind (wpAny_holding (HS.hint_dict hTa ?_))
 refine (show wpAny _ A.in1 (rule "list.extend.makes-room" >>= fun _ => Builtin.List.listTouch (.ref s.heap.objs.size) >>= fun _ =>
  again (.builtin "list.extend.loop" ⟨[.ref s.heap.objs.size, .ref I, .ref s.heap.objs.size], []⟩)) _ _ _ from wpAny_bind (wpAny_rule (wpAny_bind ?_)))
 have hL : h1.get? s.heap.objs.size = some { cls := .type "list", data := .seq ([] : List Value).toArray } := kp _ _ (Heap.get?_push_size _ rfl)
 have hSf : s.heap.objs.size ∉ [I, a] := fun hm => by
  simp only [List.mem_cons, List.not_mem_nil, or_false] at hm
  rcases hm with e | e
  ·rw [hsz] at e; omega
  ·exact Nat.lt_irrefl _ (e ▸ hlt)
 refine (show wpAny _ A.in1 (updateSeq s.heap.objs.size (·.push .none) >>= fun _ => updateSeq s.heap.objs.size (·.pop)) _ _ _ from wpAny_bind (wpAny_updateSeq hL rfl ?_))
 have hL2 := Heap.get?_update_self (Obj.mapSeq (·.push Value.none)) hL rfl
 refine wpAny_updateSeq (s := { s with heap := _ }) hL2 rfl ?_
 have hL3 := Heap.get?_update_self (Obj.mapSeq (·.pop)) hL2 rfl
 have oth : ∀ b o, b ≠ s.heap.objs.size -> h1.get? b = some o -> ((h1.update s.heap.objs.size (Obj.mapSeq (·.push Value.none))).update s.heap.objs.size (Obj.mapSeq (·.pop))).get? b = some o :=
  fun b o hb e => (Heap.get?_update_other _ _ (Ne.symm hb)).trans ((Heap.get?_update_other _ _ (Ne.symm hb)).trans e)
 have W1 := walksT (prog := prog) (w := w) (A := A.in1) (show A.in1.handled = none from hh) I a (by rw [hsz]; exact Nat.ne_of_lt (Nat.lt_succ_of_lt hlt)) es ep
 refine wpAny_pure ⟨plainId_quiet F.plain_extend_loop _, codeAny_extend_loopS W1.toS hz _ hSf _ es.size 0 _ _ _ rfl (Nat.zero_le _)
  (W1.frame 0 h1 _ ⟨hIt, hma⟩ fun b hb o e => oth b o (fun q => hSf (q ▸ hb)) e) hL3 (ItemsOf.nil _) fun s' acc c hm' hS' hacc => ?_⟩
 refine (show wpAny _ A (load s.heap.objs.size >>= _) _ _ s' from wpAny_bind (wpAny_load hS' ?_))
 dsimp only
 obtain ⟨h', g', d', tk', os'⟩ := s'
 have eg : g' = s.gens := hm'.gens
 have ed : d' = s.drawn := hm'.drawn
 have eo : os' = s.os := hm'.os
 subst eg; subst ed; subst eo
 refine wpAny_pure ?_
 have hk : acc.toList = es.toList.map (·.key) := keys_of (by rw [← hacc.1]; simp) fun i v hv => hacc.2 i v (by simpa using hv)
 rw [hk]
 refine h h' tk' (fun b o e => hm'.heap b o (fun hb => ?_) (oth b o (fun q => ?_) (kp _ _ (Heap.get?_push_of_some _ e)))) hm'.toks (Nat.le_of_lt (Heap.lt_size hS'))
 ·have hb1 := Heap.lt_size e
  simp only [List.mem_cons, List.not_mem_nil, or_false] at hb
  rcases hb with q | q
  ·exact Nat.lt_irrefl _ (q ▸ hb1)
  ·rw [q, hsz] at hb1; exact absurd hb1 (Nat.not_lt.mpr (Nat.le_succ _))
 ·exact Nat.lt_irrefl _ (q ▸ Heap.lt_size e)
theorem sortedT {a : Addr} {es : Array DictEntry} {ep : Nat} {L : List (List Int)} {Q : Value -> Shared -> Prop} (hh : A.handled = none) (hd : (a == sysModules) = false) (hm : DE s.heap a es ep) (hT : TupsAre s.heap (es.toList.map (·.key)) L) (nd : L.Nodup) (h64 : L.length < 64) (hne : 2 <= L.length -> ∀ x ∈ L, x ≠ [])
  (h : ∀ (is : List Nat) (h' : Heap) (tk : Nat) (l : Addr) (c : Nat), (∀ i ∈ is, i < L.length) -> (is.map fun i => L.getD i []).Perm L -> (is.map fun i => L.getD i []).Pairwise (fun x y => llt x y = true) -> (∀ b o, s.heap.get? b = some o -> h'.get? b = some o) -> s.toks <= tk ->
   s.heap.objs.size <= l -> h'.get? l = some (seqObj "list" (is.map fun i => (es.toList.map (·.key)).getD i .none).toArray c) -> Q (.ref l) { s with heap := h', toks := tk }) :
  wpAny (model prog w) A (call (.builtin "sorted") [.ref a]) Q E s := by
 have hvl : (es.toList.map (·.key)).length = L.length := hT.len
 have hes : es.size = L.length := by simpa using hvl
 refine Calls.call_function_entry kind_sorted plain_sorted entry_sorted (args_sorted1 _) ?_
 unfold Builtin.«sorted»
 refine wpAny_bind (m := checkCount "sorted" 1 1 _) (wpAny_pure (wpAny_bind (collectT (show A.in1.handled = none from hh) hd hm (by rw [hes, sizeLine_eq]; omega) fun h' tk kp ht hge => ?_)))
 generalize es.toList.map (·.key) = vs at *
 refine wpAny_bind (wpAny_newList ?_ (by rw [hvl, sizeLine_eq]; omega))
 have hoL : (h'.push (seqObj "list" vs.toArray 0)).get? h'.objs.size = some (seqObj "list" vs.toArray 0) := Heap.get?_push_size _ rfl
 have hT2 : TupsAre (h'.push (seqObj "list" vs.toArray 0)) vs L := hT.keep fun b o e => Heap.get?_push_of_some _ (kp b o e)
 have hna : ∀ v ∈ vs, v ≠ .ref h'.objs.size := fun v hv e => by
  obtain ⟨i, hi, rfl⟩ := List.getElem_of_mem hv
  obtain ⟨b, o, its, n, q1, q2, _⟩ := hT.at i (by omega)
  rw [List.getD_eq_getElem?_getD, List.getElem?_eq_getElem hi] at q1
  simp only [Option.getD_some] at q1
  rw [e] at q1
  cases q1
  exact absurd (Heap.lt_size (kp _ _ q2)) (Nat.lt_irrefl _)
 refine wpAny_bind (wpAny_holding (wpAny_call_entry (s := { s with heap := h'.push (seqObj "list" vs.toArray 0), toks := tk }) slot_list_sort ⟨_, hoL, rfl⟩ entry_list_sort (sort_tups (s := { s with heap := h'.push (seqObj "list" vs.toArray 0), toks := tk }) hoL hT2 nd h64 hne hna fun out L' ⟨is, a1, a2, a3⟩ a4 a5 => ⟨_, rfl, ?_⟩) (args_list_sort _)))
 obtain ⟨c, hc⟩ : ∃ c, (sortedHeap (h'.push (seqObj "list" vs.toArray 0)) h'.objs.size vs out).get? h'.objs.size = some (seqObj "list" out c) := by
  unfold sortedHeap
  obtain ⟨e1, q1⟩ : ∃ e1, ((h'.push (seqObj "list" vs.toArray 0)).update h'.objs.size (Obj.mapSeq fun _ => #[])).get? h'.objs.size = some (seqObj "list" #[] e1) := ⟨_, get?_update_seq hoL (fun _ => #[])⟩
  exact ⟨_, get?_update_seq (Heap.get?_push_of_some _ (Heap.get?_push_of_some _ q1)) (fun _ => out)⟩
 have ho : out = (is.map fun i => vs.getD i .none).toArray := by rw [← a1]
 subst a2
 rw [ho] at hc
 refine wpAny_pure ⟨_, rfl, h is _ tk h'.objs.size c a3 a4 a5 (fun b o e => ?_) ht hge (by rw [ho]; exact hc)⟩
 have hb := kp b o e
 have ne : h'.objs.size ≠ b := Nat.ne_of_gt (Heap.lt_size hb)
 unfold sortedHeap
 rw [Heap.get?_update_other _ _ ne]
 refine Heap.get?_push_of_some _ (Heap.get?_push_of_some _ ?_)
 rw [Heap.get?_update_other _ _ ne]
 exact Heap.get?_push_of_some _ hb
end
end HK
namespace HW
open PySem PySem.Spec PyProof.Rows L2 HS HT2 HK
noncomputable def lins (k : List Int) : List (List Int) -> List (List Int)
 | [] => [k]
 | x :: l => if llt k x = true then k :: x :: l else x :: lins k l
noncomputable def lsort : List (List Int) -> List (List Int)
 | [] => []
 | k :: l => lins k (lsort l)
theorem lins_perm (k : List Int) : ∀ l, (lins k l).Perm (k :: l)
 | [] => .refl _
 | x :: l => by
  unfold lins
  split
  ·exact .refl _
  ·exact ((lins_perm k l).cons x).trans (.swap k x l)
theorem lsort_perm : ∀ l, (lsort l).Perm l
 | [] => .refl _
 | k :: l => (lins_perm k _).trans ((lsort_perm l).cons k)
abbrev LUp (l : List (List Int)) : Prop := l.Pairwise fun x y => llt x y = true
theorem lins_up {k : List Int} : ∀ {l : List (List Int)}, LUp l -> k ∉ l -> LUp (lins k l)
 | [], _, _ => by simp [lins]
 | x :: l, h, hk => by
  obtain ⟨h1, h2⟩ := List.pairwise_cons.mp h
  unfold lins
  split
  ·rename_i c
   refine List.pairwise_cons.mpr ⟨fun y hy => ?_, h⟩
   rcases List.mem_cons.mp hy with rfl | hy
   ·exact c
   ·exact llt_trans _ _ _ c (h1 y hy)
  ·rename_i c
   refine List.pairwise_cons.mpr ⟨fun y hy => ?_, lins_up h2 fun z => hk (List.mem_cons_of_mem _ z)⟩
   rcases List.mem_cons.mp ((lins_perm k l).mem_iff.mp hy) with rfl | hy
   ·rcases llt_tot x y with q | q | q
    ·exact q
    ·exact absurd List.mem_cons_self (q ▸ hk)
    ·exact absurd q c
   ·exact h1 y hy
theorem lsort_up : ∀ {l : List (List Int)}, l.Nodup -> LUp (lsort l)
 | [], _ => .nil
 | k :: l, h => by
  obtain ⟨h1, h2⟩ := List.nodup_cons.mp h
  exact lins_up (lsort_up h2) fun z => h1 ((lsort_perm l).mem_iff.mp z)
theorem lup_one : ∀ {a b : List (List Int)}, LUp a -> LUp b -> a.Perm b -> a = b
 | [], b, _, _, p => by rw [List.nil_perm.mp p]
 | x :: a, [], _, _, p => by simpa using p.length_eq
 | x :: a, y :: b, ha, hb, p => by
  obtain ⟨a1, a2⟩ := List.pairwise_cons.mp ha
  obtain ⟨b1, b2⟩ := List.pairwise_cons.mp hb
  have e : x = y := by
   rcases List.mem_cons.mp (p.mem_iff.mp List.mem_cons_self) with h | h
   ·exact h
   ·rcases List.mem_cons.mp (p.mem_iff.mpr List.mem_cons_self) with h' | h'
    ·exact h'.symm
    ·have q := llt_trans _ _ _ (b1 x h) (a1 y h')
     rw [llt_irr] at q; cases q
  subst e
  rw [lup_one a2 b2 ((List.perm_cons x).mp p)]
noncomputable def keyD : List R -> Store -> Option (R × Store)
 | [x], μ => (lstD x μ).bind fun xs => (intsD xs).bind fun ns => some (.v (.key ns), μ)
 | _, _ => none
theorem intsK {K : PySem.W.Frag} {H : Hp} : ∀ {xs : List D} {ns : List Int} {vs : List V}, intsD xs = some ns -> RelDs K H xs vs -> vs = ns.map V.int
 | [], ns, vs, e, r => by cases e; exact r
 | .int n :: xs, ns, vs, e, r => by
  simp only [intsD] at e
  obtain ⟨ms, e1, rfl⟩ := Option.map_eq_some_iff.mp e
  obtain ⟨v, r', rfl, h1, h2⟩ := r
  simp only [RelD] at h1
  subst h1
  rw [intsK e1 h2]; rfl
 | .non :: _, _, _, e, _ => by cases e
 | .bl _ :: _, _, _, e, _ => by cases e
 | .str _ :: _, _, _, e, _ => by cases e
 | .tup _ :: _, _, _, e, _ => by cases e
 | .fl _ :: _, _, _, e, _ => by cases e
 | .fd _ _ :: _, _, _, e, _ => by cases e
 | .key _ :: _, _, _, e, _ => by cases e
theorem g_key {K : PySem.W.Frag} : GAr K keyD (rTup K) := by
 intro m H μ xs d μ' vs Q s r e k
 unfold keyD at e
 split at e
 ·rename_i x
  obtain ⟨ys, e1, e⟩ := Option.bind_eq_some_iff.mp e
  obtain ⟨ns, e2, e⟩ := Option.bind_eq_some_iff.mp e
  cases e
  obtain ⟨v, rfl, r1⟩ := rel1 r
  obtain ⟨a, ws, rfl, q, r⟩ := lst_ok s r1 e1
  refine ⟨a, ws, rfl, .inl ⟨q, fun p hp => ?_⟩⟩
  obtain ⟨x1, x2, x3⟩ := new_tup s r hp
  refine k _ _ _ x1 x2 ?_
  simp only [RelR, RelD]
  exact ⟨p, rfl, by rw [upd_at, intsK e2 r]⟩
 ·cases e
noncomputable def fUnk (f : FE) : FE := fun ρ μ => (f ρ μ).bind fun a => match a.1 with | .v (.key ks) => some (.v (.tup (ks.map D.int)), a.2) | _ => none
theorem rels_ints {K : PySem.W.Frag} {H : Hp} : ∀ (ns : List Int), RelDs K H (ns.map D.int) (ns.map V.int)
 | [] => rfl
 | n :: ns => ⟨_, _, rfl, by simp only [RelD], rels_ints ns⟩
theorem rd_unk {K : PySem.W.Frag} {σ : L2.St} {H : Hp} {Q : VK} {f} (h : rdE K (fUnk f) σ H Q) : rdE K f σ H Q := by
 obtain ⟨ρ, μ, m, d, μ', hl, hs, e, k⟩ := h
 obtain ⟨⟨x, μ1⟩, e1, e⟩ := Option.bind_eq_some_iff.mp e
 dsimp only at e
 split at e
 ·rename_i ks
  cases e
  refine ⟨ρ, μ, m, _, _, hl, hs, e1, fun v H' m' x1 s1 r1 => k v H' m' x1 s1 ?_⟩
  simp only [RelR, RelD] at r1 ⊢
  obtain ⟨a, rfl, q⟩ := r1
  exact ⟨a, _, rfl, .inl (.inl q), rels_ints ks⟩
 ·cases e
noncomputable abbrev kk (k : List Int) : List Key := k.map Sum.inl
theorem kk_inj {a b : List Int} (h : kk a = kk b) : a = b := by
 induction a generalizing b with
 | nil => cases b with
  | nil => rfl
  | cons y b => cases h
 | cons x a ih => cases b with
  | nil => cases h
  | cons y b =>
   simp only [kk, List.map_cons, List.cons.injEq, Sum.inl.injEq] at h
   rw [h.1, ih h.2]
theorem kk_V (k : List Int) : (kk k).map kV = k.map V.int := by
 rw [List.map_map]; rfl
def KTD (K : PySem.W.Frag) (H : Hp) (kvs : List (List Int × D)) (es : List (List Key × V)) : Prop := es.map (·.1) = kvs.map (fun p => kk p.1) /\ RelDs K H (kvs.map (·.2)) (es.map (·.2))
noncomputable def fDnT : FE := fun _ μ => some (.p μ.length, μ ++ [.dt []])
theorem rd_dnT {K : PySem.W.Frag} {σ : L2.St} {H : Hp} {Q : VK} (h : rdE K fDnT σ H Q) : tDNewT σ H Q := by
 obtain ⟨ρ, μ, m, d, μ', hl, hs, e, k⟩ := h
 cases e
 intro p hp
 refine k _ _ (m ++ [p]) (.newH hp) (hs.newH hp ⟨[], upd_at, rfl, rfl⟩) ⟨p, rfl, ?_⟩
 rw [← hs.len]; simp
noncomputable def valT (kvs : List (List Int × D)) (k : List Int) : Option D := (kvs.find? fun p => decide (p.1 = k)).map (·.2)
noncomputable def putT (kvs : List (List Int × D)) (k : List Int) (d : D) : List (List Int × D) :=
 if (kvs.any fun p => decide (p.1 = k)) = true then kvs.map (fun p => if p.1 = k then (p.1, d) else p) else kvs ++ [(k, d)]
theorem KTD.val {K : PySem.W.Frag} {H : Hp} (k : List Int) : ∀ {kvs : List (List Int × D)} {es : List (List Key × V)}, KTD K H kvs es -> (valT kvs k = none /\ valV es (kk k) = none) \/ ∃ d v, valT kvs k = some d /\ valV es (kk k) = some v /\ RelD K H d v
 | [], [], _ => .inl ⟨rfl, rfl⟩
 | [], _ :: _, h => by have := h.1; simp at this
 | _ :: _, [], h => by have := h.1; simp at this
 | p :: kvs, e :: es, ⟨h1, h2⟩ => by
  simp only [List.map_cons, List.cons.injEq] at h1
  obtain ⟨v, r, q, r1, r2⟩ := h2
  simp only [List.map_cons, List.cons.injEq] at q
  obtain ⟨q1, q2⟩ := q
  by_cases c : p.1 = k
  ·refine .inr ⟨p.2, e.2, ?_, ?_, by rw [q1]; exact r1⟩
   ·unfold valT; rw [List.find?_cons_of_pos (by simpa using c)]; rfl
   ·exact valV_pos (by rw [h1.1, c])
  ·have ih := KTD.val k (kvs := kvs) (es := es) ⟨h1.2, by rw [q2]; exact r2⟩
   have n1 : valT (p :: kvs) k = valT kvs k := by unfold valT; rw [List.find?_cons_of_neg (by simpa using c)]
   have n2 : valV (e :: es) (kk k) = valV es (kk k) := valV_neg fun z => c (kk_inj (h1.1.symm.trans z))
   rw [n1, n2]; exact ih
theorem KTD.any {K : PySem.W.Frag} {H : Hp} {kvs : List (List Int × D)} {es : List (List Key × V)} (r : KTD K H kvs es) (k : List Int) : (es.any fun e => decide (e.1 = kk k)) = (kvs.any fun p => decide (p.1 = k)) := by
 have h1 : (es.any fun e => decide (e.1 = kk k)) = ((es.map (·.1)).any fun x => decide (x = kk k)) := by rw [List.any_map]; rfl
 rw [h1, r.1, List.any_map]
 congr 1
 funext p
 simp only [Function.comp]
 by_cases c : p.1 = k
 ·rw [decide_eq_true c, decide_eq_true (by rw [c])]
 ·rw [decide_eq_false c, decide_eq_false fun z => c (kk_inj z)]
theorem KTD.cons {K : PySem.W.Frag} {H : Hp} {k : List Int} {k' : List Key} {d : D} {v : V} {kvs : List (List Int × D)} {es : List (List Key × V)} : KTD K H ((k, d) :: kvs) ((k', v) :: es) ↔ k' = kk k /\ RelD K H d v /\ KTD K H kvs es := by
 constructor
 ·rintro ⟨h1, h2⟩
  simp only [List.map_cons, List.cons.injEq] at h1
  obtain ⟨w, r, e, h3, h4⟩ := h2
  simp only [List.map_cons, List.cons.injEq] at e
  obtain ⟨rfl, rfl⟩ := e
  exact ⟨h1.1, h3, h1.2, h4⟩
 ·rintro ⟨rfl, h1, h2, h3⟩
  exact ⟨by rw [List.map_cons, List.map_cons, h2], ⟨_, _, rfl, h1, h3⟩⟩
theorem KTD.repl {K : PySem.W.Frag} {H : Hp} {k : List Int} {d : D} {v : V} (rd : RelD K H d v) : ∀ {kvs : List (List Int × D)} {es : List (List Key × V)}, KTD K H kvs es -> KTD K H (kvs.map fun p => if p.1 = k then (p.1, d) else p) (es.map fun e => if e.1 = kk k then (e.1, v) else e)
 | [], [], _ => ⟨rfl, rfl⟩
 | [], _ :: _, h => by have := h.1; simp at this
 | _ :: _, [], h => by have := h.1; simp at this
 | (p, x) :: kvs, (e, y) :: es, h => by
  obtain ⟨rfl, h2, h3⟩ := KTD.cons.mp h
  have ih := KTD.repl (k := k) rd h3
  rw [List.map_cons, List.map_cons]
  by_cases c : p = k
  ·have c' : kk p = kk k := by rw [c]
   rw [if_pos c, if_pos c']; exact KTD.cons.mpr ⟨rfl, rd, ih⟩
  ·have c' : ¬ kk p = kk k := fun z => c (kk_inj z)
   rw [if_neg c, if_neg c']; exact KTD.cons.mpr ⟨rfl, h2, ih⟩
theorem KTD.snoc {K : PySem.W.Frag} {H : Hp} {k : List Int} {d : D} {v : V} (rd : RelD K H d v) {kvs : List (List Int × D)} {es : List (List Key × V)} (h : KTD K H kvs es) : KTD K H (kvs ++ [(k, d)]) (es ++ [(kk k, v)]) := by
 refine ⟨by simp [h.1], ?_⟩
 rw [List.map_append, List.map_append]
 exact RelDs.append h.2 ⟨_, _, rfl, rd, rfl⟩
theorem KTD.put {K : PySem.W.Frag} {H : Hp} {k : List Int} {d : D} {v : V} {kvs : List (List Int × D)} {es : List (List Key × V)} (r : KTD K H kvs es) (rd : RelD K H d v) : KTD K H (putT kvs k d) (putK es (kk k) v) := by
 unfold putT putK
 rw [r.any k]
 split
 ·exact r.repl rd
 ·exact r.snoc rd
end HW
namespace HW
open PySem PySem.Spec PyProof.Rows L2 HS HT2 HK
def rSetT : V -> V -> V -> Hp -> (Hp -> Prop) -> Prop := fun o i v H Q => ∃ p kvs k b, o = .ref p /\ i = .ref b /\ H p = some (.dT kvs) /\ H b = some (.tup (k.map kV)) /\ kvs.length < sizeLine /\ Q (upd H p (.dT (putK kvs k v)))
theorem set_dictT {X : Cx} (hu : X.A.units + 1 < cLine) : PSet X rSetT := by
 intro pins s σ H o i v ov iv u Q I ro ri rv h
 obtain ⟨p, kvs, k, b, rfl, rfl, hp, hb, hl, q⟩ := h
 cases ro
 exact d_setItem hu I (DPut.t hp hb hl) ri rv fun s' I' => ⟨_, I', q⟩
noncomputable def dtOf (μ : Store) (n : Nat) : Option (List (List Int × D)) := match μ[n]? with | some (.dt kvs) => some kvs | _ => none
theorem dt_ok {K : PySem.W.Frag} {m : List Addr} {H : Hp} {μ : Store} {n : Nat} {a : Addr} {kvs : List (List Int × D)} (s : SRel K m H μ) (ha : m[n]? = some a) (e : dtOf μ n = some kvs) : ∃ es, H a = some (.dT es) /\ KTD K H kvs es := by
 unfold dtOf at e
 split at e
 ·rename_i q
  cases e
  obtain ⟨es, ea, e1, e2⟩ := s.cell _ _ a q ha
  exact ⟨es, ea, e1, e2⟩
 ·cases e
noncomputable def gSubT (fo fi : FE) : FG := fun d ρ μ => match d with
 | .v dv => (fo ρ μ).bind fun o => (fi ρ o.2).bind fun i => match o.1, i.1 with
  | .p n, .v (.key ks) => (dtOf i.2 n).bind fun kvs => if kvs.length < 1000 then some (ρ, i.2.set n (.dt (putT kvs ks dv))) else none
  | _, _ => none
 | _ => none
theorem rd_gSubT {K : PySem.W.Frag} {fo fi : FE} {v : V} {σ : L2.St} {H : Hp} {Q : L2.St -> Hp -> Prop} (h : rdG K (gSubT fo fi) v σ H Q) : L2.gSub (rdE K fo) (rdE K fi) rSetT v σ H Q := by
 obtain ⟨ρ, μ, m, d, ρ', μ', hl, hs, r, e, k⟩ := h
 unfold gSubT at e
 split at e
 ·rename_i dv
  obtain ⟨⟨o, μ1⟩, e1, e⟩ := Option.bind_eq_some_iff.mp e
  obtain ⟨⟨i, μ2⟩, e2, e⟩ := Option.bind_eq_some_iff.mp e
  dsimp only at e
  split at e
  ·rename_i n ks e0
   obtain ⟨kvs, e3, e⟩ := Option.bind_eq_some_iff.mp e
   split at e
   ·rename_i h1000
    cases e
    refine ⟨ρ, μ, m, _, μ1, hl, hs, e1, fun vo H1 m1 x1 s1 r1 => ?_⟩
    refine ⟨ρ, μ1, m1, _, μ2, hl.ext x1, s1, e2, fun vi H2 m2 x2 s2 r2 => ?_⟩
    obtain ⟨a, rfl, ha⟩ := r1.ext x2
    simp only [RelR, RelD] at r2
    obtain ⟨b, rfl, hb⟩ := r2
    obtain ⟨es, ea, kd⟩ := dt_ok s2 ha e3
    have rv : RelD K H2 dv v := RelD.tf (x1.tf.trans x2.tf) _ _ r
    have kd' := kd.put (k := ks) rv
    have x : Ext m2 H2 m2 (upd H2 a (.dT (putK es (kk ks) v))) := .put (List.mem_of_getElem? ha) ea (by simp) (by simp)
    have s3 := s2.put (c := .dt (putT kvs ks dv)) ha ea (by simp) (by simp) ⟨_, upd_at, kd'.1, RelDs.tf x.tf _ _ kd'.2⟩
    refine ⟨a, es, kk ks, b, rfl, rfl, ea, by rw [kk_V]; exact hb, ?_, k σ _ m2 ((x1.trans x2).trans x) s3 (hl.ext ((x1.trans x2).trans x))⟩
    have := congrArg List.length kd.1
    simp only [List.length_map] at this
    rw [this, sizeLine_eq]; omega
   ·cases e
  ·cases e
 ·cases e
noncomputable def fTIx (fo fk : FE) : FE := fun ρ μ => (fo ρ μ).bind fun o => (fk ρ o.2).bind fun k => match o.1, k.1 with
 | .p n, .v (.key ks) => (dtOf k.2 n).bind fun kvs => (valT kvs ks).bind fun d => some (.v d, k.2)
 | _, _ => none
theorem rd_tix {K : PySem.W.Frag} {σ : L2.St} {H : Hp} {Q : VK} {fo fk} (h : rdE K (fTIx fo fk) σ H Q) : tDGet (rdE K fo) (rdE K fk) σ H Q := by
 obtain ⟨ρ, μ, m, d, μ', hl, hs, e, kk'⟩ := h
 obtain ⟨⟨o, μ1⟩, e1, e⟩ := Option.bind_eq_some_iff.mp e
 obtain ⟨⟨k, μ2⟩, e2, e⟩ := Option.bind_eq_some_iff.mp e
 dsimp only at e
 split at e
 ·rename_i n ks e0
  obtain ⟨kvs, e3, e⟩ := Option.bind_eq_some_iff.mp e
  obtain ⟨dd, e4, e⟩ := Option.bind_eq_some_iff.mp e
  cases e
  refine ⟨ρ, μ, m, _, μ1, hl, hs, e1, fun vo H1 m1 x1 s1 r1 => ?_⟩
  refine ⟨ρ, μ1, m1, _, _, hl.ext x1, s1, e2, fun vk H2 m2 x2 s2 r2 => ?_⟩
  obtain ⟨a, rfl, ha⟩ := r1.ext x2
  simp only [RelR, RelD] at r2
  obtain ⟨b, rfl, hb⟩ := r2
  obtain ⟨es, ea, kd⟩ := dt_ok s2 ha e3
  rcases kd.val ks with ⟨n1, n2⟩ | ⟨d', v', n1, n2, n3⟩
  ·rw [n1] at e4; cases e4
  ·rw [n1] at e4; cases e4
   exact ⟨a, v', rfl, .inr ⟨es, kk ks, b, .inl ea, rfl, by rw [kk_V]; exact hb, n2.symm⟩, kk' _ H2 m2 (x1.trans x2) s2 (by simpa only [RelR] using n3)⟩
 ·cases e
def PairA (H : Hp) : List Addr -> List (List Int) -> Prop
 | [], [] => True
 | a :: as, k :: ks => H a = some (.tup (k.map V.int)) /\ PairA H as ks
 | _, _ => False
theorem PairA.at {H : Hp} : ∀ {as : List Addr} {ks : List (List Int)}, PairA H as ks -> ∀ i, i < ks.length -> H (as.getD i 0) = some (.tup ((ks.getD i []).map V.int))
 | [], [], _, i, hi => by simp at hi
 | [], _ :: _, h, _, _ => h.elim
 | _ :: _, [], h, _, _ => h.elim
 | _ :: _, _ :: _, h, 0, _ => h.1
 | _ :: _, _ :: _, h, i + 1, hi => PairA.at h.2 i (by simpa using hi)
theorem PairA.pick {H : Hp} {as : List Addr} {ks : List (List Int)} (h : PairA H as ks) : ∀ (is : List Nat), (∀ i ∈ is, i < ks.length) -> PairA H (is.map fun i => as.getD i 0) (is.map fun i => ks.getD i [])
 | [], _ => trivial
 | i :: is, hi => ⟨h.at i (hi i List.mem_cons_self), PairA.pick h is fun j hj => hi j (List.mem_cons_of_mem _ hj)⟩
theorem PairA.rels {K : PySem.W.Frag} {H : Hp} : ∀ {as : List Addr} {ks : List (List Int)}, PairA H as ks -> RelDs K H (ks.map D.key) (as.map V.ref)
 | [], [], _ => rfl
 | [], _ :: _, h => h.elim
 | _ :: _, [], h => h.elim
 | _ :: _, _ :: _, h => ⟨_, _, rfl, by simp only [RelD]; exact ⟨_, rfl, h.1⟩, PairA.rels h.2⟩
def rSortedT : List V -> Hp -> VK -> Prop := fun vs H Q => ∃ p kvs L, vs = [.ref p] /\ H p = some (.dT kvs) /\ kvs.map (·.1) = L.map kk /\ L.length < 64 /\ (2 <= L.length -> ∀ x ∈ L, x ≠ []) /\
 ∀ as, PairA H as (lsort L) -> ∀ l, H l = none -> Q (.ref l) (upd H l (.lst (as.map V.ref)))
theorem call_sortedT {X : Cx} (hc : X.calm = true) : CallR X (.builtin "sorted") rSortedT := by
 intro pins s σ H vs us Q I r h
 obtain ⟨p, kvs, L, rfl, hp, hk, h64, hne, q⟩ := h
 obtain ⟨u, rfl, rx⟩ := vals1 r
 cases rx
 obtain ⟨hz, hs, xs, kt, o, es, ep, g, hx, hd, he, hn⟩ := (show ObjOk X.prog X.w H s.heap p (.dT kvs) from I.hok p _ hp)
 have key : ∀ {ks : List (List Key × V)} {ys : List (List Key × Addr × Value)} {L : List (List Int)}, Paired (fun (p : List Key × V) (q : List Key × Addr × Value) => p.1 = q.1 /\ H q.2.1 = some (.tup (p.1.map kV)) /\ RelV p.2 q.2.2) ks ys -> ks.map (·.1) = L.map kk ->
   PairA H (ys.map (·.2.1)) L /\ TupsAre s.heap (ys.map fun y => .ref y.2.1) L /\ ys.map (·.1) = L.map kk := by
  intro ks ys L kt
  induction kt generalizing L with
  | nil => intro e; cases L with
   | nil => exact ⟨trivial, trivial, rfl⟩
   | cons _ _ => cases e
  | @cons a b ps qs h1 h2 ih =>
   intro e
   cases L with
   | nil => cases e
   | cons k L =>
    simp only [List.map_cons, List.cons.injEq] at e
    obtain ⟨i1, i2, i3⟩ := ih e.2
    have hb : H b.2.1 = some (.tup (k.map V.int)) := by rw [h1.2.1, e.1, kk_V]
    obtain ⟨_, its, rv, ⟨ob, g1, g2, n, g3⟩, _⟩ := (show ObjOk X.prog X.w H s.heap b.2.1 (.tup (k.map V.int)) from I.hok _ _ hb)
    exact ⟨⟨hb, i1⟩, ⟨⟨b.2.1, ob, its.toArray, n, rfl, g1, g2, g3, by simpa using vals_ints rv⟩, i2⟩, by simp only [List.map_cons, i3, ← h1.1, e.1]⟩
 obtain ⟨pa, ta, ka⟩ := key kt hk
 have hkeys : es.toList.map (·.key) = xs.map fun y => .ref y.2.1 := by rw [he, List.map_map]; rfl
 have nd : L.Nodup := by
  rw [ka] at hn
  exact (List.pairwise_map.mp hn).imp fun h e => h (by rw [e])
 refine sortedT (I.ok.hd hc) hs ⟨o, g, hx, hd⟩ (by rw [hkeys]; exact ta) nd h64 hne fun is h' tk l c i1 i2 i3 kp ht hl hL => ?_
 have hpk := pa.pick is i1
 have heq : (is.map fun i => L.getD i []) = lsort L := lup_one i3 (lsort_up nd) (i2.trans (lsort_perm L).symm)
 rw [heq] at hpk
 have hlen : is.length = L.length := by simpa using i2.length_eq
 refine ⟨.ref l, _, I.laid (t' := tk) kp hl (show ObjOk X.prog X.w _ h' _ (.lst ((is.map fun i => (xs.map (·.2.1)).getD i 0).map V.ref)) from ⟨by rw [List.length_map, List.length_map, hlen, sizeLine_eq]; omega, (is.map fun i => (es.toList.map (·.key)).getD i .none), c, ?_, by simpa [seqObj] using hL⟩), rfl, q _ hpk _ (I.hok.fresh hl)⟩
 rw [hkeys]
 have hxl : xs.length = L.length := by simpa using congrArg List.length ka
 clear hpk heq i2 i3 hL hlen
 induction is with
 | nil => exact .nil
 | cons i is ih =>
  have hi : i < xs.length := by rw [hxl]; exact i1 i List.mem_cons_self
  refine .cons ?_ (ih fun j hj => i1 j (List.mem_cons_of_mem _ hj))
  show _ = Value.ref _
  simp [List.getD_eq_getElem?_getD, List.getElem?_eq_getElem hi]
noncomputable def srtT : List R -> Store -> Option (R × Store)
 | [.p n], μ => (dtOf μ n).bind fun kvs => if kvs.length < 64 /\ (kvs.length < 2 \/ ∀ p ∈ kvs, p.1 ≠ []) then some (.p μ.length, μ ++ [.lst ((lsort (kvs.map (·.1))).map D.key)]) else none
 | _, _ => none
theorem g_srtT {K : PySem.W.Frag} : GAr K srtT rSortedT := by
 intro m H μ xs d μ' vs Q s r e k
 unfold srtT at e
 split at e
 ·rename_i n
  obtain ⟨kvs, e1, e⟩ := Option.bind_eq_some_iff.mp e
  split at e
  ·rename_i hc
   cases e
   obtain ⟨v, rfl, r1⟩ := rel1 r
   obtain ⟨a, rfl, ha⟩ := r1
   obtain ⟨es, ea, kd⟩ := dt_ok s ha e1
   refine ⟨a, es, kvs.map (·.1), rfl, ea, by rw [kd.1, List.map_map]; rfl, by simpa using hc.1, fun h2 x hx => ?_, fun as pa l hl => ?_⟩
   ·rw [List.length_map] at h2
    obtain ⟨p, hp, rfl⟩ := List.mem_map.mp hx
    rcases hc.2 with h | h
    ·omega
    ·exact h p hp
   ·obtain ⟨x1, x2, x3⟩ := new_lst s (pa.rels (K := K)) hl
    exact k _ _ _ x1 x2 x3
  ·cases e
 ·cases e
theorem isL_of {X : Cx} {pins : List (Addr × Obj)} {σ : L2.St} {H : Hp} {s : Shared} (I : Inv X pins σ H s) {b : Addr} {zs : List V} (h : SqL X.K H b zs) : ∃ (its : List Value) (n : Nat), Vals zs its /\ s.heap.get? b = some { cls := .type "list", data := .seq its.toArray n } := by
 rcases h with h | ⟨o, its, n, hk, hc, hd, hs, hz, r⟩
 ·obtain ⟨z, its, n, r, e⟩ := h.ok I.hok
  exact ⟨its, n, r, e⟩
 ·refine ⟨its.toList, n, r, ?_⟩
  have e := I.kIn b o hk
  obtain ⟨c, d, dt, sl⟩ := o
  simp only at hc hd hs
  obtain ⟨hd, hl⟩ := hd
  subst hc hd hs hl
  simpa using e
noncomputable def rCatF (K : PySem.W.Frag) : R2 := fun x y H Q => ∃ l b xs zs, x = .ref l /\ y = .ref b /\ SqL K H l xs /\ SqL K H b zs /\ xs.length + zs.length <= sizeLine /\ ∀ p, H p = none -> Q (.ref p) (upd H p (.lst (xs ++ zs)))
theorem op_catF {X : Cx} : OpR X (binaryOp .Add) (rCatF X.K) := by
 intro pins s σ H x y v u Q I rx ry h
 obtain ⟨l, b, xs, zs, rfl, rfl, hH, hB, hz, q⟩ := h
 cases rx
 cases ry
 obtain ⟨its, n, r, e⟩ := isL_of I hH
 obtain ⟨its2, n2, r2, e2⟩ := isL_of I hB
 have l1 := r.length
 have l2 := r2.length
 refine PySem.P.add_list e e2 ?_ (by rw [List.size_toArray, List.size_toArray]; omega)
 rw [show its.toArray ++ its2.toArray = (its ++ its2).toArray by simp]
 exact ⟨.ref _, _, I.lnew (t' := s.toks) (r.append r2) (by rw [List.length_append]; omega), rfl, q _ I.fresh⟩
noncomputable def seqL : R -> Store -> Option (List D)
 | .p a, μ => (match μ[a]? with | some (.lst xs) => some xs | _ => none)
 | .v (.fl xs), _ => some xs
 | _, _ => none
theorem seqL_ok {K : PySem.W.Frag} {m : List Addr} {H : Hp} {μ : Store} (s : SRel K m H μ) {x : R} {v : V} {xs : List D} (e : seqL x μ = some xs) (r : RelR K m H x v) : ∃ a vs, v = .ref a /\ SqL K H a vs /\ RelDs K H xs vs := by
 unfold seqL at e
 split at e
 ·split at e
  ·rename_i q
   cases e
   obtain ⟨b, rfl, hb⟩ := r
   obtain ⟨vs, ea, r1⟩ := s.cell _ _ b q hb
   exact ⟨b, vs, rfl, SqL.of ea, r1⟩
  ·cases e
 ·cases e
  simp only [RelR, RelD] at r
  obtain ⟨c, ws, rfl, f, r2⟩ := r
  exact ⟨c, ws, rfl, f.sq, r2⟩
 ·cases e
noncomputable def addF (x y : R) (μ : Store) : Option (R × Store) := (seqL x μ).bind fun xs => (seqL y μ).bind fun ys => if xs.length + ys.length <= sizeLine then some (.p μ.length, μ ++ [.lst (xs ++ ys)]) else none
theorem g_addF {K : PySem.W.Frag} : GOp K addF (rCatF K) := by
 intro m H μ x y d μ' v u Q s rx ry e k
 unfold addF at e
 obtain ⟨xs, e1, e⟩ := Option.bind_eq_some_iff.mp e
 obtain ⟨ys, e2, e⟩ := Option.bind_eq_some_iff.mp e
 split at e
 ·rename_i hz
  cases e
  obtain ⟨b, vs, rfl, ea, r1⟩ := seqL_ok s e1 rx
  obtain ⟨c, ws, rfl, f, r2⟩ := seqL_ok s e2 ry
  refine ⟨b, c, vs, ws, rfl, rfl, ea, f, by rw [← r1.length, ← r2.length]; exact hz, fun p hp => ?_⟩
  obtain ⟨x1, x2, x3⟩ := new_lst s (r1.append r2) hp
  exact k _ _ _ x1 x2 x3
 ·cases e
end HW
namespace HS
open PySem PySem.Spec PyProof.Rows
theorem seen_all {m : Nat} (hm : m ∈ masks) (h : Int) {j : Nat} (hj : j < m + 1) : ∃ t, t < SetTable.turns m /\ (seen m t (SetTable.bits h % (m + 1)) (SetTable.bits h)).1 = j := by
 have hb : SetTable.bits h < 2 ^ 64 := by
  unfold SetTable.bits
  have := Int.emod_lt_of_pos h (show (0 : Int) < 2 ^ 64 by decide)
  have := Int.emod_nonneg h (show (2 ^ 64 : Int) ≠ 0 by decide)
  omega
 have hp : (seen m 13 (SetTable.bits h % (m + 1)) (SetTable.bits h)).2 = 0 := by
  rw [seen_p]
  exact Nat.div_eq_of_lt (Nat.lt_trans hb (by decide))
 have hi : (seen m 13 (SetTable.bits h % (m + 1)) (SetTable.bits h)).1 < m + 1 := seen_lt m _ _ _ (Nat.mod_lt _ (by omega))
 obtain ⟨t, ht, e⟩ := orb_all hm hi hj
 refine ⟨13 + t, by unfold SetTable.turns; omega, ?_⟩
 rw [seen_add, hp, seen_zero, e]
noncomputable def advN (t : SetTable) : Nat -> SetTable.Probe -> SetTable.Probe
 | 0, p => p
 | n + 1, p => advN t n (t.advance p)
theorem advN_add (t : SetTable) : ∀ (a b : Nat) (p : SetTable.Probe), advN t (a + b) p = advN t b (advN t a p)
 | 0, b, p => by rw [Nat.zero_add]; rfl
 | a + 1, b, p => by rw [Nat.succ_add]; exact advN_add t a b _
theorem advN_succ (t : SetTable) (n : Nat) (p : SetTable.Probe) : advN t (n + 1) p = t.advance (advN t n p) := advN_add t n 1 p
noncomputable def fr (m i p : Nat) : SetTable.Probe := { j := i, more := SetTable.runEnd m i - i, i := i, perturb := p, dummy := none }
theorem adv_run (t : SetTable) (i pb : Nat) : ∀ (k j : Nat), advN t (k + 1) { j := j, more := k, i := i, perturb := pb, dummy := none } = fr t.mask (SetTable.leap t.mask i pb).1 (SetTable.leap t.mask i pb).2
 | 0, j => by
  show advN t 1 _ = _
  unfold advN advN SetTable.advance
  rw [if_neg (by simp)]; rfl
 | k + 1, j => by
  have e : t.advance { j := j, more := k + 1, i := i, perturb := pb, dummy := none } = { j := j + 1, more := k, i := i, perturb := pb, dummy := none } := by
   unfold SetTable.advance
   rw [if_pos (by simp)]; rfl
  show advN t (k + 1) (t.advance _) = _
  rw [e]
  exact adv_run t i pb k (j + 1)
theorem run_le (m i : Nat) : SetTable.runEnd m i - i <= 9 := by unfold SetTable.runEnd; split <;> omega
theorem adv_seen (t : SetTable) : ∀ (k i p : Nat), ∃ n, n <= 10 * k /\ advN t n (fr t.mask i p) = fr t.mask (seen t.mask k i p).1 (seen t.mask k i p).2
 | 0, i, p => ⟨0, by omega, rfl⟩
 | k + 1, i, p => by
  obtain ⟨n, h1, h2⟩ := adv_seen t k (SetTable.leap t.mask i p).1 (SetTable.leap t.mask i p).2
  have := run_le t.mask i
  refine ⟨(SetTable.runEnd t.mask i - i + 1) + n, by omega, ?_⟩
  rw [advN_add]
  unfold fr at h2 ⊢
  rw [adv_run t i p (SetTable.runEnd t.mask i - i) i]
  exact h2
theorem start_fr (t : SetTable) (h : Int) : t.probeStart h = fr t.mask (SetTable.bits h % (t.mask + 1)) (SetTable.bits h) := rfl
theorem has_nil (j : Nat) : SetTable.has #[] j = false := rfl
theorem slot_cases (t : SetTable) (hd : t.dummies = #[]) (j : Nat) : (t.slot j = .empty /\ t.place[SetTable.below t.place j]? ≠ some j) \/ (t.slot j = .live (SetTable.below t.place j) /\ t.place[SetTable.below t.place j]? = some j) := by
 unfold SetTable.slot
 by_cases c : t.place[SetTable.below t.place j]? = some j
 ·right; exact ⟨by simp [c], c⟩
 ·left
  refine ⟨?_, c⟩
  have : (t.place[SetTable.below t.place j]? == some j) = false := by simpa using c
  simp only [this, hd, has_nil, Bool.false_eq_true, if_false]
theorem room_ex (t : SetTable) (hf : t.place.size <= t.mask) : ∃ j, j < t.mask + 1 /\ j ∉ t.place.toList := by
 apply Classical.byContradiction
 intro hn
 have hall : ∀ j ∈ List.range (t.mask + 1), j ∈ t.place.toList := fun j hj => Classical.byContradiction fun c => hn ⟨j, List.mem_range.mp hj, c⟩
 have key : ∀ (l m : List Nat), l.Nodup -> (∀ x ∈ l, x ∈ m) -> l.length <= m.length := by
  intro l
  induction l with
  | nil => intro m _ _; exact Nat.zero_le _
  | cons x l ih =>
   intro m hn h
   obtain ⟨h1, h2⟩ := List.nodup_cons.mp hn
   have hx := h x List.mem_cons_self
   have := ih (m.erase x) h2 fun y hy => (List.mem_erase_of_ne (fun e => by subst e; exact h1 hy)).mpr (h y (List.mem_cons_of_mem _ hy))
   rw [List.length_erase_of_mem hx] at this
   have : 0 < m.length := List.length_pos_of_mem hx
   simp only [List.length_cons]; omega
 have := key _ _ List.nodup_range hall
 rw [List.length_range, Array.length_toList] at this
 omega
theorem end_ex {t : SetTable} (hm : t.mask ∈ masks) (hd : t.dummies = #[]) (hf : t.place.size <= t.mask) (h : Int) : ∃ N, N < 10 * SetTable.turns t.mask /\ t.slot (advN t N (t.probeStart h)).j = .empty := by
 obtain ⟨j, h1, h2⟩ := room_ex t hf
 obtain ⟨k, k1, k2⟩ := seen_all hm h h1
 obtain ⟨n, n1, n2⟩ := adv_seen t k (SetTable.bits h % (t.mask + 1)) (SetTable.bits h)
 refine ⟨n, by omega, ?_⟩
 rw [start_fr, n2, k2]
 rcases slot_cases t hd (fr t.mask j (seen t.mask k (SetTable.bits h % (t.mask + 1)) (SetTable.bits h)).2).j with c | c
 ·exact c.1
 ·exfalso
  exact h2 (by have := Array.mem_of_getElem? c.2; rw [Array.mem_toList_iff]; exact this)
theorem adv_dummy (t : SetTable) (p : SetTable.Probe) : (t.advance p).dummy = p.dummy := by
 unfold SetTable.advance
 split <;> rfl
theorem advN_dummy (t : SetTable) : ∀ (n : Nat) (p : SetTable.Probe), (advN t n p).dummy = p.dummy
 | 0, _ => rfl
 | n + 1, p => (advN_dummy t n _).trans (adv_dummy t p)
theorem go_ok {t : SetTable} (hashAt : Nat -> Int) (h : Int) (hd : t.dummies = #[]) {N : Nat} {p : SetTable.Probe} (hp : p.dummy = none) (hE : t.slot (advN t N p).j = .empty) : ∀ (f m : Nat), m <= N -> N - m < f ->
  (∃ j, SetTable.probe.go t hashAt h f (advN t m p) = some (.empty j none) /\ t.slot j = .empty) \/
  (∃ n i, m <= n /\ n < N /\ SetTable.probe.go t hashAt h f (advN t m p) = some (.candidate (advN t n p).j i (advN t (n + 1) p)) /\ t.slot (advN t n p).j = .live i /\ hashAt i = h)
 | 0, m, _, h2 => by omega
 | f + 1, m, h1, h2 => by
  unfold SetTable.probe.go
  rcases slot_cases t hd (advN t m p).j with ⟨c, _⟩ | ⟨c, c'⟩
  ·rw [c]
   exact .inl ⟨_, by rw [advN_dummy, hp], c⟩
  ·rw [c]
   have hmN : m < N := by
    rcases Nat.lt_or_ge m N with z | z
    ·exact z
    ·have : m = N := by omega
     subst this
     rw [hE] at c; cases c
   by_cases q : hashAt (SetTable.below t.place (advN t m p).j) = h
   ·right
    refine ⟨m, _, Nat.le_refl _, hmN, ?_, c, q⟩
    simp only [q, beq_self_eq_true, if_true]
    rw [advN_succ]
   ·have q' : (hashAt (SetTable.below t.place (advN t m p).j) == h) = false := by simpa using q
    simp only [q', Bool.false_eq_true, if_false]
    rw [← advN_succ]
    rcases go_ok hashAt h hd hp hE f (m + 1) hmN (by omega) with z | ⟨n, i, z1, z2, z3⟩
    ·exact .inl z
    ·exact .inr ⟨n, i, by omega, z2, z3⟩
end HS
namespace HS
open PySem PySem.Spec PyProof.Rows
section
variable {prog : Program} {w : World} {A : Around} {E : Value -> Shared -> Prop} {s : Shared}
abbrev IsT (prog : Program) (w : World) (h : Heap) (ks : List Int) (a : Addr) : Prop := IsTupleKey (intKind prog w) h ks a
theorem items_int {prog : Program} {w : World} {ks : List Int} {vs : List Value} (h : ItemsAre (intKind prog w) ks vs) : ∀ v ∈ vs, ∃ n t, v = .int n t := by
 induction h with
 | nil => intro v hv; simp at hv
 | @cons k v' ks vs h1 _ ih =>
  intro v hv
  rcases List.mem_cons.mp hv with rfl | hv
  ·cases v with
   | int n t => exact ⟨n, t, rfl⟩
   | _ => simp [intKind, Value.isInt] at h1
  ·exact ih v hv
theorem class_no {ks : List Int} {a : Addr} {Q : Bool -> Shared -> Prop} (hk : IsT prog w s.heap ks a) (h : Q false s) : wpAny (model prog w) A (ofAClassStatement 8 (.ref a)) Q E s := by
 have hT := hk.typeIs
 obtain ⟨o, items, n, ho, _, hd, hi⟩ := hk
 have hall := items_int hi
 unfold ofAClassStatement
 refine wpAny_bind (wpAny_typeOf hT ?_)
 dsimp only
 rw [if_pos (by decide)]
 refine wpAny_bind (wpAny_pure ?_)
 simp only [Bool.not_true, Bool.false_eq_true, if_false]
 refine wpAny_bind (wpAny_seqItems ho hd ?_)
 dsimp only
 refine wpAny_bind ?_
 rw [← Array.forIn_toList]
 refine wpAny_forIn_list _ (fun rest r s' => r.1 = none /\ s' = s /\ ∀ v ∈ rest, ∃ n t, v = Value.int n t) _ ?_ ?_ _ _ ⟨rfl, rfl, hall⟩
 ·rintro v rest r s' ⟨hr, rfl, hv⟩
  obtain ⟨m, t, rfl⟩ := hv v List.mem_cons_self
  refine wpAny_bind (show wpAny _ _ (pure false) _ _ _ from wpAny_pure ?_)
  simp only [Bool.false_eq_true, if_false]
  exact wpAny_pure ⟨rfl, rfl, fun u hu => hv u (List.mem_cons_of_mem _ hu)⟩
 ·rintro ⟨r1, r2⟩ s' ⟨hr, rfl, _⟩
  simp only at hr
  subst hr
  exact wpAny_pure h
theorem value_yes {ks : List Int} {a : Addr} {Q : Bool -> Shared -> Prop} (hk : IsT prog w s.heap ks a) (h : Q true s) : wpAny (model prog w) A (hashByValue 8 (.ref a)) Q E s := by
 have hT := hk.typeIs
 obtain ⟨o, items, n, ho, _, hd, hi⟩ := hk
 have hall := items_int hi
 unfold hashByValue
 refine wpAny_bind (wpAny_specialOf hT F.slot_tuple_hash.lookup ?_)
 dsimp only
 refine wpAny_bind (wpAny_seqItems ho hd ?_)
 refine wpAny_bind ?_
 show wpAny _ _ (forIn items _ _) _ _ s
 rw [← Array.forIn_toList]
 refine wpAny_forIn_list _ (fun rest r s' => r.1 = none /\ s' = s /\ ∀ v ∈ rest, ∃ n t, v = Value.int n t) _ ?_ ?_ _ _ ⟨rfl, rfl, hall⟩
 ·rintro v rest r s' ⟨hr, rfl, hv⟩
  obtain ⟨m, t, rfl⟩ := hv v List.mem_cons_self
  refine wpAny_bind (show wpAny _ _ (pure true) _ _ _ from wpAny_pure ?_)
  simp only [Bool.not_true, Bool.false_eq_true, if_false]
  exact wpAny_pure ⟨rfl, rfl, fun u hu => hv u (List.mem_cons_of_mem _ hu)⟩
 ·rintro ⟨r1, r2⟩ s' ⟨hr, rfl, _⟩
  simp only at hr
  subst hr
  exact wpAny_pure h
theorem unseen_t {ks : List Int} {a : Addr} {ys : List Value} {Q : Bool -> Shared -> Prop} (hk : IsT prog w s.heap ks a) (hy : ∀ y ∈ ys, ∃ b ls, y = .ref b /\ IsT prog w s.heap ls b) (h : Q false s) : wpAny (model prog w) A (searchCouldBeSeen (.ref a) ys) Q E s := by
 unfold searchCouldBeSeen
 refine wpAny_bind ?_
 refine wpAny_forIn_list _ (fun rest r s' => r.1 = none /\ s' = s /\ ∀ y ∈ rest, ∃ b ls, y = Value.ref b /\ IsT prog w s.heap ls b) _ ?_ ?_ _ _ ⟨rfl, rfl, hy⟩
 ·rintro y rest r s' ⟨hr, rfl, hv⟩
  obtain ⟨b, ls, rfl, hb⟩ := hv y List.mem_cons_self
  have nx : ∀ r' : Option Bool × Unit, r'.1 = none -> r'.1 = none /\ s' = s' /\ ∀ y ∈ rest, ∃ b ls, y = Value.ref b /\ IsT prog w s'.heap ls b := fun r' e => ⟨e, rfl, fun u hu => hv u (List.mem_cons_of_mem _ hu)⟩
  dsimp only
  split
  ·exact wpAny_pure (nx _ rfl)
  ·refine wpAny_bind (wpAny_eqIsQuiet_tuple hk ?_)
   simp only [Bool.not_true, Bool.false_eq_true, if_false]
   refine wpAny_bind (wpAny_eqIsQuiet_tuple hb ?_)
   simp only [Bool.not_true, Bool.false_eq_true, if_false]
   refine wpAny_bind (class_no hk ?_)
   simp only [Bool.false_eq_true, if_false]
   refine wpAny_bind (class_no hb ?_)
   simp only [Bool.false_eq_true, if_false]
   exact wpAny_pure (nx _ rfl)
 ·rintro ⟨r1, r2⟩ s' ⟨hr, rfl, _⟩
  simp only at hr
  subst hr
  exact wpAny_pure h
structure TabT (prog : Program) (w : World) (led : Bool) (h : Heap) (es : Array (Int × Value)) (t : SetTable) (vs : List Value) : Prop where
 W : TabW led es t
 ms : t.mask ∈ masks
 dm : t.dummies = #[]
 pl : t.plain = true
 lo : t.place.size * 5 < t.mask * 3
 pm : (es.toList.map (·.2)).Perm vs
 el : ∀ e ∈ es.toList, ∃ b ls, e.2 = .ref b /\ IsT prog w h ls b
theorem go_met {t : SetTable} {HA : Nat -> Int} {h : Int} (hd : t.dummies = #[]) {N : Nat} {p : SetTable.Probe} (hp : p.dummy = none) (hE : t.slot (advN t N p).j = .empty) {f m : Nat} (h1 : m <= N) (h2 : N - m < f) {met : SetTable.Met} (e : SetTable.probe.go t HA h f (advN t m p) = some met) :
  (∃ j, met = .empty j none /\ t.slot j = .empty) \/ (∃ n i, m <= n /\ n < N /\ met = .candidate (advN t n p).j i (advN t (n + 1) p) /\ t.slot (advN t n p).j = .live i) := by
 rcases go_ok HA h hd hp hE f m h1 h2 with ⟨j, e', hj⟩ | ⟨n, i, n1, n2, e', hl, hq⟩
 ·rw [e'] at e; cases e; exact .inl ⟨j, rfl, hj⟩
 ·rw [e'] at e; cases e; exact .inr ⟨n, i, n1, n2, rfl, hl⟩
theorem go_some {t : SetTable} {HA : Nat -> Int} {h : Int} (hd : t.dummies = #[]) {N : Nat} {p : SetTable.Probe} (hp : p.dummy = none) (hE : t.slot (advN t N p).j = .empty) {f m : Nat} (h1 : m <= N) (h2 : N - m < f) : ∃ met, SetTable.probe.go t HA h f (advN t m p) = some met := by
 rcases go_ok HA h hd hp hE f m h1 h2 with ⟨j, e', hj⟩ | ⟨n, i, n1, n2, e', hl, hq⟩
 ·exact ⟨_, e'⟩
 ·exact ⟨_, e'⟩
theorem odd_mask : ∀ m ∈ masks, (m % 2 == 0) = false := by decide
theorem search_t {S a : Addr} {led : Bool} {o : Obj} {es : Array (Int × Value)} {ep : Nat} {t : SetTable} {vs : List Value} {ks : List Int} {hv : Int} {Q : SetFound -> Shared -> Prop} (hu : A.units < cLine) (ho : s.heap.get? S = some o) (hd : o.data = .set es ep t) (T : TabT prog w led s.heap es t vs) (ha : IsT prog w s.heap ks a)
  (hne : ∀ b ls, Value.ref b ∈ vs -> IsT prog w s.heap ls b -> ls ≠ ks) {N : Nat} (hE : t.slot (advN t N (t.probeStart hv)).j = .empty) (hN : N < 10 * SetTable.turns t.mask) (h : ∀ j, t.slot j = .empty -> Q (.free j false) s) :
  ∀ (fuel m : Nat) (stand : Option SetTable.Probe), m <= N -> N - m < fuel -> stand.getD (t.probeStart hv) = advN t m (t.probeStart hv) -> wpAny (model prog w) A (setSearchFrom S (.ref a) hv true fuel stand) Q E s
 | 0, m, _, _, h2, _ => by omega
 | fuel + 1, m, stand, h1, h2, h3 => by
  have hsz : t.place.size = es.size := by have := T.W.ft; simp [SetTable.fits] at this; exact this.1
  unfold setSearchFrom
  refine wpAny_bind (wpAny_setState_of ho hd T.W.ft ?_)
  dsimp only
  rw [if_neg (by unfold SetTable.gaveWay; rw [odd_mask _ T.ms]; exact Bool.false_ne_true), h3]
  split
  ·rename_i met hm
   unfold SetTable.probe at hm
   rcases go_met T.dm (p := t.probeStart hv) rfl hE h1 (by omega) hm with ⟨j, rfl, hj⟩ | ⟨n, i, n1, n2, rfl, hl⟩
   ·exact wpAny_pure (h j hj)
   ·dsimp only
    have hi : i < es.size := by
     rcases slot_cases t T.dm (advN t n (t.probeStart hv)).j with ⟨c, _⟩ | ⟨c, c'⟩
     ·rw [c] at hl; cases hl
     ·rw [c] at hl
      cases hl
      rw [← hsz]
      exact (Array.getElem?_eq_some_iff.mp c').1
    have hel := T.el es[i] (by simp)
    obtain ⟨b, ls, hb, hB⟩ := hel
    have hes : es[i]? = some (es[i].1, .ref b) := by rw [Array.getElem?_eq_getElem hi, ← hb]
    have hvs : Value.ref b ∈ vs := T.pm.mem_iff.mp (List.mem_map.mpr ⟨es[i], by simp, hb⟩)
    have rest : wpAny (model prog w) A (match es[i]? with
     | some (fst, y) => do
      let equal ← holding [y] (eqBool y (Value.ref a))
      let __x ← setState S
      match __x with
       | (es', fst, t') =>
        if (true && equal) = true then pure (SetFound.there none)
        else match t'.sameMemory t.moves t.mask with
         | some same => do
          let still ← match if same = true then t'.slot (advN t n (t.probeStart hv)).j else SetTable.Slot.empty with
           | SetTable.Slot.live i' => match es'[i']? with
            | some (fst, y') => do
             let __do_lift ← isSame y' y
             pure (if __do_lift = true then some i' else none)
            | none => pure none
           | _ => pure none
          match still with
           | none => do
            rule "set.search.anew"
            setSearchFrom S (Value.ref a) hv true fuel none
           | some i' => if equal = true then pure (SetFound.there (some i')) else setSearchFrom S (Value.ref a) hv true fuel (some (advN t (n + 1) (t.probeStart hv)))
         | _ => unsupported "set.changed-during-lookup:is-the-new-block-at-the-old-address"
     | _ => unsupported "internal:set-entry") Q E s := by
     rw [hes]
     dsimp only
     refine wpAny_bind (wpAny_holding (wpAny_eqBool_tuple hu hB ha ?_))
     rw [decide_eq_false (hne b ls hvs hB)]
     refine wpAny_bind (wpAny_setState_of ho hd T.W.ft ?_)
     dsimp only
     rw [if_neg (by decide)]
     have hsm : t.sameMemory t.moves t.mask = some true := by unfold SetTable.sameMemory; rw [if_pos (by simp)]
     rw [hsm]
     dsimp only
     rw [if_pos rfl, hl]
     dsimp only
     rw [hes]
     dsimp only
     refine wpAny_bind (wpAny_isSame_ref_self (wpAny_bind (wpAny_pure ?_)))
     rw [if_pos (by simp)]
     dsimp only
     rw [if_neg (by decide)]
     exact search_t hu ho hd T ha hne hE hN h fuel (n + 1) _ n2 (by omega) rfl
    split
    ·refine wpAny_bind (unseen_t ha (fun y hy => ?_) ?_)
     ·obtain ⟨e, he, rfl⟩ := List.mem_map.mp hy
      have : e ∈ es.toList := by have := Array.mem_toList_iff.mp he; rw [Array.mem_filter] at this; exact Array.mem_toList_iff.mpr this.1
      obtain ⟨b', ls', e1, e2⟩ := T.el e this
      exact ⟨b', ls', e1, e2⟩
     ·simp only [Bool.false_eq_true, if_false]
      exact rest
    ·exact rest
  ·rename_i hm
   exfalso
   unfold SetTable.probe at hm
   exact (go_some (f := 10 * SetTable.turns t.mask) T.dm (p := t.probeStart hv) rfl hE h1 (by omega)).elim fun met e => hm met e
theorem IsT.same {h h' : Heap} {ks : List Int} {a S : Addr} {o : Obj} {es : Array (Int × Value)} {ep : Nat} {t : SetTable} (x : IsT prog w h ks a) (ho : h.get? S = some o) (hd : o.data = .set es ep t) (hs : Heap.SameBut S h h') : IsT prog w h' ks a := by
 obtain ⟨o', items, n, ho', hc, hd', hi⟩ := x
 have hne : a ≠ S := by
  rintro rfl
  obtain rfl : o' = o := Option.some.inj (ho'.symm.trans ho)
  rw [hd] at hd'; exact nomatch hd'
 exact ⟨o', items, n, (hs.2 a hne).trans ho', hc, hd', hi⟩
theorem relay_t {led : Bool} {S : Addr} {o : Obj} {es : Array (Int × Value)} {ep : Nat} {t : SetTable} {vs : List Value} {wanted : Nat} {Q : Unit -> Shared -> Prop} (ho : s.heap.get? S = some o) (hx : o.ExactSet) (hd : o.data = .set es ep t) (G : TabW led es t) (hpl : t.plain = true) (hpm : (es.toList.map (·.2)).Perm vs) (hel : ∀ e ∈ es.toList, ∃ b ls, e.2 = .ref b /\ IsT prog w s.heap ls b) (hw : wanted < 256) (hl : vs.length * 4 <= wanted)
  (h : ∀ h' es' t', Heap.SameBut S s.heap h' -> h'.get? S = some { o with data := .set es' (ep + 1) t' } -> TabT prog w led h' es' t' vs -> Q () { s with heap := h' }) :
  wpAny (model prog w) A (setRelay S wanted) Q E s := by
 obtain ⟨m1, m2, m3⟩ := above_ok wanted hw
 have m7 : 7 <= SetTable.sizeAbove wanted - 1 := (by decide : ∀ m ∈ masks, 7 <= m) _ m1
 have hlen : es.size = vs.length := by have := hpm.length_eq; simpa using this
 unfold setRelay
 refine wpAny_bind (wpAny_setState_of ho hd G.ft ?_)
 dsimp only
 rw [if_neg (by rw [sizeLine_eq]; omega)]
 obtain ⟨t', ord, e, q1, q2, q3, q4, q5, q6, q7, q8⟩ := laid_ok (finger := t.finger) (moves := t.movedTo (SetTable.sizeAbove wanted - 1)) (led := t.led) (plain := t.plain) m1 (es.map (·.1)) (by rw [Array.size_map]; omega)
 rw [Array.size_map] at q1 q2 q8
 have hp : (ord.filterMap (es[·]?)).toList.Perm es.toList := by rw [Array.toList_filterMap]; exact filter_perm q1
 have hsz : (ord.filterMap (es[·]?)).size = es.size := by have := hp.length_eq; rwa [Array.length_toList, Array.length_toList] at this
 have e' : t.relaid (es.map (·.1)) wanted = some (t', ord) := e
 rw [e']
 refine wpAny_bind (show wpAny _ _ (if ((ord.filterMap (es[·]?)).size != es.size) = true then (do unsupported "internal:set-table-lost-an-element"; pure (ord.filterMap (es[·]?), t')) else pure (ord.filterMap (es[·]?), t')) _ _ _ from ?_)
 rw [if_neg (by simp [hsz])]
 refine wpAny_pure (store_ok ho hx hd (by rw [hsz]; exact G.bd) fun h' b1 g1 => ?_)
 refine h h' _ t' b1 g1 ⟨⟨by rw [hsz]; exact G.bd, by rw [hsz]; exact q2, fun _ => q3, q4.trans G.ld⟩, by rw [q6]; exact m1, q7, q5.trans hpl, by rw [q8, q6]; omega, (hp.map _).trans hpm, fun x hx' => ?_⟩
 obtain ⟨b, ls, e1, e2⟩ := hel x (hp.mem_iff.mp hx')
 exact ⟨b, ls, e1, e2.same ho hd b1⟩
theorem add_t {S a : Addr} {led : Bool} {o : Obj} {es : Array (Int × Value)} {ep : Nat} {t : SetTable} {vs : List Value} {ks : List Int} {hv : Int} {Q : Bool -> Shared -> Prop} (hu : A.units < cLine) (ho : s.heap.get? S = some o) (hx : o.ExactSet) (hd : o.data = .set es ep t) (T : TabT prog w led s.heap es t vs) (ha : IsT prog w s.heap ks a)
  (hne : ∀ b ls, Value.ref b ∈ vs -> IsT prog w s.heap ls b -> ls ≠ ks) (hl : vs.length < 63)
  (h : ∀ h' es' ep' t', Heap.SameBut S s.heap h' -> h'.get? S = some { o with data := .set es' ep' t' } -> TabT prog w led h' es' t' (vs ++ [.ref a]) -> Q true { s with heap := h' }) :
  wpAny (model prog w) A (setAddHashed S (.ref a) hv) Q E s := by
 have hlen : es.size = vs.length := by have := T.pm.length_eq; simpa using this
 have hsz : t.place.size = es.size := by have := T.W.ft; simp [SetTable.fits] at this; exact this.1
 have hlo := T.lo
 obtain ⟨N, hN, hE⟩ := end_ex T.ms T.dm (by omega) hv
 have hsb : 10 * SetTable.turns t.mask <= 2700 := by
  have : ∀ m ∈ masks, 10 * SetTable.turns m <= 2700 := by decide
  exact this _ T.ms
 unfold setAddHashed setAddHashedIn
 refine wpAny_holding (wpAny_bind (wpAny_setState_of ho hd T.W.ft ?_))
 dsimp only
 rw [if_neg (by unfold byScan Value.scannable; simp)]
 unfold setSearch
 refine wpAny_bind (search_t hu ho hd T ha hne hE hN (fun j hj => ?_) 100000 0 none (Nat.zero_le _) (by omega) rfl)
 dsimp only
 refine wpAny_bind (wpAny_setState_of ho hd T.W.ft ?_)
 have hfree : t.place[SetTable.below t.place j]? ≠ some j := by
  rcases slot_cases t T.dm j with ⟨_, c⟩ | ⟨c, _⟩
  ·exact c
  ·rw [c] at hj; cases hj
 have hput : t.put j = ({ t with place := SetTable.insertAt t.place (SetTable.below t.place j) j }, SetTable.below t.place j) := by
  unfold SetTable.put
  rw [T.dm, has_nil]
  simp only [Bool.false_eq_true, if_false]
 dsimp only
 rw [hput]
 dsimp only
 rw [T.pl, if_pos rfl]
 refine wpAny_bind (value_yes ha ?_)
 rw [if_pos rfl]
 have pe := SetTable.insertAt_perm es (SetTable.below t.place j) (hv, Value.ref a)
 rw [Array.toList_push] at pe
 have pp := SetTable.insertAt_perm t.place (SetTable.below t.place j) j
 have s1 : (SetTable.insertAt es (SetTable.below t.place j) (hv, Value.ref a)).size = es.size + 1 := by have := pe.length_eq; simpa using this
 have s2 : (SetTable.insertAt t.place (SetTable.below t.place j) j).size = t.place.size + 1 := by have := pp.length_eq; simpa using this
 generalize hes1 : SetTable.insertAt es (SetTable.below t.place j) (hv, Value.ref a) = es1 at *
 have G1 : TabW led es1 { t with place := SetTable.insertAt t.place (SetTable.below t.place j) j, plain := true } := by
  refine ⟨by rw [s1]; unfold scanBound; omega, ?_, fun _ => insert_rises (T.W.rs T.pl) hfree, T.W.ld⟩
  simp only [SetTable.fits, SetTable.fill, s1, s2, T.dm]
  simp; omega
 have pm1 : (es1.toList.map (·.2)).Perm (vs ++ [.ref a]) := by
  refine (pe.map (·.2)).trans ?_
  rw [List.map_append]
  exact T.pm.append (List.Perm.refl _)
 have el1 : ∀ e ∈ es1.toList, ∃ b ls, e.2 = .ref b /\ IsT prog w s.heap ls b := fun e he => by
  rcases List.mem_append.mp (pe.mem_iff.mp he) with he | he
  ·exact T.el e he
  ·rw [List.mem_singleton] at he; subst he; exact ⟨a, ks, rfl, ha⟩
 refine wpAny_bind (store_ok ho hx hd G1.bd fun h1 b1 g1 => ?_)
 have el2 : ∀ e ∈ es1.toList, ∃ b ls, e.2 = .ref b /\ IsT prog w h1 ls b := fun e he => by
  obtain ⟨b, ls, e1, e2⟩ := el1 e he
  exact ⟨b, ls, e1, e2.same ho hd b1⟩
 split
 ·have hgr : SetTable.grown (es.size + 1) = (es.size + 1) * 4 := by unfold SetTable.grown; rw [if_neg (by omega)]
  rw [hgr]
  refine wpAny_bind (relay_t (s := { s with heap := h1 }) g1 hx rfl G1 rfl pm1 el2 (by omega) (by simp; omega) fun h2 es2 t2 b2 g2 T2 => wpAny_pure ?_)
  exact h h2 es2 _ t2 (b1.trans b2) g2 T2
 ·rename_i hfull
  refine wpAny_pure (h h1 es1 _ _ b1 g1 ⟨G1, T.ms, T.dm, rfl, ?_, pm1, el2⟩)
  simp only [Bool.not_false, Bool.true_and, SetTable.tooFull, SetTable.fill, T.dm, decide_eq_true_eq] at hfull
  simp only [Array.size_empty, Nat.add_zero] at hfull
  show (SetTable.insertAt t.place (SetTable.below t.place j) j).size * 5 < t.mask * 3
  omega
end
end HS
namespace HS
open PySem PySem.Spec PyProof.Rows
def SetV (prog : Program) (w : World) (led : Bool) (h : Heap) (o : Obj) (vs : List Value) : Prop := ∃ es ep t, o.ExactSet /\ o.data = .set es ep t /\ TabT prog w led h es t vs
theorem fresh_goodT {prog : Program} {w : World} (led : Bool) (h : Heap) : SetV prog w led h (freshSet led) [] :=
 ⟨#[], 0, _, ⟨rfl, rfl, rfl⟩, rfl, ⟨⟨by decide, by rfl, fun _ => List.Pairwise.nil, rfl⟩, (show 7 ∈ masks by decide), rfl, rfl, (show 0 * 5 < 7 * 3 by decide), List.Perm.refl _, fun _ h => by simp at h⟩⟩
section
variable {prog : Program} {w : World} {A : Around} {R : Result -> Shared -> Prop} {I : Addr} {fp wr : List Addr} {G : Array GenState -> Array GenState -> Prop} {n : Nat} {P : Nat -> Value -> Prop} {St : Nat -> Shared -> Prop}
theorem IsT.keep {h h' : Heap} {ks : List Int} {a : Addr} (x : IsT prog w h ks a) (k : ∀ o, h.get? a = some o -> h'.get? a = some o) : IsT prog w h' ks a := by
 obtain ⟨o, items, n, ho, r⟩ := x
 exact ⟨o, items, n, k _ ho, r⟩
theorem TabT.keep {led : Bool} {h h' : Heap} {es : Array (Int × Value)} {t : SetTable} {vs : List Value} (T : TabT prog w led h es t vs) (k : ∀ b, Value.ref b ∈ vs -> ∀ o, h.get? b = some o -> h'.get? b = some o) : TabT prog w led h' es t vs :=
 ⟨T.W, T.ms, T.dm, T.pl, T.lo, T.pm, fun e he => by
  obtain ⟨b, ls, e1, e2⟩ := T.el e he
  exact ⟨b, ls, e1, e2.keep (k b (T.pm.mem_iff.mp (List.mem_map.mpr ⟨e, he, e1⟩)))⟩⟩
theorem update_loopT (W : WalksS prog w A.in1 I fp wr G n P St) (hu : A.in1.units < cLine) (S : Addr) (hSf : S ∉ fp) {led : Bool} (ps : List (Addr × List Int)) (hms : ps.length = n) (hval : ∀ i v, P i v -> ∃ p, ps[i]? = some p /\ v = .ref p.1) (nd : (ps.map (·.2)).Nodup) (hb : ps.length < 64) :
  ∀ (k i : Nat) (s : Shared) (o : Obj), n - i = k -> i <= n -> St i s -> s.heap.get? S = some o -> SetV prog w led s.heap o ((ps.take i).map fun p => Value.ref p.1) -> (∀ p ∈ ps, IsT prog w s.heap p.2 p.1 /\ p.1 ∉ S :: wr) ->
   (∀ s' o', Moved (S :: wr) G s s' -> s'.heap.get? S = some o' -> SetV prog w led s'.heap o' (ps.map fun p => Value.ref p.1) -> R (.ok (.ret .none)) s') ->
   codeAny (model prog w) A (.builtin "set.update.loop" ⟨[.ref S, .ref I], []⟩) R s := by
 have nw : S ∉ wr := fun h => hSf (W.sub _ h)
 have up : ∀ b ∈ wr, b ∈ S :: wr := fun b hb => List.mem_cons_of_mem _ hb
 have av : ∀ {i : Nat} {b : Addr}, Value.ref b ∈ (ps.take i).map (fun p => Value.ref p.1) -> ∃ p ∈ ps, p.1 = b := fun h => by
  obtain ⟨p, hp, e⟩ := List.mem_map.mp h
  exact ⟨p, List.mem_of_mem_take hp, by cases e; rfl⟩
 intro k
 induction k with
 | zero =>
  intro i s o hk hi hst ho hS hps hR
  have hin : i = n := by omega
  subst hin
  refine codeAny_builtin F.entry_set_update_loop ?_
  rw [Around.under_plainId F.plain_set_update_loop _]
  refine (show wpAny _ A.in1 (pyNext (.ref I) >>= _) _ _ s from wpAny_bind (W.done s _ _ hst fun s' hm => ?_))
  refine (show wpAny _ A.in1 (ret Value.none) _ _ s' from wpAny_pure (hR s' o (hm.mono up) (hm.heap S _ nw ho) ?_))
  rw [List.take_of_length_le (by omega)] at hS
  obtain ⟨es, ep, t, x1, x2, T⟩ := hS
  refine ⟨es, ep, t, x1, x2, T.keep fun b hb o e => hm.heap b o (fun z => ?_) e⟩
  obtain ⟨p, hp, e'⟩ := List.mem_map.mp hb
  cases e'
  exact (hps p hp).2 (up _ z)
 | succ k ih =>
  intro i s o hk hi hst ho hS hps hR
  have hlt : i < n := by omega
  refine codeAny_builtin F.entry_set_update_loop ?_
  rw [Around.under_plainId F.plain_set_update_loop _]
  refine (show wpAny _ A.in1 (pyNext (.ref I) >>= _) _ _ s from wpAny_bind (W.item i s _ _ hlt hst fun v s' hP hst' hm => ?_))
  obtain ⟨p, hpi, rfl⟩ := hval i v hP
  have hpm : p ∈ ps := List.mem_of_getElem? hpi
  have ho' := hm.heap S _ nw ho
  have hps' : ∀ p ∈ ps, IsT prog w s'.heap p.2 p.1 /\ p.1 ∉ S :: wr := fun p hp => ⟨(hps p hp).1.keep fun o e => hm.heap _ _ (fun z => (hps p hp).2 (up _ z)) e, (hps p hp).2⟩
  obtain ⟨es, ep, t, x1, x2, T0⟩ := hS
  have T : TabT prog w led s'.heap es t ((ps.take i).map fun p => Value.ref p.1) := T0.keep fun b hb o e => by
   obtain ⟨q, hq, rfl⟩ := av hb
   exact hm.heap _ _ (fun z => (hps q hq).2 (up _ z)) e
  refine (show wpAny _ A.in1 (holding [Value.ref p.1] (setAdd S (.ref p.1)) >>= _) _ _ s' from wpAny_bind (wpAny_holding ?_))
  unfold setAdd
  refine wpAny_holding (wpAny_bind (wpAny_pyHash_tuple hu (hps' p hpm).1 ?_))
  have hne : ∀ b ls, Value.ref b ∈ (ps.take i).map (fun p => Value.ref p.1) -> IsT prog w s'.heap ls b -> ls ≠ p.2 := fun b ls hb' hB e => by
   obtain ⟨q, hq, eq⟩ := List.mem_map.mp hb'
   cases eq
   have h1 := (hps' q (List.mem_of_mem_take hq)).1
   have h2 : ls = q.2 := IsTupleKey.inj hB h1
   obtain ⟨j, hj, ej⟩ := List.getElem_of_mem hq
   rw [List.length_take] at hj
   rw [List.getElem_take] at ej
   have hi' : i < ps.length := by omega
   have := (List.getElem?_eq_some_iff.mp hpi).2
   refine (List.pairwise_iff_getElem.mp nd) j i (by rw [List.length_map]; omega) (by rw [List.length_map]; omega) (by omega) ?_
   rw [List.getElem_map, List.getElem_map, ej, this, ← h2, e]
  refine add_t (s := { s' with toks := s'.toks + (p.2.length + 1) }) hu ho' x1 x2 T (hps' p hpm).1 hne (by rw [List.length_map, List.length_take]; omega) fun h' es' ep' t' hsb ho2 T2 => ?_
  have hk2 : (ps.take (i + 1)).map (fun p => Value.ref p.1) = (ps.take i).map (fun p => Value.ref p.1) ++ [.ref p.1] := by
   rw [List.take_add_one, hpi]; simp
  have hps2 : ∀ p ∈ ps, IsT prog w h' p.2 p.1 /\ p.1 ∉ S :: wr := fun q hq => ⟨(hps' q hq).1.keep fun o e => by rw [hsb.2 q.1 (fun z : q.1 = S => (hps q hq).2 (by rw [z]; exact List.mem_cons_self))]; exact e, (hps q hq).2⟩
  refine wpAny_pure ⟨plainId_quiet F.plain_set_update_loop _, ih (i + 1) _ _ (by omega) hlt (W.frame _ s' _ _ hst' (Nat.le_add_right _ _) fun b hb o e => ?_) ho2 ⟨es', ep', t', x1, rfl, by rw [hk2]; exact T2⟩ hps2 fun s2 o2 hm2 q2 g2 => ?_⟩
  ·rw [hsb.2 b (fun h : b = S => hSf (h ▸ hb))]; exact e
  ·refine hR s2 o2 (Moved.trans W.gtrans ((hm.mono up).then_heap (Nat.le_add_right _ _) fun b o hb e => ?_) hm2) q2 g2
   rw [hsb.2 b (fun h : b = S => hb (by rw [h]; exact List.mem_cons_self))]; exact e
end
section
variable {prog : Program} {w : World} {A : Around} {E : Value -> Shared -> Prop} {s : Shared}
set_option maxHeartbeats 3200000 in
theorem set_lstT {l : Addr} {its : Array Value} {ps : List (Addr × List Int)} {Q : Value -> Shared -> Prop}
  (hh : A.handled = none) (hu : A.in1.in1.in1.units < cLine) (hl : s.heap.IsList l its) (hi : its.toList = ps.map fun p => Value.ref p.1) (hp : ∀ p ∈ ps, IsT prog w s.heap p.2 p.1) (nd : (ps.map (·.2)).Nodup) (hb : ps.length < 64)
  (h : ∀ (h' : Heap) (tk : Nat) (o : Obj), h'.get? s.heap.objs.size = some o -> SetV prog w (!w.params.followText "set-order") h' o (ps.map fun p => Value.ref p.1) ->
   (∀ b o, s.heap.get? b = some o -> h'.get? b = some o) -> s.toks <= tk -> Q (.ref s.heap.objs.size) { s with heap := h', toks := tk }) :
  wpAny (model prog w) A (call (.type "set") [.ref l]) Q E s := by
 obtain ⟨c, tl, hmro⟩ := F.called_set.mro
 have hmade := F.called_set.made; have hsub := F.called_set.sub
 refine wpAny_call (codeAny_of_tree (show wpAny _ _ (callAny (.type "set") _) _ _ _ from ?_))
 refine wpAny_pure ⟨Code.quiet_builtin _ (by decide +kernel), codeAny_builtin F.entry_type_call ?_⟩; rw [Around.under_plain (weight_type_call_type "set" [.ref l] []) rfl]
 have h1 := F.called_set.notType; have h2 := F.called_set.canCreate; have hct := F.typeCall_set_1 (.ref l)
 repeat (any_goals (first | assumption | wp_step))
 refine codeAny_mono (new_ok (.ref l) (E := E) (Q₁ := fun obj s₁ => obj = .ref s.heap.objs.size /\ s₁ = { s with heap := s.heap.push (freshSet (!w.params.followText "set-order")) }) ⟨rfl, rfl⟩) fun r s₁ hr => ?_
 generalize hled : (!w.params.followText "set-order") = led at *
 cases r with
 | error e => exact hr
 | ok fl =>
  cases fl with
  | ret obj =>
   obtain ⟨rfl, rfl⟩ := hr
   have hS : (s.heap.push (freshSet led)).get? s.heap.objs.size = some (freshSet led) := Heap.get?_push_size _ rfl
   have hT : Shared.TypeIs { s with heap := s.heap.push (freshSet led) } (.ref s.heap.objs.size) "set" := ⟨_, hS, rfl⟩
   have hli := F.called_set.init.lookup; have hbi := F.called_set.init.bind (.ref s.heap.objs.size)
   repeat (any_goals (first | assumption | wp_step))
   refine codeAny_mono (codeAny_call_builtin (R := wants (fun r s₂ => r = .none /\ ∃ h' tk o, s₂ = { s with heap := h', toks := tk } /\ h'.get? s.heap.objs.size = some o /\ SetV prog w led h' o (ps.map fun p => Value.ref p.1) /\
     (∀ b o, s.heap.get? b = some o -> h'.get? b = some o) /\ s.toks <= tk) E) F.called_set.init.plain F.entry_set_init (check_set_init_1 hT ?_)) fun r₂ s₂ hr₂ => ?_
   ·obtain ⟨ol, hol, hcl, nl, hdl⟩ := hl
    obtain ⟨ocls, odict, odata, oslots⟩ := ol
    simp only at hcl hdl
    subst hcl; subst hdl
    have hol' : (s.heap.push (freshSet led)).get? l = some { cls := .type "list", dict := odict, data := .seq its nl, slots := oslots } := Heap.get?_push_of_some _ hol
    have hs1 := F.sub_list_set; have hs2 := F.sub_list_frozenset
    have hne : (Value.type "list" == Value.type "dict") = false := by decide
    have hl1 : (s.heap.push (freshSet led)).IsList l its := ⟨_, hol', rfl, nl, rfl⟩
    unfold Builtin.«set.__init__» noKeywords Builtin.Frozenset.updateFrom; generalize hPI : pyIter = PI
    wp_walk; subst hPI
    refine wpAny_pyIter_list hl1 (wpAny_bind (wpAny_runValue ?_))
    have hlS : l < s.heap.objs.size := Heap.lt_size hol
    have hh3 : A.in1.in1.in1.handled = none := by simp [hh]
    have hneI : l ≠ (s.heap.push (freshSet led)).objs.size := by rw [Heap.size_push]; exact Nat.ne_of_lt (Nat.lt_succ_of_lt hlS)
    have hSf : s.heap.objs.size ∉ [(s.heap.push (freshSet led)).objs.size, l] := by
     rw [Heap.size_push]; simp only [List.mem_cons, List.not_mem_nil, or_false, not_or]
     exact ⟨Nat.ne_of_lt (Nat.lt_succ_self _), Nat.ne_of_gt hlS⟩
    have hsz : its.size = ps.length := by have := congrArg List.length hi; simpa using this
    have hp1 : ∀ p ∈ ps, IsT prog w ((s.heap.push (freshSet led)).push { cls := .type "list_iterator", data := .fields #[.ref l, .int 0 0] }) p.2 p.1 /\ p.1 < s.heap.objs.size := fun p hp' => by
     obtain ⟨op, itp, np, q1, q2, q3, q4⟩ := hp p hp'
     exact ⟨⟨op, itp, np, Heap.get?_push_of_some _ (Heap.get?_push_of_some _ q1), q2, q3, q4⟩, Heap.lt_size q1⟩
    refine update_loopT ((Walks.list hh3 _ l hneI its).toS) hu s.heap.objs.size hSf (led := led) ps hsz.symm
     (fun i v hv => by
      have : its.toList[i]? = some v := by rw [Array.getElem?_toList]; exact hv
      rw [hi, List.getElem?_map] at this
      obtain ⟨p, e1, e2⟩ := Option.map_eq_some_iff.mp this
      exact ⟨p, e1, e2.symm⟩) nd hb (its.size - 0) 0 _ (freshSet led) (by omega) (Nat.zero_le _)
     ⟨⟨_, Heap.get?_push_size _ rfl, rfl, rfl⟩, (hl1.push _)⟩ (Heap.get?_push_of_some _ hS) (fresh_goodT led _) (fun p hp' => ⟨(hp1 p hp').1, fun z => ?_⟩) fun s' o' hm ho' hS' => ?_
    ·have := (hp1 p hp').2
     simp only [List.mem_cons, List.not_mem_nil, or_false] at z
     rcases z with z | z
     ·rw [z] at this; exact Nat.lt_irrefl _ this
     ·rw [z, Heap.size_push] at this; exact absurd this (Nat.not_lt.mpr (Nat.le_succ _))
    obtain ⟨h', g', d', tk', os'⟩ := s'
    have eg : g' = s.gens := hm.gens
    have ed : d' = s.drawn := hm.drawn
    have eo : os' = s.os := hm.os
    subst eg; subst ed; subst eo
    refine (show wpAny _ _ _ _ _ _ from wpAny_pure (show wpAny _ _ (ret Value.none) _ _ _ from wpAny_pure ⟨rfl, h', tk', o', rfl, ho', hS', fun b o e => ?_, hm.toks⟩))
    have hbs := Heap.lt_size e
    refine hm.heap b o ?_ (Heap.get?_push_of_some _ (Heap.get?_push_of_some _ e))
    rw [Heap.size_push]; simp only [List.mem_cons, List.not_mem_nil, or_false, not_or]
    exact ⟨Nat.ne_of_lt hbs, Nat.ne_of_lt (Nat.lt_succ_of_lt hbs)⟩
   ·cases r₂ with
    | error e => exact hr₂
    | ok fl₂ =>
     cases fl₂ with
     | ret r =>
      obtain ⟨rfl, h', tk, o, rfl, ho, hS', hk', ht⟩ := hr₂
      repeat (any_goals (first | assumption | wp_step))
      exact h _ _ o ho hS' hk' ht
     | _ => exact hr₂.elim
  | _ => exact hr.elim
theorem perm_lift {α β : Type} {f : α -> β} {l1 l2 : List β} (p : l1.Perm l2) : ∀ zs : List α, zs.map f = l2 -> ∃ zs' : List α, zs'.Perm zs /\ zs'.map f = l1 := by
 induction p with
 | nil => intro zs e; exact ⟨[], by rw [List.map_eq_nil_iff.mp e], rfl⟩
 | cons x _ ih =>
  intro zs e
  obtain ⟨z, zs', rfl, rfl, e2⟩ := List.map_eq_cons_iff.mp e
  obtain ⟨ws, h1, h2⟩ := ih zs' e2
  exact ⟨z :: ws, h1.cons z, by rw [List.map_cons, h2]⟩
 | swap x y l =>
  intro zs e
  obtain ⟨z, zs', rfl, rfl, e2⟩ := List.map_eq_cons_iff.mp e
  obtain ⟨z2, zs2, rfl, rfl, e3⟩ := List.map_eq_cons_iff.mp e2
  exact ⟨z2 :: z :: zs2, List.Perm.swap z z2 zs2, by rw [List.map_cons, List.map_cons, e3]⟩
 | trans _ _ ih1 ih2 =>
  intro zs e
  obtain ⟨ws, h1, h2⟩ := ih2 zs e
  obtain ⟨us, h3, h4⟩ := ih1 ws h2
  exact ⟨us, h3.trans h1, h4⟩
def SetO (led : Bool) (o : Obj) (ps : List (Addr × List Int)) : Prop := ∃ es ep t, o.ExactSet /\ o.data = .set es ep t /\ TabW led es t /\ (es.toList.map (·.2)).Perm (ps.map fun p => Value.ref p.1)
theorem SetV.o {led : Bool} {h : Heap} {o : Obj} {ps : List (Addr × List Int)} (x : SetV prog w led h o (ps.map fun p => Value.ref p.1)) : SetO led o ps := by
 obtain ⟨es, ep, t, h1, h2, T⟩ := x
 exact ⟨es, ep, t, h1, h2, T.W, T.pm⟩
abbrev TupA (h : Heap) (p : Addr × List Int) : Prop := ∃ o its n, h.get? p.1 = some o /\ o.cls = .type "tuple" /\ o.data = .seq its n /\ IntsAre its.toList p.2
theorem tups_of {h : Heap} : ∀ {ps : List (Addr × List Int)}, (∀ p ∈ ps, TupA h p) -> HT2.TupsAre h (ps.map fun p => Value.ref p.1) (ps.map (·.2))
 | [], _ => trivial
 | p :: ps, hp => by
  obtain ⟨o, its, n, r⟩ := hp p List.mem_cons_self
  exact ⟨⟨p.1, o, its, n, rfl, r⟩, tups_of fun q hq => hp q (List.mem_cons_of_mem _ hq)⟩
theorem sorted_setT {a : Addr} {o : Obj} {ps : List (Addr × List Int)} {Q : Value -> Shared -> Prop} (hh : A.handled = none) (ho : s.heap.get? a = some o) (hS : SetO (!bt w) o ps) (hps : ∀ p ∈ ps, TupA s.heap p) (nd : (ps.map (·.2)).Nodup) (h64 : ps.length < 64) (hne : 2 <= ps.length -> ∀ p ∈ ps, p.2 ≠ [])
  (h : ∀ (qs : List (Addr × List Int)) (h' : Heap) (d : Drawn) (tk : Nat) (l : Addr) (c : Nat), (∀ q ∈ qs, q ∈ ps) -> (qs.map (·.2)).Perm (ps.map (·.2)) -> (qs.map (·.2)).Pairwise (fun x y => HT2.llt x y = true) -> (∀ b o, s.heap.get? b = some o -> h'.get? b = some o) -> s.toks <= tk ->
   s.heap.objs.size <= l -> h'.get? l = some (seqObj "list" (qs.map fun q => Value.ref q.1).toArray c) -> Q (.ref l) { s with heap := h', drawn := d, toks := tk }) :
  wpAny (model prog w) A (call (.builtin "sorted") [.ref a]) Q E s := by
 obtain ⟨es, ep, t, hx, hd, G, pm⟩ := hS
 refine Calls.call_function_entry kind_sorted plain_sorted entry_sorted (args_sorted1 _) ?_
 unfold Builtin.«sorted»
 refine wpAny_bind (m := checkCount "sorted" 1 1 _) (wpAny_pure (wpAny_bind (collect_w (show A.in1.handled = none from hh) ho hx hd G fun ord h' d tk hord kp ht hge => ?_)))
 obtain ⟨rs, r1, r2⟩ := perm_lift ((hord.map (·.2)).trans pm) ps rfl
 have r2' : ord.map (·.2) = rs.map fun p => Value.ref p.1 := r2.symm
 rw [r2']
 have hrl : rs.length = ps.length := r1.length_eq
 have hmem : ∀ q ∈ rs, q ∈ ps := fun q hq => r1.mem_iff.mp hq
 have hT0 : HT2.TupsAre s.heap (rs.map fun p => Value.ref p.1) (rs.map (·.2)) := tups_of fun q hq => hps q (hmem q hq)
 have nd' : (rs.map (·.2)).Nodup := (r1.map (·.2)).nodup_iff.mpr nd
 refine wpAny_bind (wpAny_newList ?_ (by rw [List.length_map, sizeLine_eq]; omega))
 generalize hvs : (rs.map fun p => Value.ref p.1) = vs at *
 have hvl : vs.length = rs.length := by rw [← hvs, List.length_map]
 have hoL : (h'.push (seqObj "list" vs.toArray 0)).get? h'.objs.size = some (seqObj "list" vs.toArray 0) := Heap.get?_push_size _ rfl
 have hT2 : HT2.TupsAre (h'.push (seqObj "list" vs.toArray 0)) vs (rs.map (·.2)) := hT0.keep fun b o e => Heap.get?_push_of_some _ (kp b o e)
 have hna : ∀ v ∈ vs, v ≠ .ref h'.objs.size := fun v hv e => by
  rw [← hvs] at hv
  obtain ⟨p, hp, rfl⟩ := List.mem_map.mp hv
  obtain ⟨op, itp, np, q1, _⟩ := hps p (hmem p hp)
  injection e with e
  have := Heap.lt_size (kp _ _ q1)
  rw [e] at this
  exact absurd this (Nat.lt_irrefl _)
 refine wpAny_bind (wpAny_holding (wpAny_call_entry (s := { s with heap := h'.push (seqObj "list" vs.toArray 0), drawn := d, toks := tk }) slot_list_sort ⟨_, hoL, rfl⟩ entry_list_sort (HT2.sort_tups (s := { s with heap := h'.push (seqObj "list" vs.toArray 0), drawn := d, toks := tk }) hoL hT2 nd' (by rw [List.length_map]; omega) (fun h2 x hx' => by
  obtain ⟨p, hp, rfl⟩ := List.mem_map.mp hx'
  rw [List.length_map] at h2
  exact hne (by omega) p (hmem p hp)) hna fun out L' ⟨is, a1, a2, a3⟩ a4 a5 => ⟨_, rfl, ?_⟩) (args_list_sort _)))
 obtain ⟨c, hc⟩ : ∃ c, (sortedHeap (h'.push (seqObj "list" vs.toArray 0)) h'.objs.size vs out).get? h'.objs.size = some (seqObj "list" out c) := by
  unfold sortedHeap
  obtain ⟨e1, q1⟩ : ∃ e1, ((h'.push (seqObj "list" vs.toArray 0)).update h'.objs.size (Obj.mapSeq fun _ => #[])).get? h'.objs.size = some (seqObj "list" #[] e1) := ⟨_, get?_update_seq hoL (fun _ => #[])⟩
  exact ⟨_, get?_update_seq (Heap.get?_push_of_some _ (Heap.get?_push_of_some _ q1)) (fun _ => out)⟩
 have b1 : out.toList = (is.map fun i => rs.getD i (0, [])).map fun q => Value.ref q.1 := by
  rw [a1, List.map_map]
  refine List.map_congr_left fun i hi => ?_
  have hi' : i < rs.length := by have := a3 i hi; rwa [List.length_map] at this
  rw [← hvs]
  simp [List.getD, hi']
 have b2 : L' = (is.map fun i => rs.getD i (0, [])).map (·.2) := by
  rw [a2, List.map_map]
  refine List.map_congr_left fun i hi => ?_
  have hi' : i < rs.length := by have := a3 i hi; rwa [List.length_map] at this
  simp [List.getD, hi']
 have ho' : out = ((is.map fun i => rs.getD i (0, [])).map fun q => Value.ref q.1).toArray := by rw [← b1]
 rw [b2] at a4 a5
 refine wpAny_pure ⟨_, rfl, h (is.map fun i => rs.getD i (0, [])) _ d tk h'.objs.size c (fun q hq => ?_) (a4.trans (r1.map (·.2))) a5 (fun b o e => ?_) ht hge (by rw [← ho']; exact hc)⟩
 ·obtain ⟨i, hi, rfl⟩ := List.mem_map.mp hq
  have hi' : i < rs.length := by have := a3 i hi; rwa [List.length_map] at this
  refine hmem _ ?_
  simp [List.getD, hi']
 ·have hb := kp b o e
  have ne : h'.objs.size ≠ b := Nat.ne_of_gt (Heap.lt_size hb)
  unfold sortedHeap
  rw [Heap.get?_update_other _ _ ne]
  refine Heap.get?_push_of_some _ (Heap.get?_push_of_some _ ?_)
  rw [Heap.get?_update_other _ _ ne]
  exact Heap.get?_push_of_some _ hb
end
end HS
namespace HW
open PySem PySem.Spec PyProof.Rows L2 HS HT2
theorem items_of {prog : Program} {w : World} : ∀ {its : List Value} {ks : List Int}, IntsAre its ks -> ItemsAre (intKind prog w) ks its
 | _, _, .nil => .nil
 | _, _, .cons n t h => .cons (intKind_is _ _ _ _) (items_of h)
abbrev TpsV (K : PySem.W.Frag) (H : Hp) (ps : List (Addr × List Int)) : Prop := ∀ q ∈ ps, SqT K H q.1 (q.2.map V.int)
theorem Inv.tupA {X : Cx} {pins : List (Addr × Obj)} {σ : L2.St} {H : Hp} {s : Shared} (I : Inv X pins σ H s) {p : Addr × List Int} (h : SqT X.K H p.1 (p.2.map V.int)) : TupA s.heap p := by
 obtain ⟨its, r', ⟨o', ho', hc', n', hd'⟩, hz⟩ := I.tuple h
 exact ⟨o', its.toArray, n', ho', hc', hd', by simpa using vals_ints r'⟩
def rSetT2 (K : PySem.W.Frag) (b : Bool) : List V -> Hp -> VK -> Prop := fun vs H Q => ∃ (p : Addr) (ps : List (Addr × List Int)), vs = [.ref p] /\ SqL K H p (ps.map fun q => V.ref q.1) /\ TpsV K H ps /\ (ps.map (·.2)).Nodup /\ ps.length < 64 /\ ∀ l o, H l = none -> SetO b o ps -> Q (.ref l) (upd H l (heldSet o))
theorem refs_vals : ∀ {ps : List (Addr × List Int)} {its : List Value}, Vals (ps.map fun q => V.ref q.1) its -> its = ps.map fun q => Value.ref q.1
 | [], its, h => by cases h; rfl
 | p :: ps, its, h => by
  cases h with
  | cons h1 h2 => rw [refs_vals h2]; rw [show _ = Value.ref p.1 from h1]; rfl
theorem vals_refs2 : ∀ (ps : List (Addr × List Int)), Vals (ps.map fun q => V.ref q.1) (ps.map fun q => Value.ref q.1)
 | [] => .nil
 | p :: ps => .cons rfl (vals_refs2 ps)
theorem call_setT2 {X : Cx} (hc : X.calm = true) (hu : X.A.units + 64 < cLine) : CallR X (.type "set") (rSetT2 X.K (!HS.bt X.w)) := by
 intro pins s σ H vs us Q I r h
 obtain ⟨p, ps, rfl, hq, hT, nd, h64, q⟩ := h
 obtain ⟨u, rfl, rx⟩ := vals1 r
 cases rx
 obtain ⟨its, r', pl, hz⟩ := I.list hq
 have hi := refs_vals r'
 refine set_lstT (its := its.toArray) (ps := ps) (I.ok.hd hc) (by simp only [Around.in1_units]; omega) pl.isList (by simpa using hi) (fun q hq' => ?_) nd h64 fun h' tk o ho hS kp ht => ?_
 ·obtain ⟨o, itq, n, q1, q2, q3, q4⟩ := Inv.tupA I (hT q hq')
  exact ⟨o, itq, n, q1, q2, q3, items_of q4⟩
 ·exact ⟨.ref s.heap.objs.size, _, I.laid (t' := tk) kp (Nat.le_refl _) (show ObjOk X.prog X.w _ h' _ (heldSet o) from ⟨ho, trivial, ⟨o, ho⟩, fun _ _ _ _ => trivial⟩), rfl, q _ _ (I.hok.fresh (Nat.le_refl _)) hS.o⟩
def rSortT2 (K : PySem.W.Frag) (b : Bool) : List V -> Hp -> VK -> Prop := fun vs H Q => ∃ (p : Addr) (o : Obj) (ps : List (Addr × List Int)), vs = [.ref p] /\ H p = some (heldSet o) /\ SetO b o ps /\ TpsV K H ps /\ (ps.map (·.2)).Nodup /\ ps.length < 64 /\ (2 <= ps.length -> ∀ p ∈ ps, p.2 ≠ []) /\
 ∀ (l : Addr) (qs : List (Addr × List Int)), H l = none -> (∀ q ∈ qs, q ∈ ps) -> qs.map (·.2) = lsort (ps.map (·.2)) -> Q (.ref l) (upd H l (.lst (qs.map fun q => V.ref q.1)))
theorem call_sortT2 {X : Cx} (hc : X.calm = true) : CallR X (.builtin "sorted") (rSortT2 X.K (!HS.bt X.w)) := by
 intro pins s σ H vs us Q I r h
 obtain ⟨p, o, ps, rfl, hp, hS, hT, nd, h64, hne, q⟩ := h
 obtain ⟨u, rfl, rx⟩ := vals1 r
 cases rx
 have ho : s.heap.get? p = some o := (I.hok p _ hp).1
 refine sorted_setT (I.ok.hd hc) ho hS (fun q hq => Inv.tupA I (hT q hq)) nd h64 hne fun qs h' d tk l c a1 a2 a3 kp ht hl hL => ?_
 have e : qs.map (·.2) = lsort (ps.map (·.2)) := lup_one a3 (lsort_up nd) (a2.trans (lsort_perm _).symm)
 have hlen : qs.length = ps.length := by have := a2.length_eq; simpa using this
 have I1 : Inv X pins σ (upd H l (.lst (qs.map fun q => V.ref q.1))) { s with heap := h', toks := tk } :=
  I.laid (t' := tk) kp hl (show ObjOk X.prog X.w _ h' _ (.lst _) from ⟨by rw [List.length_map, hlen, sizeLine_eq]; omega, _, c, vals_refs2 qs, by simpa [seqObj] using hL⟩)
 exact ⟨.ref l, _, Inv.drw I1 d, rfl, q _ qs (I.hok.fresh hl) a1 e⟩
noncomputable def tupI : D -> Option (List Int)
 | .tup xs => intsD xs
 | .key ks => some ks
 | _ => none
noncomputable def tupsI : List D -> Option (List (List Int))
 | [] => some []
 | d :: r => (tupI d).bind fun k => (tupsI r).bind fun ks => some (k :: ks)
noncomputable abbrev kT (ks : List Int) : D := .tup (ks.map .int)
theorem tupI_ok {K : PySem.W.Frag} {H : Hp} {d : D} {ks : List Int} {v : V} (e : tupI d = some ks) (r : RelD K H d v) : ∃ a, v = .ref a /\ SqT K H a (ks.map V.int) := by
 unfold tupI at e
 split at e
 ·simp only [RelD] at r
  obtain ⟨a, vs, rfl, h1, h2⟩ := r
  rw [intsK e h2] at h1
  exact ⟨a, rfl, h1⟩
 ·cases e
  simp only [RelD] at r
  obtain ⟨a, rfl, h⟩ := r
  exact ⟨a, rfl, .inl (.inl h)⟩
 ·cases e
theorem tupsI_ok {K : PySem.W.Frag} {H : Hp} : ∀ {ds : List D} {L : List (List Int)} {vs : List V}, tupsI ds = some L -> RelDs K H ds vs -> ∃ ps : List (Addr × List Int), vs = ps.map (fun q => V.ref q.1) /\ ps.map (·.2) = L /\ TpsV K H ps
 | [], L, vs, e, r => by
  cases e
  simp only [RelDs] at r
  subst r
  exact ⟨[], rfl, rfl, fun _ h => nomatch h⟩
 | d :: ds, L, vs, e, r => by
  obtain ⟨k, e1, e⟩ := Option.bind_eq_some_iff.mp e
  obtain ⟨ks, e2, e⟩ := Option.bind_eq_some_iff.mp e
  cases e
  simp only [RelDs] at r
  obtain ⟨v, vr, rfl, r1, r2⟩ := r
  obtain ⟨a, rfl, h1⟩ := tupI_ok e1 r1
  obtain ⟨ps, rfl, rfl, h2⟩ := tupsI_ok e2 r2
  exact ⟨(a, k) :: ps, rfl, rfl, fun q hq => by
   rcases List.mem_cons.mp hq with rfl | hq
   ·exact h1
   ·exact h2 q hq⟩
theorem kTs_rel {K : PySem.W.Frag} {H : Hp} : ∀ {qs : List (Addr × List Int)}, TpsV K H qs -> RelDs K H ((qs.map (·.2)).map kT) (qs.map fun q => V.ref q.1)
 | [], _ => by simp only [List.map_nil, RelDs]
 | q :: qs, h => by
  simp only [List.map_cons, RelDs, RelD]
  exact ⟨_, _, rfl, ⟨q.1, _, rfl, h q List.mem_cons_self, rel_ints⟩, kTs_rel fun p hp => h p (List.mem_cons_of_mem _ hp)⟩
noncomputable def ssD (x : R) (μ : Store) : Option (R × Store) := (seqL x μ).bind fun ds => (tupsI ds).bind fun L => if L.Nodup /\ L.length < 64 /\ (L.length < 2 \/ ∀ k ∈ L, k ≠ []) then some (.p μ.length, μ ++ [.lst ((lsort L).map kT)]) else none
noncomputable def fSS (fa : FE) : FE := fun ρ μ => (fa ρ μ).bind fun a => ssD a.1 a.2
theorem rd_SS {K : PySem.W.Frag} {σ : L2.St} {H : Hp} {Q : VK} {fa : FE} {b : Bool} (h : rdE K (fSS fa) σ H Q) : tCB (rSortT2 K b) (tCons (tCB (rSetT2 K b) (tCons (rdE K fa) tNil)) tNil) σ H Q := by
 obtain ⟨ρ, μ, m, d, μ', hl, hs, e, kk'⟩ := h
 obtain ⟨⟨x, μ1⟩, e1, e⟩ := Option.bind_eq_some_iff.mp e
 obtain ⟨ds, e2, e⟩ := Option.bind_eq_some_iff.mp e
 obtain ⟨L, e3, e⟩ := Option.bind_eq_some_iff.mp e
 split at e
 ·rename_i hc
  obtain ⟨nd, h64, hne⟩ := hc
  cases e
  refine ⟨ρ, μ, m, x, μ1, hl, hs, e1, fun v H1 m1 x1 s1 r1 => ?_⟩
  obtain ⟨a, vs, rfl, q1, q2⟩ := seqL_ok s1 e2 r1
  obtain ⟨ps, rfl, rfl, hT⟩ := tupsI_ok e3 q2
  have h64' : ps.length < 64 := by simpa using h64
  refine ⟨a, ps, rfl, q1, hT, nd, h64', fun l o hl' hO => ?_⟩
  have x2 : Ext m1 H1 m1 (upd H1 l (heldSet o)) := Ext.new hl'
  have s2 : SRel K m1 (upd H1 l (heldSet o)) μ1 := s1.same (upd_keeps hl')
  have hT2 : TpsV K (upd H1 l (heldSet o)) ps := fun q hq => SqT.tf (.of (upd_keeps hl')) (hT q hq)
  refine ⟨l, o, ps, rfl, upd_at, hO, hT2, nd, h64', fun h2 p hp => ?_, fun l2 qs hl2 hm hq => ?_⟩
  ·rcases hne with z | z
   ·rw [List.length_map] at z; omega
   ·exact z _ (List.mem_map.mpr ⟨p, hp, rfl⟩)
  ·obtain ⟨x3, s3, r3⟩ := new_lst s2 (kTs_rel fun q hq' => hT2 q (hm q hq')) hl2
   rw [hq] at s3
   exact kk' _ _ _ (x1.trans (x2.trans x3)) s3 r3
 ·cases e
end HW
namespace HW
open PySem PySem.Spec PyProof.Rows L2
section
variable {X : Cx} {pins : List (Addr × Obj)} {σ : L2.St} {H : Hp} {s : Shared}
end
end HW
namespace HW
open PySem PySem.Spec PyProof.Rows L2
end HW
namespace HW
open PySem PySem.Spec PyProof.Rows L2
structure SamT (P : Addr) (q : Str) (H H' : Hp) : Prop where
 keep : ∀ b o, b ≠ P -> H b = some o -> H' b = some o
 tab : ∃ ps, H' P = some (.tbl ps) /\ LamGood H' q ps
noncomputable def tbOk (P : Nat) (q : Str) (μ : Store) : Bool := match μ[0]? with | some (Cell.tb P' q') => decide (P' = P) && decide (q' = q) | _ => false
noncomputable def finT (P : Nat) (q : Str) : Out -> Option D
 | .rt r μ => (fzD r μ).bind fun a => if tbOk P q a.2 = true then some a.1 else none
 | .nx _ μ => if tbOk P q μ = true then some .non else none
 | _ => none
noncomputable def runT (P : Nat) (q : Str) (k : Nat) (b : FS) : MF := fun ds => (b (ds.map (fun d => some (.v d)) ++ List.replicate (k - ds.length) none) [.tb P q]).bind (finT P q)
noncomputable def spT (K : PySem.W.Frag) (P : Nat) (q : Str) (n : Nat) (f : MF) : Sp := fun vs H Q _ => ∃ ds d, ds.length = n /\ RelDs K H ds vs /\ f ds = some d /\ (∃ ps, H P = some (.tbl ps) /\ LamGood H q ps) /\ ∀ v H', SamT P q H H' -> RelD K H' d v -> Q v H'
def KeptT (Pg : Program) (w : World) (K : PySem.W.Frag) (mg : Str -> Option Value) (base : Heap) (k : Nat) (x : Str) (ps : List Str) (P : Nat) (q : Str) (mf : MF) : Prop :=
 ∃ f fd, FnOk Pg w K mg base CX0 k f fd ps (spT K P q ps.length mf) /\ PySem.W.keepIn K (.ref f) = true /\ Binds K fd ps [] /\ mg x = some (.ref f)
section
variable {K : PySem.W.Frag} {m : List Addr} {σ : L2.St} {H H' : Hp} {μ : Store} {Q : VK}
end
structure FunC (K : PySem.W.Frag) (x : Str) (st : Stmt) (f : Addr) (fd : FuncData) (c : Addr) : Prop where
 ex : ∃ (oc : Value) (od : Option Addr) (kV doc pm : Value) (an : Option Addr) (ct : Value) (osl : Array (Option Value)),
  fd = PySem.W.fnOf x x (defArgs st) (defBody st) (defScope st) .none kV doc pm an (.ref c) ct /\ K.lookup f = some ⟨oc, od, .func fd, osl⟩ /\ PySem.W.codeIn K (.ref c) x = true
 kp : PySem.W.keepIn K (.ref f) = true
section
variable {P : Program} {w : World} {K : PySem.W.Frag} {mg : Str -> Option Value} {base : Heap} {x : Str} {st : Stmt} {f : Addr} {fd : FuncData} {N ps : List Str} {k : Nat} {tP : Nat} {tQ : Str} {b : FS} {c : Addr}
end
end HW
namespace HW
open PySem PySem.Spec PyProof.Rows L2
noncomputable def isStar : Expr -> Bool
 | .Starred .. => true
 | _ => false
theorem star_cons {e : Expr} {es : List Expr} {env : Env} (h : isStar e = false) : starEach (e :: es) env = (false, eval e env) :: starEach es env := by
 cases e <;> first | rfl | (simp [isStar] at h)
theorem star_any {env : Env} {pos : Pos} : ∀ {es : List Expr}, es.any isStar = false -> (backTo pos (starEach es env)).any (·.1) = false
 | [], _ => rfl
 | e :: es, h => by
  rw [List.any_cons, Bool.or_eq_false_iff] at h
  rw [star_cons h.1]
  have ih := star_any (env := env) (pos := pos) h.2
  unfold backTo at ih ⊢
  rw [List.map_cons, List.any_cons, ih]
  rfl
theorem assign_cons {e : Expr} {es : List Expr} {env : Env} (h : isStar e = false) : (assignEach (e :: es) env).map (·.2) = assign e env :: (assignEach es env).map (·.2) := by
 cases e <;> first | rfl | (simp [isStar] at h)
theorem getItem_tuple_whole {prog : Program} {w : World} {A : Around} {E : Value -> Shared -> Prop} {s : Shared} {t sl : Addr} {items : Array Value} {vl vu : Value} {lo hi : Option Int} {Q : Value -> Shared -> Prop} (ht : IsTup s.heap t items) (hs : s.heap.IsSliceOf sl vl vu .none) (pl : IsPart vl lo) (pu : IsPart vu hi)
  (hw : HT.sIx items.size 0 lo = 0 /\ HT.sIx items.size items.size hi = items.size)
  (h : Q (.ref t) s) : wpAny (model prog w) A (getItem (.ref t) (.ref sl)) Q E s := by
 obtain ⟨os, hos, hcs, hds⟩ := id hs
 have hTs : s.TypeIs (.ref sl) "slice" := ⟨os, hos, hcs⟩
 unfold getItem
 try with_reducible refine wpAny_holding ?_
 first | refine wpAny_bind (wpAny_pure ?_) | skip
 refine wpAny_bind (wpAny_sequenceKey ht.typeIs (by decide) ?_)
 refine wpAny_bind (wpAny_callSpecial?_slot (name := Str.ofString "__getitem__") ht.typeIs PyProof.Rows.slot_tuple_getitem
  (wpAny_call_entry PyProof.Rows.slot_tuple_getitem ht.typeIs entry_tuple_getitem ?_ (args_tuple_getitem _ _)))
 show wpAny _ _ (Builtin.Tuple.tupleItemsOf (.ref t) >>= _) _ _ s
 refine wpAny_bind (tupleItemsOf_ ht ?_)
 refine wpAny_bind (wpAny_typeOf hTs ?_)
 rw [if_pos (by decide)]
 refine wpAny_bind (HT.sliceApplied_gen hs pl pu ?_)
 have hyes : ((((HT.sIx items.size 0 lo : Nat) : Int) == 0 && (1 : Int) == 1 && (HT.sIx items.size items.size hi - HT.sIx items.size 0 lo) == items.size) = true) := by
  rw [hw.1, hw.2]; simp
 show wpAny _ _ (if (((HT.sIx items.size 0 lo : Nat) : Int) == 0 && (1 : Int) == 1 && (HT.sIx items.size items.size hi - HT.sIx items.size 0 lo) == items.size) = true then _ else _) _ _ s
 rw [if_pos hyes]
 refine wpAny_bind (m := Builtin.Tuple.tupleIsExact (.ref t)) (wpAny_bind (wpAny_typeOf ht.typeIs (wpAny_pure ?_)))
 rw [if_pos (by decide)]
 refine wpAny_bind (wpAny_rule ?_)
 first
  | exact wpAny_pure ⟨_, rfl, wpAny_pure h⟩
  | exact wpAny_bind (wpAny_pure (wpAny_pure ⟨_, rfl, wpAny_pure h⟩))
  | exact wpAny_bind (wpAny_pure ⟨_, rfl, wpAny_pure h⟩)
noncomputable def cutD (xs : List D) (lo hi : Option Int) : List D := (xs.drop (HT.sIx xs.length 0 lo)).take (HT.sIx xs.length xs.length hi - HT.sIx xs.length 0 lo)
def rSl (K : PySem.W.Frag) : V -> Option Int -> Option Int -> Hp -> VK -> Prop := fun x lo hi H Q => rSlL K x lo hi H Q \/ rSlT K x lo hi H Q \/
 ∃ a xs, x = .ref a /\ SqT K H a xs /\ (HT.sIx xs.length 0 lo = 0 /\ HT.sIx xs.length xs.length hi = xs.length) /\ Q (.ref a) H
theorem sl_whole {X : Cx} : SlR X (fun x lo hi H Q => ∃ a xs, x = .ref a /\ SqT X.K H a xs /\ (HT.sIx xs.length 0 lo = 0 /\ HT.sIx xs.length xs.length hi = xs.length) /\ Q (.ref a) H) := by
 intro pins s σ H x v vl vu lo hi sl Q I rx hs pl pu h
 obtain ⟨a, xs, rfl, hx, hw, q⟩ := h
 cases rx
 obtain ⟨its, r, ht, hz⟩ := I.tuple hx
 have hlen : its.toArray.size = xs.length := by rw [List.size_toArray]; exact r.length.symm
 refine ⟨"tuple", _, PyProof.Rows.slot_tuple_getitem.lookup, ht.typeIs, ?_⟩
 exact getItem_tuple_whole ht hs pl pu (by rw [hlen]; exact hw) ⟨.ref a, H, I, rfl, q⟩
theorem sl_any {X : Cx} : SlR X (rSl X.K) := SlR.or sl_list (SlR.or sl_tup sl_whole)
noncomputable abbrev FO := Lo -> Store -> Option (Option Int × Store)
def rdO (K : PySem.W.Frag) (f : FO) : TO := fun σ H Q => ∃ ρ μ m o μ', LRel K m H ρ σ /\ SRel K m H μ /\ f ρ μ = some (o, μ') /\ ∀ H' m', Ext m H m' H' -> SRel K m' H' μ' -> Q o H'
noncomputable def oNone : FO := fun _ μ => some (none, μ)
noncomputable def oSome (f : FE) : FO := fun ρ μ => (f ρ μ).bind fun a => match a.1 with | .v (.int i) => some (some i, a.2) | _ => none
noncomputable def slD (x : R) (lo hi : Option Int) (μ : Store) : Option (R × Store) := match x with
 | .v (.tup xs) => some (.v (.tup (cutD xs lo hi)), μ)
 | x => (lstD x μ).bind fun xs => some (.p μ.length, μ ++ [.lst (cutD xs lo hi)])
noncomputable def fSl (fa : FE) (fl fh : FO) : FE := fun ρ μ => (fa ρ μ).bind fun a => (fl ρ a.2).bind fun l => (fh ρ l.2).bind fun h => slD a.1 l.1 h.1 h.2
theorem RelDs.drop {K : PySem.W.Frag} {H : Hp} : ∀ {xs : List D} {vs : List V} (n : Nat), RelDs K H xs vs -> RelDs K H (xs.drop n) (vs.drop n)
 | _, _, 0, h => h
 | [], _, n + 1, h => by simp only [RelDs] at h; subst h; simp only [List.drop_nil, RelDs]
 | x :: xs, _, n + 1, h => by
  simp only [RelDs] at h
  obtain ⟨v, r, rfl, _, h2⟩ := h
  exact RelDs.drop n h2
theorem RelDs.take {K : PySem.W.Frag} {H : Hp} : ∀ {xs : List D} {vs : List V} (n : Nat), RelDs K H xs vs -> RelDs K H (xs.take n) (vs.take n)
 | _, _, 0, h => by simp only [List.take_zero, RelDs]
 | [], _, n + 1, h => by simp only [RelDs] at h; subst h; simp only [List.take_nil, RelDs]
 | x :: xs, _, n + 1, h => by
  simp only [RelDs] at h
  obtain ⟨v, r, rfl, h1, h2⟩ := h
  simp only [List.take_succ_cons, RelDs]
  exact ⟨v, _, rfl, h1, RelDs.take n h2⟩
theorem RelDs.cut {K : PySem.W.Frag} {H : Hp} {xs : List D} {vs : List V} {lo hi : Option Int} (h : RelDs K H xs vs) : RelDs K H (cutD xs lo hi) (cutV vs lo hi) := by
 unfold cutD cutV
 rw [h.length]
 exact (h.drop _).take _
section
variable {K : PySem.W.Frag} {σ : L2.St} {H : Hp} {Q : VK}
theorem rd_oSome {f} {Q : Option Int -> Hp -> Prop} (h : rdO K (oSome f) σ H Q) : tPart (rdE K f) σ H Q := by
 obtain ⟨ρ, μ, m, o, μ', hl, hs, e, k⟩ := h
 obtain ⟨⟨x, μ1⟩, e1, e⟩ := Option.bind_eq_some_iff.mp e
 split at e
 ·rename_i i q
  cases e
  simp only at q
  subst q
  exact ⟨ρ, μ, m, _, μ1, hl, hs, e1, fun v H1 m1 x1 s1 r1 => ⟨i, by simpa only [RelR, RelD] using r1, k H1 m1 x1 s1⟩⟩
 ·cases e
theorem sl_ok {m : List Addr} {μ μ' : Store} {x d : R} {v : V} {lo hi : Option Int} (s : SRel K m H μ) (r : RelR K m H x v) (e : slD x lo hi μ = some (d, μ')) (k : ∀ w H' m', Ext m H m' H' -> SRel K m' H' μ' -> RelR K m' H' d w -> Q w H') : rSl K v lo hi H Q := by
 have lst : ∀ xs, lstD x μ = some xs -> (some (R.p μ.length, μ ++ [Cell.lst (cutD xs lo hi)]) : Option (R × Store)) = some (d, μ') -> rSl K v lo hi H Q := fun xs e1 e2 => by
  cases e2
  obtain ⟨a, vs, rfl, q, rr⟩ := lst_ok s r e1
  refine .inl ⟨a, vs, rfl, q, fun p hp => ?_⟩
  obtain ⟨x1, x2, x3⟩ := new_lst s (rr.cut (lo := lo) (hi := hi)) hp
  exact k _ _ _ x1 x2 x3
 have gen : (lstD x μ).bind (fun xs => some (R.p μ.length, μ ++ [Cell.lst (cutD xs lo hi)])) = some (d, μ') -> rSl K v lo hi H Q := fun e => by
  obtain ⟨xs, e1, e⟩ := Option.bind_eq_some_iff.mp e
  exact lst xs e1 e
 cases x with
 | p n => exact gen e
 | s _ n => exact gen e
 | x n => exact gen e
 | f L ds => exact gen e
 | v d0 =>
  cases d0 with
  | tup xs =>
   cases e
   simp only [RelR, RelD] at r
   obtain ⟨a, vs, rfl, q, rr⟩ := r
   by_cases hw : HT.sIx vs.length 0 lo = 0 /\ HT.sIx vs.length vs.length hi = vs.length
   ·refine .inr (.inr ⟨a, vs, rfl, q, hw, k _ H m .refl s ?_⟩)
    simp only [RelR, RelD]
    refine ⟨a, vs, rfl, q, ?_⟩
    have := rr.cut (lo := lo) (hi := hi)
    unfold cutV at this
    rw [hw.1, hw.2] at this
    simpa using this
   ·refine .inr (.inl ⟨a, vs, rfl, q, hw, fun p hp => ?_⟩)
    obtain ⟨x1, x2, x3⟩ := new_tup s (rr.cut (lo := lo) (hi := hi)) hp
    exact k _ _ _ x1 x2 x3
  | non => exact gen e
  | bl _ => exact gen e
  | int _ => exact gen e
  | str _ => exact gen e
  | fl _ => exact gen e
  | fd _ _ => exact gen e
  | key _ => exact gen e
theorem rd_sl {fa fl fh} (h : rdE K (fSl fa fl fh) σ H Q) : tSl (rSl K) (rdE K fa) (rdO K fl) (rdO K fh) σ H Q := by
 obtain ⟨ρ, μ, m, d, μ', hl, hs, e, k⟩ := h
 obtain ⟨⟨x, μ1⟩, e1, e⟩ := Option.bind_eq_some_iff.mp e
 obtain ⟨⟨l, μ2⟩, e2, e⟩ := Option.bind_eq_some_iff.mp e
 obtain ⟨⟨u, μ3⟩, e3, e⟩ := Option.bind_eq_some_iff.mp e
 refine ⟨ρ, μ, m, x, μ1, hl, hs, e1, fun v H1 m1 x1 s1 r1 => ?_⟩
 refine ⟨ρ, μ1, m1, l, μ2, hl.ext x1, s1, e2, fun H2 m2 x2 s2 => ?_⟩
 refine ⟨ρ, μ2, m2, u, μ3, hl.ext (x1.trans x2), s2, e3, fun H3 m3 x3 s3 => ?_⟩
 exact sl_ok s3 (r1.ext (x2.trans x3)) e fun w H4 m4 x4 s4 r4 => k w H4 m4 (((x1.trans x2).trans x3).trans x4) s4 r4
end
theorem PO.imp {X : Cx} {e : Option Expr} {t t' : TO} (h : PO X e t) (k : ∀ {σ H Q}, t' σ H Q -> t σ H Q) : PO X e t' := fun pins s σ H Q I q => h pins s σ H Q I (k q)
noncomputable def fStep (fa : FE) (fl fh : FO) (k : Int) : FE := fun ρ μ => (fa ρ μ).bind fun a => (fl ρ a.2).bind fun l => (fh ρ l.2).bind fun h => if k = 0 then none else (lstD a.1 h.2).bind fun xs => some (.p h.2.length, h.2 ++ [.lst (stepV xs l.1 h.1 k)])
noncomputable def fDnew : FE := fun _ μ => some (.p μ.length, μ ++ [.dct []])
namespace R
section
variable {X : Cx} {a b e o : Expr} {es : List Expr} {fa fb : FE} {ga : FA} {pos p p2 apos : Pos} {x : Str}
theorem q_var (i : Nat) (hN : X.N[i]? = some x := by rfl) (hv : Vis X.env.scope x := by first | exact Or.inl rfl | exact Or.inr (Or.inl rfl) | exact Or.inr (Or.inr rfl)) (hd : (x == ("__debug__" : Str)) = false := by decide)
  (hcd : (x == ("__classdict__" : Str)) = false := by decide) : PE X (.Name x pos) (rdE X.K (fVar i)) := PE.imp (pe_var hN hv hd hcd) rd_var
theorem q_int {i j} : PE X (.Constant (.int i) j pos) (rdE X.K (fK (.int i))) := PE.imp pe_int (rd_const fun _ _ => by simp only [RelR, RelD])
theorem q_bl {i j} : PE X (.Constant (.bool i) j pos) (rdE X.K (fK (.bl i))) := PE.imp pe_bl (rd_const fun _ _ => by simp only [RelR, RelD])
theorem q_addQ (ha : PE X a (rdE X.K fa)) (hb : PE X b (rdE X.K fb)) : PE X (.BinOp a .Add b pos) (rdE X.K (fOp addQ fa fb)) := PE.imp (pe_op ((op_add.or (op_add_str.or (op_catT.or op_cat))).or op_add0) ha hb) (rd_op g_addQ)
theorem q_sub (ha : PE X a (rdE X.K fa)) (hb : PE X b (rdE X.K fb)) : PE X (.BinOp a .Sub b pos) (rdE X.K (fOp subD fa fb)) := PE.imp (pe_op op_sub ha hb) (rd_op g_sub)
theorem q_mul (ha : PE X a (rdE X.K fa)) (hb : PE X b (rdE X.K fb)) : PE X (.BinOp a .Mult b pos) (rdE X.K (fOp mulD fa fb)) := PE.imp (pe_op op_mul ha hb) (rd_op g_mul)
theorem q_div (ha : PE X a (rdE X.K fa)) (hb : PE X b (rdE X.K fb)) : PE X (.BinOp a .FloorDiv b pos) (rdE X.K (fOp divD fa fb)) := PE.imp (pe_op op_fdiv ha hb) (rd_op g_div)
theorem q_mod (ha : PE X a (rdE X.K fa)) (hb : PE X b (rdE X.K fb)) : PE X (.BinOp a .Mod b pos) (rdE X.K (fOp modD fa fb)) := PE.imp (pe_op op_mod ha hb) (rd_op g_mod)
theorem q_pow (ha : PE X a (rdE X.K fa)) (hb : PE X b (rdE X.K fb)) : PE X (.BinOp a .Pow b pos) (rdE X.K (fOp powD fa fb)) := PE.imp (pe_op op_pow ha hb) (rd_op g_pow)
theorem q_neg (ha : PE X a (rdE X.K fa)) : PE X (.UnaryOp .USub a pos) (rdE X.K (fUn negD fa)) := PE.imp (pe_un un_neg ha) (rd_un g_neg)
theorem q_not (ha : PE X a (rdE X.K fa)) : PE X (.UnaryOp .Not a pos) (rdE X.K (fNot fa)) := PE.imp (pe_not ha) rd_not
theorem q_lt (ha : PE X a (rdE X.K fa)) (hb : PE X b (rdE X.K fb)) : PE X (.Compare a [.Lt] [b] pos) (rdE X.K (fOp ltD fa fb)) := PE.imp (pe_cmpR op_lt ha hb (nomark _)) (rd_op g_lt)
theorem q_eq (hu : X.A.units + 64 < cLine) (ha : PE X a (rdE X.K fa)) (hb : PE X b (rdE X.K fb)) : PE X (.Compare a [.Eq] [b] pos) (rdE X.K (fOp (eqR false) fa fb)) := PE.imp (pe_cmpR (op_eqD hu) ha hb (nomark _)) (rd_op g_eq)
theorem q_and {rest : List Expr} (ha : PE X a (rdE X.K fa)) (hb : PE X (.BoolOp .And (b :: rest) pos) (rdE X.K fb)) : PE X (.BoolOp .And (a :: b :: rest) pos) (rdE X.K (fAnd fa fb)) := PE.imp (pe_and ha hb) rd_and
theorem q_one {op} (ha : PE X a (rdE X.K fa)) : PE X (.BoolOp op [a] pos) (rdE X.K fa) := pe_one ha
theorem q_nil : PA X [] (rdA X.K fNil) := PA.imp pa_nil rd_nil
theorem q_cons (ha : PE X e (rdE X.K fa)) (hr : PA X es (rdA X.K ga)) (hs : starEach (e :: es) X.env = (false, eval e X.env) :: starEach es X.env := by exact star_cons rfl) : PA X (e :: es) (rdA X.K (fCons fa ga)) := PA.imp (pa_cons ha hr hs) rd_cons
theorem q_tup {x1} (h : PA X es (rdA X.K ga)) : PE X (.Tuple es x1 pos) (rdE X.K (fTup ga)) := PE.imp (pe_tup h) rd_tup
theorem q_lst (h : PA X es (rdA X.K ga)) : PE X (.List es pos) (rdE X.K (fLst ga)) := PE.imp (pe_lst h) rd_lst
theorem q_fz (ha : PE X a (rdE X.K fa)) : PE X a (rdE X.K (fFz fa)) := PE.imp (pe_fz0 ha) rd_fz
theorem q_ix (ha : PE X a (rdE X.K fa)) (hb : PE X b (rdE X.K fb)) (hs : PlainIx b := by intro _ _; rfl) : PE X (.Subscript a b pos) (rdE X.K (fOp ixD fa fb)) := PE.imp (pe_ix ix_seq ha hb hs) (rd_op g_ix)
theorem q_oS (ha : PE X a (rdE X.K fa)) : PO X (some a) (rdO X.K (oSome fa)) := PO.imp (po_some ha) rd_oSome
theorem q_sl {lo hi : Option Expr} {fl fh : FO} (ha : PE X a (rdE X.K fa)) (hl : PO X lo (rdO X.K fl)) (hh : PO X hi (rdO X.K fh)) : PE X (.Subscript a (.Slice lo hi none p2) pos) (rdE X.K (fSl fa fl fh)) := PE.imp (pe_slice sl_any ha hl hh) rd_sl
theorem q_call {k : Nat} {f : Addr} {fd : FuncData} {ps : List Str} {n : Nat} {mf : MF} (F : FnOk X.prog X.w X.K X.mg X.base CX0 k f fd ps (spP X.K n mf)) (hr : Room k X.A) (hg : Gl X x) (hm : X.mg x = some (.ref f)) (hk : PySem.W.keepIn X.K (.ref f) = true) (hb : Binds X.K fd ps [])
  (ha : PA X (e :: es) (rdA X.K ga)) (hdb : (x == ("__debug__" : Str)) = false := by decide) (he : starEach (e :: es) X.env = (false, eval e X.env) :: starEach es X.env := by exact star_cons rfl) (hpl : (backTo pos (starEach es X.env)).any (·.1) = false := by exact star_any rfl) :
  PE X (.Call (.Name x p) (e :: es) [] pos) (rdE X.K (fCall mf n ga)) := PE.imp (pe_call F hr hg hm hk hb .nil pass0 ha hdb he hpl) rd_call
theorem q_len (hg : Gl X "len") (hm : X.mg "len" = none) (ha : PA X (e :: es) (rdA X.K ga)) (he : starEach (e :: es) X.env = (false, eval e X.env) :: starEach es X.env := by exact star_cons rfl) (hpl : (backTo pos (starEach es X.env)).any (·.1) = false := by exact star_any rfl) :
  PE X (.Call (.Name "len" p) (e :: es) [] pos) (rdE X.K (fAr lenD ga)) := PE.imp (pe_callB call_len_seq hg hm PySem.boot_len ha (he := he) (hpl := hpl)) (rd_ar g_len)
theorem q_const {d : D} (h : ConstR X.K X.mg x d) (hg : Gl X x := by rfl) (hd : (x == ("__debug__" : Str)) = false := by decide) : PE X (.Name x pos) (rdE X.K (fK d)) := by
 obtain ⟨u, v, hm, r, rd⟩ := h
 exact PE.imp (pe_glob hg hm r hd) (rd_const fun _ H => rd H)
theorem q_tuple (hg : Gl X "tuple") (hm : X.mg "tuple" = none) (ha : PA X (e :: es) (rdA X.K ga)) (he : starEach (e :: es) X.env = (false, eval e X.env) :: starEach es X.env := by exact star_cons rfl) (hpl : (backTo pos (starEach es X.env)).any (·.1) = false := by exact star_any rfl) :
  PE X (.Call (.Name "tuple" p) (e :: es) [] pos) (rdE X.K (fAr tupD ga)) := PE.imp (pe_callTy call_tuple_of hg hm (by decide +kernel) ha (he := he) (hpl := hpl)) (rd_ar g_tup)
theorem q_list (hg : Gl X "list") (hm : X.mg "list" = none) (ha : PA X (e :: es) (rdA X.K ga)) (he : starEach (e :: es) X.env = (false, eval e X.env) :: starEach es X.env := by exact star_cons rfl) (hpl : (backTo pos (starEach es X.env)).any (·.1) = false := by exact star_any rfl) :
  PE X (.Call (.Name "list" p) (e :: es) [] pos) (rdE X.K (fAr listD ga)) := PE.imp (pe_callTy call_list_of hg hm (by decide +kernel) ha (he := he) (hpl := hpl)) (rd_ar g_list)
theorem q_all (hc : X.calm = true) (hg : Gl X "all") (hm : X.mg "all" = none) (ha : PA X (e :: es) (rdA X.K ga)) (he : starEach (e :: es) X.env = (false, eval e X.env) :: starEach es X.env := by exact star_cons rfl) (hpl : (backTo pos (starEach es X.env)).any (·.1) = false := by exact star_any rfl) :
  PE X (.Call (.Name "all" p) (e :: es) [] pos) (rdE X.K (fAr (allD false) ga)) := PE.imp (pe_callB (call_allB hc) hg hm PyProof.Rows.boot_all ha (he := he) (hpl := hpl)) (rd_ar g_all)
theorem q_isi {T : String} {y : Str} (hT : Kinds X.K T) (hg : Gl X "isinstance") (hm : X.mg "isinstance" = none) (hgT : Gl X y) (hmT : X.mg y = none) (hvT : bootBuiltins y = some (.type T)) (ha : PE X e (rdE X.K fa)) (hn : y ≠ "__name__" := by decide) (hdb : (y == ("__debug__" : Str)) = false := by decide)
  (he : starEach (e :: [.Name y p2]) X.env = (false, eval e X.env) :: starEach [.Name y p2] X.env := by exact star_cons rfl) (hpl : (backTo pos (starEach [.Name y p2] X.env)).any (·.1) = false := by rfl) :
  PE X (.Call (.Name "isinstance" p) [e, .Name y p2] [] pos) (rdE X.K (fUn (isiD T) fa)) :=
 PE.imp (pe_callB (call_isi hT) hg hm (by decide +kernel) (pa_cons ha (pa_cons (pe_bltn (v := .ty T) hgT hmT hvT rfl hn hdb) pa_nil rfl) he) (he := he) (hpl := hpl)) rd_isi
theorem t_tru (ha : PE X a (rdE X.K fa)) (he : ∀ whole, isTrue a X.env whole = (do let v ← whole; standAt a.pos; holding [v] (truthy v)) := by intro _; rfl) : PT X a (rdT X.K (fTru fa)) := PT.imp (pt_truth ha he) rd_tru
theorem t_cmp {op : CmpOp} {r : R2} {g : R -> R -> Store -> Option (R × Store)} (ho : OpR X (compareOp op) r) (hg : GOp X.K g r) (ha : PE X a (rdE X.K fa)) (hb : PE X b (rdE X.K fb)) (hm : behindInMarks op b = false) : PT X (.Compare a [op] [b] pos) (rdT X.K (fB (fOp g fa fb))) :=
 PT.imp (pt_cmpR ho ha hb hm) fun h => by
  obtain ⟨ρ, μ, m, d, μ', hl, hs, e, k⟩ := rd_Test h
  exact rd_op hg ⟨ρ, μ, m, d, μ', hl, hs, e, k⟩
theorem t_lt (ha : PE X a (rdE X.K fa)) (hb : PE X b (rdE X.K fb)) : PT X (.Compare a [.Lt] [b] pos) (rdT X.K (fB (fOp ltD fa fb))) := t_cmp op_lt g_lt ha hb (nomark _)
theorem t_le (ha : PE X a (rdE X.K fa)) (hb : PE X b (rdE X.K fb)) : PT X (.Compare a [.LtE] [b] pos) (rdT X.K (fB (fOp leD fa fb))) := t_cmp op_le g_le ha hb (nomark _)
theorem t_gt (ha : PE X a (rdE X.K fa)) (hb : PE X b (rdE X.K fb)) : PT X (.Compare a [.Gt] [b] pos) (rdT X.K (fB (fOp gtD fa fb))) := t_cmp op_gt g_gt ha hb (nomark _)
theorem t_eq (hu : X.A.units + 64 < cLine) (ha : PE X a (rdE X.K fa)) (hb : PE X b (rdE X.K fb)) : PT X (.Compare a [.Eq] [b] pos) (rdT X.K (fB (fOp (eqR false) fa fb))) := t_cmp (op_eqD hu) g_eq ha hb (nomark _)
theorem t_ne (hu : X.A.units + 64 < cLine) (ha : PE X a (rdE X.K fa)) (hb : PE X b (rdE X.K fb)) : PT X (.Compare a [.NotEq] [b] pos) (rdT X.K (fB (fOp (eqR true) fa fb))) := t_cmp (op_neD hu) g_eq ha hb (nomark _)
variable {ta tb : FT} {rest : List Expr}
theorem t_not (ha : PT X a (rdT X.K ta)) : PT X (.UnaryOp .Not a pos) (rdT X.K (tNotF ta)) := PT.imp (pt_not ha) rd_tnot
theorem w_and (ha : PT X a (rdT X.K ta)) (hb : PW X (.BoolOp .And (b :: rest) pos) (rdT X.K tb)) : PW X (.BoolOp .And (a :: b :: rest) pos) (rdT X.K (tAndF ta tb)) := PW.imp (pw_and ha hb) rd_tand
theorem w_or (ha : PT X a (rdT X.K ta)) (hb : PW X (.BoolOp .Or (b :: rest) pos) (rdT X.K tb)) : PW X (.BoolOp .Or (a :: b :: rest) pos) (rdT X.K (tOrF ta tb)) := PW.imp (pw_or ha hb) rd_tor
theorem w_and1 (ha : PT X a (rdT X.K ta)) : PW X (.BoolOp .And [a] pos) (rdT X.K ta) := pw_and1 ha
theorem w_or1 (ha : PT X a (rdT X.K ta)) : PW X (.BoolOp .Or [a] pos) (rdT X.K ta) := pw_or1 ha
theorem t_w (h : PW X a (rdT X.K ta)) : PT X a (rdT X.K ta) := h.pt
theorem q_if {c : Expr} (hc : PT X c (rdT X.K ta)) (ha : PE X a (rdE X.K fa)) (hb : PE X b (rdE X.K fb)) : PE X (.IfExp c a b pos) (rdE X.K (fIf ta fa fb)) := PE.imp (pe_ifExp hc ha hb) rd_if
variable {st : Stmt} {sts aa bb : List Stmt} {sa sb : FS} {c tg iter : Expr}
theorem s_nil : PSs X [] (rdS X.K sNext) := PSs.imp pss_nil rd_next
theorem s_cons (h1 : PS X st (rdS X.K sa)) (h2 : PSs X sts (rdS X.K sb)) : PSs X (st :: sts) (rdS X.K (sSeq sa sb)) := PSs.imp (pss_cons h1 h2) rd_seq
theorem s_one (h1 : PS X st (rdS X.K sa)) : PSs X [st] (rdS X.K sa) := pss_one h1
theorem s_break : PS X (.Break pos) (rdS X.K sBreak) := PS.imp ps_break rd_break
theorem s_expr (he : PE X e (rdE X.K fa)) (hs : swapsWith e none pos.line X.env = pure false := by rfl) : PS X (.Expr e pos) (rdS X.K (sDrop fa)) := PS.imp (ps_expr he hs) rd_drop
theorem s_ret (he : PE X e (rdE X.K fa)) : PS X (.Return (some e) pos) (rdS X.K (sRet fa)) := PS.imp (ps_ret he) rd_ret
theorem s_if (hc : PT X c (rdT X.K ta)) (ha : PSs X aa (rdS X.K sa)) (hb : PSs X bb (rdS X.K sb)) : PS X (.If c aa bb pos) (rdS X.K (sIf ta sa sb)) := PS.imp (ps_if hc ha hb) rd_ifS
theorem s_set (i : Nat) {pos' : Pos} (hN : X.N.Nodup) (he : PE X e (rdE X.K fa)) (hi : X.N[i]? = some x := by rfl) (hx : Loc X.env.scope x := by first | exact Or.inl rfl | exact Or.inr rfl) (hs : swapsWith e (some (.Name x pos')) pos.line X.env = pure false := by rfl) (hf : X.fn x = true \/ X.env.scope.names.lookup x = some .local := by first | exact .inl rfl | exact .inr rfl) :
  PS X (.Assign [.Name x pos'] e pos) (rdS X.K (sSet i fa)) := PS.imp (ps_set hN hi hx he hs hf) rd_set
variable {g : FG} {gs : FGs} {fi : FI}
theorem g_nm (i : Nat) (hN : X.N.Nodup) (hi : X.N[i]? = some x := by rfl) (hx : Loc X.env.scope x := by first | exact Or.inl rfl | exact Or.inr rfl) (hf : X.fn x = true \/ X.env.scope.names.lookup x = some .local := by first | exact .inl rfl | exact .inr rfl) : PG X (.Name x pos) (rdG X.K (gNm i)) := PG.imp (pg_name hN hi hx hf) rd_gNm
theorem gs_nil : PGs X [] (rdGs X.K gsNil) := PGs.imp pgs_nil rd_gsNil
theorem gs_cons (h1 : PG X e (rdG X.K g)) (h2 : PGs X es (rdGs X.K gs)) (hs : (assignEach (e :: es) X.env).map (·.2) = assign e X.env :: (assignEach es X.env).map (·.2) := by exact assign_cons rfl) : PGs X (e :: es) (rdGs X.K (gsCons g gs)) := PGs.imp (pgs_cons h1 h2 hs) rd_gsCons
theorem g_tp {k n : Nat} (hc : X.calm = true) (h : PGs X es (rdGs X.K gs)) (hn : (assignEach es X.env).length = n := by rfl) (hst : (assignEach es X.env).findIdx? (·.1) = none := by rfl) : PG X (.Tuple es k pos) (rdG X.K (gTp n gs)) := PG.imp (pg_tup hc h hn hst) rd_gTp
theorem i_seq (ha : PE X a (rdE X.K fa)) : PI X tg a (rdI X.K (fiSeq fa)) := PI.imp (pi_seq0 (pe_fz0 ha)) rd_iSeq
theorem i_r1 (hg : Gl X "range") (hm : X.mg "range" = none) (ha : PE X a (rdE X.K fa)) (hs : starEach [a] X.env = [(false, eval a X.env)] := by exact star_cons rfl) : PI X tg (.Call (.Name "range" p) [a] [] pos) (rdI X.K (fiR1 fa)) := PI.imp (pi_range1 hg hm (q_cons ha q_nil hs) hs) rd_iR1
theorem s_for (hc : X.calm = true) (hi : PI X tg iter (rdI X.K fi)) (hg : PG X tg (rdG X.K g)) (hb : PSs X aa (rdS X.K sa)) (hp : PassesOwn (model X.prog X.w) X.A X.env X.xe) (hs : ∀ x, foldedSetIterable iter X.env x = pure x := by intro _; rfl) : PS X (.For tg iter aa [] pos) (rdS X.K (sFor fi g sa)) := PS.imp (ps_for hp hc hi hg hb hs) rd_for
theorem s_forL (hc : X.calm = true) (ha : PE X iter (rdE X.K fa)) (hg : PG X tg (rdG X.K g)) (hb : PSs X aa (rdS X.K sa)) (hp : PassesOwn (model X.prog X.w) X.A X.env X.xe) (hs : ∀ x, foldedSetIterable iter X.env x = pure x := by intro _; rfl) : PS X (.For tg iter aa [] pos) (rdS X.K (sForL fa g sa)) := PS.imp (ps_for hp hc (pi_seq0 ha) hg hb hs) rd_forL
theorem s_asg (he : PE X e (rdE X.K fa)) (hg : PG X tg (rdG X.K g)) (hs : swapsWithSole [tg] e pos.line X.env = pure false := by rfl) (hw : swappedStores [tg] e X.env = pure none := by rfl) (h1 : (assignEach [tg] X.env).map (·.2) = [assign tg X.env] := by rfl) : PS X (.Assign [tg] e pos) (rdS X.K (sAsg fa g)) := PS.imp (ps_asg he hg hs hw h1) rd_asg
theorem PIfs.imp {ifs : List Expr} {t t' : TT} (h : PIfs X ifs t) (k : ∀ {σ H Q}, t' σ H Q -> t σ H Q) : PIfs X ifs t' := fun pins s σ H Q I q => h pins s σ H Q I (k q)
theorem f_nil : PIfs X [] (rdT X.K cYes) := PIfs.imp pifs_nil rd_yes
theorem f_one (h : PT X c (rdT X.K ta)) : PIfs X [c] (rdT X.K ta) := pifs_one h
theorem q_comp {ifs : List Expr} {scope : Scope} (ix : List Nat) (own caps : List Str) (hc : X.calm = true) (n : CompNames X.env.scope scope own caps) (hi : PI X tg iter (rdI X.K fi))
  (hb : ∀ cl C s₂ H₂ fp, PG (blockCx X scope cl C s₂ H₂ fp (own ++ caps)) tg (rdG X.K g) /\ PIfs (blockCx X scope cl C s₂ H₂ fp (own ++ caps)) ifs (rdT X.K ta) /\ PE (blockCx X scope cl C s₂ H₂ fp (own ++ caps)) e (rdE X.K fa))
  (hix : ix.map (fun i => X.N[i]?) = caps.map some := by rfl)
  (hs : ∀ x, foldedSetIterable iter X.env x = pure x := by intro _; rfl) : PE X (.ListComp e [⟨tg, iter, ifs, 0⟩] scope pos) (rdE X.K (fComp ix own.length fi g ta fa)) := by
 refine PE.imp (pe_comp0 (ix := ix) hc n (by simpa using congrArg List.length hix) (fun j i y h1 h2 => ?_) hi hb hs) (rd_comp rfl)
 have := congrArg (fun l => l[j]?) hix
 simp only [List.getElem?_map, h1, h2, Option.map_some] at this
 exact Option.some.inj this
theorem s_comp (i : Nat) {py spos : Pos} {ifs : List Expr} {scope : Scope} (ix : List Nat) (own caps : List Str) (hc : X.calm = true) (n : CompNames X.env.scope scope own caps) (hN : X.N.Nodup) (hi : PI X tg iter (rdI X.K fi))
  (hb : ∀ cl C s₂ H₂ fp, PG (blockCx X scope cl C s₂ H₂ fp (own ++ caps)) tg (rdG X.K g) /\ PIfs (blockCx X scope cl C s₂ H₂ fp (own ++ caps)) ifs (rdT X.K ta) /\ PE (blockCx X scope cl C s₂ H₂ fp (own ++ caps)) e (rdE X.K fa))
  (hsw : swapsWith (.ListComp e [⟨tg, iter, ifs, 0⟩] scope pos) (some (.Name x py)) spos.line X.env = pure true := by rfl)
  (hy : X.N[i]? = some x := by rfl) (hyl : Loc X.env.scope x := by first | exact Or.inl rfl | exact Or.inr rfl)
  (hix : ix.map (fun i => X.N[i]?) = caps.map some := by rfl)
  (hs : ∀ x, foldedSetIterable iter X.env x = pure x := by intro _; rfl) (hf : X.fn x = true \/ X.env.scope.names.lookup x = some .local := by first | exact .inl rfl | exact .inr rfl) :
  PS X (.Assign [.Name x py] (.ListComp e [⟨tg, iter, ifs, 0⟩] scope pos) spos) (rdS X.K (sSet i (fComp ix own.length fi g ta fa))) := by
 refine PS.imp (ps_comp0 (i := i) (ix := ix) hc n hN hy hyl (by simpa using congrArg List.length hix) (fun j i y h1 h2 => ?_) hi hb hsw hs hf) fun h => ?_
 ·have := congrArg (fun l => l[j]?) hix
  simp only [List.getElem?_map, h1, h2, Option.map_some] at this
  exact Option.some.inj this
 ·have h' := rd_set h
  obtain ⟨ρ, μ, m, d, μ', hl, hs, e, k⟩ := h'
  exact rd_comp rfl ⟨ρ, μ, m, d, μ', hl, hs, e, k⟩
end
end R
noncomputable def isLst (x : R) (μ : Store) : Bool := match x with | .v (.fl _) => true | .p n => (match μ[n]? with | some (.lst _) => true | some (.fz _) => true | _ => false) | _ => false
noncomputable def fMt (g : R -> List R -> Store -> Option (R × Store)) (fa : FE) (ga : FA) : FE := fun ρ μ => (fa ρ μ).bind fun a => if isLst a.1 a.2 = true then (ga ρ a.2).bind fun b => g a.1 b.1 b.2 else none
theorem isLst_ok {K : PySem.W.Frag} {m : List Addr} {H : Hp} {μ : Store} {x : R} {v : V} (s : SRel K m H μ) (r : RelR K m H x v) (e : isLst x μ = true) : tyV K "list" v H := by
 have : ∃ xs, lstD x μ = some xs := by
  cases x with
  | v d => cases d <;> simp_all [isLst, lstD]
  | s _ _ => simp [isLst] at e
  | x _ => simp [isLst] at e
  | f _ _ => simp [isLst] at e
  | p n =>
   simp only [isLst] at e
   simp only [lstD]
   split at e
   ·rename_i xs q; exact ⟨xs, by first | rfl | rw [q]⟩
   ·rename_i xs q; exact ⟨xs, by first | rfl | rw [q]⟩
   ·cases e
 obtain ⟨xs, e⟩ := this
 obtain ⟨a, vs, rfl, q, _⟩ := lst_ok s r e
 exact .inl ⟨rfl, vs, q⟩
theorem rd_mt {K : PySem.W.Frag} {σ : L2.St} {H : Hp} {Q : VK} {g r fa ga} (hg : GMt K g r) (h : rdE K (fMt g fa ga) σ H Q) : tBM K "list" r (rdE K fa) (rdA K ga) σ H Q := by
 obtain ⟨ρ, μ, m, d, μ', hl, hs, e, k⟩ := h
 obtain ⟨⟨x, μ1⟩, e1, e⟩ := Option.bind_eq_some_iff.mp e
 split at e
 ·rename_i hx
  obtain ⟨⟨ys, μ2⟩, e2, e⟩ := Option.bind_eq_some_iff.mp e
  refine ⟨ρ, μ, m, x, μ1, hl, hs, e1, fun v H1 m1 x1 s1 r1 => ⟨isLst_ok s1 r1 hx, ?_⟩⟩
  refine ⟨ρ, μ1, m1, ys, μ2, hl.ext x1, s1, e2, fun vs H2 m2 x2 s2 r2 => ?_⟩
  exact hg m2 H2 μ2 x ys d μ' v vs Q s2 (r1.ext x2) r2 e fun w H3 m3 x3 s3 r3 => k w H3 m3 ((x1.trans x2).trans x3) s3 r3
 ·cases e
structure DefAt (K : PySem.W.Frag) (mg : Str -> Option Value) (x : Str) (st : Stmt) (ps : List Str) : Prop where
 ex : ∃ f fd, Fun K x x st f fd /\ Binds K fd ps [] /\ mg x = some (.ref f)
structure DefAtC (K : PySem.W.Frag) (mg : Str -> Option Value) (x : Str) (st : Stmt) (ps : List Str) (c : Addr) : Prop where
 ex : ∃ f fd, FunC K x st f fd c /\ Binds K fd ps [] /\ mg x = some (.ref f)
def Kept (P : Program) (w : World) (K : PySem.W.Frag) (mg : Str -> Option Value) (base : Heap) (k : Nat) (x : Str) (ps : List Str) (mf : MF) : Prop :=
 ∃ f fd, FnOk P w K mg base CX0 k f fd ps (spP K ps.length mf) /\ PySem.W.keepIn K (.ref f) = true /\ Binds K fd ps [] /\ mg x = some (.ref f)
def KeptN (P : Program) (w : World) (K : PySem.W.Frag) (mg : Str -> Option Value) (base : Heap) (k : Nat) (x : Str) (ps : List Str) (mf : MC) : Prop :=
 ∃ f fd, FnOk P w K mg base CX0 k f fd ps (spX K ps.length (cX K mf)) /\ PySem.W.keepIn K (.ref f) = true /\ Binds K fd ps [] /\ mg x = some (.ref f)
namespace R
theorem okP {P : Program} {w : World} {K : PySem.W.Frag} {mg : Str -> Option Value} {base : Heap} {x : Str} {st : Stmt} {N ps : List Str} {k : Nat} {b : FS} (d : DefAt K mg x st ps) (S : FnScope N ps (defScope st))
  (hbody : ∀ (f : Addr) (cdv : Value) (A : Around) (outer : List Env) (s : Shared) (H : Hp) (E : XK), Room k (A.deeper (envOfC x (defScope st) s.heap.objs.size f cdv)) -> PSs (cxOf CX0 P w K mg base N x (defScope st) f cdv A outer s H E).nox (defBody st) (rdS K b)) :
  Kept P w K mg base (k + 1) x ps (runP N.length b) := by
 obtain ⟨f, fd, F, B, M⟩ := d.ex
 exact ⟨f, fd, Fun.okP F S (hbody f), F.kp, B, M⟩
theorem q_callK {X : Cx} {k : Nat} {x : Str} {ps : List Str} {mf : MF} {e : Expr} {es : List Expr} {ga : FA} {p pos : Pos} {n : Nat} (F : Kept X.prog X.w X.K X.mg X.base k x ps mf) (hr : Room k X.A) (ha : PA X (e :: es) (rdA X.K ga)) (hg : Gl X x := by rfl) (hn : ps.length = n := by rfl)
  (hdb : (x == ("__debug__" : Str)) = false := by decide) (he : starEach (e :: es) X.env = (false, eval e X.env) :: starEach es X.env := by exact star_cons rfl) (hpl : (backTo pos (starEach es X.env)).any (·.1) = false := by exact star_any rfl) :
  PE X (.Call (.Name x p) (e :: es) [] pos) (rdE X.K (fCall mf n ga)) := by
 subst hn
 obtain ⟨f, fd, F, kp, B, M⟩ := F
 exact q_call F hr hg M kp B ha hdb he hpl
theorem q_callQ {X : Cx} {k : Nat} {x : Str} {ps : List Str} {mf : MF} {e : Expr} {es : List Expr} {ga : FA} {p pos : Pos} {n : Nat} (F : Kept X.prog X.w X.K X.mg X.base k x ps mf) (hr : Room k X.A) (ha : PA X (e :: es) (rdA X.K ga)) (hg : Gl X x := by rfl) (hn : ps.length = n := by rfl)
  (hdb : (x == ("__debug__" : Str)) = false := by decide) (he : starEach (e :: es) X.env = (false, eval e X.env) :: starEach es X.env := by exact star_cons rfl) (hpl : (backTo pos (starEach es X.env)).any (·.1) = false := by exact star_any rfl) :
  PE X (.Call (.Name x p) (e :: es) [] pos) (rdE X.K (fCallQ mf n ga)) := by
 subst hn
 obtain ⟨f, fd, F, kp, B, M⟩ := F
 exact PE.imp (pe_call (FnOk.borN (F.imp fun _ _ _ _ h => spP_X h) ps.length) hr hg M kp B .nil pass0 ha hdb he hpl) rd_callQ
theorem okN {P : Program} {w : World} {K : PySem.W.Frag} {mg : Str -> Option Value} {base : Heap} {x : Str} {st : Stmt} {N ps : List Str} {k : Nat} {b : FS} (d : DefAt K mg x st ps) (S : FnScope N ps (defScope st))
  (hbody : ∀ (f : Addr) (cdv : Value) (A : Around) (outer : List Env) (s : Shared) (H : Hp) (E : XK), Room k (A.deeper (envOfC x (defScope st) s.heap.objs.size f cdv)) -> PSs (cxOf CX0 P w K mg base N x (defScope st) f cdv A outer s H E).nox (defBody st) (rdS K b)) :
  KeptN P w K mg base (k + 1) x ps (runN N.length b) := by
 obtain ⟨f, fd, F, B, M⟩ := d.ex
 exact ⟨f, fd, Fun.okN F S (hbody f), F.kp, B, M⟩
theorem q_callN {X : Cx} {k : Nat} {x : Str} {ps : List Str} {mf : MC} {e : Expr} {es : List Expr} {ga : FA} {p pos : Pos} {n : Nat} (F : KeptN X.prog X.w X.K X.mg X.base k x ps mf) (hr : Room k X.A) (ha : PA X (e :: es) (rdA X.K ga)) (hg : Gl X x := by rfl) (hn : ps.length = n := by rfl)
  (hdb : (x == ("__debug__" : Str)) = false := by decide) (he : starEach (e :: es) X.env = (false, eval e X.env) :: starEach es X.env := by exact star_cons rfl) (hpl : (backTo pos (starEach es X.env)).any (·.1) = false := by exact star_any rfl) :
  PE X (.Call (.Name x p) (e :: es) [] pos) (rdE X.K (fCallN mf n ga)) := by
 subst hn
 obtain ⟨f, fd, F, kp, B, M⟩ := F
 exact PE.imp (pe_call (FnOk.borN F ps.length) hr hg M kp B .nil pass0 ha hdb he hpl) rd_callN
theorem q_keyT {X : Cx} {e : Expr} {es : List Expr} {ga : FA} {p pos : Pos} (hg : Gl X "tuple") (hm : X.mg "tuple" = none) (ha : PA X (e :: es) (rdA X.K ga)) (he : starEach (e :: es) X.env = (false, eval e X.env) :: starEach es X.env := by exact star_cons rfl) (hpl : (backTo pos (starEach es X.env)).any (·.1) = false := by exact star_any rfl) : PE X (.Call (.Name "tuple" p) (e :: es) [] pos) (rdE X.K (fAr keyD ga)) := PE.imp (pe_callTy call_tuple_of hg hm (by decide +kernel) ha (he := he) (hpl := hpl)) (rd_ar g_key)
theorem q_unk {X : Cx} {a : Expr} {fa : FE} (ha : PE X a (rdE X.K fa)) : PE X a (rdE X.K (fUnk fa)) := PE.imp ha rd_unk
theorem q_dnT {X : Cx} {pos : Pos} : PE X (.Dict [] [] pos) (rdE X.K fDnT) := PE.imp pe_dnewT rd_dnT
theorem g_sbT {X : Cx} {a b : Expr} {fa fb : FE} {pos : Pos} (hu : X.A.units + 64 < cLine) (ha : PE X a (rdE X.K fa)) (hb : PE X b (rdE X.K fb)) (hq : ∀ v, assign (.Subscript a b pos) X.env v = (do
      let ov ← holding [v] (eval a X.env)
      let iv ← holding [v, ov] (eval b X.env)
      standAt pos
      holding [v, ov, iv] (setItem ov iv v)
      release [v, ov, iv] []) := by intro _; rfl) : PG X (.Subscript a b pos) (rdG X.K (gSubT fa fb)) := PG.imp (pg_sub ha hb (set_dictT (by omega)) hq) rd_gSubT
theorem q_tix {X : Cx} {a b : Expr} {fa fb : FE} {pos : Pos} (hu : X.A.units + 64 < cLine) (ha : PE X a (rdE X.K fa)) (hb : PE X b (rdE X.K fb)) (hs : NoSl b := by intro _ _; rfl) : PE X (.Subscript a b pos) (rdE X.K (fTIx fa fb)) := PE.imp (pe_dget (by omega) ha hb hs) rd_tix
theorem q_sortedT {X : Cx} {e : Expr} {es : List Expr} {ga : FA} {p pos : Pos} (hc : X.calm = true) (hg : Gl X "sorted") (hm : X.mg "sorted" = none) (ha : PA X (e :: es) (rdA X.K ga)) (he : starEach (e :: es) X.env = (false, eval e X.env) :: starEach es X.env := by exact star_cons rfl) (hpl : (backTo pos (starEach es X.env)).any (·.1) = false := by exact star_any rfl) :
  PE X (.Call (.Name "sorted" p) (e :: es) [] pos) (rdE X.K (fAr srtT ga)) := PE.imp (pe_callB (call_sortedT hc) hg hm (by decide +kernel) ha (he := he) (hpl := hpl)) (rd_ar g_srtT)
theorem q_SS {X : Cx} {e : Expr} {fa : FE} {p pos p2 pos2 : Pos} (hc : X.calm = true) (hu : X.A.units + 64 < cLine) (hg : Gl X "sorted") (hm : X.mg "sorted" = none) (hg2 : Gl X "set") (hm2 : X.mg "set" = none) (ha : PE X e (rdE X.K fa)) (hs : isStar e = false := by rfl) :
  PE X (.Call (.Name "sorted" p) [.Call (.Name "set" p2) [e] [] pos2] [] pos) (rdE X.K (fSS fa)) := PE.imp (pe_callB (call_sortT2 hc) hg hm (by decide +kernel) (pa_cons (pe_callTy (call_setT2 hc hu) hg2 hm2 (by decide +kernel) (pa_cons ha pa_nil (star_cons hs)) (he := star_cons hs)) pa_nil)) rd_SS
theorem q_addF {X : Cx} {a b : Expr} {fa fb : FE} {pos : Pos} (ha : PE X a (rdE X.K fa)) (hb : PE X b (rdE X.K fb)) : PE X (.BinOp a .Add b pos) (rdE X.K (fOp addF fa fb)) := PE.imp (pe_op op_catF ha hb) (rd_op g_addF)
end R
theorem kinds_of {K : PySem.W.Frag} {T : String} (h1 : PySem.W.kitOne K (.type "NoneType") (.type T) = some ("NoneType" == T || ("NoneType" == "bool" && T == "int")))
  (h2 : PySem.W.kitOne K (.type "bool") (.type T) = some ("bool" == T || ("bool" == "bool" && T == "int"))) (h3 : PySem.W.kitOne K (.type "int") (.type T) = some ("int" == T || ("int" == "bool" && T == "int")))
  (h4 : PySem.W.kitOne K (.type "str") (.type T) = some ("str" == T || ("str" == "bool" && T == "int"))) (h5 : PySem.W.kitOne K (.type "tuple") (.type T) = some ("tuple" == T || ("tuple" == "bool" && T == "int")))
  (h6 : PySem.W.kitOne K (.type "list") (.type T) = some ("list" == T || ("list" == "bool" && T == "int"))) (h7 : PySem.W.kitOne K (.type "dict") (.type T) = some ("dict" == T || ("dict" == "bool" && T == "int"))) : Kinds K T := fun t ht => by
 simp only [List.mem_cons, List.not_mem_nil, or_false] at ht
 rcases ht with rfl | rfl | rfl | rfl | rfl | rfl | rfl <;> assumption
theorem kinds_int {K : PySem.W.Frag} : Kinds K "int" := kinds_of rfl rfl rfl rfl rfl rfl rfl
theorem kinds_bool {K : PySem.W.Frag} : Kinds K "bool" := kinds_of rfl rfl rfl rfl rfl rfl rfl
theorem kinds_tuple {K : PySem.W.Frag} : Kinds K "tuple" := kinds_of rfl rfl rfl rfl rfl rfl rfl
theorem kinds_list {K : PySem.W.Frag} : Kinds K "list" := kinds_of rfl rfl rfl rfl rfl rfl rfl
theorem boot_int' : bootBuiltins "int" = some (.type "int") := by decide +kernel
theorem boot_bool' : bootBuiltins "bool" = some (.type "bool") := by decide +kernel
theorem boot_tuple' : bootBuiltins "tuple" = some (.type "tuple") := by decide +kernel
theorem boot_list' : bootBuiltins "list" = some (.type "list") := by decide +kernel
theorem law_sp {K : PySem.W.Frag} {H : Hp} {a : Addr} {ns : List Int} {mf : MF} (hO : Only H) (hS : SqL K H a (ns.map V.int)) (h : mf [.fl (ns.map .int)] = some (.bl true)) : spP K 1 mf [.ref a] H (fun v _ => v = .bl true) fun _ _ _ => False := by
 refine ⟨_, _, rfl, ?_, h, fun v H' _ r => by simpa only [RelD] using r⟩
 have rInts : ∀ {ns : List Int}, RelDs K H (ns.map .int) (ns.map V.int) := fun {ns} => by
  induction ns with
  | nil => simp only [List.map_nil, RelDs]
  | cons n ns ih => simp only [List.map_cons, RelDs]; exact ⟨_, _, rfl, by simp only [RelD], ih⟩
 simp only [RelDs]
 refine ⟨_, _, rfl, ?_, rfl⟩
 simp only [RelD]
 refine ⟨a, _, rfl, ?_, rInts⟩
 rcases hS with (hS | ⟨o, hS⟩) | hS
 ·rcases hO a with z | ⟨o, xs, z⟩ <;> rw [hS] at z <;> cases z
 ·exact .inl ⟨o, hS⟩
 ·exact .inr (.inr hS)
namespace R
section
variable {X : Cx} {e o : Expr} {es : List Expr} {fa : FE} {ga : FA} {apos cpos : Pos}
theorem q_app (ho : PE X o (rdE X.K fa)) (ha : PA X (e :: es) (rdA X.K ga)) (hbase : attributeBase o "append" X.env (eval o X.env) = eval o X.env := by rfl)
  (hfew : ((backTo cpos (starEach (e :: es) X.env)).all (fun x => !x.1) && (backToKw cpos (keywordEach [] X.env)).all (fun x => x.1.isSome)
   && decide ((e :: es).length + ([] : List Keyword).length + (if ([] : List Keyword).isEmpty then 0 else 1) < 30)) = true := by rfl)
  (hline : (apos.endLine == cpos.line) = true := by rfl) (hs : starEach (e :: es) X.env = (false, eval e X.env) :: starEach es X.env := by exact star_cons rfl) (hplain : (backTo cpos (starEach es X.env)).any (·.1) = false := by exact star_any rfl) :
  PE X (.Call (.Attribute o "append" apos) (e :: es) [] cpos) (rdE X.K (fMt appD fa ga)) :=
 PE.imp (pe_bm PySem.F.plainAttrs_list PySem.F.slot_list_append PySem.F.type_list_append mt_append ho ha hbase hfew hline hs hplain) (rd_mt g_app)
end
end R
end HW
namespace HW
open PySem PySem.Spec PyProof.Rows L2
@[irreducible] def ZE (X : Cx) (e : Expr) (t : TE) : Prop := L2.PE X e t
@[irreducible] def ZT (X : Cx) (e : Expr) (t : TT) : Prop := L2.PT X e t
@[irreducible] def ZW (X : Cx) (e : Expr) (t : TT) : Prop := L2.PW X e t
@[irreducible] def ZA (X : Cx) (e : List Expr) (t : TA) : Prop := L2.PA X e t
@[irreducible] def ZS (X : Cx) (e : Stmt) (t : TS) : Prop := L2.PS X e t
@[irreducible] def ZSs (X : Cx) (e : List Stmt) (t : TS) : Prop := L2.PSs X e t
@[irreducible] def ZG (X : Cx) (e : Expr) (t : TG) : Prop := L2.PG X e t
@[irreducible] def ZGs (X : Cx) (e : List Expr) (t : TGs) : Prop := L2.PGs X e t
@[irreducible] def ZO (X : Cx) (e : Option Expr) (t : TO) : Prop := L2.PO X e t
@[irreducible] def ZIfs (X : Cx) (e : List Expr) (t : TT) : Prop := HW.PIfs X e t
@[irreducible] def ZI (X : Cx) (tg iter : Expr) (t : TI) : Prop := L2.PI X tg iter t
section
variable {X : Cx} {a b e o : Expr} {es : List Expr} {fa fb : FE} {ga : FA} {pos p p2 apos : Pos} {x : Str}
theorem q_var (i : Nat) (hN : X.N[i]? = some x := by rfl) (hv : Vis X.env.scope x := by first | exact Or.inl rfl | exact Or.inr (Or.inl rfl) | exact Or.inr (Or.inr rfl)) (hd : (x == ("__debug__" : Str)) = false := by decide)
  (hcd : (x == ("__classdict__" : Str)) = false := by decide) : ZE X (.Name x pos) (rdE X.K (fVar i)) := by
 with_unfolding_all exact R.q_var i hN hv hd hcd
theorem q_int {i j} : ZE X (.Constant (.int i) j pos) (rdE X.K (fK (.int i))) := by
 with_unfolding_all exact R.q_int
theorem q_bl {i j} : ZE X (.Constant (.bool i) j pos) (rdE X.K (fK (.bl i))) := by
 with_unfolding_all exact R.q_bl
theorem q_addQ (ha : ZE X a (rdE X.K fa)) (hb : ZE X b (rdE X.K fb)) : ZE X (.BinOp a .Add b pos) (rdE X.K (fOp addQ fa fb)) := by
 with_unfolding_all exact R.q_addQ ha hb
theorem q_sub (ha : ZE X a (rdE X.K fa)) (hb : ZE X b (rdE X.K fb)) : ZE X (.BinOp a .Sub b pos) (rdE X.K (fOp subD fa fb)) := by
 with_unfolding_all exact R.q_sub ha hb
theorem q_mul (ha : ZE X a (rdE X.K fa)) (hb : ZE X b (rdE X.K fb)) : ZE X (.BinOp a .Mult b pos) (rdE X.K (fOp mulD fa fb)) := by
 with_unfolding_all exact R.q_mul ha hb
theorem q_div (ha : ZE X a (rdE X.K fa)) (hb : ZE X b (rdE X.K fb)) : ZE X (.BinOp a .FloorDiv b pos) (rdE X.K (fOp divD fa fb)) := by
 with_unfolding_all exact R.q_div ha hb
theorem q_mod (ha : ZE X a (rdE X.K fa)) (hb : ZE X b (rdE X.K fb)) : ZE X (.BinOp a .Mod b pos) (rdE X.K (fOp modD fa fb)) := by
 with_unfolding_all exact R.q_mod ha hb
theorem q_pow (ha : ZE X a (rdE X.K fa)) (hb : ZE X b (rdE X.K fb)) : ZE X (.BinOp a .Pow b pos) (rdE X.K (fOp powD fa fb)) := by
 with_unfolding_all exact R.q_pow ha hb
theorem q_neg (ha : ZE X a (rdE X.K fa)) : ZE X (.UnaryOp .USub a pos) (rdE X.K (fUn negD fa)) := by
 with_unfolding_all exact R.q_neg ha
theorem q_not (ha : ZE X a (rdE X.K fa)) : ZE X (.UnaryOp .Not a pos) (rdE X.K (fNot fa)) := by
 with_unfolding_all exact R.q_not ha
theorem q_lt (ha : ZE X a (rdE X.K fa)) (hb : ZE X b (rdE X.K fb)) : ZE X (.Compare a [.Lt] [b] pos) (rdE X.K (fOp ltD fa fb)) := by
 with_unfolding_all exact R.q_lt ha hb
theorem q_eq (hu : X.A.units + 64 < cLine) (ha : ZE X a (rdE X.K fa)) (hb : ZE X b (rdE X.K fb)) : ZE X (.Compare a [.Eq] [b] pos) (rdE X.K (fOp (eqR false) fa fb)) := by
 with_unfolding_all exact R.q_eq hu ha hb
theorem q_and {rest : List Expr} (ha : ZE X a (rdE X.K fa)) (hb : ZE X (.BoolOp .And (b :: rest) pos) (rdE X.K fb)) : ZE X (.BoolOp .And (a :: b :: rest) pos) (rdE X.K (fAnd fa fb)) := by
 with_unfolding_all exact R.q_and ha hb
theorem q_one {op} (ha : ZE X a (rdE X.K fa)) : ZE X (.BoolOp op [a] pos) (rdE X.K fa) := by
 with_unfolding_all exact R.q_one ha
theorem q_nil : ZA X [] (rdA X.K fNil) := by
 with_unfolding_all exact R.q_nil
theorem q_cons (ha : ZE X e (rdE X.K fa)) (hr : ZA X es (rdA X.K ga)) (hs : starEach (e :: es) X.env = (false, eval e X.env) :: starEach es X.env := by exact star_cons rfl) : ZA X (e :: es) (rdA X.K (fCons fa ga)) := by
 with_unfolding_all exact R.q_cons ha hr hs
theorem q_tup {x1} (h : ZA X es (rdA X.K ga)) : ZE X (.Tuple es x1 pos) (rdE X.K (fTup ga)) := by
 with_unfolding_all exact R.q_tup h
theorem q_lst (h : ZA X es (rdA X.K ga)) : ZE X (.List es pos) (rdE X.K (fLst ga)) := by
 with_unfolding_all exact R.q_lst h
theorem q_fz (ha : ZE X a (rdE X.K fa)) : ZE X a (rdE X.K (fFz fa)) := by
 with_unfolding_all exact R.q_fz ha
theorem q_ix (ha : ZE X a (rdE X.K fa)) (hb : ZE X b (rdE X.K fb)) (hs : PlainIx b := by intro _ _; rfl) : ZE X (.Subscript a b pos) (rdE X.K (fOp ixD fa fb)) := by
 with_unfolding_all exact R.q_ix ha hb hs
theorem q_oS (ha : ZE X a (rdE X.K fa)) : ZO X (some a) (rdO X.K (oSome fa)) := by
 with_unfolding_all exact R.q_oS ha
theorem q_sl {lo hi : Option Expr} {fl fh : FO} (ha : ZE X a (rdE X.K fa)) (hl : ZO X lo (rdO X.K fl)) (hh : ZO X hi (rdO X.K fh)) : ZE X (.Subscript a (.Slice lo hi none p2) pos) (rdE X.K (fSl fa fl fh)) := by
 with_unfolding_all exact R.q_sl ha hl hh
theorem q_len (hg : Gl X "len") (hm : X.mg "len" = none) (ha : ZA X (e :: es) (rdA X.K ga)) (he : starEach (e :: es) X.env = (false, eval e X.env) :: starEach es X.env := by exact star_cons rfl) (hpl : (backTo pos (starEach es X.env)).any (·.1) = false := by exact star_any rfl) :
  ZE X (.Call (.Name "len" p) (e :: es) [] pos) (rdE X.K (fAr lenD ga)) := by
 with_unfolding_all exact R.q_len hg hm ha he hpl
theorem q_const {d : D} (h : ConstR X.K X.mg x d) (hg : Gl X x := by rfl) (hd : (x == ("__debug__" : Str)) = false := by decide) : ZE X (.Name x pos) (rdE X.K (fK d)) := by
 with_unfolding_all exact R.q_const h hg hd
theorem q_tuple (hg : Gl X "tuple") (hm : X.mg "tuple" = none) (ha : ZA X (e :: es) (rdA X.K ga)) (he : starEach (e :: es) X.env = (false, eval e X.env) :: starEach es X.env := by exact star_cons rfl) (hpl : (backTo pos (starEach es X.env)).any (·.1) = false := by exact star_any rfl) :
  ZE X (.Call (.Name "tuple" p) (e :: es) [] pos) (rdE X.K (fAr tupD ga)) := by
 with_unfolding_all exact R.q_tuple hg hm ha he hpl
theorem q_list (hg : Gl X "list") (hm : X.mg "list" = none) (ha : ZA X (e :: es) (rdA X.K ga)) (he : starEach (e :: es) X.env = (false, eval e X.env) :: starEach es X.env := by exact star_cons rfl) (hpl : (backTo pos (starEach es X.env)).any (·.1) = false := by exact star_any rfl) :
  ZE X (.Call (.Name "list" p) (e :: es) [] pos) (rdE X.K (fAr listD ga)) := by
 with_unfolding_all exact R.q_list hg hm ha he hpl
theorem q_all (hc : X.calm = true) (hg : Gl X "all") (hm : X.mg "all" = none) (ha : ZA X (e :: es) (rdA X.K ga)) (he : starEach (e :: es) X.env = (false, eval e X.env) :: starEach es X.env := by exact star_cons rfl) (hpl : (backTo pos (starEach es X.env)).any (·.1) = false := by exact star_any rfl) :
  ZE X (.Call (.Name "all" p) (e :: es) [] pos) (rdE X.K (fAr (allD false) ga)) := by
 with_unfolding_all exact R.q_all hc hg hm ha he hpl
theorem q_isi {T : String} {y : Str} (hT : Kinds X.K T) (hg : Gl X "isinstance") (hm : X.mg "isinstance" = none) (hgT : Gl X y) (hmT : X.mg y = none) (hvT : bootBuiltins y = some (.type T)) (ha : ZE X e (rdE X.K fa)) (hn : y ≠ "__name__" := by decide) (hdb : (y == ("__debug__" : Str)) = false := by decide)
  (he : starEach (e :: [.Name y p2]) X.env = (false, eval e X.env) :: starEach [.Name y p2] X.env := by exact star_cons rfl) (hpl : (backTo pos (starEach [.Name y p2] X.env)).any (·.1) = false := by rfl) :
  ZE X (.Call (.Name "isinstance" p) [e, .Name y p2] [] pos) (rdE X.K (fUn (isiD T) fa)) := by
 with_unfolding_all exact R.q_isi hT hg hm hgT hmT hvT ha hn hdb he hpl
theorem t_tru (ha : ZE X a (rdE X.K fa)) (he : ∀ whole, isTrue a X.env whole = (do let v ← whole; standAt a.pos; holding [v] (truthy v)) := by intro _; rfl) : ZT X a (rdT X.K (fTru fa)) := by
 with_unfolding_all exact R.t_tru ha he
theorem t_lt (ha : ZE X a (rdE X.K fa)) (hb : ZE X b (rdE X.K fb)) : ZT X (.Compare a [.Lt] [b] pos) (rdT X.K (fB (fOp ltD fa fb))) := by
 with_unfolding_all exact R.t_lt ha hb
theorem t_le (ha : ZE X a (rdE X.K fa)) (hb : ZE X b (rdE X.K fb)) : ZT X (.Compare a [.LtE] [b] pos) (rdT X.K (fB (fOp leD fa fb))) := by
 with_unfolding_all exact R.t_le ha hb
theorem t_gt (ha : ZE X a (rdE X.K fa)) (hb : ZE X b (rdE X.K fb)) : ZT X (.Compare a [.Gt] [b] pos) (rdT X.K (fB (fOp gtD fa fb))) := by
 with_unfolding_all exact R.t_gt ha hb
theorem t_eq (hu : X.A.units + 64 < cLine) (ha : ZE X a (rdE X.K fa)) (hb : ZE X b (rdE X.K fb)) : ZT X (.Compare a [.Eq] [b] pos) (rdT X.K (fB (fOp (eqR false) fa fb))) := by
 with_unfolding_all exact R.t_eq hu ha hb
theorem t_ne (hu : X.A.units + 64 < cLine) (ha : ZE X a (rdE X.K fa)) (hb : ZE X b (rdE X.K fb)) : ZT X (.Compare a [.NotEq] [b] pos) (rdT X.K (fB (fOp (eqR true) fa fb))) := by
 with_unfolding_all exact R.t_ne hu ha hb
variable {ta tb : FT} {rest : List Expr}
theorem t_not (ha : ZT X a (rdT X.K ta)) : ZT X (.UnaryOp .Not a pos) (rdT X.K (tNotF ta)) := by
 with_unfolding_all exact R.t_not ha
theorem w_and (ha : ZT X a (rdT X.K ta)) (hb : ZW X (.BoolOp .And (b :: rest) pos) (rdT X.K tb)) : ZW X (.BoolOp .And (a :: b :: rest) pos) (rdT X.K (tAndF ta tb)) := by
 with_unfolding_all exact R.w_and ha hb
theorem w_or (ha : ZT X a (rdT X.K ta)) (hb : ZW X (.BoolOp .Or (b :: rest) pos) (rdT X.K tb)) : ZW X (.BoolOp .Or (a :: b :: rest) pos) (rdT X.K (tOrF ta tb)) := by
 with_unfolding_all exact R.w_or ha hb
theorem w_and1 (ha : ZT X a (rdT X.K ta)) : ZW X (.BoolOp .And [a] pos) (rdT X.K ta) := by
 with_unfolding_all exact R.w_and1 ha
theorem w_or1 (ha : ZT X a (rdT X.K ta)) : ZW X (.BoolOp .Or [a] pos) (rdT X.K ta) := by
 with_unfolding_all exact R.w_or1 ha
theorem t_w (h : ZW X a (rdT X.K ta)) : ZT X a (rdT X.K ta) := by
 with_unfolding_all exact R.t_w h
theorem q_if {c : Expr} (hc : ZT X c (rdT X.K ta)) (ha : ZE X a (rdE X.K fa)) (hb : ZE X b (rdE X.K fb)) : ZE X (.IfExp c a b pos) (rdE X.K (fIf ta fa fb)) := by
 with_unfolding_all exact R.q_if hc ha hb
variable {st : Stmt} {sts aa bb : List Stmt} {sa sb : FS} {c tg iter : Expr}
theorem s_nil : ZSs X [] (rdS X.K sNext) := by
 with_unfolding_all exact R.s_nil
theorem s_cons (h1 : ZS X st (rdS X.K sa)) (h2 : ZSs X sts (rdS X.K sb)) : ZSs X (st :: sts) (rdS X.K (sSeq sa sb)) := by
 with_unfolding_all exact R.s_cons h1 h2
theorem s_one (h1 : ZS X st (rdS X.K sa)) : ZSs X [st] (rdS X.K sa) := by
 with_unfolding_all exact R.s_one h1
theorem s_break : ZS X (.Break pos) (rdS X.K sBreak) := by
 with_unfolding_all exact R.s_break
theorem s_expr (he : ZE X e (rdE X.K fa)) (hs : swapsWith e none pos.line X.env = pure false := by rfl) : ZS X (.Expr e pos) (rdS X.K (sDrop fa)) := by
 with_unfolding_all exact R.s_expr he hs
theorem s_ret (he : ZE X e (rdE X.K fa)) : ZS X (.Return (some e) pos) (rdS X.K (sRet fa)) := by
 with_unfolding_all exact R.s_ret he
theorem s_if (hc : ZT X c (rdT X.K ta)) (ha : ZSs X aa (rdS X.K sa)) (hb : ZSs X bb (rdS X.K sb)) : ZS X (.If c aa bb pos) (rdS X.K (sIf ta sa sb)) := by
 with_unfolding_all exact R.s_if hc ha hb
theorem s_set (i : Nat) {pos' : Pos} (hN : X.N.Nodup) (he : ZE X e (rdE X.K fa)) (hi : X.N[i]? = some x := by rfl) (hx : Loc X.env.scope x := by first | exact Or.inl rfl | exact Or.inr rfl) (hs : swapsWith e (some (.Name x pos')) pos.line X.env = pure false := by rfl) (hf : X.fn x = true \/ X.env.scope.names.lookup x = some .local := by first | exact .inl rfl | exact .inr rfl) :
  ZS X (.Assign [.Name x pos'] e pos) (rdS X.K (sSet i fa)) := by
 with_unfolding_all exact R.s_set i hN he hi hx hs hf
variable {g : FG} {gs : FGs} {fi : FI}
theorem g_nm (i : Nat) (hN : X.N.Nodup) (hi : X.N[i]? = some x := by rfl) (hx : Loc X.env.scope x := by first | exact Or.inl rfl | exact Or.inr rfl) (hf : X.fn x = true \/ X.env.scope.names.lookup x = some .local := by first | exact .inl rfl | exact .inr rfl) : ZG X (.Name x pos) (rdG X.K (gNm i)) := by
 with_unfolding_all exact R.g_nm i hN hi hx hf
theorem gs_nil : ZGs X [] (rdGs X.K gsNil) := by
 with_unfolding_all exact R.gs_nil
theorem gs_cons (h1 : ZG X e (rdG X.K g)) (h2 : ZGs X es (rdGs X.K gs)) (hs : (assignEach (e :: es) X.env).map (·.2) = assign e X.env :: (assignEach es X.env).map (·.2) := by exact assign_cons rfl) : ZGs X (e :: es) (rdGs X.K (gsCons g gs)) := by
 with_unfolding_all exact R.gs_cons h1 h2 hs
theorem g_tp {k n : Nat} (hc : X.calm = true) (h : ZGs X es (rdGs X.K gs)) (hn : (assignEach es X.env).length = n := by rfl) (hst : (assignEach es X.env).findIdx? (·.1) = none := by rfl) : ZG X (.Tuple es k pos) (rdG X.K (gTp n gs)) := by
 with_unfolding_all exact R.g_tp hc h hn hst
theorem i_seq (ha : ZE X a (rdE X.K fa)) : ZI X tg a (rdI X.K (fiSeq fa)) := by
 with_unfolding_all exact R.i_seq ha
theorem i_r1 (hg : Gl X "range") (hm : X.mg "range" = none) (ha : ZE X a (rdE X.K fa)) (hs : starEach [a] X.env = [(false, eval a X.env)] := by exact star_cons rfl) : ZI X tg (.Call (.Name "range" p) [a] [] pos) (rdI X.K (fiR1 fa)) := by
 with_unfolding_all exact R.i_r1 hg hm ha hs
theorem s_for (hc : X.calm = true) (hi : ZI X tg iter (rdI X.K fi)) (hg : ZG X tg (rdG X.K g)) (hb : ZSs X aa (rdS X.K sa)) (hp : PassesOwn (model X.prog X.w) X.A X.env X.xe) (hs : ∀ x, foldedSetIterable iter X.env x = pure x := by intro _; rfl) : ZS X (.For tg iter aa [] pos) (rdS X.K (sFor fi g sa)) := by
 with_unfolding_all exact R.s_for hc hi hg hb hp hs
theorem s_forL (hc : X.calm = true) (ha : ZE X iter (rdE X.K fa)) (hg : ZG X tg (rdG X.K g)) (hb : ZSs X aa (rdS X.K sa)) (hp : PassesOwn (model X.prog X.w) X.A X.env X.xe) (hs : ∀ x, foldedSetIterable iter X.env x = pure x := by intro _; rfl) : ZS X (.For tg iter aa [] pos) (rdS X.K (sForL fa g sa)) := by
 with_unfolding_all exact R.s_forL hc ha hg hb hp hs
theorem s_asg (he : ZE X e (rdE X.K fa)) (hg : ZG X tg (rdG X.K g)) (hs : swapsWithSole [tg] e pos.line X.env = pure false := by rfl) (hw : swappedStores [tg] e X.env = pure none := by rfl) (h1 : (assignEach [tg] X.env).map (·.2) = [assign tg X.env] := by rfl) : ZS X (.Assign [tg] e pos) (rdS X.K (sAsg fa g)) := by
 with_unfolding_all exact R.s_asg he hg hs hw h1
theorem f_nil : ZIfs X [] (rdT X.K cYes) := by
 with_unfolding_all exact R.f_nil
theorem f_one (h : ZT X c (rdT X.K ta)) : ZIfs X [c] (rdT X.K ta) := by
 with_unfolding_all exact R.f_one h
theorem q_comp {ifs : List Expr} {scope : Scope} (ix : List Nat) (own caps : List Str) (hc : X.calm = true) (n : CompNames X.env.scope scope own caps) (hi : ZI X tg iter (rdI X.K fi))
  (hb : ∀ cl C s₂ H₂ fp, ZG (blockCx X scope cl C s₂ H₂ fp (own ++ caps)) tg (rdG X.K g) /\ ZIfs (blockCx X scope cl C s₂ H₂ fp (own ++ caps)) ifs (rdT X.K ta) /\ ZE (blockCx X scope cl C s₂ H₂ fp (own ++ caps)) e (rdE X.K fa))
  (hix : ix.map (fun i => X.N[i]?) = caps.map some := by rfl)
  (hs : ∀ x, foldedSetIterable iter X.env x = pure x := by intro _; rfl) : ZE X (.ListComp e [⟨tg, iter, ifs, 0⟩] scope pos) (rdE X.K (fComp ix own.length fi g ta fa)) := by
 with_unfolding_all exact R.q_comp ix own caps hc n hi hb hix hs
theorem s_comp (i : Nat) {py spos : Pos} {ifs : List Expr} {scope : Scope} (ix : List Nat) (own caps : List Str) (hc : X.calm = true) (n : CompNames X.env.scope scope own caps) (hN : X.N.Nodup) (hi : ZI X tg iter (rdI X.K fi))
  (hb : ∀ cl C s₂ H₂ fp, ZG (blockCx X scope cl C s₂ H₂ fp (own ++ caps)) tg (rdG X.K g) /\ ZIfs (blockCx X scope cl C s₂ H₂ fp (own ++ caps)) ifs (rdT X.K ta) /\ ZE (blockCx X scope cl C s₂ H₂ fp (own ++ caps)) e (rdE X.K fa))
  (hsw : swapsWith (.ListComp e [⟨tg, iter, ifs, 0⟩] scope pos) (some (.Name x py)) spos.line X.env = pure true := by rfl)
  (hy : X.N[i]? = some x := by rfl) (hyl : Loc X.env.scope x := by first | exact Or.inl rfl | exact Or.inr rfl)
  (hix : ix.map (fun i => X.N[i]?) = caps.map some := by rfl)
  (hs : ∀ x, foldedSetIterable iter X.env x = pure x := by intro _; rfl) (hf : X.fn x = true \/ X.env.scope.names.lookup x = some .local := by first | exact .inl rfl | exact .inr rfl) :
  ZS X (.Assign [.Name x py] (.ListComp e [⟨tg, iter, ifs, 0⟩] scope pos) spos) (rdS X.K (sSet i (fComp ix own.length fi g ta fa))) := by
 with_unfolding_all exact R.s_comp i ix own caps hc n hN hi hb hsw hy hyl hix hs hf
end
theorem okP {P : Program} {w : World} {K : PySem.W.Frag} {mg : Str -> Option Value} {base : Heap} {x : Str} {st : Stmt} {N ps : List Str} {k : Nat} {b : FS} (d : DefAt K mg x st ps) (S : FnScope N ps (defScope st))
  (hbody : ∀ (f : Addr) (cdv : Value) (A : Around) (outer : List Env) (s : Shared) (H : Hp) (E : XK), Room k (A.deeper (envOfC x (defScope st) s.heap.objs.size f cdv)) -> ZSs (cxOf CX0 P w K mg base N x (defScope st) f cdv A outer s H E).nox (defBody st) (rdS K b)) :
  Kept P w K mg base (k + 1) x ps (runP N.length b) := by
 with_unfolding_all exact R.okP d S hbody
theorem q_callK {X : Cx} {k : Nat} {x : Str} {ps : List Str} {mf : MF} {e : Expr} {es : List Expr} {ga : FA} {p pos : Pos} {n : Nat} (F : Kept X.prog X.w X.K X.mg X.base k x ps mf) (hr : Room k X.A) (ha : ZA X (e :: es) (rdA X.K ga)) (hg : Gl X x := by rfl) (hn : ps.length = n := by rfl)
  (hdb : (x == ("__debug__" : Str)) = false := by decide) (he : starEach (e :: es) X.env = (false, eval e X.env) :: starEach es X.env := by exact star_cons rfl) (hpl : (backTo pos (starEach es X.env)).any (·.1) = false := by exact star_any rfl) :
  ZE X (.Call (.Name x p) (e :: es) [] pos) (rdE X.K (fCall mf n ga)) := by
 with_unfolding_all exact R.q_callK F hr ha hg hn hdb he hpl
theorem q_callQ {X : Cx} {k : Nat} {x : Str} {ps : List Str} {mf : MF} {e : Expr} {es : List Expr} {ga : FA} {p pos : Pos} {n : Nat} (F : Kept X.prog X.w X.K X.mg X.base k x ps mf) (hr : Room k X.A) (ha : ZA X (e :: es) (rdA X.K ga)) (hg : Gl X x := by rfl) (hn : ps.length = n := by rfl)
  (hdb : (x == ("__debug__" : Str)) = false := by decide) (he : starEach (e :: es) X.env = (false, eval e X.env) :: starEach es X.env := by exact star_cons rfl) (hpl : (backTo pos (starEach es X.env)).any (·.1) = false := by exact star_any rfl) :
  ZE X (.Call (.Name x p) (e :: es) [] pos) (rdE X.K (fCallQ mf n ga)) := by
 with_unfolding_all exact R.q_callQ F hr ha hg hn hdb he hpl
theorem okN {P : Program} {w : World} {K : PySem.W.Frag} {mg : Str -> Option Value} {base : Heap} {x : Str} {st : Stmt} {N ps : List Str} {k : Nat} {b : FS} (d : DefAt K mg x st ps) (S : FnScope N ps (defScope st))
  (hbody : ∀ (f : Addr) (cdv : Value) (A : Around) (outer : List Env) (s : Shared) (H : Hp) (E : XK), Room k (A.deeper (envOfC x (defScope st) s.heap.objs.size f cdv)) -> ZSs (cxOf CX0 P w K mg base N x (defScope st) f cdv A outer s H E).nox (defBody st) (rdS K b)) :
  KeptN P w K mg base (k + 1) x ps (runN N.length b) := by
 with_unfolding_all exact R.okN d S hbody
theorem q_callN {X : Cx} {k : Nat} {x : Str} {ps : List Str} {mf : MC} {e : Expr} {es : List Expr} {ga : FA} {p pos : Pos} {n : Nat} (F : KeptN X.prog X.w X.K X.mg X.base k x ps mf) (hr : Room k X.A) (ha : ZA X (e :: es) (rdA X.K ga)) (hg : Gl X x := by rfl) (hn : ps.length = n := by rfl)
  (hdb : (x == ("__debug__" : Str)) = false := by decide) (he : starEach (e :: es) X.env = (false, eval e X.env) :: starEach es X.env := by exact star_cons rfl) (hpl : (backTo pos (starEach es X.env)).any (·.1) = false := by exact star_any rfl) :
  ZE X (.Call (.Name x p) (e :: es) [] pos) (rdE X.K (fCallN mf n ga)) := by
 with_unfolding_all exact R.q_callN F hr ha hg hn hdb he hpl
theorem q_keyT {X : Cx} {e : Expr} {es : List Expr} {ga : FA} {p pos : Pos} (hg : Gl X "tuple") (hm : X.mg "tuple" = none) (ha : ZA X (e :: es) (rdA X.K ga)) (he : starEach (e :: es) X.env = (false, eval e X.env) :: starEach es X.env := by exact star_cons rfl) (hpl : (backTo pos (starEach es X.env)).any (·.1) = false := by exact star_any rfl) : ZE X (.Call (.Name "tuple" p) (e :: es) [] pos) (rdE X.K (fAr keyD ga)) := by
 with_unfolding_all exact R.q_keyT hg hm ha he hpl
theorem q_unk {X : Cx} {a : Expr} {fa : FE} (ha : ZE X a (rdE X.K fa)) : ZE X a (rdE X.K (fUnk fa)) := by
 with_unfolding_all exact R.q_unk ha
theorem q_dnT {X : Cx} {pos : Pos} : ZE X (.Dict [] [] pos) (rdE X.K fDnT) := by
 with_unfolding_all exact R.q_dnT
theorem g_sbT {X : Cx} {a b : Expr} {fa fb : FE} {pos : Pos} (hu : X.A.units + 64 < cLine) (ha : ZE X a (rdE X.K fa)) (hb : ZE X b (rdE X.K fb)) (hq : ∀ v, assign (.Subscript a b pos) X.env v = (do
      let ov ← holding [v] (eval a X.env)
      let iv ← holding [v, ov] (eval b X.env)
      standAt pos
      holding [v, ov, iv] (setItem ov iv v)
      release [v, ov, iv] []) := by intro _; rfl) : ZG X (.Subscript a b pos) (rdG X.K (gSubT fa fb)) := by
  with_unfolding_all exact R.g_sbT hu ha hb hq
theorem q_tix {X : Cx} {a b : Expr} {fa fb : FE} {pos : Pos} (hu : X.A.units + 64 < cLine) (ha : ZE X a (rdE X.K fa)) (hb : ZE X b (rdE X.K fb)) (hs : NoSl b := by intro _ _; rfl) : ZE X (.Subscript a b pos) (rdE X.K (fTIx fa fb)) := by
 with_unfolding_all exact R.q_tix hu ha hb hs
theorem q_sortedT {X : Cx} {e : Expr} {es : List Expr} {ga : FA} {p pos : Pos} (hc : X.calm = true) (hg : Gl X "sorted") (hm : X.mg "sorted" = none) (ha : ZA X (e :: es) (rdA X.K ga)) (he : starEach (e :: es) X.env = (false, eval e X.env) :: starEach es X.env := by exact star_cons rfl) (hpl : (backTo pos (starEach es X.env)).any (·.1) = false := by exact star_any rfl) :
  ZE X (.Call (.Name "sorted" p) (e :: es) [] pos) (rdE X.K (fAr srtT ga)) := by
 with_unfolding_all exact R.q_sortedT hc hg hm ha he hpl
theorem q_SS {X : Cx} {e : Expr} {fa : FE} {p pos p2 pos2 : Pos} (hc : X.calm = true) (hu : X.A.units + 64 < cLine) (hg : Gl X "sorted") (hm : X.mg "sorted" = none) (hg2 : Gl X "set") (hm2 : X.mg "set" = none) (ha : ZE X e (rdE X.K fa)) (hs : isStar e = false := by rfl) :
  ZE X (.Call (.Name "sorted" p) [.Call (.Name "set" p2) [e] [] pos2] [] pos) (rdE X.K (fSS fa)) := by
 with_unfolding_all exact R.q_SS hc hu hg hm hg2 hm2 ha hs
theorem q_addF {X : Cx} {a b : Expr} {fa fb : FE} {pos : Pos} (ha : ZE X a (rdE X.K fa)) (hb : ZE X b (rdE X.K fb)) : ZE X (.BinOp a .Add b pos) (rdE X.K (fOp addF fa fb)) := by
 with_unfolding_all exact R.q_addF ha hb
section
variable {X : Cx} {e o : Expr} {es : List Expr} {fa : FE} {ga : FA} {apos cpos : Pos}
theorem q_app (ho : ZE X o (rdE X.K fa)) (ha : ZA X (e :: es) (rdA X.K ga)) (hbase : attributeBase o "append" X.env (eval o X.env) = eval o X.env := by rfl)
  (hfew : ((backTo cpos (starEach (e :: es) X.env)).all (fun x => !x.1) && (backToKw cpos (keywordEach [] X.env)).all (fun x => x.1.isSome)
   && decide ((e :: es).length + ([] : List Keyword).length + (if ([] : List Keyword).isEmpty then 0 else 1) < 30)) = true := by rfl)
  (hline : (apos.endLine == cpos.line) = true := by rfl) (hs : starEach (e :: es) X.env = (false, eval e X.env) :: starEach es X.env := by exact star_cons rfl) (hplain : (backTo cpos (starEach es X.env)).any (·.1) = false := by exact star_any rfl) :
  ZE X (.Call (.Attribute o "append" apos) (e :: es) [] cpos) (rdE X.K (fMt appD fa ga)) := by
 with_unfolding_all exact R.q_app ho ha hbase hfew hline hs hplain
end
theorem funOkP {P : Program} {w : World} {K : PySem.W.Frag} {mg : Str -> Option Value} {base : Heap} {x qual : Str} {st : Stmt} {f : Addr} {fd : FuncData} {N ps : List Str} {k : Nat} {b : FS} (F : Fun K x qual st f fd) (S : FnScope N ps (defScope st))
  (hbody : ∀ (cdv : Value) (A : Around) (outer : List Env) (s : Shared) (H : Hp) (E : XK), Room k (A.deeper (envOfC qual (defScope st) s.heap.objs.size f cdv)) -> ZSs (cxOf CX0 P w K mg base N qual (defScope st) f cdv A outer s H E).nox (defBody st) (rdS K b)) :
  FnOk P w K mg base CX0 (k + 1) f fd ps (spP K ps.length (runP N.length b)) := by
 with_unfolding_all exact Fun.okP F S hbody
end HW
namespace HW
open PySem PySem.Spec PyProof.Rows L2
theorem us0 {P : List Value -> Prop} (h : P []) : ∀ us : List Value, us.length = 0 -> P us := fun us e => by rw [List.length_eq_zero_iff.mp e]; exact h
theorem usS {P : List Value -> Prop} {n : Nat} (h : ∀ a us, us.length = n -> P (a :: us)) : ∀ us : List Value, us.length = n + 1 -> P us := fun us e => by
 cases us with
 | nil => cases e
 | cons a us => exact h a us (Nat.succ.inj e)
theorem us1 {P : List Value -> Prop} (h : ∀ a, P [a]) : ∀ us : List Value, us.length = 1 -> P us := usS fun a => us0 (P := fun us => P (a :: us)) (h a)
theorem us2 {P : List Value -> Prop} (h : ∀ a b, P [a, b]) : ∀ us : List Value, us.length = 2 -> P us := usS fun a => us1 (P := fun us => P (a :: us)) (h a)
theorem us3 {P : List Value -> Prop} (h : ∀ a b c, P [a, b, c]) : ∀ us : List Value, us.length = 3 -> P us := usS fun a => us2 (P := fun us => P (a :: us)) (h a)
theorem us4 {P : List Value -> Prop} (h : ∀ a b c d, P [a, b, c, d]) : ∀ us : List Value, us.length = 4 -> P us := usS fun a => us3 (P := fun us => P (a :: us)) (h a)
theorem us5 {P : List Value -> Prop} (h : ∀ a b c d e, P [a, b, c, d, e]) : ∀ us : List Value, us.length = 5 -> P us := usS fun a => us4 (P := fun us => P (a :: us)) (h a)
section
variable {K : PySem.W.Frag} {h : Heap} {mg : Str -> Option Value} {x : Str} {st : Stmt} {ps : List Str}
def FK (K : PySem.W.Frag) (x : Str) (st : Stmt) : Prop := ∃ f : Addr, PySem.W.nsIn K mainGlobals x = some (some (.ref f)) /\ ∃ (oc : Value) (od : Option Addr) (kV dc pm : Value) (an : Option Addr) (cd ct : Value) (sl : Array (Option Value)),
 K.lookup f = some ⟨oc, od, .func (PySem.W.fnOf x x (defArgs st) (defBody st) (defScope st) .none kV dc pm an cd ct), sl⟩ /\ PySem.W.codeIn K cd x = true /\ PySem.W.keepIn K (.ref f) = true
abbrev BindP (x : Str) (st : Stmt) (ps : List Str) : Prop := ∀ (kV doc pm : Value) (an : Option Addr) (cdv ct : Value) (us : List Value), us.length = ps.length -> bindArgs (PySem.W.fnOf x x (defArgs st) (defBody st) (defScope st) .none kV doc pm an cdv ct) ⟨us, []⟩ = pure (ps.zip us)
theorem FK.at_ (a : FK K x st) (X : K.In h) (G : h.Ns mainGlobals mg) (hb : BindP x st ps) : DefAt K mg x st ps := by
 obtain ⟨f, a, oc, od, kV, dc, pm, an, cd, ct, sl, l, c, k⟩ := a
 have F := fun_mk l c k
 exact ⟨_, _, F, F.binds hb, PySem.W.mg_of X G a⟩
theorem FK.law {fa : Addr} (a : FK K x st) (X : K.In h) (G : h.Ns mainGlobals mg) (e : mg x = some (.ref fa)) (hb : BindP x st ps) : ∃ fd, Fun K x x st fa fd /\ ∀ (s : Shared) (us : List Value), us.length = ps.length -> BindsTo s fd ⟨us, []⟩ (ps.zip us) := by
 obtain ⟨f, a, oc, od, kV, dc, pm, an, cd, ct, sl, l, c, k⟩ := a
 have := e.symm.trans (PySem.W.mg_of X G a)
 cases this
 exact ⟨_, fun_mk l c k, fun s us hl => .of_eq (hb _ _ _ _ _ _ us hl)⟩
end
end HW
namespace HW
open PySem L2
section
variable {ρ : Lo} {μ μ1 : Store} {x y : R} {d : D}
@[simp] theorem ev_v0 {ρ : Lo} : fVar 0 (some x :: ρ) μ = some (x, μ) := rfl
@[simp] theorem ev_vs {i : Nat} {o : Option R} {ρ : Lo} : fVar (i + 1) (o :: ρ) μ = fVar i ρ μ := by simp [fVar]
@[simp] theorem ev_k : fK d ρ μ = some (.v d, μ) := rfl
noncomputable def thOp (o : Option (R × Store)) (g : R -> R -> Store -> Option (R × Store)) (fb : FE) (ρ : Lo) : Option (R × Store) := o.bind fun a => (fb ρ a.2).bind fun b => g a.1 b.1 b.2
noncomputable def thOp2 (x : R) (o : Option (R × Store)) (g : R -> R -> Store -> Option (R × Store)) : Option (R × Store) := o.bind fun b => g x b.1 b.2
@[simp] theorem ev_op {g fa fb} : fOp g fa fb ρ μ = thOp (fa ρ μ) g fb ρ := rfl
@[simp] theorem ev_op1 {g fb} : thOp (some (x, μ)) g fb ρ = thOp2 x (fb ρ μ) g := rfl
@[simp] theorem ev_op2 {g} : thOp2 x (some (y, μ)) g = g x y μ := rfl
noncomputable def thUn (o : Option (R × Store)) (g : R -> Store -> Option (R × Store)) : Option (R × Store) := o.bind fun a => g a.1 a.2
@[simp] theorem ev_un {g fa} : fUn g fa ρ μ = thUn (fa ρ μ) g := rfl
@[simp] theorem ev_un1 {g} : thUn (some (x, μ)) g = g x μ := rfl
@[simp] theorem ev_nil : fNil ρ μ = some ([], μ) := rfl
noncomputable def thCons (o : Option (R × Store)) (fr : FA) (ρ : Lo) : Option (List R × Store) := o.bind fun a => (fr ρ a.2).bind fun r => some (a.1 :: r.1, r.2)
noncomputable def thCons2 (x : R) (o : Option (List R × Store)) : Option (List R × Store) := o.bind fun r => some (x :: r.1, r.2)
@[simp] theorem ev_cons {fa fr} : fCons fa fr ρ μ = thCons (fa ρ μ) fr ρ := rfl
@[simp] theorem ev_cons1 {fr} : thCons (some (x, μ)) fr ρ = thCons2 x (fr ρ μ) := rfl
@[simp] theorem ev_cons2 {xs} : thCons2 x (some (xs, μ)) = some (x :: xs, μ) := rfl
noncomputable def thAr (o : Option (List R × Store)) (g : List R -> Store -> Option (R × Store)) : Option (R × Store) := o.bind fun a => g a.1 a.2
@[simp] theorem ev_ar {g fa} : fAr g fa ρ μ = thAr (fa ρ μ) g := rfl
@[simp] theorem ev_ar1 {g xs} : thAr (some (xs, μ)) g = g xs μ := rfl
noncomputable def thB (o : Option (R × Store)) : Option (Bool × Store) := o.bind fun a => match a.1 with | .v (.bl b) => some (b, a.2) | _ => none
@[simp] theorem ev_B {fa} : fB fa ρ μ = thB (fa ρ μ) := rfl
@[simp] theorem ev_B1 {b} : thB (some (.v (.bl b), μ)) = some (b, μ) := rfl
noncomputable def thTru (o : Option (R × Store)) : Option (Bool × Store) := o.bind fun a => (truD a.1 a.2).bind fun b => some (b, a.2)
@[simp] theorem ev_tru {fa} : fTru fa ρ μ = thTru (fa ρ μ) := rfl
@[simp] theorem ev_tru1 {b} : thTru (some (.v (.bl b), μ)) = some (b, μ) := rfl
@[simp] theorem ev_tru2 {xs} : thTru (some (.v (.tup xs), μ)) = some (!xs.isEmpty, μ) := rfl
@[simp] theorem ev_tru3 {xs} : thTru (some (.v (.fl xs), μ)) = some (!xs.isEmpty, μ) := rfl
@[simp] theorem ev_tru4 {i} : thTru (some (.v (.int i), μ)) = some (i != 0, μ) := rfl
@[simp] theorem ev_tru5 : thTru (some (.v .non, μ)) = some (false, μ) := rfl
noncomputable def thAnd (o : Option (Bool × Store)) (u : FT) (ρ : Lo) : Option (Bool × Store) := o.bind fun c => if c.1 = true then u ρ c.2 else some (false, c.2)
noncomputable def thOr (o : Option (Bool × Store)) (u : FT) (ρ : Lo) : Option (Bool × Store) := o.bind fun c => if c.1 = true then some (true, c.2) else u ρ c.2
noncomputable def thNot (o : Option (Bool × Store)) : Option (Bool × Store) := o.bind fun c => some (!c.1, c.2)
@[simp] theorem ev_tand {t u} : tAndF t u ρ μ = thAnd (t ρ μ) u ρ := rfl
@[simp] theorem ev_tand1 {b u} : thAnd (some (b, μ)) u ρ = if b = true then u ρ μ else some (false, μ) := rfl
@[simp] theorem ev_tor {t u} : tOrF t u ρ μ = thOr (t ρ μ) u ρ := rfl
@[simp] theorem ev_tor1 {b u} : thOr (some (b, μ)) u ρ = if b = true then some (true, μ) else u ρ μ := rfl
@[simp] theorem ev_tnot {t} : tNotF t ρ μ = thNot (t ρ μ) := rfl
@[simp] theorem ev_tnot1 {b} : thNot (some (b, μ)) = some (!b, μ) := rfl
noncomputable def thAndV (o : Option (R × Store)) (fb : FE) (ρ : Lo) : Option (R × Store) := o.bind fun a => match a.1 with | .v (.bl c) => if c = true then fb ρ a.2 else some (.v (.bl false), a.2) | _ => none
noncomputable def thOrV (o : Option (R × Store)) (fb : FE) (ρ : Lo) : Option (R × Store) := o.bind fun a => match a.1 with | .v (.bl c) => if c = true then some (.v (.bl true), a.2) else fb ρ a.2 | _ => none
noncomputable def thNotV (o : Option (R × Store)) : Option (R × Store) := o.bind fun a => match a.1 with | .v (.bl c) => some (.v (.bl (!c)), a.2) | _ => none
@[simp] theorem ev_and {fa fb} : fAnd fa fb ρ μ = thAndV (fa ρ μ) fb ρ := rfl
@[simp] theorem ev_and1 {c fb} : thAndV (some (.v (.bl c), μ)) fb ρ = if c = true then fb ρ μ else some (.v (.bl false), μ) := rfl
@[simp] theorem ev_or {fa fb} : fOr fa fb ρ μ = thOrV (fa ρ μ) fb ρ := rfl
@[simp] theorem ev_or1 {c fb} : thOrV (some (.v (.bl c), μ)) fb ρ = if c = true then some (.v (.bl true), μ) else fb ρ μ := rfl
@[simp] theorem ev_not {fa} : fNot fa ρ μ = thNotV (fa ρ μ) := rfl
@[simp] theorem ev_not1 {c} : thNotV (some (.v (.bl c), μ)) = some (.v (.bl (!c)), μ) := rfl
noncomputable def thIf (o : Option (Bool × Store)) (fa fb : FE) (ρ : Lo) : Option (R × Store) := o.bind fun c => if c.1 = true then fa ρ c.2 else fb ρ c.2
@[simp] theorem ev_if {t fa fb} : fIf t fa fb ρ μ = thIf (t ρ μ) fa fb ρ := rfl
@[simp] theorem ev_if1 {c fa fb} : thIf (some (c, μ)) fa fb ρ = if c = true then fa ρ μ else fb ρ μ := rfl
@[simp] theorem ev_vals0 : vals [] = some [] := rfl
@[simp] theorem ev_vals1 {r ds} (h : vals r = some ds) : vals (.v d :: r) = some (d :: ds) := by simp [vals, h]
noncomputable def thTup (o : Option (List R × Store)) : Option (R × Store) := o.bind fun a => (vals a.1).bind fun ds => if ds.length <= sizeLine then some (.v (.tup ds), a.2) else none
noncomputable def thLst (o : Option (List R × Store)) : Option (R × Store) := o.bind fun a => (vals a.1).bind fun ds => if ds.length <= sizeLine then some (.p a.2.length, a.2 ++ [.lst ds]) else none
@[simp] theorem ev_tup {fa} : fTup fa ρ μ = thTup (fa ρ μ) := rfl
@[simp] theorem ev_tup1 {rs ds} (h : vals rs = some ds) (hl : ds.length <= sizeLine) : thTup (some (rs, μ)) = some (.v (.tup ds), μ) := by simp [thTup, h, hl]
@[simp] theorem ev_lst {fa} : fLst fa ρ μ = thLst (fa ρ μ) := rfl
@[simp] theorem ev_lst1 {rs ds} (h : vals rs = some ds) (hl : ds.length <= sizeLine) : thLst (some (rs, μ)) = some (.p μ.length, μ ++ [.lst ds]) := by simp [thLst, h, hl]
@[simp] theorem ev_dnew : fDnew ρ μ = some (.p μ.length, μ ++ [.dct []]) := rfl
noncomputable def thFz (o : Option (R × Store)) : Option (R × Store) := o.bind fun a => (fzD a.1 a.2).bind fun b => some (.v b.1, b.2)
@[simp] theorem ev_fz {fa} : fFz fa ρ μ = thFz (fa ρ μ) := rfl
@[simp] theorem ev_fz1 : thFz (some (.v d, μ)) = some (.v d, μ) := rfl
noncomputable def thCall (o : Option (List R × Store)) (f : MF) (n : Nat) : Option (R × Store) := o.bind fun a => (vals a.1).bind fun ds => if ds.length = n then (f ds).bind fun d => some (.v d, a.2) else none
@[simp] theorem ev_call {f n fa} : fCall f n fa ρ μ = thCall (fa ρ μ) f n := rfl
@[simp] theorem ev_next : sNext ρ μ = some (.nx ρ μ) := rfl
noncomputable def thS (o : Option Out) (b : FS) : Option Out := o.bind fun o => match o with | .nx ρ' μ' => b ρ' μ' | o => some o
@[simp] theorem ev_seq {a b} : sSeq a b ρ μ = thS (a ρ μ) b := rfl
@[simp] theorem ev_seq1 {b} : thS (some (.nx ρ μ)) b = b ρ μ := rfl
@[simp] theorem ev_seq2 {b} : thS (some (.rt x μ)) b = some (.rt x μ) := rfl
@[simp] theorem ev_seq3 {b} : thS (some (.bk ρ μ)) b = some (.bk ρ μ) := rfl
@[simp] theorem ev_seq4 {b} : thS (some (.ct ρ μ)) b = some (.ct ρ μ) := rfl
@[simp] theorem ev_break : sBreak ρ μ = some (.bk ρ μ) := rfl
@[simp] theorem ev_cont : sCont ρ μ = some (.ct ρ μ) := rfl
noncomputable def thDrop (o : Option (R × Store)) (ρ : Lo) : Option Out := o.bind fun a => some (.nx ρ a.2)
@[simp] theorem ev_drop {f} : sDrop f ρ μ = thDrop (f ρ μ) ρ := rfl
@[simp] theorem ev_drop1 : thDrop (some (x, μ)) ρ = some (.nx ρ μ) := rfl
noncomputable def thRet (o : Option (R × Store)) : Option Out := o.bind fun a => some (.rt a.1 a.2)
@[simp] theorem ev_ret {f} : sRet f ρ μ = thRet (f ρ μ) := rfl
@[simp] theorem ev_ret1 : thRet (some (x, μ)) = some (.rt x μ) := rfl
@[simp] theorem ev_retN : sRetN ρ μ = some (.rt (.v .non) μ) := rfl
noncomputable def thIfS (o : Option (Bool × Store)) (a b : FS) (ρ : Lo) : Option Out := o.bind fun c => if c.1 = true then a ρ c.2 else b ρ c.2
@[simp] theorem ev_ifS {t a b} : sIf t a b ρ μ = thIfS (t ρ μ) a b ρ := rfl
@[simp] theorem ev_ifT {a b} : thIfS (some (true, μ)) a b ρ = a ρ μ := rfl
@[simp] theorem ev_ifF {a b} : thIfS (some (false, μ)) a b ρ = b ρ μ := rfl
noncomputable def thSet (o : Option (R × Store)) (i : Nat) (ρ : Lo) : Option Out := o.bind fun a => some (.nx (ρ.set i (some a.1)) a.2)
@[simp] theorem ev_set {i f} : sSet i f ρ μ = thSet (f ρ μ) i ρ := rfl
@[simp] theorem ev_set1 {i} : thSet (some (x, μ)) i ρ = some (.nx (ρ.set i (some x)) μ) := rfl
noncomputable def thFor (o : Option (List D × Store)) (g : FG) (b : FS) (ρ : Lo) : Option Out := o.bind fun a => loop g b a.1 ρ a.2
@[simp] theorem ev_for {i g b} : sFor i g b ρ μ = thFor (i ρ μ) g b ρ := Eq.trans rfl rfl
@[simp] theorem ev_for1 {xs g b} : thFor (some (xs, μ)) g b ρ = loop g b xs ρ μ := Eq.trans rfl rfl
noncomputable def thSeq (o : Option (R × Store)) : Option (List D × Store) := o.bind fun a => match a.1 with | .v (.fl xs) => some (xs, a.2) | .v (.tup xs) => some (xs, a.2) | _ => none
@[simp] theorem ev_iseq {f} : fiSeq f ρ μ = thSeq (thFz (f ρ μ)) := rfl
@[simp] theorem ev_iseq1 {xs} : thSeq (some (.v (.fl xs), μ)) = some (xs, μ) := rfl
@[simp] theorem ev_iseq2 {xs} : thSeq (some (.v (.tup xs), μ)) = some (xs, μ) := rfl
noncomputable def thR1 (o : Option (R × Store)) : Option (List D × Store) := o.bind fun a => match a.1 with | .v (.int j) => if -(2 ^ 62) <= j /\ j < 2 ^ 62 then some ((List.range j.toNat).map fun i => .int (i : Nat), a.2) else none | _ => none
@[simp] theorem ev_r1 {f} : fiR1 f ρ μ = thR1 (f ρ μ) := Eq.trans rfl rfl
theorem ev_r11 {j : Int} (h : -(2 ^ 62) <= j /\ j < 2 ^ 62) : thR1 (some (.v (.int j), μ)) = some ((List.range j.toNat).map fun i => .int (i : Nat), μ) := by
 show (if -(2 ^ 62) <= j /\ j < 2 ^ 62 then _ else _) = _
 rw [if_pos h]
noncomputable def thR2 (o : Option (R × Store)) (g : FE) (ρ : Lo) : Option (List D × Store) := o.bind fun a => (g ρ a.2).bind fun b => match a.1, b.1 with
 | .v (.int i), .v (.int j) => if -(2 ^ 62) <= i /\ i < 2 ^ 62 /\ -(2 ^ 62) <= j /\ j < 2 ^ 62 then some ((List.range (j - i).toNat).map fun k => .int (i + (k : Nat)), b.2) else none | _, _ => none
noncomputable def thR22 (x : R) (o : Option (R × Store)) : Option (List D × Store) := o.bind fun b => match x, b.1 with
 | .v (.int i), .v (.int j) => if -(2 ^ 62) <= i /\ i < 2 ^ 62 /\ -(2 ^ 62) <= j /\ j < 2 ^ 62 then some ((List.range (j - i).toNat).map fun k => .int (i + (k : Nat)), b.2) else none | _, _ => none
@[simp] theorem ev_r2 {f g} : fiR2 f g ρ μ = thR2 (f ρ μ) g ρ := Eq.trans rfl rfl
@[simp] theorem ev_r21 {g} : thR2 (some (x, μ)) g ρ = thR22 x (g ρ μ) := Eq.trans rfl rfl
noncomputable def thComp (o : Option (List D × Store)) (ix : List Nat) (k : Nat) (g : FG) (c : FT) (f : FE) (ρ : Lo) : Option (R × Store) := o.bind fun a => if a.1.length <= sizeLine then
 (compL g c f a.1 (blockLo k ix ρ) a.2).bind fun r => some (.p r.2.length, r.2 ++ [.lst r.1]) else none
@[simp] theorem ev_comp {ix k i g c f} : fComp ix k i g c f ρ μ = thComp (i ρ μ) ix k g c f ρ := Eq.trans rfl rfl
@[simp] theorem ev_yes : cYes ρ μ = some (true, μ) := rfl
noncomputable def thSl (o : Option (R × Store)) (fl fh : FO) (ρ : Lo) : Option (R × Store) := o.bind fun a => (fl ρ a.2).bind fun l => (fh ρ l.2).bind fun h => slD a.1 l.1 h.1 h.2
noncomputable def thSl1 (x : R) (o : Option (Option Int × Store)) (fh : FO) (ρ : Lo) : Option (R × Store) := o.bind fun l => (fh ρ l.2).bind fun h => slD x l.1 h.1 h.2
noncomputable def thSl2 (x : R) (l : Option Int) (o : Option (Option Int × Store)) : Option (R × Store) := o.bind fun h => slD x l h.1 h.2
@[simp] theorem ev_sl {fa fl fh} : fSl fa fl fh ρ μ = thSl (fa ρ μ) fl fh ρ := rfl
@[simp] theorem ev_sl1 {fl fh} : thSl (some (x, μ)) fl fh ρ = thSl1 x (fl ρ μ) fh ρ := rfl
@[simp] theorem ev_sl2 {l fh} : thSl1 x (some (l, μ)) fh ρ = thSl2 x l (fh ρ μ) := rfl
@[simp] theorem ev_sl3 {l h} : thSl2 x l (some (h, μ)) = slD x l h μ := rfl
@[simp] theorem ev_slT {xs l h} : slD (.v (.tup xs)) l h μ = some (.v (.tup (cutD xs l h)), μ) := rfl
noncomputable def thO (o : Option (R × Store)) : Option (Option Int × Store) := o.bind fun a => match a.1 with | .v (.int i) => some (some i, a.2) | _ => none
@[simp] theorem ev_oN : oNone ρ μ = some (none, μ) := rfl
@[simp] theorem ev_oS {f} : oSome f ρ μ = thO (f ρ μ) := rfl
@[simp] theorem ev_oS1 {i} : thO (some (.v (.int i), μ)) = some (some i, μ) := rfl
noncomputable def thMt (o : Option (R × Store)) (g : R -> List R -> Store -> Option (R × Store)) (ga : FA) (ρ : Lo) : Option (R × Store) := o.bind fun a => if isLst a.1 a.2 = true then (ga ρ a.2).bind fun b => g a.1 b.1 b.2 else none
noncomputable def thMt2 (x : R) (o : Option (List R × Store)) (g : R -> List R -> Store -> Option (R × Store)) : Option (R × Store) := o.bind fun b => g x b.1 b.2
@[simp] theorem ev_mt {g fa ga} : fMt g fa ga ρ μ = thMt (fa ρ μ) g ga ρ := rfl
@[simp] theorem ev_mt2 {g xs} : thMt2 x (some (xs, μ)) g = g x xs μ := rfl
variable {i j : Int} {b c : Bool} {xs ys : List D}
@[simp] theorem ev_add : addD (.v (.int i)) (.v (.int j)) μ = some (.v (.int (i + j)), μ) := rfl
@[simp] theorem ev_sub : subD (.v (.int i)) (.v (.int j)) μ = some (.v (.int (i - j)), μ) := rfl
@[simp] theorem ev_lt : ltD (.v (.int i)) (.v (.int j)) μ = some (.v (.bl (decide (i < j))), μ) := rfl
@[simp] theorem ev_le : leD (.v (.int i)) (.v (.int j)) μ = some (.v (.bl (decide (i <= j))), μ) := rfl
@[simp] theorem ev_gt : gtD (.v (.int i)) (.v (.int j)) μ = some (.v (.bl (decide (j < i))), μ) := rfl
@[simp] theorem ev_ge : geD (.v (.int i)) (.v (.int j)) μ = some (.v (.bl (decide (j <= i))), μ) := rfl
theorem ev_mod (h : 0 < j) : modD (.v (.int i)) (.v (.int j)) μ = some (.v (.int (i % j)), μ) := by simp [modD, iOp, h]
theorem ev_div (h : 0 < j) (h2 : j < 1073741824) : divD (.v (.int i)) (.v (.int j)) μ = some (.v (.int (i / j)), μ) := by simp [divD, iOp, h, h2]
theorem ev_mulL (h : -(2 ^ 64) < i /\ i < 2 ^ 64) : mulD (.v (.int i)) (.v (.int j)) μ = some (.v (.int (i * j)), μ) := by
 show (if (decide (-(2 ^ 64) < i /\ i < 2 ^ 64) || decide (-(2 ^ 64) < j /\ j < 2 ^ 64)) = true then _ else _) = _
 rw [if_pos (by rw [Bool.or_eq_true]; exact .inl (decide_eq_true h))]
theorem ev_pow (h : 0 <= j /\ j <= 1000000 /\ i.natAbs < 2 ^ 64) : powD (.v (.int i)) (.v (.int j)) μ = some (.v (.int (i ^ j.toNat)), μ) := by simp [powD, iOp, h]
@[simp] theorem ev_neg : negD (.v (.int i)) μ = some (.v (.int (-i)), μ) := rfl
@[simp] theorem ev_eqI : eqR false (.v (.int i)) (.v (.int j)) μ = some (.v (.bl (i == j)), μ) := rfl
@[simp] theorem ev_neI : eqR true (.v (.int i)) (.v (.int j)) μ = some (.v (.bl (!(i == j))), μ) := rfl
@[simp] theorem ev_eqB : eqR false (.v (.bl b)) (.v (.bl c)) μ = some (.v (.bl (b == c)), μ) := rfl
@[simp] theorem ev_neB : eqR true (.v (.bl b)) (.v (.bl c)) μ = some (.v (.bl (!(b == c))), μ) := rfl
@[simp] theorem ev_lenT : lenD [.v (.tup xs)] μ = some (.v (.int xs.length), μ) := rfl
@[simp] theorem ev_lenF : lenD [.v (.fl xs)] μ = some (.v (.int xs.length), μ) := rfl
@[simp] theorem ev_tupT : tupD [.v (.tup xs)] μ = some (.v (.tup xs), μ) := rfl
@[simp] theorem ev_tupF : tupD [.v (.fl xs)] μ = some (.v (.tup xs), μ) := rfl
@[simp] theorem ev_listT : listD [.v (.tup xs)] μ = some (.p μ.length, μ ++ [.lst xs]) := rfl
@[simp] theorem ev_listF : listD [.v (.fl xs)] μ = some (.p μ.length, μ ++ [.lst xs]) := rfl
theorem bools_map (bs : List Bool) : boolsD (bs.map D.bl) = some bs := by induction bs <;> simp_all [boolsD]
@[simp] theorem ev_gnm {k : Nat} : gNm k x ρ μ = some (ρ.set k (some x), μ) := rfl
theorem at_int {α : Type} {xs : List α} {i : Int} {a : α} (h0 : 0 <= i) (h : xs[i.toNat]? = some a) : atI xs i = some a := by
 unfold atI ixN
 have hl := (List.getElem?_eq_some_iff.mp h).1
 rw [if_pos h0, if_pos (by omega)]
 simpa using h
noncomputable def finO (o : Option Out) : Option D := o.bind fin
@[simp] theorem ev_fin : finO (some (.rt (.v d) μ)) = some d := rfl
end
@[simp] theorem okDs_ints {n : Nat} (xs : List Int) : okDs n (xs.map D.int) = true := by
 induction xs with
 | nil => cases n <;> rfl
 | cons x xs ih => cases n <;> simpa [okDs, okD] using ih
@[simp] theorem eqDs_ints (xs ys : List Int) : eqDs (xs.map D.int) (ys.map D.int) = decide (xs = ys) := by
 induction xs generalizing ys with
 | nil => cases ys <;> simp [eqDs]
 | cons x xs ih =>
  cases ys with
  | nil => simp [eqDs]
  | cons y ys => simp [eqDs, eqD, ih ys]; rfl
noncomputable def thG (o : Option (Lo × Store)) (b : FS) : Option Out := o.bind fun a => b a.1 a.2
@[simp] theorem ev_G {ρ : Lo} {μ : Store} {b : FS} : thG (some (ρ, μ)) b = b ρ μ := rfl
theorem loop_nx {g : FG} {b : FS} (I : Nat -> Lo -> Store -> Prop) {xs : List D} {ρ : Lo} {μ : Store} (h0 : I 0 ρ μ)
  (hs : ∀ (i : Nat) x ρ μ, xs[i]? = some x -> I i ρ μ -> ∃ ρ' μ', thG (g (.v x) ρ μ) b = some (.nx ρ' μ') /\ I (i + 1) ρ' μ') :
  ∃ ρ' μ', loop g b xs ρ μ = some (.nx ρ' μ') /\ I xs.length ρ' μ' := by
 have key : ∀ (n : Nat) (ys : List D) (i : Nat) ρ μ, ys.length = n -> xs.drop i = ys -> i <= xs.length -> I i ρ μ -> ∃ ρ' μ', loop g b ys ρ μ = some (.nx ρ' μ') /\ I xs.length ρ' μ' := by
  intro n
  induction n with
  | zero =>
   intro ys i ρ μ hn hd hi h
   have : ys = [] := List.eq_nil_of_length_eq_zero hn
   subst this
   have : i = xs.length := by
    have := congrArg List.length hd
    simp at this; omega
   subst this
   exact ⟨ρ, μ, rfl, h⟩
  | succ n ih =>
   intro ys i ρ μ hn hd hi h
   cases ys with
   | nil => simp at hn
   | cons y ys =>
    have hlt : i < xs.length := by
     have := congrArg List.length hd
     simp at this; omega
    have hc := List.drop_eq_getElem_cons hlt
    rw [hd] at hc
    injection hc with h1 h2
    obtain ⟨ρ', μ', e0, h'⟩ := hs i y ρ μ (by rw [h1]; exact List.getElem?_eq_getElem hlt) h
    obtain ⟨⟨ρ1, μ1⟩, e1, e2⟩ := Option.bind_eq_some_iff.mp e0
    obtain ⟨ρ2, μ2, e3, h3⟩ := ih ys (i + 1) ρ' μ' (by simpa using hn) h2.symm hlt h'
    exact ⟨ρ2, μ2, by simp only [loop, e1, e2, Option.bind_some]; exact e3, h3⟩
 exact key xs.length xs 0 ρ μ rfl (by simp) (Nat.zero_le _) h0
end HW
namespace HW
open PySem L2
section
variable {ρ : Lo} {μ μ1 : Store} {x y : R} {d : D}
noncomputable def thCallQ (o : Option (List R × Store)) (f : MF) (n : Nat) : Option (R × Store) := o.bind fun a => (valsB a.1 a.2).bind fun ds => if ds.length = n then (f ds).bind fun d => if flatD d = true then some (.v d, a.2) else none else none
@[simp] theorem ev_callQ {f n fa} : fCallQ f n fa ρ μ = thCallQ (fa ρ μ) f n := rfl
end
end HW
namespace HW
open PySem L2
section
variable {ρ : Lo} {μ μ1 : Store} {x y : R} {d e : D} {n m : Nat} {xs ys : List D} {i j : Int} {b c : Bool}
noncomputable def cMt (o : Option Cell) (n : Nat) (g : R -> List R -> Store -> Option (R × Store)) (ga : FA) (ρ : Lo) (μ : Store) : Option (R × Store) := match o with | some (.lst _) => thMt2 (.p n) (ga ρ μ) g | some (.fz _) => thMt2 (.p n) (ga ρ μ) g | _ => none
theorem ev_mtP {g ga} : thMt (some (.p n, μ)) g ga ρ = cMt μ[n]? n g ga ρ μ := by
 cases h : μ[n]? with
 | none => simp [thMt, isLst, cMt, h]
 | some c => cases c <;> simp [thMt, isLst, cMt, thMt2, h]
theorem ev_mtC {g ga} : cMt (some (.lst xs)) n g ga ρ μ = thMt2 (.p n) (ga ρ μ) g := rfl
noncomputable def cApp (o : Option Cell) (n : Nat) (d : D) (μ : Store) : Option (R × Store) := match o with | some (.lst xs) => if xs.length < sizeLine then some (.v .non, μ.set n (.lst (xs ++ [d]))) else none | _ => none
theorem ev_appP : appD (.p n) [.v d] μ = cApp μ[n]? n d μ := rfl
theorem ev_appC : cApp (some (.lst xs)) n d μ = if xs.length < sizeLine then some (.v .non, μ.set n (.lst (xs ++ [d]))) else none := rfl
noncomputable def cClr (o : Option Cell) (n : Nat) (μ : Store) : Option (R × Store) := match o with | some (.lst _) => some (.v .non, μ.set n (.lst [])) | _ => none
theorem ev_clrP : clrD (.p n) [] μ = cClr μ[n]? n μ := rfl
theorem ev_clrC : cClr (some (.lst xs)) n μ = some (.v .non, μ.set n (.lst [])) := rfl
noncomputable def cExt (o : Option Cell) (n : Nat) (ys : List D) (μ : Store) : Option (R × Store) := match o with | some (.lst xs) => if xs.length + ys.length <= sizeLine then some (.v .non, μ.set n (.lst (xs ++ ys))) else none | _ => none
theorem ev_extP : extD (.p n) [.v (.tup ys)] μ = cExt μ[n]? n ys μ := rfl
theorem ev_extC : cExt (some (.lst xs)) n ys μ = if xs.length + ys.length <= sizeLine then some (.v .non, μ.set n (.lst (xs ++ ys))) else none := rfl
noncomputable def cIt (o : Option Cell) : Option (List D) := match o with | some (.lst xs) => some xs | some (.fz xs) => some xs | _ => none
theorem ev_itT : itemsD (.v (.tup xs)) μ = some xs := rfl
theorem ev_itF : itemsD (.v (.fl xs)) μ = some xs := rfl
theorem ev_itP : itemsD (.p n) μ = cIt μ[n]? := rfl
theorem ev_itC : cIt (some (.lst xs)) = some xs := rfl
theorem ev_itZ : cIt (some (.fz xs)) = some xs := rfl
noncomputable def thIx (o : Option (List D)) (i : Int) (μ : Store) : Option (R × Store) := o.bind fun xs => (atI xs i).bind fun d => some (.v d, μ)
noncomputable def thIx2 (o : Option D) (μ : Store) : Option (R × Store) := o.bind fun d => some (.v d, μ)
theorem ev_ix : ixD x (.v (.int i)) μ = thIx (itemsD x μ) i μ := rfl
theorem ev_ix1 : thIx (some xs) i μ = thIx2 (atI xs i) μ := rfl
theorem ev_ix2 : thIx2 (some d) μ = some (.v d, μ) := rfl
theorem ev_at0 {a : D} {l : List D} : atI (a :: l) 0 = some a := at_int (by decide) rfl
theorem ev_at1 {a b : D} {l : List D} : atI (a :: b :: l) 1 = some b := at_int (by decide) rfl
theorem ev_at2 {a b c : D} {l : List D} : atI (a :: b :: c :: l) 2 = some c := at_int (by decide) rfl
theorem ev_at3 {a b c d : D} {l : List D} : atI (a :: b :: c :: d :: l) 3 = some d := at_int (by decide) rfl
noncomputable def thLen (o : Option (List D)) (μ : Store) : Option (R × Store) := o.bind fun xs => some (.v (.int xs.length), μ)
theorem ev_len : lenD [x] μ = thLen (itemsD x μ) μ := rfl
theorem ev_len1 : thLen (some xs) μ = some (.v (.int xs.length), μ) := rfl
noncomputable def thTp (o : Option (List D)) (μ : Store) : Option (R × Store) := o.bind fun xs => some (.v (.tup xs), μ)
theorem ev_tp : tupD [x] μ = thTp (itemsD x μ) μ := rfl
theorem ev_tp1 : thTp (some xs) μ = some (.v (.tup xs), μ) := rfl
noncomputable def thLs (o : Option (List D)) (μ : Store) : Option (R × Store) := o.bind fun xs => some (.p μ.length, μ ++ [.lst xs])
theorem ev_ls : listD [x] μ = thLs (itemsD x μ) μ := rfl
theorem ev_ls1 : thLs (some xs) μ = some (.p μ.length, μ ++ [.lst xs]) := rfl
noncomputable def cVw (o : Option Cell) : Option D := match o with | some (.lst xs) => some (.fl xs) | some (.fz xs) => some (.fl xs) | _ => none
theorem ev_vwV : viewD (.v d) μ = some d := rfl
theorem ev_vwP : viewD (.p n) μ = cVw μ[n]? := rfl
theorem ev_vwC : cVw (some (.lst xs)) = some (.fl xs) := rfl
theorem ev_vwZ : cVw (some (.fz xs)) = some (.fl xs) := rfl
noncomputable def thEq (o p : Option D) (neg : Bool) (μ : Store) : Option (R × Store) := o.bind fun a => p.bind fun b => if (okD 60 a && okD 60 b) = true then some (.v (.bl (if neg then !eqD a b else eqD a b)), μ) else none
theorem ev_eqR : eqR b x y μ = thEq (viewD x μ) (viewD y μ) b μ := rfl
theorem ev_eqF : thEq (some d) (some e) false μ = if (okD 60 d && okD 60 e) = true then some (.v (.bl (eqD d e)), μ) else none := rfl
theorem ev_eqT : thEq (some d) (some e) true μ = if (okD 60 d && okD 60 e) = true then some (.v (.bl (!eqD d e)), μ) else none := rfl
theorem ok_int : okD n (.int i) = true := by cases n <;> rfl
theorem ok_bl : okD n (.bl b) = true := by cases n <;> rfl
theorem ok_non : okD n .non = true := by cases n <;> rfl
theorem eq_int : eqD (.int i) (.int j) = (i == j) := rfl
theorem eq_bl : eqD (.bl b) (.bl c) = (b == c) := rfl
noncomputable def cFin (o : Option Cell) : Option D := match o with | some (.lst xs) => some (.fl xs) | some (.fz xs) => some (.fl xs) | some (.dct kvs) => some (.fd (kvs.map (·.1)) (kvs.map (·.2))) | some (.fzd kvs) => some (.fd (kvs.map (·.1)) (kvs.map (·.2))) | _ => none
theorem ev_finPP : finO (some (.rt (.p n) μ)) = cFin μ[n]? := by
 cases h : μ[n]? with
 | none => simp [finO, fin, fzD, cFin, h]
 | some c => cases c <;> simp [finO, fin, fzD, cFin, h]
theorem ev_finC : cFin (some (.lst xs)) = some (.fl xs) := rfl
theorem ev_finZ : cFin (some (.fz xs)) = some (.fl xs) := rfl
theorem ev_finN : finO (some (.nx ρ μ)) = some .non := rfl
noncomputable def cFz (o : Option Cell) (n : Nat) (μ : Store) : Option (R × Store) := match o with | some (.lst xs) => some (.v (.fl xs), μ.set n (.fz xs)) | some (.fz xs) => some (.v (.fl xs), μ) | some (.dct kvs) => some (.v (.fd (kvs.map (·.1)) (kvs.map (·.2))), μ.set n (.fzd kvs)) | some (.fzd kvs) => some (.v (.fd (kvs.map (·.1)) (kvs.map (·.2))), μ) | _ => none
theorem ev_fzP : thFz (some (.p n, μ)) = cFz μ[n]? n μ := by
 cases h : μ[n]? with
 | none => simp [thFz, fzD, cFz, h]
 | some c => cases c <;> simp [thFz, fzD, cFz, h]
theorem ev_fzC : cFz (some (.lst xs)) n μ = some (.v (.fl xs), μ.set n (.fz xs)) := rfl
theorem ev_fzZ : cFz (some (.fz xs)) n μ = some (.v (.fl xs), μ) := rfl
noncomputable def thAs (o : Option D) (xs : List R) (μ : Store) : Option (List D) := o.bind fun d => (valsB xs μ).bind fun ds => some (d :: ds)
noncomputable def thAs2 (d : D) (o : Option (List D)) : Option (List D) := o.bind fun ds => some (d :: ds)
theorem ev_vb0 : valsB [] μ = some [] := rfl
theorem ev_vb {rs} : valsB (x :: rs) μ = thAs (asD x μ) rs μ := rfl
theorem ev_vb1 {rs} : thAs (some d) rs μ = thAs2 d (valsB rs μ) := rfl
theorem ev_vb2 {ds} : thAs2 d (some ds) = some (d :: ds) := rfl
noncomputable def cAs (o : Option Cell) : Option D := match o with | some (.lst xs) => some (.fl xs) | some (.fz xs) => some (.fl xs) | some (.dct kvs) => some (.fd (kvs.map (·.1)) (kvs.map (·.2))) | some (.fzd kvs) => some (.fd (kvs.map (·.1)) (kvs.map (·.2))) | _ => none
theorem ev_asV : asD (.v d) μ = some d := rfl
theorem ev_asP : asD (.p n) μ = cAs μ[n]? := rfl
theorem ev_asC : cAs (some (.lst xs)) = some (.fl xs) := rfl
theorem ev_asZ : cAs (some (.fz xs)) = some (.fl xs) := rfl
noncomputable def thVs (o : Option (List D)) (f : MF) (n : Nat) (μ : Store) : Option (R × Store) := o.bind fun ds => if ds.length = n then (f ds).bind fun d => some (.v d, μ) else none
noncomputable def thVr (o : Option D) (μ : Store) : Option (R × Store) := o.bind fun d => some (.v d, μ)
theorem ev_c1 {rs f n} : thCall (some (rs, μ)) f n = thVs (vals rs) f n μ := rfl
theorem ev_c2 {f : MF} {ds : List D} : thVs (some ds) f n μ = if ds.length = n then thVr (f ds) μ else none := rfl
theorem ev_c3 : thVr (some d) μ = some (.v d, μ) := rfl
noncomputable def thVc (d : D) (o : Option (List D)) : Option (List D) := o.bind fun ds => some (d :: ds)
theorem ev_vs0 : vals [] = some [] := rfl
theorem ev_vs1 {rs} : vals (.v d :: rs) = thVc d (vals rs) := by unfold thVc; cases h : vals rs <;> simp [vals, h]
theorem ev_vs2 {ds} : thVc d (some ds) = some (d :: ds) := rfl
noncomputable def thVsQ (o : Option (List D)) (f : MF) (n : Nat) (μ : Store) : Option (R × Store) := o.bind fun ds => if ds.length = n then (f ds).bind fun d => if flatD d = true then some (.v d, μ) else none else none
noncomputable def thVrQ (o : Option D) (μ : Store) : Option (R × Store) := o.bind fun d => if flatD d = true then some (.v d, μ) else none
theorem ev_q1 {rs f n} : thCallQ (some (rs, μ)) f n = thVsQ (valsB rs μ) f n μ := rfl
theorem ev_q2 {f : MF} {ds : List D} : thVsQ (some ds) f n μ = if ds.length = n then thVrQ (f ds) μ else none := rfl
theorem ev_q3 : thVrQ (some d) μ = if flatD d = true then some (.v d, μ) else none := rfl
noncomputable def thTv (o : Option (List D)) (μ : Store) : Option (R × Store) := o.bind fun ds => if ds.length <= sizeLine then some (.v (.tup ds), μ) else none
theorem ev_tv {rs} : thTup (some (rs, μ)) = thTv (vals rs) μ := rfl
theorem ev_tv1 {ds} : thTv (some ds) μ = if ds.length <= sizeLine then some (.v (.tup ds), μ) else none := rfl
noncomputable def thLv (o : Option (List D)) (μ : Store) : Option (R × Store) := o.bind fun ds => if ds.length <= sizeLine then some (.p μ.length, μ ++ [.lst ds]) else none
theorem ev_lv {rs} : thLst (some (rs, μ)) = thLv (vals rs) μ := rfl
theorem ev_lv1 {ds} : thLv (some ds) μ = if ds.length <= sizeLine then some (.p μ.length, μ ++ [.lst ds]) else none := rfl
noncomputable def thAsg (o : Option (R × Store)) (g : FG) (ρ : Lo) : Option Out := o.bind fun a => (g a.1 ρ a.2).bind fun b => some (.nx b.1 b.2)
noncomputable def thAsg2 (o : Option (Lo × Store)) : Option Out := o.bind fun b => some (.nx b.1 b.2)
theorem ev_asg {f g} : sAsg f g ρ μ = thAsg (f ρ μ) g ρ := rfl
theorem ev_asg1 {g} : thAsg (some (x, μ)) g ρ = thAsg2 (g x ρ μ) := rfl
theorem ev_asg2 : thAsg2 (some (ρ, μ)) = some (.nx ρ μ) := rfl
theorem ev_gtp {g} : gTp n g (.v (.tup xs)) ρ μ = if xs.length = n then g (xs.map .v) ρ μ else none := rfl
theorem ev_gs0 : gsNil [] ρ μ = some (ρ, μ) := rfl
noncomputable def thGs (o : Option (Lo × Store)) (r : FGs) (ds : List R) : Option (Lo × Store) := o.bind fun a => r ds a.1 a.2
theorem ev_gs {g r ds} : gsCons g r (x :: ds) ρ μ = thGs (g x ρ μ) r ds := rfl
theorem ev_gs1 {r ds} : thGs (some (ρ, μ)) r ds = r ds ρ μ := rfl
theorem ev_slF {l h} : slD (.v (.fl xs)) l h μ = some (.p μ.length, μ ++ [.lst (cutD xs l h)]) := rfl
theorem ev_addQI : addQ (.v (.int i)) (.v (.int j)) μ = some (.v (.int (i + j)), μ) := rfl
theorem ev_addQT : addQ (.v (.tup xs)) (.v (.tup ys)) μ = if xs.length + ys.length <= sizeLine then some (.v (.tup (xs ++ ys)), μ) else none := by
 cases xs with
 | nil => simp [addQ]
 | cons x xs => simp [addQ, addD]
noncomputable def cAdd (o p : Option Cell) (μ : Store) : Option (R × Store) := match o, p with | some (.lst xs), some (.lst ys) => if xs.length + ys.length <= sizeLine then some (.p μ.length, μ ++ [.lst (xs ++ ys)]) else none | _, _ => none
theorem ev_addQP : addQ (.p n) (.p m) μ = cAdd μ[n]? μ[m]? μ := rfl
theorem ev_addC : cAdd (some (.lst xs)) (some (.lst ys)) μ = if xs.length + ys.length <= sizeLine then some (.p μ.length, μ ++ [.lst (xs ++ ys)]) else none := rfl
theorem ev_intI : intD [.v (.int i)] μ = some (.v (.int i), μ) := rfl
theorem ev_intB : intD [.v (.bl b)] μ = some (.v (.int (if b then 1 else 0)), μ) := rfl
theorem ev_str : strD [.v (.int i)] μ = if i.natAbs.log2 < 1920 then some (.v (.str (toString i)), μ) else none := rfl
noncomputable def thSub (o : Option (R × Store)) (fi : FE) (dv : D) (ρ : Lo) : Option (Lo × Store) := o.bind fun o => (fi ρ o.2).bind fun i => (putC o.1 i.1 dv i.2).bind fun μ' => some (ρ, μ')
noncomputable def thSub2 (x : R) (o : Option (R × Store)) (dv : D) (ρ : Lo) : Option (Lo × Store) := o.bind fun i => (putC x i.1 dv i.2).bind fun μ' => some (ρ, μ')
noncomputable def thSub3 (o : Option Store) (ρ : Lo) : Option (Lo × Store) := o.bind fun μ' => some (ρ, μ')
theorem ev_sub1 {fo fi} : gSub fo fi (.v d) ρ μ = thSub (fo ρ μ) fi d ρ := rfl
theorem ev_sub2 {fi} : thSub (some (x, μ)) fi d ρ = thSub2 x (fi ρ μ) d ρ := rfl
theorem ev_sub3 : thSub2 x (some (y, μ)) d ρ = thSub3 (putC x y d μ) ρ := rfl
theorem ev_sub4 : thSub3 (some μ) ρ = some (ρ, μ) := rfl
noncomputable def cPut (o : Option Cell) (n : Nat) (i : R) (dv : D) (μ : Store) : Option Store := match o with
  | some (.lst xs) => (match i with | .v (.int k) => (ixN xs.length k).bind fun j => some (μ.set n (.lst (xs.set j dv))) | _ => none)
  | some (.dct kvs) => if kvs.length < sizeLine then (keyOf i).bind fun k => some (μ.set n (.dct (putKD kvs k dv))) else none
  | _ => none
theorem ev_putP : putC (.p n) x d μ = cPut μ[n]? n x d μ := rfl
noncomputable def thPut (o : Option Nat) (n : Nat) (xs : List D) (d : D) (μ : Store) : Option Store := o.bind fun j => some (μ.set n (.lst (xs.set j d)))
theorem ev_putL : cPut (some (.lst xs)) n (.v (.int i)) d μ = thPut (ixN xs.length i) n xs d μ := rfl
theorem ev_putL1 {j : Nat} : thPut (some j) n xs d μ = some (μ.set n (.lst (xs.set j d))) := rfl
noncomputable def thCo (o : Option (List D × Store)) : Option (R × Store) := o.bind fun r => some (.p r.2.length, r.2 ++ [.lst r.1])
theorem ev_compE {ix k g c f} : thComp (some (xs, μ)) ix k g c f ρ = if xs.length <= sizeLine then thCo (compL g c f xs (blockLo k ix ρ) μ) else none := Eq.trans rfl rfl
theorem ev_coE {r : List D} : thCo (some (r, μ)) = some (.p μ.length, μ ++ [.lst r]) := rfl
theorem ev_blk0 : blockLo 1 [] ρ = [none] := rfl
theorem ev_blk1 {i : Nat} : blockLo 1 [i] ρ = [none, (ρ[i]?).join] := rfl
theorem ev_blk2 {i j : Nat} : blockLo 1 [i, j] ρ = [none, (ρ[i]?).join, (ρ[j]?).join] := rfl
theorem ev_jn {x : Option R} : (some x).join = x := rfl
noncomputable def thAll (o : Option (List D)) (any : Bool) (μ : Store) : Option (R × Store) := o.bind fun xs => (boolsD xs).bind fun bs => some (.v (.bl (if any then bs.any id else bs.all id)), μ)
noncomputable def thAll2 (o : Option (List Bool)) (any : Bool) (μ : Store) : Option (R × Store) := o.bind fun bs => some (.v (.bl (if any then bs.any id else bs.all id)), μ)
theorem ev_all : allD b [x] μ = thAll (lstD x μ) b μ := rfl
theorem ev_all1 : thAll (some xs) b μ = thAll2 (boolsD xs) b μ := rfl
theorem ev_all2 {bs : List Bool} : thAll2 (some bs) false μ = some (.v (.bl (bs.all id)), μ) := rfl
theorem ev_any2 {bs : List Bool} : thAll2 (some bs) true μ = some (.v (.bl (bs.any id)), μ) := rfl
theorem ev_lstP : lstD (.p n) μ = cIt μ[n]? := rfl
theorem ev_lstF : lstD (.v (.fl xs)) μ = some xs := rfl
theorem ev_boolsE {bs : List Bool} : boolsD (bs.map D.bl) = some bs := bools_map bs
noncomputable def thCallN (o : Option (List R × Store)) (f : MC) (n : Nat) : Option (R × Store) := o.bind fun a => (valsB a.1 a.2).bind fun ds => if ds.length = n then (f ds).bind fun c => if flatC c = true then some (.p a.2.length, a.2 ++ [c]) else none else none
noncomputable def thVsN (o : Option (List D)) (f : MC) (n : Nat) (μ : Store) : Option (R × Store) := o.bind fun ds => if ds.length = n then (f ds).bind fun c => if flatC c = true then some (.p μ.length, μ ++ [c]) else none else none
noncomputable def thVrN (o : Option Cell) (μ : Store) : Option (R × Store) := o.bind fun c => if flatC c = true then some (.p μ.length, μ ++ [c]) else none
theorem ev_callN {f : MC} {fa} : fCallN f n fa ρ μ = thCallN (fa ρ μ) f n := rfl
theorem ev_n1 {f : MC} {rs} : thCallN (some (rs, μ)) f n = thVsN (valsB rs μ) f n μ := rfl
theorem ev_n2 {f : MC} {ds : List D} : thVsN (some ds) f n μ = if ds.length = n then thVrN (f ds) μ else none := rfl
theorem ev_n3 {k : Cell} : thVrN (some k) μ = if flatC k = true then some (.p μ.length, μ ++ [k]) else none := rfl
theorem ev_flC : flatC (.lst xs) = flatDs xs := rfl
noncomputable def finNO (o : Option Out) : Option Cell := o.bind finN
noncomputable def cFinN (o : Option Cell) : Option Cell := match o with | some (.lst xs) => some (.lst xs) | some (.dct kvs) => some (.dct kvs) | _ => none
theorem ev_finNP : finNO (some (.rt (.p n) μ)) = cFinN μ[n]? := by
 cases h : μ[n]? with
 | none => simp [finNO, finN, cFinN, h]
 | some c => cases c <;> simp [finNO, finN, cFinN, h]
theorem ev_finNC : cFinN (some (.lst xs)) = some (.lst xs) := rfl
noncomputable def thBest (o : Option (List D)) (lt : Int -> Int -> Bool) (μ : Store) : Option (R × Store) := o.bind fun ds => (intsD ds).bind fun ns => if ns = [] then none else some (.v (.int (bestOf lt ns)), μ)
noncomputable def thBest2 (o : Option (List Int)) (lt : Int -> Int -> Bool) (μ : Store) : Option (R × Store) := o.bind fun ns => if ns = [] then none else some (.v (.int (bestOf lt ns)), μ)
theorem ev_best {lt} : bestD lt [x] μ = thBest (lstD x μ) lt μ := rfl
theorem ev_best1 {lt} : thBest (some xs) lt μ = thBest2 (intsD xs) lt μ := rfl
theorem ev_best2 {lt} {ns : List Int} : thBest2 (some ns) lt μ = if ns = [] then none else some (.v (.int (bestOf lt ns)), μ) := rfl
theorem ev_ints {ns : List Int} : intsD (ns.map D.int) = some ns := by
 induction ns with
 | nil => rfl
 | cons n ns ih => simp [intsD, ih]
noncomputable def thSetQ (o : Option (List D)) (c : Bool) (μ : Store) : Option (R × Store) := o.bind fun ds => (intsD ds).bind fun ns => if ns.length < 4000 then some (.s c (HS.metOf [] ns), μ) else none
noncomputable def thSetQ2 (o : Option (List Int)) (c : Bool) (μ : Store) : Option (R × Store) := o.bind fun ns => if ns.length < 4000 then some (.s c (HS.metOf [] ns), μ) else none
theorem ev_setQ : setQ c [x] μ = thSetQ (itemsD x μ) c μ := rfl
theorem ev_setQ1 : thSetQ (some xs) c μ = thSetQ2 (intsD xs) c μ := rfl
theorem ev_setQ2 {ns : List Int} : thSetQ2 (some ns) c μ = if ns.length < 4000 then some (.s c (HS.metOf [] ns), μ) else none := rfl
theorem ev_sortQ {ns : List Int} : sortedQ c [.s c ns] μ = if ns.length < 64 then some (.p μ.length, μ ++ [.lst ((isort ns).map D.int)]) else none := by simp [sortedQ]
theorem ev_sortK {ns : List Int} : srtK c [.s c ns] μ = if ns.length < 64 then some (.p μ.length, μ ++ [.lst ((isort ns).map D.int)]) else none := by simp [srtK, sortedQ]
noncomputable def cSrt (o : Option Cell) (c : Bool) (n : Nat) (μ : Store) : Option (R × Store) := match o with
  | some (.dct kvs) => (intKeys (kvs.map (·.1))).bind fun ns => if ns.length < 64 then some (.p μ.length, μ ++ [.lst ((isort ns).map D.int)]) else none
  | some (.fzd kvs) => (intKeys (kvs.map (·.1))).bind fun ns => if ns.length < 64 then some (.p μ.length, μ ++ [.lst ((isort ns).map D.int)]) else none
  | _ => sortedQ c [.p n] μ
theorem ev_sortP : srtK c [.p n] μ = cSrt μ[n]? c n μ := rfl
theorem ev_sortL : cSrt (some (.lst xs)) c n μ = sortedQ c [.p n] μ := rfl
theorem ev_sortZ : cSrt (some (.fz xs)) c n μ = sortedQ c [.p n] μ := rfl
noncomputable def thSrt (o : Option (List Int)) (μ : Store) : Option (R × Store) := o.bind fun ns => if ns.length < 64 then some (.p μ.length, μ ++ [.lst ((isort ns).map D.int)]) else none
theorem ev_sortD {kvs} : cSrt (some (.dct kvs)) c n μ = thSrt (intKeys (kvs.map (·.1))) μ := rfl
theorem ev_srt {ns : List Int} : thSrt (some ns) μ = if ns.length < 64 then some (.p μ.length, μ ++ [.lst ((isort ns).map D.int)]) else none := rfl
noncomputable def thDs (o : Option (List (R × R) × Store)) (n : Nat) : Option (R × Store) := o.bind fun a => (kvsOf a.1).bind fun kvs => if kvs.length <= 15 then
 (match a.2[n]? with | some (.dct []) => some (.p n, a.2.set n (.dct (putAllD [] kvs))) | _ => none) else none
theorem ev_dsp {prs} : fDisp prs ρ μ = thDs (fPairs prs ρ (μ ++ [.dct []])) μ.length := rfl
noncomputable def thDs2 (o : Option (List (Key × D))) (n : Nat) (μ : Store) : Option (R × Store) := o.bind fun kvs => if kvs.length <= 15 then
 (match μ[n]? with | some (.dct []) => some (.p n, μ.set n (.dct (putAllD [] kvs))) | _ => none) else none
theorem ev_dsp1 {rs} : thDs (some (rs, μ)) n = thDs2 (kvsOf rs) n μ := rfl
noncomputable def cDs (o : Option Cell) (n : Nat) (kvs : List (Key × D)) (μ : Store) : Option (R × Store) := match o with | some (.dct []) => some (.p n, μ.set n (.dct (putAllD [] kvs))) | _ => none
theorem ev_dsp2 {kvs} : thDs2 (some kvs) n μ = if kvs.length <= 15 then cDs μ[n]? n kvs μ else none := rfl
theorem ev_dsp3 {kvs} : cDs (some (.dct [])) n kvs μ = some (.p n, μ.set n (.dct (putAllD [] kvs))) := rfl
theorem ev_prs0 : fPairs [] ρ μ = some ([], μ) := rfl
noncomputable def thPr (o : Option (R × Store)) (fv : FE) (r : List (FE × FE)) (ρ : Lo) : Option (List (R × R) × Store) := o.bind fun a => (fv ρ a.2).bind fun b => (fPairs r ρ b.2).bind fun c => some ((a.1, b.1) :: c.1, c.2)
noncomputable def thPr2 (x : R) (o : Option (R × Store)) (r : List (FE × FE)) (ρ : Lo) : Option (List (R × R) × Store) := o.bind fun b => (fPairs r ρ b.2).bind fun c => some ((x, b.1) :: c.1, c.2)
noncomputable def thPr3 (x y : R) (o : Option (List (R × R) × Store)) : Option (List (R × R) × Store) := o.bind fun c => some ((x, y) :: c.1, c.2)
theorem ev_prs {fk fv r} : fPairs ((fk, fv) :: r) ρ μ = thPr (fk ρ μ) fv r ρ := rfl
theorem ev_prs1 {fv r} : thPr (some (x, μ)) fv r ρ = thPr2 x (fv ρ μ) r ρ := rfl
theorem ev_prs2 {r} : thPr2 x (some (y, μ)) r ρ = thPr3 x y (fPairs r ρ μ) := rfl
theorem ev_prs3 {rs} : thPr3 x y (some (rs, μ)) = some ((x, y) :: rs, μ) := rfl
noncomputable def thPutD (o : Option Key) (kvs : List (Key × D)) (n : Nat) (d : D) (μ : Store) : Option Store := o.bind fun k => some (μ.set n (.dct (putKD kvs k d)))
theorem ev_putD {kvs} : cPut (some (.dct kvs)) n x d μ = if kvs.length < sizeLine then thPutD (keyOf x) kvs n d μ else none := rfl
theorem ev_putD1 {kvs k} : thPutD (some k) kvs n d μ = some (μ.set n (.dct (putKD kvs k d))) := rfl
theorem ev_key : keyOf (.v (.int i)) = some (.inl i) := rfl
theorem ev_setKT : setKs c [.v (.tup xs)] μ = thSetQ (some xs) c μ := rfl
theorem ev_setKF : setKs c [.v (.fl xs)] μ = thSetQ (some xs) c μ := rfl
noncomputable def cSet (o : Option Cell) (c : Bool) (n : Nat) (μ : Store) : Option (R × Store) := match o with
  | some (.dct kvs) => (intKeys (kvs.map (·.1))).bind fun ns => if ns.length < 60 then some (.s c (HS.metOf [] ns), μ) else none
  | some (.fzd kvs) => (intKeys (kvs.map (·.1))).bind fun ns => if ns.length < 60 then some (.s c (HS.metOf [] ns), μ) else none
  | _ => setQ c [.p n] μ
theorem ev_setKs : setKs c [.p n] μ = cSet μ[n]? c n μ := rfl
theorem ev_setKL : cSet (some (.lst xs)) c n μ = setQ c [.p n] μ := rfl
theorem ev_setKZ : cSet (some (.fz xs)) c n μ = setQ c [.p n] μ := rfl
noncomputable def thSk (o : Option (List Int)) (c : Bool) (μ : Store) : Option (R × Store) := o.bind fun ns => if ns.length < 60 then some (.s c (HS.metOf [] ns), μ) else none
theorem ev_setKD {kvs} : cSet (some (.dct kvs)) c n μ = thSk (intKeys (kvs.map (·.1))) c μ := rfl
theorem ev_setK1 {ns : List Int} : thSk (some ns) c μ = if ns.length < 60 then some (.s c (HS.metOf [] ns), μ) else none := rfl
theorem ev_dicT : dictQ [.v (.tup xs)] μ = (pairsD xs).bind fun ps => if ps.length <= sizeLine then some (.p μ.length, μ ++ [.dct (putAllD [] ps)]) else none := rfl
theorem ev_dicP : dictQ [.p n] μ = dictD [.p n] μ := rfl
noncomputable def thGet (o : Option (R × Store)) (fk fx : FE) (ρ : Lo) : Option (R × Store) := o.bind fun o => if (kvsD o.1 o.2).isSome = true then (fk ρ o.2).bind fun k => (fx ρ k.2).bind fun x => (kvsD o.1 x.2).bind fun kvs => (keyOf k.1).bind fun key => some ((match valD kvs key with | some d => .v d | none => x.1), x.2) else none
noncomputable def cKvs (o : Option Cell) : Option (List (Key × D)) := match o with | some (.dct kvs) => some kvs | some (.fzd kvs) => some kvs | _ => none
noncomputable def thGet1 (o : Option (List (Key × D))) (x : R) (fk fx : FE) (ρ : Lo) (μ : Store) : Option (R × Store) := if o.isSome = true then (fk ρ μ).bind fun k => (fx ρ k.2).bind fun y => (kvsD x y.2).bind fun kvs => (keyOf k.1).bind fun key => some ((match valD kvs key with | some d => .v d | none => y.1), y.2) else none
noncomputable def thGet2 (o : Option (R × Store)) (x : R) (fx : FE) (ρ : Lo) : Option (R × Store) := o.bind fun k => (fx ρ k.2).bind fun y => (kvsD x y.2).bind fun kvs => (keyOf k.1).bind fun key => some ((match valD kvs key with | some d => .v d | none => y.1), y.2)
noncomputable def thGet3 (o : Option (R × Store)) (x k : R) : Option (R × Store) := o.bind fun y => (kvsD x y.2).bind fun kvs => (keyOf k).bind fun key => some ((match valD kvs key with | some d => .v d | none => y.1), y.2)
noncomputable def thGet4 (o : Option (List (Key × D))) (k y : R) (μ : Store) : Option (R × Store) := o.bind fun kvs => (keyOf k).bind fun key => some ((match valD kvs key with | some d => .v d | none => y), μ)
noncomputable def thGet5 (o : Option D) (y : R) : R := match o with | some d => .v d | none => y
theorem ev_get {fo fk fx} : fGet fo fk fx ρ μ = thGet (fo ρ μ) fk fx ρ := rfl
theorem ev_kvsP : kvsD (.p n) μ = cKvs μ[n]? := rfl
theorem ev_kvsD {kvs} : cKvs (some (.dct kvs)) = some kvs := rfl
theorem ev_kvsZ {kvs} : cKvs (some (.fzd kvs)) = some kvs := rfl
theorem ev_get0 {fk fx} : thGet (some (x, μ)) fk fx ρ = thGet1 (kvsD x μ) x fk fx ρ μ := rfl
theorem ev_get1 {kvs fk fx} : thGet1 (some kvs) x fk fx ρ μ = thGet2 (fk ρ μ) x fx ρ := rfl
theorem ev_get2 {fx} : thGet2 (some (y, μ)) x fx ρ = thGet3 (fx ρ μ) x y := rfl
theorem ev_get3 {z} : thGet3 (some (z, μ)) x y = thGet4 (kvsD x μ) y z μ := rfl
theorem ev_get4 {kvs} : thGet4 (some kvs) (.v (.int i)) y μ = some (thGet5 (valD kvs (.inl i)) y, μ) := rfl
theorem ev_get5 : thGet5 (some d) y = .v d := rfl
theorem ev_get6 : thGet5 none y = y := rfl
noncomputable def thStep (o : Option (R × Store)) (fl fh : FO) (k : Int) (ρ : Lo) : Option (R × Store) := o.bind fun a => (fl ρ a.2).bind fun l => (fh ρ l.2).bind fun h => if k = 0 then none else (lstD a.1 h.2).bind fun xs => some (.p h.2.length, h.2 ++ [.lst (stepV xs l.1 h.1 k)])
noncomputable def thStep1 (x : R) (o : Option (Option Int × Store)) (fh : FO) (k : Int) (ρ : Lo) : Option (R × Store) := o.bind fun l => (fh ρ l.2).bind fun h => if k = 0 then none else (lstD x h.2).bind fun xs => some (.p h.2.length, h.2 ++ [.lst (stepV xs l.1 h.1 k)])
noncomputable def thStep2 (x : R) (l : Option Int) (o : Option (Option Int × Store)) (k : Int) : Option (R × Store) := o.bind fun h => if k = 0 then none else (lstD x h.2).bind fun xs => some (.p h.2.length, h.2 ++ [.lst (stepV xs l h.1 k)])
noncomputable def thStep3 (o : Option (List D)) (l h : Option Int) (k : Int) (μ : Store) : Option (R × Store) := if k = 0 then none else o.bind fun xs => some (.p μ.length, μ ++ [.lst (stepV xs l h k)])
theorem ev_step {fa fl fh} {k : Int} : fStep fa fl fh k ρ μ = thStep (fa ρ μ) fl fh k ρ := rfl
theorem ev_step1 {fl fh} {k : Int} : thStep (some (x, μ)) fl fh k ρ = thStep1 x (fl ρ μ) fh k ρ := rfl
theorem ev_step2 {fh} {l : Option Int} {k : Int} : thStep1 x (some (l, μ)) fh k ρ = thStep2 x l (fh ρ μ) k := rfl
theorem ev_step3 {l h : Option Int} {k : Int} : thStep2 x l (some (h, μ)) k = thStep3 (lstD x μ) l h k μ := rfl
theorem ev_step4 {l h : Option Int} : thStep3 (some xs) l h 2 μ = some (.p μ.length, μ ++ [.lst (stepV xs l h 2)]) := by simp [thStep3]
theorem sz2 : 2 <= sizeLine := by decide
theorem sz0 : 0 <= sizeLine := by decide
theorem sz3 : 3 <= sizeLine := by decide
theorem sz4 : 4 <= sizeLine := by decide
theorem small' {n : Nat} (h : n < 4000) : n < sizeLine := Nat.lt_of_lt_of_le h (by decide)
theorem small'' {n : Nat} (h : n < 4000) : n <= sizeLine := Nat.le_of_lt (small' h)
end
theorem ls_set0 {α : Type} {x y : α} {l : List α} : (x :: l).set 0 y = y :: l := rfl
theorem ls_sets {α : Type} {x y : α} {l : List α} {n : Nat} : (x :: l).set (n + 1) y = x :: l.set n y := rfl
theorem ls_get0 {α : Type} {x : α} {l : List α} : (x :: l)[0]? = some x := rfl
theorem ls_gets {α : Type} {x : α} {l : List α} {n : Nat} : (x :: l)[n + 1]? = l[n]? := rfl
theorem ls_len {α : Type} {x : α} {l : List α} : (x :: l).length = l.length + 1 := rfl
theorem ls_len0 {α : Type} : ([] : List α).length = 0 := rfl
theorem ls_app {α : Type} {x : α} {l r : List α} : (x :: l) ++ r = x :: (l ++ r) := rfl
theorem ls_app0 {α : Type} {r : List α} : [] ++ r = r := rfl
theorem ls_map {α β : Type} {f : α -> β} {x : α} {l : List α} : (x :: l).map f = f x :: l.map f := rfl
theorem ls_map0 {α β : Type} {f : α -> β} : ([] : List α).map f = [] := rfl
theorem ls_n1 {n : Nat} : 0 + n = n := Nat.zero_add n
theorem ls_not1 : (!true) = false := rfl
theorem ls_not0 : (!false) = true := rfl
theorem ls_if1 {α : Type} {a b : α} : (if true = true then a else b) = a := rfl
theorem ls_if0 {α : Type} {a b : α} : (if false = true then a else b) = b := rfl
section
variable {g : FG} {b : FS} {ρ : Lo} {μ : Store}
noncomputable def thLp (o : Option Out) (g : FG) (b : FS) (xs : List D) : Option Out := o.bind fun o => match o with
  | .nx ρ' μ' => loop g b xs ρ' μ'
  | .ct ρ' μ' => loop g b xs ρ' μ'
  | .bk ρ' μ' => some (.nx ρ' μ')
  | .rt d μ' => some (.rt d μ')
theorem loop_cons {x : D} {xs : List D} : loop g b (x :: xs) ρ μ = thLp (thG (g (.v x) ρ μ) b) g b xs := by
 show (g (.v x) ρ μ).bind _ = _
 cases e : g (.v x) ρ μ <;> rfl
theorem loop_nil : loop g b [] ρ μ = some (.nx ρ μ) := rfl
theorem lp_nx {xs} : thLp (some (.nx ρ μ)) g b xs = loop g b xs ρ μ := rfl
theorem lp_ct {xs} : thLp (some (.ct ρ μ)) g b xs = loop g b xs ρ μ := rfl
theorem lp_bk {xs} : thLp (some (.bk ρ μ)) g b xs = some (.nx ρ μ) := rfl
theorem lp_rt {xs d} : thLp (some (.rt d μ)) g b xs = some (.rt d μ) := rfl
theorem loop_inv {α σ : Type} (e : α -> D) (S : σ -> Lo × Store) (P : σ -> List α -> Prop) : ∀ (as : List α) (s : σ), P s as ->
  (∀ s a r, P s (a :: r) -> ∃ s', thG (g (.v (e a)) (S s).1 (S s).2) b = some (.nx (S s').1 (S s').2) /\ P s' r) ->
  ∃ s', loop g b (as.map e) (S s).1 (S s).2 = some (.nx (S s').1 (S s').2) /\ P s' []
 | [], s, h, _ => ⟨s, rfl, h⟩
 | a :: as, s, h, k => by
  obtain ⟨s1, h1, h2⟩ := k s a as h
  obtain ⟨s2, h3, h4⟩ := loop_inv e S P as s1 h2 k
  exact ⟨s2, by rw [List.map_cons, loop_cons, h1, lp_nx, h3], h4⟩
theorem loop_range (n : Nat) (I : Nat -> Lo -> Store -> Prop) (h0 : I 0 ρ μ)
  (hs : ∀ i < n, ∀ ρ μ, I i ρ μ -> ∃ ρ' μ', thG (g (.v (.int (i : Int))) ρ μ) b = some (.nx ρ' μ') /\ I (i + 1) ρ' μ') :
  ∃ ρ' μ', loop g b ((List.range n).map fun i => .int ((i : Nat) : Int)) ρ μ = some (.nx ρ' μ') /\ I n ρ' μ' := by
 obtain ⟨ρ', μ', e, h⟩ := loop_nx (g := g) (b := b) I (xs := (List.range n).map fun i => D.int ((i : Nat) : Int)) h0 fun i x ρ μ hx hI => by
  rw [List.getElem?_map] at hx
  obtain ⟨k, hk, rfl⟩ := Option.map_eq_some_iff.mp hx
  obtain ⟨hl, hk⟩ := List.getElem?_eq_some_iff.mp hk
  rw [List.getElem_range] at hk
  subst hk
  exact hs i (by simpa using hl) ρ μ hI
 exact ⟨ρ', μ', e, by simpa using h⟩
end
theorem comp_typed {α : Type} {f : FE} {μ : Store} {rest : Lo} (e out : α -> D) : ∀ (xs : List α) (x0 : Option R), (∀ a ∈ xs, f (some (.v (e a)) :: rest) μ = some (.v (out a), μ)) -> compL (gNm 0) cYes f (xs.map e) (x0 :: rest) μ = some (xs.map out, μ)
 | [], _, _ => rfl
 | a :: xs, x0, h => by
  have h1 := h a List.mem_cons_self
  have ih := comp_typed e out xs (some (.v (e a))) fun b hb => h b (List.mem_cons_of_mem _ hb)
  simp only [List.map_cons, compL, gNm, List.set_cons_zero, Option.bind_some, cYes, if_true, h1, ih]
end HW
local macro_rules
 | `(tactic| push_cast [$xs,*] $[$loc]?) => do
  let ids : Array (Lean.TSyntax `term) := ("sz2 sz0 sz3 sz4 ls_set0 ls_sets ls_get0 ls_gets ls_len ls_len0 ls_app ls_app0 ls_map ls_map0 ls_n1 ls_not1 ls_not0 ls_if1 ls_if0 loop_nil lp_nx lp_ct lp_bk lp_rt ev_v0 ev_vs ev_k ev_op ev_op1 ev_op2 ev_un ev_un1 ev_nil ev_ar ev_ar1 ev_B ev_B1 ev_tru ev_tru1 ev_tru2 ev_tru3 ev_tru4 ev_tru5 ev_tand ev_tand1 ev_tor ev_tor1 ev_tnot ev_tnot1 ev_and ev_and1 ev_or ev_or1 ev_not ev_not1 ev_if ev_if1 ev_tup ev_lst ev_dnew ev_fz ev_fz1 ev_call ev_next ev_seq ev_seq1 ev_seq2 ev_seq3 ev_seq4 ev_break ev_drop ev_drop1 ev_ret ev_ret1 ev_retN ev_ifS ev_ifT ev_ifF ev_for ev_for1 ev_iseq ev_iseq1 ev_iseq2 ev_r1 ev_yes ev_mt ev_mt2 ev_add ev_sub ev_lt ev_le ev_gt ev_ge ev_neg ev_gnm ev_fin ev_G ev_mtP ev_mtC ev_appP ev_appC ev_itT ev_itF ev_itP ev_itC ev_itZ ev_ix ev_ix1 ev_ix2 ev_at0 ev_at1 ev_at2 ev_at3 ev_len ev_len1 ev_tp ev_tp1 ev_ls ev_ls1 ev_vwV ev_vwP ev_vwC ev_vwZ ev_eqR ev_eqF ev_eqT ok_int ok_bl ok_non eq_int eq_bl ev_finPP ev_finC ev_finZ ev_fzP ev_fzC ev_fzZ ev_vb0 ev_vb ev_vb1 ev_vb2 ev_asV ev_asP ev_asC ev_asZ ev_c1 ev_c2 ev_c3 ev_vs0 ev_vs1 ev_vs2 ev_tv ev_tv1 ev_lv ev_lv1 ev_asg ev_asg1 ev_asg2 ev_gtp ev_gs0 ev_gs ev_gs1 ev_addQI ev_addQT ev_addQP ev_addC ev_lstP ev_lstF ev_cons ev_cons1 ev_cons2 ev_cont ev_set ev_set1 ev_r2 ev_r21 ev_comp ev_sl ev_sl1 ev_sl2 ev_sl3 ev_slT ev_oN ev_oS ev_oS1 ev_callQ ev_clrP ev_clrC ev_extP ev_extC ev_finN ev_q1 ev_q2 ev_q3 ev_slF ev_intI ev_intB ev_str ev_sub1 ev_sub2 ev_sub3 ev_sub4 ev_putP ev_putL ev_putL1 ev_compE ev_coE ev_blk0 ev_blk1 ev_blk2 ev_jn ev_all ev_all1 ev_all2 ev_any2 ev_boolsE ev_callN ev_n1 ev_n2 ev_n3 ev_flC ev_finNP ev_finNC ev_best ev_best1 ev_best2 ev_ints ev_setQ ev_setQ1 ev_setQ2 ev_sortQ ev_sortK ev_sortP ev_sortL ev_sortZ ev_sortD ev_srt ev_dsp ev_dsp1 ev_dsp2 ev_dsp3 ev_prs0 ev_prs ev_prs1 ev_prs2 ev_prs3 ev_putD ev_putD1 ev_key ev_setKT ev_setKF ev_setKs ev_setKL ev_setKZ ev_setKD ev_setK1 ev_dicT ev_dicP ev_get ev_kvsP ev_kvsD ev_kvsZ ev_get0 ev_get1 ev_get2 ev_get3 ev_get4 ev_get5 ev_get6 ev_step ev_step1 ev_step2 ev_step3 ev_step4".splitOn " ").toArray.map fun n => ⟨(Lean.mkIdent (String.toName ("HW." ++ n))).raw⟩
  `(tactic| simp -implicitDefEqProofs only [$xs,*, $[$ids:term],*, Nat.reduceAdd, if_true, Bool.and_self] $[$loc]?)
namespace LW
open PySem PySem.Spec PyProof.Rows L2 HW
noncomputable def top (i : Nat) : Stmt := PySem.Challenge.pw_heldwhen_k19_cuts_and_slices.main.body.getD i (.Pass ⟨0, 0, 0, 0⟩)
noncomputable section
noncomputable abbrev st_lies_in : Stmt := top 2
theorem sc_lies_in : FnScope ["reach", "number", "passed"] ["reach", "number"] (defScope st_lies_in) := ⟨rfl, rfl, rfl, by decide +kernel, rfl, by decide +kernel, by decide +kernel⟩
noncomputable abbrev st_reach_at : Stmt := top 4
theorem sc_reach_at : FnScope ["plot", "turn", "reach", "step"] ["plot", "turn"] (defScope st_reach_at) := ⟨rfl, rfl, rfl, by decide +kernel, rfl, by decide +kernel, by decide +kernel⟩
noncomputable abbrev st_lies_at : Stmt := top 5
theorem sc_lies_at : FnScope ["plot", "day", "turn"] ["plot", "day", "turn"] (defScope st_lies_at) := ⟨rfl, rfl, rfl, by decide +kernel, rfl, by decide +kernel, by decide +kernel⟩
noncomputable abbrev st_cut_at : Stmt := top 7
theorem sc_cut_at : FnScope ["table", "day", "turn"] ["table", "day", "turn"] (defScope st_cut_at) := ⟨rfl, rfl, rfl, by decide +kernel, rfl, by decide +kernel, by decide +kernel⟩
noncomputable abbrev st_slice_of : Stmt := top 8
theorem sc_slice_of : FnScope ["table", "turn", "reaches"] ["table", "turn"] (defScope st_slice_of) := ⟨rfl, rfl, rfl, by decide +kernel, rfl, by decide +kernel, by decide +kernel⟩
noncomputable abbrev st_law_cell : Stmt := top 10
theorem sc_law_cell : FnScope ["script", "k"] ["script", "k"] (defScope st_law_cell) := ⟨rfl, rfl, rfl, by decide +kernel, rfl, by decide +kernel, by decide +kernel⟩
noncomputable abbrev st_law_stir : Stmt := top 11
theorem sc_law_stir : FnScope ["cell", "k", "number"] ["cell", "k"] (defScope st_law_stir) := ⟨rfl, rfl, rfl, by decide +kernel, rfl, by decide +kernel, by decide +kernel⟩
noncomputable abbrev st_law_reach : Stmt := top 12
theorem sc_law_reach : FnScope ["number", "scale", "edges", "at", "rest", "turn"] ["number", "scale"] (defScope st_law_reach) := ⟨rfl, rfl, rfl, by decide +kernel, rfl, by decide +kernel, by decide +kernel⟩
noncomputable abbrev st_law_plot : Stmt := top 13
theorem sc_law_plot : FnScope ["cell", "k", "scale", "number", "ground", "last", "turn", "steps", "step", "reach"] ["cell", "k", "scale"] (defScope st_law_plot) := ⟨rfl, rfl, rfl, by decide +kernel, rfl, by decide +kernel, by decide +kernel⟩
noncomputable abbrev st_law_row : Stmt := top 14
theorem sc_law_row : FnScope ["cell", "k", "width", "number", "row", "column"] ["cell", "k", "width"] (defScope st_law_row) := ⟨rfl, rfl, rfl, by decide +kernel, rfl, by decide +kernel, by decide +kernel⟩
noncomputable abbrev st_law_lies : Stmt := top 15
theorem sc_law_lies : FnScope ["plot", "day", "turn", "truth", "edges", "at", "reach", "edge"] ["plot", "day", "turn"] (defScope st_law_lies) := ⟨rfl, rfl, rfl, by decide +kernel, rfl, by decide +kernel, by decide +kernel⟩
noncomputable abbrev st_law_whole : Stmt := top 16
theorem sc_law_whole : FnScope ["thing"] ["thing"] (defScope st_law_whole) := ⟨rfl, rfl, rfl, by decide +kernel, rfl, by decide +kernel, by decide +kernel⟩
noncomputable abbrev st_law_rises : Stmt := top 17
theorem sc_law_rises : FnScope ["some", "k"] ["some"] (defScope st_law_rises) := ⟨rfl, rfl, rfl, by decide +kernel, rfl, by decide +kernel, by decide +kernel⟩
noncomputable abbrev st_law_is_reach : Stmt := top 18
theorem sc_law_is_reach : FnScope ["thing"] ["thing"] (defScope st_law_is_reach) := ⟨rfl, rfl, rfl, by decide +kernel, rfl, by decide +kernel, by decide +kernel⟩
noncomputable abbrev st_law_is_plot : Stmt := top 19
theorem sc_law_is_plot : FnScope ["thing", "last", "step"] ["thing"] (defScope st_law_is_plot) := ⟨rfl, rfl, rfl, by decide +kernel, rfl, by decide +kernel, by decide +kernel⟩
noncomputable abbrev st_law_is_table : Stmt := top 20
theorem sc_law_is_table : FnScope ["thing", "width", "entry", "rows"] ["thing", "width"] (defScope st_law_is_table) := ⟨rfl, rfl, rfl, by decide +kernel, rfl, by decide +kernel, by decide +kernel⟩
noncomputable abbrev st_law_table : Stmt := top 21
theorem sc_law_table : FnScope ["cells", "width", "scale", "plots", "cell", "plot"] ["cells", "width", "scale"] (defScope st_law_table) := ⟨rfl, rfl, rfl, by decide +kernel, rfl, by decide +kernel, by decide +kernel⟩
noncomputable abbrev st_law_scale : Stmt := top 22
theorem sc_law_scale : FnScope ["cell"] ["cell"] (defScope st_law_scale) := ⟨rfl, rfl, rfl, by decide +kernel, rfl, by decide +kernel, by decide +kernel⟩
noncomputable abbrev st_law_spot : Stmt := top 23
theorem sc_law_spot : FnScope ["cell", "k", "table", "scale", "number", "turn", "day", "plot", "reach"] ["cell", "k", "table", "scale"] (defScope st_law_spot) := ⟨rfl, rfl, rfl, by decide +kernel, rfl, by decide +kernel, by decide +kernel⟩
noncomputable abbrev st_law_at : Stmt := top 24
theorem sc_law_at : FnScope ["table", "day", "turn"] ["table", "day", "turn"] (defScope st_law_at) := ⟨rfl, rfl, rfl, by decide +kernel, rfl, by decide +kernel, by decide +kernel⟩
noncomputable abbrev st_law_sliced : Stmt := top 25
theorem sc_law_sliced : FnScope ["table", "width", "day", "turn", "other", "found", "row", "plot", "kept", "again"] ["table", "width", "day", "turn", "other"] (defScope st_law_sliced) := ⟨rfl, rfl, rfl, by decide +kernel, rfl, by decide +kernel, by decide +kernel⟩
noncomputable abbrev st_law : Stmt := top 26
theorem sc_law : FnScope ["script", "width", "scale", "table", "handed", "cell", "day", "turn", "rows", "other"] ["script"] (defScope st_law) := ⟨rfl, rfl, rfl, by decide +kernel, rfl, by decide +kernel, by decide +kernel⟩
noncomputable abbrev b_lies_in : FS := (sSeq (sSet 2 (fAr lenD (fCons (fComp [1] 1 (fiSeq (fOp ixD (fVar 0) (fK (.int 1)))) (gNm 0) (fB (fOp leD (fVar 0) (fVar 1))) (fVar 0)) fNil)))
  (sRet (fIf (fB (fOp (eqR false) (fOp modD (fVar 2) (fK (.int 2))) (fK (.int 0)))) (fOp ixD (fVar 0) (fK (.int 0))) (fNot (fOp ixD (fVar 0) (fK (.int 0)))))))
noncomputable def m_lies_in : MF := runP 3 (b_lies_in)
noncomputable abbrev l_reach_at_0 : FS := (sSeq (sIf (fB (fOp gtD (fOp ixD (fVar 3) (fK (.int 0))) (fVar 1)))
  sBreak
  sNext)
  (sSet 2 (fOp ixD (fVar 3) (fK (.int 1)))))
noncomputable abbrev b_reach_at : FS := (sSeq (sSet 2 (fOp ixD (fVar 0) (fK (.int 0))))
  (sSeq (sFor (fiSeq (fOp ixD (fVar 0) (fK (.int 1)))) (gNm 3)
  l_reach_at_0)
  (sRet (fVar 2))))
noncomputable def m_reach_at : MF := runP 4 (b_reach_at)
noncomputable abbrev b_law_cell : FS := (sSeq (sIf (fB (fOp ltD (fVar 1) (fAr lenD (fCons (fVar 0) fNil))))
  (sRet (fOp ixD (fVar 0) (fVar 1)))
  sNext)
  (sRet (fK (.int 0))))
noncomputable def m_law_cell : MF := runP 2 (b_law_cell)
noncomputable abbrev b_law_stir : FS := (sSeq (sSet 2 (fOp modD (fOp mulD (fOp addQ (fOp modD (fVar 0) (fK (.int 2147483629))) (fK (.int 1))) (fK (.int 1103515245))) (fK (.int 2147483629))))
  (sSeq (sSet 2 (fOp modD (fOp addQ (fOp addQ (fOp mulD (fVar 2) (fVar 2)) (fOp mulD (fVar 1) (fK (.int 69621)))) (fK (.int 12345))) (fK (.int 2147483587))))
  (sRet (fOp modD (fOp mulD (fVar 2) (fVar 2)) (fK (.int 2147483629))))))
noncomputable def m_law_stir : MF := runP 3 (b_law_stir)
noncomputable abbrev l_law_reach_0 : FS := (sSeq (sSet 3 (fOp addQ (fOp addQ (fVar 3) (fK (.int 1))) (fOp modD (fOp divD (fVar 4) (fK (.int 2))) (fK (.int 4)))))
  (sSeq (sDrop (fMt appD (fVar 2) (fCons (fOp mulD (fVar 3) (fVar 1)) fNil)))
  (sSet 4 (fOp divD (fVar 4) (fK (.int 8))))))
noncomputable abbrev b_law_reach : FS := (sSeq (sSet 2 (fLst fNil))
  (sSeq (sSet 3 (fOp subD (fOp modD (fVar 0) (fK (.int 5))) (fK (.int 2))))
  (sSeq (sSet 4 (fOp divD (fVar 0) (fK (.int 15))))
  (sSeq (sFor (fiR1 (fOp addQ (fOp modD (fOp divD (fVar 0) (fK (.int 5))) (fK (.int 3))) (fOp modD (fVar 4) (fK (.int 2))))) (gNm 5)
  l_law_reach_0)
  (sRet (fTup (fCons (fOp ltD (fOp modD (fVar 4) (fK (.int 5))) (fK (.int 2))) (fCons (fAr tupD (fCons (fVar 2) fNil)) fNil))))))))
noncomputable def m_law_reach : MF := runP 6 (b_law_reach)
noncomputable abbrev l_law_lies_0 : FS := (sIf (fB (fOp leD (fVar 5) (fVar 2)))
  (sAsg (fVar 6) (gTp 2 (gsCons (gNm 3) (gsCons (gNm 4) gsNil))))
  sNext)
noncomputable abbrev l_law_lies_1 : FS := (sIf (fB (fOp leD (fVar 7) (fVar 1)))
  (sSet 3 (fNot (fVar 3)))
  sNext)
noncomputable abbrev b_law_lies : FS := (sSeq (sAsg (fOp ixD (fVar 0) (fK (.int 0))) (gTp 2 (gsCons (gNm 3) (gsCons (gNm 4) gsNil))))
  (sSeq (sFor (fiSeq (fOp ixD (fVar 0) (fK (.int 1)))) (gTp 2 (gsCons (gNm 5) (gsCons (gNm 6) gsNil)))
  l_law_lies_0)
  (sSeq (sFor (fiSeq (fVar 4)) (gNm 7)
  l_law_lies_1)
  (sRet (fVar 3)))))
noncomputable def m_law_lies : MF := runP 8 (b_law_lies)
noncomputable abbrev b_law_whole : FS := (sRet (fAnd (fUn (isiD "int") (fVar 0)) (fNot (fUn (isiD "bool") (fVar 0)))))
noncomputable def m_law_whole : MF := runP 1 (b_law_whole)
noncomputable abbrev b_law_scale : FS := (sRet (fOp ixD (fLst (fCons (fK (.int 1)) (fCons (fK (.int 1)) (fCons (fOp powD (fK (.int 10)) (fK (.int 40))) fNil)))) (fOp modD (fVar 0) (fK (.int 3)))))
noncomputable def m_law_scale : MF := runP 1 (b_law_scale)
noncomputable abbrev b_lies_at : FS := (sRet (fCall m_lies_in 2 (fCons (fFz (fCall m_reach_at 2 (fCons (fFz (fVar 0)) (fCons (fFz (fVar 2)) fNil)))) (fCons (fFz (fVar 1)) fNil))))
noncomputable def m_lies_at : MF := runP 3 (b_lies_at)
noncomputable abbrev b_slice_of : FS := (sSeq (sSet 2 (fComp [1] 2 (fiSeq (fVar 0)) (gTp 2 (gsCons (gNm 0) (gsCons (gNm 1) gsNil))) cYes (fTup (fCons (fVar 0) (fCons (fCall m_reach_at 2 (fCons (fFz (fVar 1)) (fCons (fFz (fVar 2)) fNil))) fNil)))))
  (sRet (fComp [] 2 (fiSeq (fVar 2)) (gTp 2 (gsCons (gNm 0) (gsCons (gNm 1) gsNil))) (fB (fOp (eqR true) (fVar 1) (fK (.tup [(.bl false), (.tup [])])))) (fTup (fCons (fVar 0) (fCons (fTup (fCons (fVar 1) (fCons (fTup fNil) fNil))) fNil))))))
noncomputable def n_slice_of : MC := runN 3 (b_slice_of)
noncomputable abbrev l_law_plot_0 : FS := (sSeq (sSet 9 (fCall m_law_reach 2 (fCons (fFz (fCall m_law_stir 2 (fCons (fFz (fVar 0)) (fCons (fFz (fOp addQ (fOp addQ (fVar 1) (fK (.int 5))) (fVar 8))) fNil)))) (fCons (fFz (fVar 2)) fNil))))
  (sSeq (sIf (fB (fOp (eqR true) (fVar 9) (fVar 5)))
  (sSeq (sDrop (fMt appD (fVar 7) (fCons (fTup (fCons (fOp mulD (fVar 6) (fOp ixD (fLst (fCons (fK (.int 1)) (fCons (fOp powD (fK (.int 10)) (fK (.int 30))) fNil))) (fOp modD (fOp divD (fVar 3) (fK (.int 80))) (fK (.int 2))))) (fCons (fVar 9) fNil))) fNil)))
  (sSet 5 (fVar 9)))
  sNext)
  (sSet 6 (fOp addQ (fOp addQ (fVar 6) (fK (.int 1))) (fOp modD (fOp divD (fCall m_law_stir 2 (fCons (fFz (fVar 0)) (fCons (fFz (fOp addQ (fVar 1) (fK (.int 9)))) fNil))) (fK (.int 3))) (fK (.int 3)))))))
noncomputable abbrev b_law_plot : FS := (sSeq (sSet 3 (fCall m_law_stir 2 (fCons (fFz (fVar 0)) (fCons (fFz (fVar 1)) fNil))))
  (sSeq (sSet 4 (fTup (fCons (fK (.bl false)) (fCons (fTup fNil) fNil))))
  (sSeq (sIf (fB (fOp (eqR false) (fOp modD (fVar 3) (fK (.int 4))) (fK (.int 0))))
  (sSet 4 (fCall m_law_reach 2 (fCons (fFz (fOp divD (fVar 3) (fK (.int 4)))) (fCons (fFz (fVar 2)) fNil))))
  sNext)
  (sSeq (sSet 5 (fVar 4))
  (sSeq (sSet 6 (fOp subD (fOp modD (fOp divD (fVar 3) (fK (.int 16))) (fK (.int 5))) (fK (.int 1))))
  (sSeq (sSet 7 (fLst fNil))
  (sSeq (sFor (fiR1 (fOp modD (fOp divD (fVar 3) (fK (.int 4))) (fK (.int 4)))) (gNm 8)
  l_law_plot_0)
  (sRet (fTup (fCons (fVar 4) (fCons (fAr tupD (fCons (fVar 7) fNil)) fNil)))))))))))
noncomputable def m_law_plot : MF := runP 10 (b_law_plot)
noncomputable abbrev l_law_row_0 : FS := (sSeq (sDrop (fMt appD (fVar 4) (fCons (fOp ixD (fLst (fCons (fK (.int 0)) (fCons (fK (.int 1)) (fCons (fK (.int 1)) (fCons (fUn negD (fK (.int 1))) (fCons (fK (.int 2)) (fCons (fOp modD (fVar 0) (fOp powD (fK (.int 10)) (fK (.int 50)))) fNil))))))) (fOp modD (fVar 3) (fK (.int 6)))) fNil)))
  (sSet 3 (fOp divD (fVar 3) (fK (.int 6)))))
noncomputable abbrev b_law_row : FS := (sSeq (sSet 3 (fCall m_law_stir 2 (fCons (fFz (fVar 0)) (fCons (fFz (fOp addQ (fVar 1) (fK (.int 17)))) fNil))))
  (sSeq (sSet 4 (fLst fNil))
  (sSeq (sFor (fiR1 (fVar 2)) (gNm 5)
  l_law_row_0)
  (sRet (fAr keyD (fCons (fVar 4) fNil))))))
noncomputable def m_law_row : MF := runP 6 (b_law_row)
noncomputable abbrev l_law_rises_0 : FS := (sIf (tOrF (tNotF (fTru (fCall m_law_whole 1 (fCons (fFz (fOp ixD (fVar 0) (fVar 1))) fNil)))) (tAndF (fB (fOp gtD (fVar 1) (fK (.int 0)))) (fB (fOp leD (fOp ixD (fVar 0) (fVar 1)) (fOp ixD (fVar 0) (fOp subD (fVar 1) (fK (.int 1))))))))
  (sRet (fK (.bl false)))
  sNext)
noncomputable abbrev b_law_rises : FS := (sSeq (sFor (fiR1 (fAr lenD (fCons (fVar 0) fNil))) (gNm 1)
  l_law_rises_0)
  (sRet (fK (.bl true))))
noncomputable def m_law_rises : MF := runP 2 (b_law_rises)
noncomputable abbrev b_law_spot : FS := (sSeq (sSet 4 (fCall m_law_stir 2 (fCons (fFz (fVar 0)) (fCons (fFz (fOp addQ (fVar 1) (fK (.int 31)))) fNil))))
  (sSeq (sSet 5 (fOp subD (fOp modD (fVar 4) (fK (.int 9))) (fK (.int 2))))
  (sSeq (sSet 6 (fOp subD (fOp mulD (fOp subD (fOp modD (fOp divD (fVar 4) (fK (.int 9))) (fK (.int 15))) (fK (.int 4))) (fVar 3)) (fOp modD (fOp divD (fVar 4) (fK (.int 135))) (fK (.int 2)))))
  (sSeq (sIf (tAndF (fB (fOp (eqR true) (fVar 2) (fLst fNil))) (fB (fOp gtD (fOp modD (fOp divD (fVar 4) (fK (.int 270))) (fK (.int 3))) (fK (.int 0)))))
  (sSeq (sSet 7 (fOp ixD (fOp ixD (fVar 2) (fOp modD (fOp divD (fVar 4) (fK (.int 810))) (fAr lenD (fCons (fVar 2) fNil)))) (fK (.int 1))))
  (sSeq (sSet 8 (fOp ixD (fVar 7) (fK (.int 0))))
  (sSeq (sIf (fB (fOp (eqR true) (fOp ixD (fVar 7) (fK (.int 1))) (fTup fNil)))
  (sSeq (sAsg (fOp ixD (fOp ixD (fVar 7) (fK (.int 1))) (fOp modD (fOp divD (fVar 4) (fK (.int 9000))) (fAr lenD (fCons (fOp ixD (fVar 7) (fK (.int 1))) fNil)))) (gTp 2 (gsCons (gNm 5) (gsCons (gNm 8) gsNil))))
  (sSet 5 (fOp subD (fVar 5) (fOp modD (fOp divD (fVar 4) (fK (.int 90000))) (fK (.int 2))))))
  sNext)
  (sIf (fB (fOp (eqR true) (fOp ixD (fVar 8) (fK (.int 1))) (fTup fNil)))
  (sSet 6 (fOp subD (fOp ixD (fOp ixD (fVar 8) (fK (.int 1))) (fOp modD (fOp divD (fVar 4) (fK (.int 180000))) (fAr lenD (fCons (fOp ixD (fVar 8) (fK (.int 1))) fNil)))) (fOp modD (fOp divD (fVar 4) (fK (.int 1800000))) (fK (.int 2)))))
  sNext))))
  sNext)
  (sRet (fTup (fCons (fVar 6) (fCons (fVar 5) fNil))))))))
noncomputable def m_law_spot : MF := runP 9 (b_law_spot)
noncomputable abbrev b_law_at : FS := (sRet (fComp [1, 2] 2 (fiSeq (fVar 0)) (gTp 2 (gsCons (gNm 0) (gsCons (gNm 1) gsNil))) (fTru (fCall m_law_lies 3 (fCons (fFz (fVar 1)) (fCons (fFz (fVar 2)) (fCons (fFz (fVar 3)) fNil))))) (fVar 0)))
noncomputable def n_law_at : MC := runN 3 (b_law_at)
noncomputable abbrev b_cut_at : FS := (sRet (fComp [1, 2] 2 (fiSeq (fVar 0)) (gTp 2 (gsCons (gNm 0) (gsCons (gNm 1) gsNil))) (fTru (fCall m_lies_at 3 (fCons (fFz (fVar 1)) (fCons (fFz (fVar 2)) (fCons (fFz (fVar 3)) fNil))))) (fVar 0)))
noncomputable def n_cut_at : MC := runN 3 (b_cut_at)
noncomputable abbrev b_law_is_reach : FS := (sSeq (sIf (tOrF (tNotF (fTru (fUn (isiD "tuple") (fVar 0)))) (tOrF (fB (fOp (eqR true) (fAr lenD (fCons (fVar 0) fNil)) (fK (.int 2)))) (tNotF (fTru (fUn (isiD "bool") (fOp ixD (fVar 0) (fK (.int 0))))))))
  (sRet (fK (.bl false)))
  sNext)
  (sRet (fAnd (fUn (isiD "tuple") (fOp ixD (fVar 0) (fK (.int 1)))) (fCall m_law_rises 1 (fCons (fFz (fOp ixD (fVar 0) (fK (.int 1)))) fNil)))))
noncomputable def m_law_is_reach : MF := runP 1 (b_law_is_reach)
noncomputable abbrev l_law_table_0 (bt : Bool) : FS := (sSeq (sSet 5 (fCall m_law_plot 3 (fCons (fFz (fVar 4)) (fCons (fK (.int 1)) (fCons (fFz (fVar 2)) fNil)))))
  (sIf (fB (fOp (eqR true) (fVar 5) (fTup (fCons (fTup (fCons (fK (.bl false)) (fCons (fTup fNil) fNil))) (fCons (fTup fNil) fNil)))))
  (sAsg (fFz (fVar 5)) (gSubT (fVar 3) (fCall m_law_row 3 (fCons (fFz (fVar 4)) (fCons (fK (.int 1)) (fCons (fFz (fVar 1)) fNil))))))
  sNext))
noncomputable abbrev b_law_table (bt : Bool) : FS := (sSeq (sSet 3 fDnT)
  (sSeq (sFor (fiSeq (fVar 0)) (gNm 4)
  (l_law_table_0 bt))
  (sRet (fComp [3] 1 (fiSeq (fAr srtT (fCons (fVar 3) fNil))) (gNm 0) cYes (fTup (fCons (fUnk (fVar 0)) (fCons (fTIx (fVar 1) (fVar 0)) fNil)))))))
noncomputable def m_law_table (bt : Bool) : MF := runP 6 (b_law_table bt)
noncomputable abbrev l_law_is_plot_0 : FS := (sSeq (sIf (tOrF (tNotF (fTru (fUn (isiD "tuple") (fVar 2)))) (tOrF (fB (fOp (eqR true) (fAr lenD (fCons (fVar 2) fNil)) (fK (.int 2)))) (tOrF (tNotF (fTru (fCall m_law_is_reach 1 (fCons (fFz (fOp ixD (fVar 2) (fK (.int 1)))) fNil)))) (fB (fOp (eqR false) (fOp ixD (fVar 2) (fK (.int 1))) (fVar 1))))))
  (sRet (fK (.bl false)))
  sNext)
  (sSet 1 (fOp ixD (fVar 2) (fK (.int 1)))))
noncomputable abbrev b_law_is_plot : FS := (sSeq (sIf (tOrF (tNotF (fTru (fUn (isiD "tuple") (fVar 0)))) (tOrF (fB (fOp (eqR true) (fAr lenD (fCons (fVar 0) fNil)) (fK (.int 2)))) (tNotF (fTru (fCall m_law_is_reach 1 (fCons (fFz (fOp ixD (fVar 0) (fK (.int 0)))) fNil))))))
  (sRet (fK (.bl false)))
  sNext)
  (sSeq (sIf (tNotF (fTru (fUn (isiD "tuple") (fOp ixD (fVar 0) (fK (.int 1))))))
  (sRet (fK (.bl false)))
  sNext)
  (sSeq (sSet 1 (fOp ixD (fVar 0) (fK (.int 0))))
  (sSeq (sFor (fiSeq (fOp ixD (fVar 0) (fK (.int 1)))) (gNm 2)
  l_law_is_plot_0)
  (sRet (fCall m_law_rises 1 (fCons (fFz (fComp [] 1 (fiSeq (fOp ixD (fVar 0) (fK (.int 1)))) (gNm 0) cYes (fOp ixD (fVar 0) (fK (.int 0))))) fNil)))))))
noncomputable def m_law_is_plot : MF := runP 3 (b_law_is_plot)
noncomputable abbrev l_law_is_table_0 (bt : Bool) : FS := (sSeq (sIf (tOrF (tNotF (fTru (fUn (isiD "tuple") (fVar 2)))) (tOrF (fB (fOp (eqR true) (fAr lenD (fCons (fVar 2) fNil)) (fK (.int 2)))) (tNotF (fTru (fUn (isiD "tuple") (fOp ixD (fVar 2) (fK (.int 0))))))))
  (sRet (fK (.bl false)))
  sNext)
  (sSeq (sIf (tOrF (fB (fOp (eqR true) (fAr lenD (fCons (fOp ixD (fVar 2) (fK (.int 0))) fNil)) (fVar 1))) (tNotF (fTru (fAr (allD false) (fCons (fComp [] 1 (fiSeq (fOp ixD (fVar 2) (fK (.int 0)))) (gNm 0) cYes (fCall m_law_whole 1 (fCons (fFz (fVar 0)) fNil))) fNil)))))
  (sRet (fK (.bl false)))
  sNext)
  (sIf (tOrF (tNotF (fTru (fCall m_law_is_plot 1 (fCons (fFz (fOp ixD (fVar 2) (fK (.int 1)))) fNil)))) (fB (fOp (eqR false) (fOp ixD (fVar 2) (fK (.int 1))) (fTup (fCons (fTup (fCons (fK (.bl false)) (fCons (fTup fNil) fNil))) (fCons (fTup fNil) fNil))))))
  (sRet (fK (.bl false)))
  sNext)))
noncomputable abbrev b_law_is_table (bt : Bool) : FS := (sSeq (sIf (tNotF (fTru (fUn (isiD "list") (fVar 0))))
  (sRet (fK (.bl false)))
  sNext)
  (sSeq (sFor (fiSeq (fVar 0)) (gNm 2)
  (l_law_is_table_0 bt))
  (sSeq (sSet 3 (fComp [] 1 (fiSeq (fVar 0)) (gNm 0) cYes (fOp ixD (fVar 0) (fK (.int 0)))))
  (sRet (fOp (eqR false) (fVar 3) (fSS (fVar 3)))))))
noncomputable def m_law_is_table (bt : Bool) : MF := runP 4 (b_law_is_table bt)
noncomputable abbrev l_law_sliced_0 (bt : Bool) : FS := (sIf (fB (fOp (eqR true) (fOp ixD (fVar 7) (fK (.int 1))) (fTup fNil)))
  (sRet (fK (.bl false)))
  sNext)
noncomputable abbrev b_law_sliced (bt : Bool) : FS := (sSeq (sSet 5 (fCallN n_slice_of 2 (fCons (fVar 0) (fCons (fVar 3) fNil))))
  (sSeq (sIf (tNotF (fTru (fCallQ (m_law_is_table bt) 2 (fCons (fVar 5) (fCons (fVar 1) fNil)))))
  (sRet (fK (.bl false)))
  sNext)
  (sSeq (sForL (fVar 5) (gTp 2 (gsCons (gNm 6) (gsCons (gNm 7) gsNil)))
  (l_law_sliced_0 bt))
  (sSeq (sIf (fB (fOp (eqR true) (fCallN n_cut_at 3 (fCons (fVar 5) (fCons (fVar 2) (fCons (fVar 4) fNil)))) (fCallN n_law_at 3 (fCons (fVar 0) (fCons (fVar 2) (fCons (fVar 3) fNil))))))
  (sRet (fK (.bl false)))
  sNext)
  (sSeq (sIf (fB (fOp (eqR true) (fCallN n_law_at 3 (fCons (fVar 5) (fCons (fVar 4) (fCons (fVar 2) fNil)))) (fCallN n_law_at 3 (fCons (fVar 0) (fCons (fVar 4) (fCons (fVar 3) fNil))))))
  (sRet (fK (.bl false)))
  sNext)
  (sSeq (sSet 8 (fAr listD (fCons (fVar 5) fNil)))
  (sSeq (sSet 9 (fCallN n_slice_of 2 (fCons (fVar 5) (fCons (fVar 4) fNil))))
  (sSeq (sIf (fB (fOp (eqR true) (fVar 9) (fVar 8)))
  (sRet (fK (.bl false)))
  sNext)
  (sSeq (sDrop (fMt appD (fVar 9) (fCons (fTup fNil) fNil)))
  (sSeq (sIf (fB (fOp (eqR true) (fVar 5) (fVar 8)))
  (sRet (fK (.bl false)))
  sNext)
  (sSeq (sDrop (fMt appD (fVar 5) (fCons (fTup fNil) fNil)))
  (sRet (fOp (eqR false) (fCallN n_slice_of 2 (fCons (fVar 0) (fCons (fVar 3) fNil))) (fVar 8))))))))))))))
noncomputable def m_law_sliced (bt : Bool) : MF := runP 10 (b_law_sliced bt)
noncomputable abbrev l_law_0 (bt : Bool) : FS := (sSeq (sAsg (fCall m_law_spot 4 (fCons (fFz (fVar 5)) (fCons (fK (.int 2)) (fCons (fFz (fVar 3)) (fCons (fFz (fVar 2)) fNil))))) (gTp 2 (gsCons (gNm 6) (gsCons (gNm 7) gsNil))))
  (sSeq (sSet 8 (fCallN n_cut_at 3 (fCons (fVar 4) (fCons (fVar 6) (fCons (fVar 7) fNil)))))
  (sSeq (sIf (tOrF (tNotF (fTru (fUn (isiD "list") (fVar 8)))) (tOrF (fB (fOp (eqR true) (fVar 8) (fCallN n_law_at 3 (fCons (fVar 3) (fCons (fVar 6) (fCons (fVar 7) fNil)))))) (fB (fOp (eqR true) (fVar 4) (fVar 3)))))
  (sRet (fK (.bl false)))
  sNext)
  (sSeq (sDrop (fMt appD (fVar 8) (fCons (fTup fNil) fNil)))
  (sSeq (sSet 9 (fOp ixD (fCall m_law_spot 4 (fCons (fFz (fVar 5)) (fCons (fK (.int 3)) (fCons (fFz (fVar 3)) (fCons (fFz (fVar 2)) fNil))))) (fK (.int 1))))
  (sIf (tAndF (fB (fOp (eqR false) (fOp modD (fVar 5) (fK (.int 3))) (fK (.int 0)))) (tNotF (fTru (fCall (m_law_sliced bt) 5 (fCons (fFz (fVar 4)) (fCons (fFz (fVar 1)) (fCons (fFz (fVar 6)) (fCons (fFz (fVar 7)) (fCons (fFz (fVar 9)) fNil)))))))))
  (sRet (fK (.bl false)))
  sNext))))))
noncomputable abbrev b_law (bt : Bool) : FS := (sSeq (sSet 1 (fOp modD (fCall m_law_cell 2 (fCons (fFz (fVar 0)) (fCons (fK (.int 0)) fNil))) (fK (.int 4))))
  (sSeq (sSet 2 (fCall m_law_scale 1 (fCons (fFz (fOp divD (fCall m_law_cell 2 (fCons (fFz (fVar 0)) (fCons (fK (.int 0)) fNil))) (fK (.int 4)))) fNil)))
  (sSeq (sSet 3 (fCall (m_law_table bt) 3 (fCons (fFz (fSl (fVar 0) (oSome (fK (.int 1))) (oSome (fK (.int 41))))) (fCons (fFz (fVar 1)) (fCons (fFz (fVar 2)) fNil)))))
  (sSeq (sSet 4 (fAr listD (fCons (fVar 3) fNil)))
  (sSeq (sFor (fiSeq (fOp addF (fLst (fCons (fK (.int 0)) fNil)) (fVar 0))) (gNm 5)
  (l_law_0 bt))
  (sRet (fAnd (fOp (eqR false) (fVar 4) (fVar 3)) (fAnd (fOp (eqR false) (fCallN n_slice_of 2 (fCons (fLst fNil) (fCons (fK (.int 5)) fNil))) (fLst fNil)) (fOp (eqR false) (fCallN n_cut_at 3 (fCons (fLst fNil) (fCons (fK (.int 0)) (fCons (fK (.int 0)) fNil)))) (fLst fNil))))))))))
noncomputable def m_law (bt : Bool) : MF := runP 10 (b_law bt)
noncomputable def zs : List Str := ["len", "range", "tuple", "isinstance", "bool", "int", "list", "all", "sorted", "set"]
def ZsL (mg : Str -> Option Value) (l : List Str) : Prop := ∀ (i : Nat) (x : Str), l[i]? = some x -> mg x = none
theorem zs_nil {mg : Str -> Option Value} : ZsL mg [] := fun i x e => by simp at e
theorem zs_cons {mg : Str -> Option Value} {x : Str} {l : List Str} (h : mg x = none) (t : ZsL mg l) : ZsL mg (x :: l) := fun i y e => by
 cases i with
 | zero => cases e; exact h
 | succ i => exact t i y e
def Zs (mg : Str -> Option Value) : Prop := ZsL mg zs
section
variable {P : Program} {w : World} {K : PySem.W.Frag} {mg : Str -> Option Value} {base : Heap}
set_option maxHeartbeats 4000000
theorem k_lies_in (z : Zs mg) (d : DefAt K mg "lies_in" st_lies_in ["reach", "number"])  : Kept P w K mg base 1 "lies_in" ["reach", "number"] m_lies_in :=
 okP (k := 0) d sc_lies_in fun f cdv A outer s H E hr =>
  (s_cons (s_set 2 sc_lies_in.nd (q_len rfl (z 0 _ rfl) (q_cons (q_comp [1] ["edge"] ["number"] rfl (show CompNames (defScope st_lies_in) _ ["edge"] ["number"] from ⟨rfl, by decide +kernel, by decide +kernel, by decide +kernel, by decide +kernel, by decide +kernel⟩) (i_seq (q_ix (q_var 0) q_int)) (fun cl C s₂ H₂ fp => ⟨(g_nm 0 (show (["edge", "number"] : List Str).Nodup by decide +kernel)), (f_one (t_le (q_var 0) (q_var 1))), (q_var 0)⟩)) q_nil)))
  (s_one (s_ret (q_if (t_eq hr.units (q_mod (q_var 2) q_int) q_int) (q_ix (q_var 0) q_int) (q_not (q_ix (q_var 0) q_int))))))
theorem k_reach_at (z : Zs mg) (d : DefAt K mg "reach_at" st_reach_at ["plot", "turn"])  : Kept P w K mg base 1 "reach_at" ["plot", "turn"] m_reach_at :=
 okP (k := 0) d sc_reach_at fun f cdv A outer s H E hr =>
  (s_cons (s_set 2 sc_reach_at.nd (q_ix (q_var 0) q_int))
  (s_cons (s_for rfl (i_seq (q_ix (q_var 0) q_int)) (g_nm 3 sc_reach_at.nd)
  (s_cons (s_if (t_gt (q_ix (q_var 3) q_int) (q_var 1))
  (s_one s_break)
  s_nil)
  (s_one (s_set 2 sc_reach_at.nd (q_ix (q_var 3) q_int)))) PassesOwn.never)
  (s_one (s_ret (q_var 2)))))
theorem k_lies_at (z : Zs mg) (d : DefAt K mg "lies_at" st_lies_at ["plot", "day", "turn"]) (h_lies_in : Kept P w K mg base 1 "lies_in" ["reach", "number"] m_lies_in) (h_reach_at : Kept P w K mg base 1 "reach_at" ["plot", "turn"] m_reach_at) : Kept P w K mg base 2 "lies_at" ["plot", "day", "turn"] m_lies_at :=
 okP (k := 1) d sc_lies_at fun f cdv A outer s H E hr =>
  (s_one (s_ret (q_callK h_lies_in (hr.mono (by decide)) (q_cons (q_fz (q_callK h_reach_at (hr.mono (by decide)) (q_cons (q_fz (q_var 0)) (q_cons (q_fz (q_var 2)) q_nil)))) (q_cons (q_fz (q_var 1)) q_nil)))))
theorem k_cut_at (z : Zs mg) (d : DefAt K mg "cut_at" st_cut_at ["table", "day", "turn"]) (h_lies_at : Kept P w K mg base 2 "lies_at" ["plot", "day", "turn"] m_lies_at) : KeptN P w K mg base 3 "cut_at" ["table", "day", "turn"] n_cut_at :=
 okN (k := 2) d sc_cut_at fun f cdv A outer s H E hr =>
  (s_one (s_ret (q_comp [1, 2] ["row", "plot"] ["day", "turn"] rfl (show CompNames (defScope st_cut_at) _ ["row", "plot"] ["day", "turn"] from ⟨rfl, by decide +kernel, by decide +kernel, by decide +kernel, by decide +kernel, by decide +kernel⟩) (i_seq (q_var 0)) (fun cl C s₂ H₂ fp => ⟨(g_tp rfl (gs_cons (g_nm 0 (show (["row", "plot", "day", "turn"] : List Str).Nodup by decide +kernel)) (gs_cons (g_nm 1 (show (["row", "plot", "day", "turn"] : List Str).Nodup by decide +kernel)) gs_nil))), (f_one (t_tru (q_callK h_lies_at (hr.mono (by decide)) (q_cons (q_fz (q_var 1)) (q_cons (q_fz (q_var 2)) (q_cons (q_fz (q_var 3)) q_nil)))))), (q_var 0)⟩))))
theorem k_slice_of (z : Zs mg) (d : DefAt K mg "slice_of" st_slice_of ["table", "turn"]) (h_reach_at : Kept P w K mg base 1 "reach_at" ["plot", "turn"] m_reach_at) (c_NO_NUMBERS : ConstR K mg "NO_NUMBERS" (.tup [(.bl false), (.tup [])])) : KeptN P w K mg base 2 "slice_of" ["table", "turn"] n_slice_of :=
 okN (k := 1) d sc_slice_of fun f cdv A outer s H E hr =>
  (s_cons (s_comp 2 [1] ["row", "plot"] ["turn"] rfl (show CompNames (defScope st_slice_of) _ ["row", "plot"] ["turn"] from ⟨rfl, by decide +kernel, by decide +kernel, by decide +kernel, by decide +kernel, by decide +kernel⟩) sc_slice_of.nd (i_seq (q_var 0)) (fun cl C s₂ H₂ fp => ⟨(g_tp rfl (gs_cons (g_nm 0 (show (["row", "plot", "turn"] : List Str).Nodup by decide +kernel)) (gs_cons (g_nm 1 (show (["row", "plot", "turn"] : List Str).Nodup by decide +kernel)) gs_nil))), f_nil, (q_tup (q_cons (q_var 0) (q_cons (q_callK h_reach_at (hr.mono (by decide)) (q_cons (q_fz (q_var 1)) (q_cons (q_fz (q_var 2)) q_nil))) q_nil)))⟩))
  (s_one (s_ret (q_comp [] ["row", "reach"] [] rfl (show CompNames (defScope st_slice_of) _ ["row", "reach"] [] from ⟨rfl, by decide +kernel, by decide +kernel, by decide +kernel, by decide +kernel, by decide +kernel⟩) (i_seq (q_var 2)) (fun cl C s₂ H₂ fp => ⟨(g_tp rfl (gs_cons (g_nm 0 (show (["row", "reach"] : List Str).Nodup by decide +kernel)) (gs_cons (g_nm 1 (show (["row", "reach"] : List Str).Nodup by decide +kernel)) gs_nil))), (f_one (t_ne hr.units (q_var 1) (q_const c_NO_NUMBERS))), (q_tup (q_cons (q_var 0) (q_cons (q_tup (q_cons (q_var 1) (q_cons (q_tup q_nil) q_nil))) q_nil)))⟩)))))
theorem k_law_cell (z : Zs mg) (d : DefAt K mg "_law_cell" st_law_cell ["script", "k"])  : Kept P w K mg base 1 "_law_cell" ["script", "k"] m_law_cell :=
 okP (k := 0) d sc_law_cell fun f cdv A outer s H E hr =>
  (s_cons (s_if (t_lt (q_var 1) (q_len rfl (z 0 _ rfl) (q_cons (q_var 0) q_nil)))
  (s_one (s_ret (q_ix (q_var 0) (q_var 1))))
  s_nil)
  (s_one (s_ret q_int)))
theorem k_law_stir (z : Zs mg) (d : DefAt K mg "_law_stir" st_law_stir ["cell", "k"])  : Kept P w K mg base 1 "_law_stir" ["cell", "k"] m_law_stir :=
 okP (k := 0) d sc_law_stir fun f cdv A outer s H E hr =>
  (s_cons (s_set 2 sc_law_stir.nd (q_mod (q_mul (q_addQ (q_mod (q_var 0) q_int) q_int) q_int) q_int))
  (s_cons (s_set 2 sc_law_stir.nd (q_mod (q_addQ (q_addQ (q_mul (q_var 2) (q_var 2)) (q_mul (q_var 1) q_int)) q_int) q_int))
  (s_one (s_ret (q_mod (q_mul (q_var 2) (q_var 2)) q_int)))))
theorem k_law_reach (z : Zs mg) (d : DefAt K mg "_law_reach" st_law_reach ["number", "scale"])  : Kept P w K mg base 1 "_law_reach" ["number", "scale"] m_law_reach :=
 okP (k := 0) d sc_law_reach fun f cdv A outer s H E hr =>
  (s_cons (s_set 2 sc_law_reach.nd (q_lst q_nil))
  (s_cons (s_set 3 sc_law_reach.nd (q_sub (q_mod (q_var 0) q_int) q_int))
  (s_cons (s_set 4 sc_law_reach.nd (q_div (q_var 0) q_int))
  (s_cons (s_for rfl (i_r1 rfl (z 1 _ rfl) (q_addQ (q_mod (q_div (q_var 0) q_int) q_int) (q_mod (q_var 4) q_int))) (g_nm 5 sc_law_reach.nd)
  (s_cons (s_set 3 sc_law_reach.nd (q_addQ (q_addQ (q_var 3) q_int) (q_mod (q_div (q_var 4) q_int) q_int)))
  (s_cons (s_expr (q_app (q_var 2) (q_cons (q_mul (q_var 3) (q_var 1)) q_nil)))
  (s_one (s_set 4 sc_law_reach.nd (q_div (q_var 4) q_int))))) PassesOwn.never)
  (s_one (s_ret (q_tup (q_cons (q_lt (q_mod (q_var 4) q_int) q_int) (q_cons (q_tuple rfl (z 2 _ rfl) (q_cons (q_var 2) q_nil)) q_nil)))))))))
theorem k_law_plot (z : Zs mg) (d : DefAt K mg "_law_plot" st_law_plot ["cell", "k", "scale"]) (h_law_stir : Kept P w K mg base 1 "_law_stir" ["cell", "k"] m_law_stir) (h_law_reach : Kept P w K mg base 1 "_law_reach" ["number", "scale"] m_law_reach) : Kept P w K mg base 2 "_law_plot" ["cell", "k", "scale"] m_law_plot :=
 okP (k := 1) d sc_law_plot fun f cdv A outer s H E hr =>
  (s_cons (s_set 3 sc_law_plot.nd (q_callK h_law_stir (hr.mono (by decide)) (q_cons (q_fz (q_var 0)) (q_cons (q_fz (q_var 1)) q_nil))))
  (s_cons (s_set 4 sc_law_plot.nd (q_tup (q_cons q_bl (q_cons (q_tup q_nil) q_nil))))
  (s_cons (s_if (t_eq hr.units (q_mod (q_var 3) q_int) q_int)
  (s_one (s_set 4 sc_law_plot.nd (q_callK h_law_reach (hr.mono (by decide)) (q_cons (q_fz (q_div (q_var 3) q_int)) (q_cons (q_fz (q_var 2)) q_nil)))))
  s_nil)
  (s_cons (s_set 5 sc_law_plot.nd (q_var 4))
  (s_cons (s_set 6 sc_law_plot.nd (q_sub (q_mod (q_div (q_var 3) q_int) q_int) q_int))
  (s_cons (s_set 7 sc_law_plot.nd (q_lst q_nil))
  (s_cons (s_for rfl (i_r1 rfl (z 1 _ rfl) (q_mod (q_div (q_var 3) q_int) q_int)) (g_nm 8 sc_law_plot.nd)
  (s_cons (s_set 9 sc_law_plot.nd (q_callK h_law_reach (hr.mono (by decide)) (q_cons (q_fz (q_callK h_law_stir (hr.mono (by decide)) (q_cons (q_fz (q_var 0)) (q_cons (q_fz (q_addQ (q_addQ (q_var 1) q_int) (q_var 8))) q_nil)))) (q_cons (q_fz (q_var 2)) q_nil))))
  (s_cons (s_if (t_ne hr.units (q_var 9) (q_var 5))
  (s_cons (s_expr (q_app (q_var 7) (q_cons (q_tup (q_cons (q_mul (q_var 6) (q_ix (q_lst (q_cons q_int (q_cons (q_pow q_int q_int) q_nil))) (q_mod (q_div (q_var 3) q_int) q_int))) (q_cons (q_var 9) q_nil))) q_nil)))
  (s_one (s_set 5 sc_law_plot.nd (q_var 9))))
  s_nil)
  (s_one (s_set 6 sc_law_plot.nd (q_addQ (q_addQ (q_var 6) q_int) (q_mod (q_div (q_callK h_law_stir (hr.mono (by decide)) (q_cons (q_fz (q_var 0)) (q_cons (q_fz (q_addQ (q_var 1) q_int)) q_nil))) q_int) q_int)))))) PassesOwn.never)
  (s_one (s_ret (q_tup (q_cons (q_var 4) (q_cons (q_tuple rfl (z 2 _ rfl) (q_cons (q_var 7) q_nil)) q_nil))))))))))))
theorem k_law_row (z : Zs mg) (d : DefAt K mg "_law_row" st_law_row ["cell", "k", "width"]) (h_law_stir : Kept P w K mg base 1 "_law_stir" ["cell", "k"] m_law_stir) : Kept P w K mg base 2 "_law_row" ["cell", "k", "width"] m_law_row :=
 okP (k := 1) d sc_law_row fun f cdv A outer s H E hr =>
  (s_cons (s_set 3 sc_law_row.nd (q_callK h_law_stir (hr.mono (by decide)) (q_cons (q_fz (q_var 0)) (q_cons (q_fz (q_addQ (q_var 1) q_int)) q_nil))))
  (s_cons (s_set 4 sc_law_row.nd (q_lst q_nil))
  (s_cons (s_for rfl (i_r1 rfl (z 1 _ rfl) (q_var 2)) (g_nm 5 sc_law_row.nd)
  (s_cons (s_expr (q_app (q_var 4) (q_cons (q_ix (q_lst (q_cons q_int (q_cons q_int (q_cons q_int (q_cons (q_neg q_int) (q_cons q_int (q_cons (q_mod (q_var 0) (q_pow q_int q_int)) q_nil))))))) (q_mod (q_var 3) q_int)) q_nil)))
  (s_one (s_set 3 sc_law_row.nd (q_div (q_var 3) q_int)))) PassesOwn.never)
  (s_one (s_ret (q_keyT rfl (z 2 _ rfl) (q_cons (q_var 4) q_nil)))))))
theorem k_law_lies (z : Zs mg) (d : DefAt K mg "_law_lies" st_law_lies ["plot", "day", "turn"])  : Kept P w K mg base 1 "_law_lies" ["plot", "day", "turn"] m_law_lies :=
 okP (k := 0) d sc_law_lies fun f cdv A outer s H E hr =>
  (s_cons (s_asg (q_ix (q_var 0) q_int) (g_tp rfl (gs_cons (g_nm 3 sc_law_lies.nd) (gs_cons (g_nm 4 sc_law_lies.nd) gs_nil))))
  (s_cons (s_for rfl (i_seq (q_ix (q_var 0) q_int)) (g_tp rfl (gs_cons (g_nm 5 sc_law_lies.nd) (gs_cons (g_nm 6 sc_law_lies.nd) gs_nil)))
  (s_one (s_if (t_le (q_var 5) (q_var 2))
  (s_one (s_asg (q_var 6) (g_tp rfl (gs_cons (g_nm 3 sc_law_lies.nd) (gs_cons (g_nm 4 sc_law_lies.nd) gs_nil)))))
  s_nil)) PassesOwn.never)
  (s_cons (s_for rfl (i_seq (q_var 4)) (g_nm 7 sc_law_lies.nd)
  (s_one (s_if (t_le (q_var 7) (q_var 1))
  (s_one (s_set 3 sc_law_lies.nd (q_not (q_var 3))))
  s_nil)) PassesOwn.never)
  (s_one (s_ret (q_var 3))))))
theorem k_law_whole (z : Zs mg) (d : DefAt K mg "_law_whole" st_law_whole ["thing"])  : Kept P w K mg base 1 "_law_whole" ["thing"] m_law_whole :=
 okP (k := 0) d sc_law_whole fun f cdv A outer s H E hr =>
  (s_one (s_ret (q_and (q_isi kinds_int rfl (z 3 _ rfl) rfl (z 5 _ rfl) boot_int' (q_var 0)) (q_one (q_not (q_isi kinds_bool rfl (z 3 _ rfl) rfl (z 4 _ rfl) boot_bool' (q_var 0)))))))
theorem k_law_rises (z : Zs mg) (d : DefAt K mg "_law_rises" st_law_rises ["some"]) (h_law_whole : Kept P w K mg base 1 "_law_whole" ["thing"] m_law_whole) : Kept P w K mg base 2 "_law_rises" ["some"] m_law_rises :=
 okP (k := 1) d sc_law_rises fun f cdv A outer s H E hr =>
  (s_cons (s_for rfl (i_r1 rfl (z 1 _ rfl) (q_len rfl (z 0 _ rfl) (q_cons (q_var 0) q_nil))) (g_nm 1 sc_law_rises.nd)
  (s_one (s_if (t_w (w_or (t_not (t_tru (q_callK h_law_whole (hr.mono (by decide)) (q_cons (q_fz (q_ix (q_var 0) (q_var 1))) q_nil)))) (w_or1 (t_w (w_and (t_gt (q_var 1) q_int) (w_and1 (t_le (q_ix (q_var 0) (q_var 1)) (q_ix (q_var 0) (q_sub (q_var 1) q_int)))))))))
  (s_one (s_ret q_bl))
  s_nil)) PassesOwn.never)
  (s_one (s_ret q_bl)))
theorem k_law_is_reach (z : Zs mg) (d : DefAt K mg "_law_is_reach" st_law_is_reach ["thing"]) (h_law_rises : Kept P w K mg base 2 "_law_rises" ["some"] m_law_rises) : Kept P w K mg base 3 "_law_is_reach" ["thing"] m_law_is_reach :=
 okP (k := 2) d sc_law_is_reach fun f cdv A outer s H E hr =>
  (s_cons (s_if (t_w (w_or (t_not (t_tru (q_isi kinds_tuple rfl (z 3 _ rfl) rfl (z 2 _ rfl) boot_tuple' (q_var 0)))) (w_or (t_ne hr.units (q_len rfl (z 0 _ rfl) (q_cons (q_var 0) q_nil)) q_int) (w_or1 (t_not (t_tru (q_isi kinds_bool rfl (z 3 _ rfl) rfl (z 4 _ rfl) boot_bool' (q_ix (q_var 0) q_int))))))))
  (s_one (s_ret q_bl))
  s_nil)
  (s_one (s_ret (q_and (q_isi kinds_tuple rfl (z 3 _ rfl) rfl (z 2 _ rfl) boot_tuple' (q_ix (q_var 0) q_int)) (q_one (q_callK h_law_rises (hr.mono (by decide)) (q_cons (q_fz (q_ix (q_var 0) q_int)) q_nil)))))))
theorem k_law_is_plot (z : Zs mg) (d : DefAt K mg "_law_is_plot" st_law_is_plot ["thing"]) (h_law_rises : Kept P w K mg base 2 "_law_rises" ["some"] m_law_rises) (h_law_is_reach : Kept P w K mg base 3 "_law_is_reach" ["thing"] m_law_is_reach) : Kept P w K mg base 4 "_law_is_plot" ["thing"] m_law_is_plot :=
 okP (k := 3) d sc_law_is_plot fun f cdv A outer s H E hr =>
  (s_cons (s_if (t_w (w_or (t_not (t_tru (q_isi kinds_tuple rfl (z 3 _ rfl) rfl (z 2 _ rfl) boot_tuple' (q_var 0)))) (w_or (t_ne hr.units (q_len rfl (z 0 _ rfl) (q_cons (q_var 0) q_nil)) q_int) (w_or1 (t_not (t_tru (q_callK h_law_is_reach (hr.mono (by decide)) (q_cons (q_fz (q_ix (q_var 0) q_int)) q_nil))))))))
  (s_one (s_ret q_bl))
  s_nil)
  (s_cons (s_if (t_not (t_tru (q_isi kinds_tuple rfl (z 3 _ rfl) rfl (z 2 _ rfl) boot_tuple' (q_ix (q_var 0) q_int))))
  (s_one (s_ret q_bl))
  s_nil)
  (s_cons (s_set 1 sc_law_is_plot.nd (q_ix (q_var 0) q_int))
  (s_cons (s_for rfl (i_seq (q_ix (q_var 0) q_int)) (g_nm 2 sc_law_is_plot.nd)
  (s_cons (s_if (t_w (w_or (t_not (t_tru (q_isi kinds_tuple rfl (z 3 _ rfl) rfl (z 2 _ rfl) boot_tuple' (q_var 2)))) (w_or (t_ne hr.units (q_len rfl (z 0 _ rfl) (q_cons (q_var 2) q_nil)) q_int) (w_or (t_not (t_tru (q_callK h_law_is_reach (hr.mono (by decide)) (q_cons (q_fz (q_ix (q_var 2) q_int)) q_nil)))) (w_or1 (t_eq hr.units (q_ix (q_var 2) q_int) (q_var 1)))))))
  (s_one (s_ret q_bl))
  s_nil)
  (s_one (s_set 1 sc_law_is_plot.nd (q_ix (q_var 2) q_int)))) PassesOwn.never)
  (s_one (s_ret (q_callK h_law_rises (hr.mono (by decide)) (q_cons (q_fz (q_comp [] ["step"] [] rfl (show CompNames (defScope st_law_is_plot) _ ["step"] [] from ⟨rfl, by decide +kernel, by decide +kernel, by decide +kernel, by decide +kernel, by decide +kernel⟩) (i_seq (q_ix (q_var 0) q_int)) (fun cl C s₂ H₂ fp => ⟨(g_nm 0 (show (["step"] : List Str).Nodup by decide +kernel)), f_nil, (q_ix (q_var 0) q_int)⟩))) q_nil))))))))
theorem k_law_is_table (z : Zs mg) (d : DefAt K mg "_law_is_table" st_law_is_table ["thing", "width"]) (h_law_is_plot : Kept P w K mg base 4 "_law_is_plot" ["thing"] m_law_is_plot) (h_law_whole : Kept P w K mg base 1 "_law_whole" ["thing"] m_law_whole) : Kept P w K mg base 5 "_law_is_table" ["thing", "width"] (m_law_is_table (!HS.bt w)) :=
 okP (k := 4) d sc_law_is_table fun f cdv A outer s H E hr =>
  (s_cons (s_if (t_not (t_tru (q_isi kinds_list rfl (z 3 _ rfl) rfl (z 6 _ rfl) boot_list' (q_var 0))))
  (s_one (s_ret q_bl))
  s_nil)
  (s_cons (s_for rfl (i_seq (q_var 0)) (g_nm 2 sc_law_is_table.nd)
  (s_cons (s_if (t_w (w_or (t_not (t_tru (q_isi kinds_tuple rfl (z 3 _ rfl) rfl (z 2 _ rfl) boot_tuple' (q_var 2)))) (w_or (t_ne hr.units (q_len rfl (z 0 _ rfl) (q_cons (q_var 2) q_nil)) q_int) (w_or1 (t_not (t_tru (q_isi kinds_tuple rfl (z 3 _ rfl) rfl (z 2 _ rfl) boot_tuple' (q_ix (q_var 2) q_int))))))))
  (s_one (s_ret q_bl))
  s_nil)
  (s_cons (s_if (t_w (w_or (t_ne hr.units (q_len rfl (z 0 _ rfl) (q_cons (q_ix (q_var 2) q_int) q_nil)) (q_var 1)) (w_or1 (t_not (t_tru (q_all rfl rfl (z 7 _ rfl) (q_cons (q_comp [] ["one"] [] rfl (show CompNames (defScope st_law_is_table) _ ["one"] [] from ⟨rfl, by decide +kernel, by decide +kernel, by decide +kernel, by decide +kernel, by decide +kernel⟩) (i_seq (q_ix (q_var 2) q_int)) (fun cl C s₂ H₂ fp => ⟨(g_nm 0 (show (["one"] : List Str).Nodup by decide +kernel)), f_nil, (q_callK h_law_whole (hr.mono (by decide)) (q_cons (q_fz (q_var 0)) q_nil))⟩)) q_nil)))))))
  (s_one (s_ret q_bl))
  s_nil)
  (s_one (s_if (t_w (w_or (t_not (t_tru (q_callK h_law_is_plot (hr.mono (by decide)) (q_cons (q_fz (q_ix (q_var 2) q_int)) q_nil)))) (w_or1 (t_eq hr.units (q_ix (q_var 2) q_int) (q_tup (q_cons (q_tup (q_cons q_bl (q_cons (q_tup q_nil) q_nil))) (q_cons (q_tup q_nil) q_nil)))))))
  (s_one (s_ret q_bl))
  s_nil)))) PassesOwn.never)
  (s_cons (s_comp 3 [] ["entry"] [] rfl (show CompNames (defScope st_law_is_table) _ ["entry"] [] from ⟨rfl, by decide +kernel, by decide +kernel, by decide +kernel, by decide +kernel, by decide +kernel⟩) sc_law_is_table.nd (i_seq (q_var 0)) (fun cl C s₂ H₂ fp => ⟨(g_nm 0 (show (["entry"] : List Str).Nodup by decide +kernel)), f_nil, (q_ix (q_var 0) q_int)⟩))
  (s_one (s_ret (q_eq hr.units (q_var 3) (q_SS rfl hr.units rfl (z 8 _ rfl) rfl (z 9 _ rfl) (q_var 3))))))))
theorem k_law_table (z : Zs mg) (d : DefAt K mg "_law_table" st_law_table ["cells", "width", "scale"]) (h_law_plot : Kept P w K mg base 2 "_law_plot" ["cell", "k", "scale"] m_law_plot) (h_law_row : Kept P w K mg base 2 "_law_row" ["cell", "k", "width"] m_law_row) : Kept P w K mg base 3 "_law_table" ["cells", "width", "scale"] (m_law_table (!HS.bt w)) :=
 okP (k := 2) d sc_law_table fun f cdv A outer s H E hr =>
  (s_cons (s_set 3 sc_law_table.nd q_dnT)
  (s_cons (s_for rfl (i_seq (q_var 0)) (g_nm 4 sc_law_table.nd)
  (s_cons (s_set 5 sc_law_table.nd (q_callK h_law_plot (hr.mono (by decide)) (q_cons (q_fz (q_var 4)) (q_cons q_int (q_cons (q_fz (q_var 2)) q_nil)))))
  (s_one (s_if (t_ne hr.units (q_var 5) (q_tup (q_cons (q_tup (q_cons q_bl (q_cons (q_tup q_nil) q_nil))) (q_cons (q_tup q_nil) q_nil))))
  (s_one (s_asg (q_fz (q_var 5)) (g_sbT hr.units (q_var 3) (q_callK h_law_row (hr.mono (by decide)) (q_cons (q_fz (q_var 4)) (q_cons q_int (q_cons (q_fz (q_var 1)) q_nil)))))))
  s_nil))) PassesOwn.never)
  (s_one (s_ret (q_comp [3] ["row"] ["plots"] rfl (show CompNames (defScope st_law_table) _ ["row"] ["plots"] from ⟨rfl, by decide +kernel, by decide +kernel, by decide +kernel, by decide +kernel, by decide +kernel⟩) (i_seq (q_sortedT rfl rfl (z 8 _ rfl) (q_cons (q_var 3) q_nil))) (fun cl C s₂ H₂ fp => ⟨(g_nm 0 (show (["row", "plots"] : List Str).Nodup by decide +kernel)), f_nil, (q_tup (q_cons (q_unk (q_var 0)) (q_cons (q_tix hr.units (q_var 1) (q_var 0)) q_nil)))⟩))))))
theorem k_law_scale (z : Zs mg) (d : DefAt K mg "_law_scale" st_law_scale ["cell"])  : Kept P w K mg base 1 "_law_scale" ["cell"] m_law_scale :=
 okP (k := 0) d sc_law_scale fun f cdv A outer s H E hr =>
  (s_one (s_ret (q_ix (q_lst (q_cons q_int (q_cons q_int (q_cons (q_pow q_int q_int) q_nil)))) (q_mod (q_var 0) q_int))))
theorem k_law_spot (z : Zs mg) (d : DefAt K mg "_law_spot" st_law_spot ["cell", "k", "table", "scale"]) (h_law_stir : Kept P w K mg base 1 "_law_stir" ["cell", "k"] m_law_stir) : Kept P w K mg base 2 "_law_spot" ["cell", "k", "table", "scale"] m_law_spot :=
 okP (k := 1) d sc_law_spot fun f cdv A outer s H E hr =>
  (s_cons (s_set 4 sc_law_spot.nd (q_callK h_law_stir (hr.mono (by decide)) (q_cons (q_fz (q_var 0)) (q_cons (q_fz (q_addQ (q_var 1) q_int)) q_nil))))
  (s_cons (s_set 5 sc_law_spot.nd (q_sub (q_mod (q_var 4) q_int) q_int))
  (s_cons (s_set 6 sc_law_spot.nd (q_sub (q_mul (q_sub (q_mod (q_div (q_var 4) q_int) q_int) q_int) (q_var 3)) (q_mod (q_div (q_var 4) q_int) q_int)))
  (s_cons (s_if (t_w (w_and (t_ne hr.units (q_var 2) (q_lst q_nil)) (w_and1 (t_gt (q_mod (q_div (q_var 4) q_int) q_int) q_int))))
  (s_cons (s_set 7 sc_law_spot.nd (q_ix (q_ix (q_var 2) (q_mod (q_div (q_var 4) q_int) (q_len rfl (z 0 _ rfl) (q_cons (q_var 2) q_nil)))) q_int))
  (s_cons (s_set 8 sc_law_spot.nd (q_ix (q_var 7) q_int))
  (s_cons (s_if (t_ne hr.units (q_ix (q_var 7) q_int) (q_tup q_nil))
  (s_cons (s_asg (q_ix (q_ix (q_var 7) q_int) (q_mod (q_div (q_var 4) q_int) (q_len rfl (z 0 _ rfl) (q_cons (q_ix (q_var 7) q_int) q_nil)))) (g_tp rfl (gs_cons (g_nm 5 sc_law_spot.nd) (gs_cons (g_nm 8 sc_law_spot.nd) gs_nil))))
  (s_one (s_set 5 sc_law_spot.nd (q_sub (q_var 5) (q_mod (q_div (q_var 4) q_int) q_int)))))
  s_nil)
  (s_one (s_if (t_ne hr.units (q_ix (q_var 8) q_int) (q_tup q_nil))
  (s_one (s_set 6 sc_law_spot.nd (q_sub (q_ix (q_ix (q_var 8) q_int) (q_mod (q_div (q_var 4) q_int) (q_len rfl (z 0 _ rfl) (q_cons (q_ix (q_var 8) q_int) q_nil)))) (q_mod (q_div (q_var 4) q_int) q_int))))
  s_nil)))))
  s_nil)
  (s_one (s_ret (q_tup (q_cons (q_var 6) (q_cons (q_var 5) q_nil)))))))))
theorem k_law_at (z : Zs mg) (d : DefAt K mg "_law_at" st_law_at ["table", "day", "turn"]) (h_law_lies : Kept P w K mg base 1 "_law_lies" ["plot", "day", "turn"] m_law_lies) : KeptN P w K mg base 2 "_law_at" ["table", "day", "turn"] n_law_at :=
 okN (k := 1) d sc_law_at fun f cdv A outer s H E hr =>
  (s_one (s_ret (q_comp [1, 2] ["row", "plot"] ["day", "turn"] rfl (show CompNames (defScope st_law_at) _ ["row", "plot"] ["day", "turn"] from ⟨rfl, by decide +kernel, by decide +kernel, by decide +kernel, by decide +kernel, by decide +kernel⟩) (i_seq (q_var 0)) (fun cl C s₂ H₂ fp => ⟨(g_tp rfl (gs_cons (g_nm 0 (show (["row", "plot", "day", "turn"] : List Str).Nodup by decide +kernel)) (gs_cons (g_nm 1 (show (["row", "plot", "day", "turn"] : List Str).Nodup by decide +kernel)) gs_nil))), (f_one (t_tru (q_callK h_law_lies (hr.mono (by decide)) (q_cons (q_fz (q_var 1)) (q_cons (q_fz (q_var 2)) (q_cons (q_fz (q_var 3)) q_nil)))))), (q_var 0)⟩))))
theorem k_law_sliced (z : Zs mg) (d : DefAt K mg "_law_sliced" st_law_sliced ["table", "width", "day", "turn", "other"]) (h_slice_of : KeptN P w K mg base 2 "slice_of" ["table", "turn"] n_slice_of) (h_law_is_table : Kept P w K mg base 5 "_law_is_table" ["thing", "width"] (m_law_is_table (!HS.bt w))) (h_cut_at : KeptN P w K mg base 3 "cut_at" ["table", "day", "turn"] n_cut_at) (h_law_at : KeptN P w K mg base 2 "_law_at" ["table", "day", "turn"] n_law_at) : Kept P w K mg base 6 "_law_sliced" ["table", "width", "day", "turn", "other"] (m_law_sliced (!HS.bt w)) :=
 okP (k := 5) d sc_law_sliced fun f cdv A outer s H E hr =>
  (s_cons (s_set 5 sc_law_sliced.nd (q_callN h_slice_of (hr.mono (by decide)) (q_cons (q_var 0) (q_cons (q_var 3) q_nil))))
  (s_cons (s_if (t_not (t_tru (q_callQ h_law_is_table (hr.mono (by decide)) (q_cons (q_var 5) (q_cons (q_var 1) q_nil)))))
  (s_one (s_ret q_bl))
  s_nil)
  (s_cons (s_forL rfl (q_var 5) (g_tp rfl (gs_cons (g_nm 6 sc_law_sliced.nd) (gs_cons (g_nm 7 sc_law_sliced.nd) gs_nil)))
  (s_one (s_if (t_ne hr.units (q_ix (q_var 7) q_int) (q_tup q_nil))
  (s_one (s_ret q_bl))
  s_nil)) PassesOwn.never)
  (s_cons (s_if (t_ne hr.units (q_callN h_cut_at (hr.mono (by decide)) (q_cons (q_var 5) (q_cons (q_var 2) (q_cons (q_var 4) q_nil)))) (q_callN h_law_at (hr.mono (by decide)) (q_cons (q_var 0) (q_cons (q_var 2) (q_cons (q_var 3) q_nil)))))
  (s_one (s_ret q_bl))
  s_nil)
  (s_cons (s_if (t_ne hr.units (q_callN h_law_at (hr.mono (by decide)) (q_cons (q_var 5) (q_cons (q_var 4) (q_cons (q_var 2) q_nil)))) (q_callN h_law_at (hr.mono (by decide)) (q_cons (q_var 0) (q_cons (q_var 4) (q_cons (q_var 3) q_nil)))))
  (s_one (s_ret q_bl))
  s_nil)
  (s_cons (s_set 8 sc_law_sliced.nd (q_list rfl (z 6 _ rfl) (q_cons (q_var 5) q_nil)))
  (s_cons (s_set 9 sc_law_sliced.nd (q_callN h_slice_of (hr.mono (by decide)) (q_cons (q_var 5) (q_cons (q_var 4) q_nil))))
  (s_cons (s_if (t_ne hr.units (q_var 9) (q_var 8))
  (s_one (s_ret q_bl))
  s_nil)
  (s_cons (s_expr (q_app (q_var 9) (q_cons (q_tup q_nil) q_nil)))
  (s_cons (s_if (t_ne hr.units (q_var 5) (q_var 8))
  (s_one (s_ret q_bl))
  s_nil)
  (s_cons (s_expr (q_app (q_var 5) (q_cons (q_tup q_nil) q_nil)))
  (s_one (s_ret (q_eq hr.units (q_callN h_slice_of (hr.mono (by decide)) (q_cons (q_var 0) (q_cons (q_var 3) q_nil))) (q_var 8)))))))))))))))
theorem k_law {f : Addr} {fd : FuncData} (z : Zs mg) (F : Fun K "law" "law" st_law f fd) (h_law_scale : Kept P w K mg base 1 "_law_scale" ["cell"] m_law_scale) (h_law_table : Kept P w K mg base 3 "_law_table" ["cells", "width", "scale"] (m_law_table (!HS.bt w))) (h_law_cell : Kept P w K mg base 1 "_law_cell" ["script", "k"] m_law_cell) (h_law_spot : Kept P w K mg base 2 "_law_spot" ["cell", "k", "table", "scale"] m_law_spot) (h_cut_at : KeptN P w K mg base 3 "cut_at" ["table", "day", "turn"] n_cut_at) (h_slice_of : KeptN P w K mg base 2 "slice_of" ["table", "turn"] n_slice_of) (h_law_at : KeptN P w K mg base 2 "_law_at" ["table", "day", "turn"] n_law_at) (h_law_sliced : Kept P w K mg base 6 "_law_sliced" ["table", "width", "day", "turn", "other"] (m_law_sliced (!HS.bt w))) : FnOk P w K mg base CX0 7 f fd ["script"] (spP K 1 (m_law (!HS.bt w))) :=
 funOkP (k := 6) F sc_law fun cdv A outer s H E hr =>
  (s_cons (s_set 1 sc_law.nd (q_mod (q_callK h_law_cell (hr.mono (by decide)) (q_cons (q_fz (q_var 0)) (q_cons q_int q_nil))) q_int))
  (s_cons (s_set 2 sc_law.nd (q_callK h_law_scale (hr.mono (by decide)) (q_cons (q_fz (q_div (q_callK h_law_cell (hr.mono (by decide)) (q_cons (q_fz (q_var 0)) (q_cons q_int q_nil))) q_int)) q_nil)))
  (s_cons (s_set 3 sc_law.nd (q_callK h_law_table (hr.mono (by decide)) (q_cons (q_fz (q_sl (q_var 0) (q_oS q_int) (q_oS q_int))) (q_cons (q_fz (q_var 1)) (q_cons (q_fz (q_var 2)) q_nil)))))
  (s_cons (s_set 4 sc_law.nd (q_list rfl (z 6 _ rfl) (q_cons (q_var 3) q_nil)))
  (s_cons (s_for rfl (i_seq (q_addF (q_lst (q_cons q_int q_nil)) (q_var 0))) (g_nm 5 sc_law.nd)
  (s_cons (s_asg (q_callK h_law_spot (hr.mono (by decide)) (q_cons (q_fz (q_var 5)) (q_cons q_int (q_cons (q_fz (q_var 3)) (q_cons (q_fz (q_var 2)) q_nil))))) (g_tp rfl (gs_cons (g_nm 6 sc_law.nd) (gs_cons (g_nm 7 sc_law.nd) gs_nil))))
  (s_cons (s_set 8 sc_law.nd (q_callN h_cut_at (hr.mono (by decide)) (q_cons (q_var 4) (q_cons (q_var 6) (q_cons (q_var 7) q_nil)))))
  (s_cons (s_if (t_w (w_or (t_not (t_tru (q_isi kinds_list rfl (z 3 _ rfl) rfl (z 6 _ rfl) boot_list' (q_var 8)))) (w_or (t_ne hr.units (q_var 8) (q_callN h_law_at (hr.mono (by decide)) (q_cons (q_var 3) (q_cons (q_var 6) (q_cons (q_var 7) q_nil))))) (w_or1 (t_ne hr.units (q_var 4) (q_var 3))))))
  (s_one (s_ret q_bl))
  s_nil)
  (s_cons (s_expr (q_app (q_var 8) (q_cons (q_tup q_nil) q_nil)))
  (s_cons (s_set 9 sc_law.nd (q_ix (q_callK h_law_spot (hr.mono (by decide)) (q_cons (q_fz (q_var 5)) (q_cons q_int (q_cons (q_fz (q_var 3)) (q_cons (q_fz (q_var 2)) q_nil))))) q_int))
  (s_one (s_if (t_w (w_and (t_eq hr.units (q_mod (q_var 5) q_int) q_int) (w_and1 (t_not (t_tru (q_callK h_law_sliced (hr.mono (by decide)) (q_cons (q_fz (q_var 4)) (q_cons (q_fz (q_var 1)) (q_cons (q_fz (q_var 6)) (q_cons (q_fz (q_var 7)) (q_cons (q_fz (q_var 9)) q_nil)))))))))))
  (s_one (s_ret q_bl))
  s_nil))))))) PassesOwn.never)
  (s_one (s_ret (q_and (q_eq hr.units (q_var 4) (q_var 3)) (q_and (q_eq hr.units (q_callN h_slice_of (hr.mono (by decide)) (q_cons (q_lst q_nil) (q_cons q_int q_nil))) (q_lst q_nil)) (q_one (q_eq hr.units (q_callN h_cut_at (hr.mono (by decide)) (q_cons (q_lst q_nil) (q_cons q_int (q_cons q_int q_nil)))) (q_lst q_nil))))))))))))
end
set_option maxHeartbeats 4000000 in
theorem all_mk {l : PySem.W.OpenLaw} {w : World} {K : PySem.W.Frag} {h : Heap} {mg : Str -> Option Value} {fa : Addr} (X : K.In h) (G : h.Ns mainGlobals mg) (hfa : mg "law" = some (.ref fa))
  (a0 : FK K "lies_in" st_lies_in)
  (a1 : FK K "reach_at" st_reach_at)
  (a2 : FK K "lies_at" st_lies_at)
  (a3 : FK K "cut_at" st_cut_at)
  (a4 : FK K "slice_of" st_slice_of)
  (a5 : FK K "_law_cell" st_law_cell)
  (a6 : FK K "_law_stir" st_law_stir)
  (a7 : FK K "_law_reach" st_law_reach)
  (a8 : FK K "_law_plot" st_law_plot)
  (a9 : FK K "_law_row" st_law_row)
  (a10 : FK K "_law_lies" st_law_lies)
  (a11 : FK K "_law_whole" st_law_whole)
  (a12 : FK K "_law_rises" st_law_rises)
  (a13 : FK K "_law_is_reach" st_law_is_reach)
  (a14 : FK K "_law_is_plot" st_law_is_plot)
  (a15 : FK K "_law_is_table" st_law_is_table)
  (a16 : FK K "_law_table" st_law_table)
  (a17 : FK K "_law_scale" st_law_scale)
  (a18 : FK K "_law_spot" st_law_spot)
  (a19 : FK K "_law_at" st_law_at)
  (a20 : FK K "_law_sliced" st_law_sliced)
  (a21 : FK K "law" st_law)
  {qNO_NUMBERS : Addr} {qnNO_NUMBERS : Nat} {qsNO_NUMBERS : Array (Option Value)} {qNO_NUMBERS_1 : Addr} {qnNO_NUMBERS_1 : Nat} {qsNO_NUMBERS_1 : Array (Option Value)} (gNO_NUMBERS : PySem.W.nsIn K mainGlobals "NO_NUMBERS" = some (some (.ref qNO_NUMBERS))) (LNO_NUMBERS : K.lookup qNO_NUMBERS = some ⟨.type "tuple", none, .seq ([(.bool false), (.ref qNO_NUMBERS_1)] : List Value).toArray qnNO_NUMBERS, qsNO_NUMBERS⟩) (LNO_NUMBERS_1 : K.lookup qNO_NUMBERS_1 = some ⟨.type "tuple", none, .seq ([] : List Value).toArray qnNO_NUMBERS_1, qsNO_NUMBERS_1⟩) (z0 : PySem.W.nsIn K mainGlobals "len" = some none) (z1 : PySem.W.nsIn K mainGlobals "range" = some none) (z2 : PySem.W.nsIn K mainGlobals "tuple" = some none) (z3 : PySem.W.nsIn K mainGlobals "isinstance" = some none) (z4 : PySem.W.nsIn K mainGlobals "bool" = some none) (z5 : PySem.W.nsIn K mainGlobals "int" = some none) (z6 : PySem.W.nsIn K mainGlobals "list" = some none) (z7 : PySem.W.nsIn K mainGlobals "all" = some none) (z8 : PySem.W.nsIn K mainGlobals "sorted" = some none) (z9 : PySem.W.nsIn K mainGlobals "set" = some none) :
  ∃ fd : FuncData, (∀ (s : Shared) (v : Value), BindsTo s fd ⟨[v], []⟩ [("script", v)]) /\ ∀ base : Heap, K.In base -> base.Ns mainGlobals mg -> FnOk l.prog w K mg base CX0 7 fa fd ["script"] (fun vs H Q E => ∀ b, spP K 1 (m_law b) vs H Q E) := by
 have z : Zs mg := (zs_cons (PySem.W.mg_none_of X G z0) (zs_cons (PySem.W.mg_none_of X G z1) (zs_cons (PySem.W.mg_none_of X G z2) (zs_cons (PySem.W.mg_none_of X G z3) (zs_cons (PySem.W.mg_none_of X G z4) (zs_cons (PySem.W.mg_none_of X G z5) (zs_cons (PySem.W.mg_none_of X G z6) (zs_cons (PySem.W.mg_none_of X G z7) (zs_cons (PySem.W.mg_none_of X G z8) (zs_cons (PySem.W.mg_none_of X G z9) zs_nil))))))))))
 have c_NO_NUMBERS : ConstR K mg "NO_NUMBERS" (.tup [(.bl false), (.tup [])]) := const_of (PySem.W.mg_of X G gNO_NUMBERS) (cr_tup LNO_NUMBERS (show 2 <= sizeLine by decide) (crs_cons cr_bl (crs_cons (cr_tup LNO_NUMBERS_1 (show 0 <= sizeLine by decide) crs_nil) crs_nil)))
 have d_lies_in := a0.at_ (ps := ["reach", "number"]) X G (fun _ _ _ _ _ _ => us2 fun _ _ => rfl)
 have d_reach_at := a1.at_ (ps := ["plot", "turn"]) X G (fun _ _ _ _ _ _ => us2 fun _ _ => rfl)
 have d_lies_at := a2.at_ (ps := ["plot", "day", "turn"]) X G (fun _ _ _ _ _ _ => us3 fun _ _ _ => rfl)
 have d_cut_at := a3.at_ (ps := ["table", "day", "turn"]) X G (fun _ _ _ _ _ _ => us3 fun _ _ _ => rfl)
 have d_slice_of := a4.at_ (ps := ["table", "turn"]) X G (fun _ _ _ _ _ _ => us2 fun _ _ => rfl)
 have d_law_cell := a5.at_ (ps := ["script", "k"]) X G (fun _ _ _ _ _ _ => us2 fun _ _ => rfl)
 have d_law_stir := a6.at_ (ps := ["cell", "k"]) X G (fun _ _ _ _ _ _ => us2 fun _ _ => rfl)
 have d_law_reach := a7.at_ (ps := ["number", "scale"]) X G (fun _ _ _ _ _ _ => us2 fun _ _ => rfl)
 have d_law_plot := a8.at_ (ps := ["cell", "k", "scale"]) X G (fun _ _ _ _ _ _ => us3 fun _ _ _ => rfl)
 have d_law_row := a9.at_ (ps := ["cell", "k", "width"]) X G (fun _ _ _ _ _ _ => us3 fun _ _ _ => rfl)
 have d_law_lies := a10.at_ (ps := ["plot", "day", "turn"]) X G (fun _ _ _ _ _ _ => us3 fun _ _ _ => rfl)
 have d_law_whole := a11.at_ (ps := ["thing"]) X G (fun _ _ _ _ _ _ => us1 fun _ => rfl)
 have d_law_rises := a12.at_ (ps := ["some"]) X G (fun _ _ _ _ _ _ => us1 fun _ => rfl)
 have d_law_is_reach := a13.at_ (ps := ["thing"]) X G (fun _ _ _ _ _ _ => us1 fun _ => rfl)
 have d_law_is_plot := a14.at_ (ps := ["thing"]) X G (fun _ _ _ _ _ _ => us1 fun _ => rfl)
 have d_law_is_table := a15.at_ (ps := ["thing", "width"]) X G (fun _ _ _ _ _ _ => us2 fun _ _ => rfl)
 have d_law_table := a16.at_ (ps := ["cells", "width", "scale"]) X G (fun _ _ _ _ _ _ => us3 fun _ _ _ => rfl)
 have d_law_scale := a17.at_ (ps := ["cell"]) X G (fun _ _ _ _ _ _ => us1 fun _ => rfl)
 have d_law_spot := a18.at_ (ps := ["cell", "k", "table", "scale"]) X G (fun _ _ _ _ _ _ => us4 fun _ _ _ _ => rfl)
 have d_law_at := a19.at_ (ps := ["table", "day", "turn"]) X G (fun _ _ _ _ _ _ => us3 fun _ _ _ => rfl)
 have d_law_sliced := a20.at_ (ps := ["table", "width", "day", "turn", "other"]) X G (fun _ _ _ _ _ _ => us5 fun _ _ _ _ _ => rfl)
 obtain ⟨fdL, FL, bL⟩ := a21.law (ps := ["script"]) X G hfa (fun _ _ _ _ _ _ => us1 fun _ => rfl)
 refine ⟨fdL, fun s v => bL s [v] rfl, fun base _ _ => ?_⟩
 have h_lies_in := k_lies_in (P := l.prog) (w := w) (base := base) z d_lies_in
 have h_reach_at := k_reach_at (P := l.prog) (w := w) (base := base) z d_reach_at
 have h_law_cell := k_law_cell (P := l.prog) (w := w) (base := base) z d_law_cell
 have h_law_stir := k_law_stir (P := l.prog) (w := w) (base := base) z d_law_stir
 have h_law_reach := k_law_reach (P := l.prog) (w := w) (base := base) z d_law_reach
 have h_law_lies := k_law_lies (P := l.prog) (w := w) (base := base) z d_law_lies
 have h_law_whole := k_law_whole (P := l.prog) (w := w) (base := base) z d_law_whole
 have h_law_scale := k_law_scale (P := l.prog) (w := w) (base := base) z d_law_scale
 have h_lies_at := k_lies_at (P := l.prog) (w := w) (base := base) z d_lies_at h_lies_in h_reach_at
 have h_slice_of := k_slice_of (P := l.prog) (w := w) (base := base) z d_slice_of h_reach_at c_NO_NUMBERS
 have h_law_plot := k_law_plot (P := l.prog) (w := w) (base := base) z d_law_plot h_law_stir h_law_reach
 have h_law_row := k_law_row (P := l.prog) (w := w) (base := base) z d_law_row h_law_stir
 have h_law_rises := k_law_rises (P := l.prog) (w := w) (base := base) z d_law_rises h_law_whole
 have h_law_spot := k_law_spot (P := l.prog) (w := w) (base := base) z d_law_spot h_law_stir
 have h_law_at := k_law_at (P := l.prog) (w := w) (base := base) z d_law_at h_law_lies
 have h_cut_at := k_cut_at (P := l.prog) (w := w) (base := base) z d_cut_at h_lies_at
 have h_law_is_reach := k_law_is_reach (P := l.prog) (w := w) (base := base) z d_law_is_reach h_law_rises
 have h_law_table := k_law_table (P := l.prog) (w := w) (base := base) z d_law_table h_law_plot h_law_row
 have h_law_is_plot := k_law_is_plot (P := l.prog) (w := w) (base := base) z d_law_is_plot h_law_rises h_law_is_reach
 have h_law_is_table := k_law_is_table (P := l.prog) (w := w) (base := base) z d_law_is_table h_law_is_plot h_law_whole
 have h_law_sliced := k_law_sliced (P := l.prog) (w := w) (base := base) z d_law_sliced h_slice_of h_law_is_table h_cut_at h_law_at
 exact (k_law (P := l.prog) (w := w) (base := base) z FL h_law_scale h_law_table h_law_cell h_law_spot h_cut_at h_slice_of h_law_at h_law_sliced).imp fun _ _ _ _ h => h _
end
end LW
namespace LW
open PySem HW
theorem u_lies_in (a0 a1 : D) : m_lies_in [a0, a1] = finO (b_lies_in [some (.v a0), some (.v a1), none] []) := rfl
theorem u_reach_at (a0 a1 : D) : m_reach_at [a0, a1] = finO (b_reach_at [some (.v a0), some (.v a1), none, none] []) := rfl
theorem u_lies_at (a0 a1 a2 : D) : m_lies_at [a0, a1, a2] = finO (b_lies_at [some (.v a0), some (.v a1), some (.v a2)] []) := rfl
theorem u_cut_at (a0 a1 a2 : D) : n_cut_at [a0, a1, a2] = finNO (b_cut_at [some (.v a0), some (.v a1), some (.v a2)] []) := rfl
theorem u_slice_of (a0 a1 : D) : n_slice_of [a0, a1] = finNO (b_slice_of [some (.v a0), some (.v a1), none] []) := rfl
theorem u_law_cell (a0 a1 : D) : m_law_cell [a0, a1] = finO (b_law_cell [some (.v a0), some (.v a1)] []) := rfl
theorem u_law_stir (a0 a1 : D) : m_law_stir [a0, a1] = finO (b_law_stir [some (.v a0), some (.v a1), none] []) := rfl
theorem u_law_reach (a0 a1 : D) : m_law_reach [a0, a1] = finO (b_law_reach [some (.v a0), some (.v a1), none, none, none, none] []) := rfl
theorem u_law_plot (a0 a1 a2 : D) : m_law_plot [a0, a1, a2] = finO (b_law_plot [some (.v a0), some (.v a1), some (.v a2), none, none, none, none, none, none, none] []) := rfl
theorem u_law_row (a0 a1 a2 : D) : m_law_row [a0, a1, a2] = finO (b_law_row [some (.v a0), some (.v a1), some (.v a2), none, none, none] []) := rfl
theorem u_law_lies (a0 a1 a2 : D) : m_law_lies [a0, a1, a2] = finO (b_law_lies [some (.v a0), some (.v a1), some (.v a2), none, none, none, none, none] []) := rfl
theorem u_law_rises (a0 : D) : m_law_rises [a0] = finO (b_law_rises [some (.v a0), none] []) := rfl
theorem u_law_is_reach (a0 : D) : m_law_is_reach [a0] = finO (b_law_is_reach [some (.v a0)] []) := rfl
theorem u_law_is_plot (a0 : D) : m_law_is_plot [a0] = finO (b_law_is_plot [some (.v a0), none, none] []) := rfl
theorem u_law_is_table (bt : Bool) (a0 a1 : D) : m_law_is_table bt [a0, a1] = finO (b_law_is_table bt [some (.v a0), some (.v a1), none, none] []) := rfl
theorem u_law_table (bt : Bool) (a0 a1 a2 : D) : m_law_table bt [a0, a1, a2] = finO (b_law_table bt [some (.v a0), some (.v a1), some (.v a2), none, none, none] []) := rfl
theorem u_law_scale (a0 : D) : m_law_scale [a0] = finO (b_law_scale [some (.v a0)] []) := rfl
theorem u_law_spot (a0 a1 a2 a3 : D) : m_law_spot [a0, a1, a2, a3] = finO (b_law_spot [some (.v a0), some (.v a1), some (.v a2), some (.v a3), none, none, none, none, none] []) := rfl
theorem u_law_at (a0 a1 a2 : D) : n_law_at [a0, a1, a2] = finNO (b_law_at [some (.v a0), some (.v a1), some (.v a2)] []) := rfl
theorem u_law_sliced (bt : Bool) (a0 a1 a2 a3 a4 : D) : m_law_sliced bt [a0, a1, a2, a3, a4] = finO (b_law_sliced bt [some (.v a0), some (.v a1), some (.v a2), some (.v a3), some (.v a4), none, none, none, none, none] []) := rfl
theorem u_law (bt : Bool) (a0 : D) : m_law bt [a0] = finO (b_law bt [some (.v a0), none, none, none, none, none, none, none, none, none] []) := rfl
end LW
namespace LW
open PySem HW
noncomputable abbrev Rc := Bool × List Int
noncomputable abbrev rD (r : Rc) : D := .tup [.bl r.1, .tup (r.2.map .int)]
noncomputable abbrev sD (p : Int × Rc) : D := .tup [.int p.1, rD p.2]
end LW
namespace LW
open PySem HW
theorem ok_tup {n : Nat} {xs : List D} (h : okDs n xs = true) : okD (n + 1) (.tup xs) = true := by simpa [okD] using h
theorem ok_fl {n : Nat} {xs : List D} (h : okDs n xs = true) : okD (n + 1) (.fl xs) = true := by simpa [okD] using h
theorem oks_cons {n : Nat} {x : D} {xs : List D} (h : okD n x = true) (h' : okDs n xs = true) : okDs n (x :: xs) = true := by simp [okDs, h, h']
theorem oks_nil {n : Nat} : okDs n [] = true := by cases n <;> rfl
theorem ok_rDn {n : Nat} (r : Rc) : okD (n + 2) (rD r) = true := ok_tup (oks_cons ok_bl (oks_cons (ok_tup (okDs_ints _)) oks_nil))
theorem ok_sDn {n : Nat} (p : Int × Rc) : okD (n + 3) (sD p) = true := ok_tup (oks_cons ok_int (oks_cons (ok_rDn _) oks_nil))
theorem oks_map {α : Type} {n : Nat} {f : α -> D} (h : ∀ a, okD n (f a) = true) : ∀ xs : List α, okDs n (xs.map f) = true
 | [] => oks_nil
 | x :: xs => oks_cons (h x) (oks_map h xs)
noncomputable abbrev pD (g : Rc) (qs : List (Int × Rc)) : D := .tup [rD g, .tup (qs.map sD)]
theorem ok_pDn {n : Nat} (g : Rc) (qs : List (Int × Rc)) : okD (n + 5) (pD g qs) = true := ok_tup (oks_cons (ok_rDn _) (oks_cons (ok_tup (oks_map (fun p => ok_sDn p) qs)) oks_nil))
theorem ok_rD (r : Rc) : okD 60 (rD r) = true := ok_rDn r
theorem ok_pD (g : Rc) (qs : List (Int × Rc)) : okD 60 (pD g qs) = true := ok_pDn g qs
theorem eq_rD (r s : Rc) : eqD (rD r) (rD s) = decide (r = s) := by
 obtain ⟨a, xs⟩ := r; obtain ⟨b, ys⟩ := s
 simp only [rD, eqD, eqDs, eqDs_ints, Bool.and_true, Prod.mk.injEq]
 cases a <;> cases b <;> simp
theorem eq_sD (p q : Int × Rc) : eqD (sD p) (sD q) = decide (p = q) := by
 obtain ⟨a, r⟩ := p; obtain ⟨b, s⟩ := q
 have := eq_rD r s
 simp only [sD, eqD, eqDs, Bool.and_true, Prod.mk.injEq, Bool.decide_and] at this ⊢
 rw [this]
 congr 1
theorem eqs_map {α : Type} [DecidableEq α] {f : α -> D} (h : ∀ a b, eqD (f a) (f b) = decide (a = b)) : ∀ xs ys : List α, eqDs (xs.map f) (ys.map f) = decide (xs = ys)
 | [], [] => by simp [eqDs]
 | [], _ :: _ => by simp [eqDs]
 | _ :: _, [] => by simp [eqDs]
 | x :: xs, y :: ys => by simp only [List.map_cons, eqDs, h, eqs_map h xs ys, List.cons.injEq, Bool.decide_and]
theorem eq_pD (g h : Rc) (ps qs : List (Int × Rc)) : eqD (pD g ps) (pD h qs) = decide (g = h /\ ps = qs) := by
 show (eqD (rD g) (rD h) && (eqDs (ps.map sD) (qs.map sD) && true)) = _
 rw [eq_rD, eqs_map eq_sD, Bool.and_true, Bool.decide_and]
theorem flats_ints : ∀ xs : List Int, flatDs (xs.map .int) = true
 | [] => rfl
 | x :: xs => by simp [flatDs, flatD, flats_ints xs]
theorem flat_rD (r : Rc) : flatD (rD r) = true := by simp [rD, flatD, flatDs, flats_ints]
theorem flat_sDs : ∀ ps : List (Int × Rc), flatDs (ps.map sD) = true
 | [] => rfl
 | p :: ps => by
  show ((true && (flatD (rD p.2) && true)) && flatDs (ps.map sD)) = true
  rw [flat_rD, flat_sDs ps]; rfl
theorem flat_pD (g : Rc) (ps : List (Int × Rc)) : flatD (pD g ps) = true := by
 have := flat_rD g
 simp only [pD, flatD, flatDs, flat_sDs, Bool.and_true] at *
 exact this
abbrev Up (ps : List (Int × Rc)) : Prop := ps.Pairwise fun a b => a.1 < b.1
def Dif : Rc -> List (Int × Rc) -> Prop
 | _, [] => True
 | g, p :: ps => p.2 ≠ g /\ Dif p.2 ps
noncomputable def ra : Rc -> List (Int × Rc) -> Int -> Rc
 | g, [], _ => g
 | g, p :: ps, t => if t < p.1 then g else ra p.2 ps t
theorem ra_late : ∀ (g : Rc) (ps : List (Int × Rc)) (t : Int), (∀ p ∈ ps, t < p.1) -> ra g ps t = g
 | _, [], _, _ => rfl
 | g, p :: ps, t, h => by unfold ra; rw [if_pos (h p List.mem_cons_self)]
end LW
namespace LW
open PySem HW
theorem at_map {α : Type} {f : α -> D} {xs : List α} {k : Nat} {a : α} (h : xs[k]? = some a) : L2.atI (xs.map f) (k : Int) = some (f a) := at_int (by omega) (by simp [h])
noncomputable def lst : Rc -> List (Int × Rc) -> Rc
 | g, [] => g
 | _, p :: ps => lst p.2 ps
theorem lst_snoc : ∀ (g : Rc) (l : List (Int × Rc)) (p), lst g (l ++ [p]) = p.2
 | _, [], _ => rfl
 | _, q :: l, p => lst_snoc q.2 l p
end LW
namespace LW
open PySem HW
theorem reach_at_eq (g : Rc) (qs : List (Int × Rc)) (t : Int) : m_reach_at [pD g qs, .int t] = some (rD (ra g qs t)) := by
 rw [u_reach_at]
 push_cast [b_reach_at, pD]
 generalize hA : R.v (D.tup [rD g, .tup (List.map sD qs)]) = A
 clear hA
 have key : ∀ (qs : List (Int × Rc)) (g : Rc) (x3 : Option R), ∃ x3',
   loop (gNm 3) l_reach_at_0 (qs.map sD) [some A, some (.v (.int t)), some (.v (rD g)), x3] [] = some (.nx [some A, some (.v (.int t)), some (.v (rD (ra g qs t))), x3'] []) := by
  intro qs
  induction qs with
  | nil => intro g x3; exact ⟨x3, rfl⟩
  | cons p ps ih =>
   intro g x3
   rw [List.map_cons, loop_cons]
   by_cases e : t < p.1
   ·refine ⟨some (.v (sD p)), ?_⟩
    have he : decide (t < p.1) = true := decide_eq_true e
    push_cast [l_reach_at_0, sD, he]
    rw [ra, if_pos e]
   ·obtain ⟨x', hh⟩ := ih p.2 (some (.v (sD p)))
    refine ⟨x', ?_⟩
    have he : decide (t < p.1) = false := decide_eq_false e
    push_cast [l_reach_at_0, sD, he] at hh ⊢
    rw [hh, ra, if_neg e]
 obtain ⟨x', h⟩ := key qs g none
 rw [h]
 push_cast [HW.sz2]
end LW
namespace LW
open PySem HW
noncomputable abbrev rowD (r : List Int) : D := .tup (r.map .int)
noncomputable abbrev NS : D := .tup [.tup [.bl false, .tup []], .tup []]
theorem ok_NS : okD 60 NS = true := rfl
noncomputable abbrev Ent := List Int × D
noncomputable abbrev eD (e : Ent) : D := .tup [rowD e.1, e.2]
end LW
namespace LW
open PySem HW
theorem emod_b (i : Int) {j : Int} (h : 0 < j) : 0 <= i % j /\ i % j < j := ⟨Int.emod_nonneg _ (by omega), Int.emod_lt_of_pos _ h⟩
theorem lke {cs : List Cell} {c : Cell} : (cs ++ [c])[cs.length]? = some c := by simp
theorem stir_ex (c k : Int) (hk : 0 <= k /\ k < 1000) : ∃ n : Int, m_law_stir [.int c, .int k] = some (.int n) /\ 0 <= n /\ n < 2147483629 := by
 have b1 := emod_b c (j := 2147483629) (by decide)
 have b2 := emod_b ((c % 2147483629 + 1) * 1103515245) (j := 2147483629) (by decide)
 obtain ⟨x, hx⟩ : ∃ x, x = (c % 2147483629 + 1) * 1103515245 % 2147483629 := ⟨_, rfl⟩
 have b3 := emod_b (x * x + k * 69621 + 12345) (j := 2147483587) (by decide)
 refine ⟨_, ?_, emod_b (((x * x + k * 69621 + 12345) % 2147483587) * ((x * x + k * 69621 + 12345) % 2147483587)) (j := 2147483629) (by decide)⟩
 rw [u_law_stir]
 push_cast [b_law_stir, ev_mod (i := c) (j := 2147483629) (by decide), ev_mulL (i := c % 2147483629 + 1) (j := 1103515245) (by omega), ev_mod (i := (c % 2147483629 + 1) * 1103515245) (j := 2147483629) (by decide), ← hx, ev_mulL (i := x) (j := x) (by omega), ev_mulL (i := k) (j := 69621) (by omega), ev_mod (i := x * x + k * 69621 + 12345) (j := 2147483587) (by decide), ev_mulL (i := (x * x + k * 69621 + 12345) % 2147483587) (j := (x * x + k * 69621 + 12345) % 2147483587) (by omega), ev_mod (j := 2147483629) (by decide)]
theorem reach_ex (n s : Int) (hs : 0 < s) : ∃ r : Rc, m_law_reach [.int n, .int s] = some (rD r) /\ r.2.Pairwise (· < ·) /\ r.2.length <= 3 := by
 rw [u_law_reach]
 have b1 := emod_b (n / 5) (j := 3) (by decide)
 have b2 := emod_b (n / 15) (j := 2) (by decide)
 have b3 := emod_b n (j := 5) (by decide)
 obtain ⟨m, hm⟩ : ∃ m : Nat, (n / 5 % 3 + n / 15 % 2).toNat = m := ⟨_, rfl⟩
 have hm3 : m <= 3 := by omega
 push_cast [b_law_reach, ev_mod (i := n) (j := 5) (by decide), ev_div (i := n) (j := 15) (by decide) (by decide), ev_div (i := n) (j := 5) (by decide) (by decide), ev_mod (i := n / 5) (j := 3) (by decide), ev_mod (i := n / 15) (j := 2) (by decide), ev_r11 (j := n / 5 % 3 + n / 15 % 2) (by omega), hm]
 obtain ⟨ρ', μ', e, at', es, rest, x5, rfl, rfl, h1, h2, h3, h4⟩ := loop_range (g := gNm 5) (b := l_law_reach_0) (ρ := [some (.v (.int n)), some (.v (.int s)), some (.p 0), some (.v (.int (n % 5 - 2))), some (.v (.int (n / 15))), none]) (μ := [.lst []]) m
  (fun i ρ μ => ∃ (at' : Int) (es : List Int) (rest : Int) (x5 : Option R), ρ = [some (.v (.int n)), some (.v (.int s)), some (.p 0), some (.v (.int at')), some (.v (.int rest)), x5] /\ μ = [.lst (es.map .int)] /\ es.Pairwise (· < ·) /\ (∀ e ∈ es, e <= at' * s) /\ es.length <= i /\ (-(2 : Int) <= at' /\ at' <= 2 + 4 * (i : Int)))
  ⟨n % 5 - 2, [], n / 15, none, rfl, rfl, .nil, (fun e he => by cases he), by simp, by omega⟩ (by
   rintro i hi ρ μ ⟨at', es, rest, x5, rfl, rfl, h1, h2, h3, h4⟩
   have b4 := emod_b (rest / 2) (j := 4) (by decide)
   have hlen : (es.map D.int).length < sizeLine := small' (by simp; omega)
   have hgt : at' * s < (at' + 1 + rest / 2 % 4) * s := Int.mul_lt_mul_of_pos_right (by omega) hs
   refine ⟨[some (.v (.int n)), some (.v (.int s)), some (.p 0), some (.v (.int (at' + 1 + rest / 2 % 4))), some (.v (.int (rest / 8))), some (.v (.int (i : Int)))], [.lst ((es ++ [(at' + 1 + rest / 2 % 4) * s]).map .int)], ?_, at' + 1 + rest / 2 % 4, es ++ [(at' + 1 + rest / 2 % 4) * s], rest / 8, _, rfl, rfl, List.pairwise_append.mpr ⟨h1, List.pairwise_singleton _ _, fun a ha b hb => ?_⟩, fun e he => ?_, by simp; omega, by omega⟩
   ·push_cast [l_law_reach_0, ev_div (i := rest) (j := 2) (by decide) (by decide), ev_mod (i := rest / 2) (j := 4) (by decide), ev_mulL (i := at' + 1 + rest / 2 % 4) (j := s) (by omega), hlen, ev_div (i := rest) (j := 8) (by decide) (by decide), List.map_append]
   ·rw [List.mem_singleton.mp hb]; have := h2 a ha; omega
   ·rcases List.mem_append.mp he with he | he
    ·have := h2 e he; omega
    ·rw [List.mem_singleton.mp he]; exact Int.le_refl _)
 rw [e]
 push_cast [ev_mod (i := rest) (j := 5) (by decide)]
 exact ⟨(_, es), rfl, h1, by show es.length <= 3; omega⟩
structure PG (g : Rc) (qs : List (Int × Rc)) : Prop where
 up : Up qs
 dif : Dif g qs
 gr : g.2.Pairwise (· < ·) /\ g.2.length <= 3
 rs : ∀ p ∈ qs, p.2.2.Pairwise (· < ·) /\ p.2.2.length <= 3
 n : qs.length <= 3
theorem dif_snoc : ∀ (g : Rc) (l : List (Int × Rc)) (p : Int × Rc), Dif g l -> p.2 ≠ lst g l -> Dif g (l ++ [p])
 | _, [], _, _, h => ⟨h, trivial⟩
 | _, q :: l, p, hd, h => ⟨hd.1, dif_snoc q.2 l p hd.2 h⟩
theorem plot_ex (c s : Int) (hs : 0 < s) : ∃ (g : Rc) (qs : List (Int × Rc)), m_law_plot [.int c, .int 1, .int s] = some (pD g qs) /\ PG g qs := by
 rw [u_law_plot]
 obtain ⟨n, hn, hn0, hn1⟩ := stir_ex c 1 (by decide)
 obtain ⟨n9, hn9, hn90, hn91⟩ := stir_ex c 10 (by decide)
 obtain ⟨P, hP⟩ : ∃ P : Int, P = 10 ^ (30 : Int).toNat := ⟨_, rfl⟩
 have hpow : ∀ μ : Store, powD (.v (.int 10)) (.v (.int 30)) μ = some (.v (.int P), μ) := fun μ => by rw [ev_pow (by decide), hP]
 have hP0 : 0 < P := by rw [hP]; exact Int.pow_pos (by decide)
 clear hP
 have b2 := emod_b (n / 80) (j := 2) (by decide)
 obtain ⟨f, hf, hf0⟩ : ∃ f : Int, L2.atI [D.int 1, D.int P] (n / 80 % 2) = some (.int f) /\ 0 < f := by
  have : n / 80 % 2 = 0 \/ n / 80 % 2 = 1 := by omega
  rcases this with h | h <;> rw [h]
  ·exact ⟨1, rfl, by decide⟩
  ·exact ⟨P, rfl, hP0⟩
 obtain ⟨g, hg, hgr⟩ : ∃ g : Rc, thIfS (some (n % 4 == 0, [])) (sSet 4 (fCall m_law_reach 2 (fCons (fFz (fOp divD (fVar 3) (fK (.int 4)))) (fCons (fFz (fVar 2)) fNil)))) sNext
   [some (.v (.int c)), some (.v (.int 1)), some (.v (.int s)), some (.v (.int n)), some (.v (.tup [.bl false, .tup []])), none, none, none, none, none] =
   some (.nx [some (.v (.int c)), some (.v (.int 1)), some (.v (.int s)), some (.v (.int n)), some (.v (rD g)), none, none, none, none, none] []) /\ g.2.Pairwise (· < ·) /\ g.2.length <= 3 := by
  obtain ⟨r, hr, hr1, hr2⟩ := reach_ex (n / 4) s hs
  cases n % 4 == 0 with
  | true => exact ⟨r, by push_cast [ev_div (i := n) (j := 4) (by decide) (by decide), hr], hr1, hr2⟩
  | false => exact ⟨(false, []), by push_cast [HW.sz2]; rfl, .nil, by decide⟩
 have b3 := emod_b (n / 16) (j := 5) (by decide)
 have b4 := emod_b (n / 4) (j := 4) (by decide)
 obtain ⟨m, hm⟩ : ∃ m : Nat, (n / 4 % 4).toNat = m := ⟨_, rfl⟩
 have hm3 : m <= 3 := by omega
 push_cast [b_law_plot, hn, ev_mod (i := n) (j := 4) (by decide)]
 rw [hg]
 push_cast [ev_div (i := n) (j := 16) (by decide) (by decide), ev_mod (i := n / 16) (j := 5) (by decide), ev_div (i := n) (j := 4) (by decide) (by decide), ev_mod (i := n / 4) (j := 4) (by decide), ev_r11 (j := n / 4 % 4) (by omega), hm]
 obtain ⟨ρ', μ', e, last, turn, qs, x8, x9, rfl, ⟨cs, rfl⟩, h1, h2, h3, h4, h5, h6, h7⟩ := loop_range (g := gNm 8) (b := l_law_plot_0) (ρ := [some (.v (.int c)), some (.v (.int 1)), some (.v (.int s)), some (.v (.int n)), some (.v (rD g)), some (.v (rD g)), some (.v (.int (n / 16 % 5 - 1))), some (.p 0), none, none]) (μ := [.lst []]) m
  (fun i ρ μ => ∃ (last : Rc) (turn : Int) (qs : List (Int × Rc)) (x8 x9 : Option R), ρ = [some (.v (.int c)), some (.v (.int 1)), some (.v (.int s)), some (.v (.int n)), some (.v (rD g)), some (.v (rD last)), some (.v (.int turn)), some (.p 0), x8, x9] /\ (∃ cs : List Cell, μ = .lst (qs.map sD) :: cs) /\ Up qs /\ Dif g qs /\ last = lst g qs /\ (∀ p ∈ qs, p.1 < turn * f) /\ qs.length <= i /\ (∀ p ∈ qs, p.2.2.Pairwise (· < ·) /\ p.2.2.length <= 3) /\ (-(1 : Int) <= turn /\ turn <= 3 + 3 * (i : Int)))
  ⟨g, n / 16 % 5 - 1, [], none, none, rfl, ⟨[], rfl⟩, .nil, trivial, rfl, (fun _ h => by cases h), by simp, (fun _ h => by cases h), by omega⟩ (by
   rintro i hi ρ μ ⟨last, turn, qs, x8, x9, rfl, ⟨cs, rfl⟩, h1, h2, h3, h4, h5, h6, h7⟩
   have hi3 : (i : Int) <= 2 := by omega
   obtain ⟨k, hk, hk0, hk1⟩ := stir_ex c (1 + 5 + (i : Int)) (by omega)
   obtain ⟨r, hr, hr1, hr2⟩ := reach_ex k s hs
   have b5 := emod_b (n9 / 3) (j := 3) (by decide)
   have hlen : (qs.map sD).length < sizeLine := small' (by simp; omega)
   have hgt : turn * f < (turn + 1 + n9 / 3 % 3) * f := Int.mul_lt_mul_of_pos_right (by omega) hf0
   have hn9' : m_law_stir [.int c, .int (1 + 9)] = some (.int n9) := hn9
   by_cases hz : r = last
   ·have hz' : decide (r = last) = true := decide_eq_true hz
    refine ⟨_, _, ?_, last, turn + 1 + n9 / 3 % 3, qs, some (.v (.int (i : Int))), some (.v (rD r)), rfl, ⟨cs, rfl⟩, h1, h2, h3, fun p hp => by have := h4 p hp; omega, by omega, h6, by omega⟩
    push_cast [l_law_plot_0, hk, hr, ok_rD, eq_rD, hz', hn9', ev_div (i := n9) (j := 3) (by decide) (by decide), ev_mod (i := n9 / 3) (j := 3) (by decide)]
   ·have hz' : decide (r = last) = false := decide_eq_false hz
    refine ⟨_, _, ?_, r, turn + 1 + n9 / 3 % 3, qs ++ [(turn * f, r)], some (.v (.int (i : Int))), some (.v (rD r)), rfl, ⟨cs ++ [.lst [.int 1, .int P]], rfl⟩, List.pairwise_append.mpr ⟨h1, List.pairwise_singleton _ _, fun a ha b hb => ?_⟩, dif_snoc g qs _ h2 (by rw [← h3]; exact hz), by rw [lst_snoc], fun p hp => ?_, by simp; omega, fun p hp => ?_, by omega⟩
    ·push_cast [l_law_plot_0, hk, hr, ok_rD, eq_rD, hz', hn9', ev_div (i := n9) (j := 3) (by decide) (by decide), ev_mod (i := n9 / 3) (j := 3) (by decide), hpow, sz2, ev_div (i := n) (j := 80) (by decide) (by decide), ev_mod (i := n / 80) (j := 2) (by decide), hf, ev_mulL (i := turn) (j := f) (by omega), hlen, List.map_append, lke]
    ·rw [List.mem_singleton.mp hb]; exact h4 a ha
    ·rcases List.mem_append.mp hp with hp | hp
     ·have := h4 p hp; omega
     ·rw [List.mem_singleton.mp hp]; exact hgt
    ·rcases List.mem_append.mp hp with hp | hp
     ·exact h6 p hp
     ·rw [List.mem_singleton.mp hp]; exact ⟨hr1, hr2⟩)
 rw [e]
 push_cast [HW.sz2]
 exact ⟨g, qs, rfl, h1, h2, hgr, h6, by omega⟩
end LW
namespace LW
open PySem HW
theorem pick6 (a b c d e f : Int) (i : Int) (h : 0 <= i /\ i < 6) : ∃ x : Int, L2.atI [D.int a, .int b, .int c, .int d, .int e, .int f] i = some (.int x) := by
 have : i = 0 \/ i = 1 \/ i = 2 \/ i = 3 \/ i = 4 \/ i = 5 := by omega
 rcases this with h | h | h | h | h | h <;> rw [h] <;> exact ⟨_, rfl⟩
theorem sz6 : 6 <= sizeLine := by decide
theorem sz1 : 1 <= sizeLine := by decide
theorem row_ex (c : Int) (w : Nat) (hw : w <= 3) : ∃ r : List Int, m_law_row [.int c, .int 1, .int (w : Int)] = some (.key r) /\ r.length = w := by
 rw [u_law_row]
 obtain ⟨n, hn, hn0, hn1⟩ := stir_ex c 18 (by decide)
 obtain ⟨P, hP⟩ : ∃ P : Int, P = 10 ^ (50 : Int).toNat := ⟨_, rfl⟩
 have hpow : ∀ μ : Store, powD (.v (.int 10)) (.v (.int 50)) μ = some (.v (.int P), μ) := fun μ => by rw [ev_pow (by decide), hP]
 have hP0 : 0 < P := by rw [hP]; exact Int.pow_pos (by decide)
 clear hP
 have hn' : m_law_stir [.int c, .int (1 + 17)] = some (.int n) := hn
 push_cast [b_law_row, hn', ev_r11 (j := (w : Int)) (by omega), Int.toNat_natCast]
 obtain ⟨ρ', μ', e, k, r, x5, rfl, ⟨cs, rfl⟩, h1⟩ := loop_range (g := gNm 5) (b := l_law_row_0) (ρ := [some (.v (.int c)), some (.v (.int 1)), some (.v (.int (w : Int))), some (.v (.int n)), some (.p 0), none]) (μ := [.lst []]) w
  (fun i ρ μ => ∃ (k : Int) (r : List Int) (x5 : Option R), ρ = [some (.v (.int c)), some (.v (.int 1)), some (.v (.int (w : Int))), some (.v (.int k)), some (.p 0), x5] /\ (∃ cs : List Cell, μ = .lst (r.map .int) :: cs) /\ r.length = i)
  ⟨n, [], none, rfl, ⟨[], rfl⟩, rfl⟩ (by
   rintro i hi ρ μ ⟨k, r, x5, rfl, ⟨cs, rfl⟩, h1⟩
   have b := emod_b k (j := 6) (by decide)
   obtain ⟨x, hx⟩ := pick6 0 1 1 (-1) 2 (c % P) (k % 6) b
   have hlen : (r.map D.int).length < sizeLine := small' (by simp; omega)
   refine ⟨_, _, ?_, k / 6, r ++ [x], some (.v (.int (i : Int))), rfl, ⟨cs ++ [.lst [.int 0, .int 1, .int 1, .int (-1), .int 2, .int (c % P)]], rfl⟩, by simp; omega⟩
   push_cast [l_law_row_0, hpow, ev_mod (i := c) (j := P) hP0, sz6, ev_mod (i := k) (j := 6) (by decide), lke, hx, hlen, ev_div (i := k) (j := 6) (by decide) (by decide), List.map_append])
 rw [e]
 refine ⟨r, ?_, h1⟩
 push_cast [keyD, Option.bind_some]
abbrev GP (v : D) : Prop := ∃ (g : Rc) (qs : List (Int × Rc)), v = pD g qs /\ PG g qs /\ ¬ (g = (false, []) /\ qs = [])
structure KG (w : Nat) (kvs : List (List Int × D)) : Prop where
 nd : (kvs.map (·.1)).Nodup
 len : ∀ p ∈ kvs, p.1.length = w
 val : ∀ p ∈ kvs, GP p.2
theorem putT_keys {kvs : List (List Int × D)} {k : List Int} {d : D} : (putT kvs k d).map (·.1) = if k ∈ kvs.map (·.1) then kvs.map (·.1) else kvs.map (·.1) ++ [k] := by
 unfold putT
 by_cases h : k ∈ kvs.map (·.1)
 ·have h' : (kvs.any fun p => decide (p.1 = k)) = true := by
   obtain ⟨p, hp, e⟩ := List.mem_map.mp h
   exact List.any_eq_true.mpr ⟨p, hp, by simpa using e⟩
  rw [if_pos h', if_pos h, List.map_map]
  refine List.map_congr_left fun p _ => ?_
  simp only [Function.comp]
  split <;> rfl
 ·have h' : ¬ (kvs.any fun p => decide (p.1 = k)) = true := fun z => by
   obtain ⟨p, hp, e⟩ := List.any_eq_true.mp z
   exact h (List.mem_map.mpr ⟨p, hp, by simpa using e⟩)
  rw [if_neg h', if_neg h, List.map_append]; rfl
theorem putT_mem {kvs : List (List Int × D)} {k : List Int} {d : D} {p : List Int × D} (h : p ∈ putT kvs k d) : p ∈ kvs \/ (p.1 = k /\ p.2 = d) := by
 unfold putT at h
 split at h
 ·obtain ⟨q, hq, e⟩ := List.mem_map.mp h
  split at e
  ·rename_i c; subst e; exact .inr ⟨c, rfl⟩
  ·subst e; exact .inl hq
 ·rcases List.mem_append.mp h with h | h
  ·exact .inl h
  ·rw [List.mem_singleton.mp h]; exact .inr ⟨rfl, rfl⟩
theorem putT_len {kvs : List (List Int × D)} {k : List Int} {d : D} : (putT kvs k d).length <= kvs.length + 1 := by
 unfold putT; split <;> simp
theorem KG.put {w : Nat} {kvs : List (List Int × D)} (h : KG w kvs) {k : List Int} {d : D} (hk : k.length = w) (hd : GP d) : KG w (putT kvs k d) := by
 refine ⟨?_, fun p hp => ?_, fun p hp => ?_⟩
 ·rw [putT_keys]
  split
  ·exact h.nd
  ·rename_i c
   rw [List.nodup_append]
   exact ⟨h.nd, by simp, fun a ha b hb => by rw [List.mem_singleton.mp hb]; rintro rfl; exact c ha⟩
 ·rcases putT_mem hp with q | q
  ·exact h.len p q
  ·rw [q.1]; exact hk
 ·rcases putT_mem hp with q | q
  ·exact h.val p q
  ·rw [q.2]; exact hd
theorem valT_mem {kvs : List (List Int × D)} {k : List Int} (h : k ∈ kvs.map (·.1)) : ∃ v, valT kvs k = some v /\ (k, v) ∈ kvs := by
 unfold valT
 cases e : kvs.find? fun p => decide (p.1 = k) with
 | none =>
  obtain ⟨p, hp, rfl⟩ := List.mem_map.mp h
  have := List.find?_eq_none.mp e p hp
  simp at this
 | some p =>
  have h1 := List.find?_some e
  have h2 := List.mem_of_find?_eq_some e
  have h1 : p.1 = k := by simpa using h1
  exact ⟨p.2, rfl, by rw [← h1]; exact h2⟩
theorem eqN (g : Rc) (qs : List (Int × Rc)) : eqD (pD g qs) NS = decide (g = (false, []) /\ qs = []) := by
 rw [show NS = pD (false, []) [] from rfl, eq_pD]
structure Tab (w : Nat) (T : List Ent) : Prop where
 row : ∀ e ∈ T, e.1.length = w
 val : ∀ e ∈ T, GP e.2
 up : LUp (T.map (·.1))
 n : T.length <= 40
theorem table_ex (bt : Bool) (ns : List Int) (w : Nat) (hw : w <= 3) (s : Int) (hs : 0 < s) (hn : ns.length <= 40) : ∃ T : List Ent, m_law_table bt [.fl (ns.map .int), .int (w : Int), .int s] = some (.fl (T.map eD)) /\ Tab w T := by
 rw [u_law_table]
 push_cast [b_law_table, fDnT]
 obtain ⟨st, e, h1, h2⟩ := loop_inv (g := gNm 4) (b := l_law_table_0 bt) D.int
  (fun st : List (List Int × D) × Option R × Option R => ([some (.v (.fl (ns.map .int))), some (.v (.int (w : Int))), some (.v (.int s)), some (.p 0), st.2.1, st.2.2], [Cell.dt st.1]))
  (fun st rem => KG w st.1 /\ st.1.length + rem.length <= 40) ns ([], none, none) ⟨⟨List.nodup_nil, (fun _ h => by cases h), (fun _ h => by cases h)⟩, by simpa using hn⟩ (by
   rintro ⟨kvs, x4, x5⟩ c rem ⟨h1, h2⟩
   simp only [List.length_cons] at h2
   obtain ⟨g, qs, hp, pg⟩ := plot_ex c s hs
   obtain ⟨r, hr, hrl⟩ := row_ex c w hw
   have okn := ok_NS
   by_cases hz : g = (false, []) /\ qs = []
   ·have hz' : eqD (pD g qs) NS = true := by rw [eqN]; exact decide_eq_true hz
    refine ⟨(kvs, some (.v (.int c)), some (.v (pD g qs))), ?_, h1, by simp only; omega⟩
    push_cast [l_law_table_0, hp, ok_pD, okn, hz']
   ·have hz' : eqD (pD g qs) NS = false := by rw [eqN]; exact decide_eq_false hz
    have hk : kvs.length < 1000 := by omega
    refine ⟨(putT kvs r (pD g qs), some (.v (.int c)), some (.v (pD g qs))), ?_, h1.put hrl ⟨g, qs, rfl, pg, hz⟩, by have := putT_len (kvs := kvs) (k := r) (d := pD g qs); simp only; omega⟩
    push_cast [l_law_table_0, hp, ok_pD, okn, hz', gSubT, hr, Option.bind_some, dtOf, hk])
 have e' : loop (gNm 4) (l_law_table_0 bt) (ns.map .int) [some (.v (.fl (ns.map .int))), some (.v (.int (w : Int))), some (.v (.int s)), some (.p 0), none, none] [Cell.dt []] = _ := e
 rw [e']
 obtain ⟨kvs, x4, x5⟩ := st
 simp only [List.length_nil, Nat.add_zero] at h1 h2
 have c1 : kvs.length < 64 /\ (kvs.length < 2 \/ ∀ p ∈ kvs, p.1 ≠ []) := by
  refine ⟨by omega, ?_⟩
  cases w with
  | succ w => exact .inr fun p hp z => by have := h1.len p hp; rw [z] at this; simp at this
  | zero =>
   left
   have nd := h1.nd
   match kvs, h1, nd with
   | [], _, _ => simp
   | [_], _, _ => simp
   | p :: q :: r, h1, nd =>
    have a := List.eq_nil_of_length_eq_zero (h1.len p (by simp))
    have b := List.eq_nil_of_length_eq_zero (h1.len q (by simp))
    simp [a, b] at nd
 have hso : ∀ μ : Store, srtT [.p 0] (Cell.dt kvs :: μ) = some (.p (μ.length + 1), Cell.dt kvs :: (μ ++ [.lst ((lsort (kvs.map (·.1))).map D.key)])) := fun μ => by
  simp only [srtT, dtOf, List.getElem?_cons_zero, Option.bind_some, if_pos c1, List.length_cons, List.cons_append]
 obtain ⟨vf, hvf⟩ : ∃ vf : List Int -> D, ∀ k ∈ kvs.map (·.1), valT kvs k = some (vf k) /\ (k, vf k) ∈ kvs :=
  ⟨fun k => (valT kvs k).getD .non, fun k hk => by obtain ⟨v, e1, e2⟩ := valT_mem hk; show valT kvs k = some ((valT kvs k).getD .non) /\ (k, (valT kvs k).getD .non) ∈ kvs; rw [e1]; exact ⟨rfl, e2⟩⟩
 have hmem : ∀ k ∈ lsort (kvs.map (·.1)), k ∈ kvs.map (·.1) := fun k hk => (lsort_perm _).mem_iff.mp hk
 have hcm : ∀ μ : Store, compL (gNm 0) cYes (fTup (fCons (fUnk (fVar 0)) (fCons (fTIx (fVar 1) (fVar 0)) fNil))) ((lsort (kvs.map (·.1))).map D.key) [none, some (.p 0)] (Cell.dt kvs :: μ) = some ((lsort (kvs.map (·.1))).map (fun k => eD (k, vf k)), Cell.dt kvs :: μ) := fun μ =>
  comp_typed (rest := [some (.p 0)]) D.key (fun k => eD (k, vf k)) (lsort (kvs.map (·.1))) none (fun k hk => by
   have := (hvf k (hmem k hk)).1
   push_cast [fUnk, fTIx, dtOf, Option.bind_some, this])
 have hz : ((lsort (kvs.map (·.1))).map D.key).length <= sizeLine := small'' (by rw [List.length_map, (lsort_perm _).length_eq]; simp; omega)
 push_cast [hso, hz, hcm]
 refine ⟨(lsort (kvs.map (·.1))).map fun k => (k, vf k), by rw [List.map_map]; rfl, fun e he => ?_, fun e he => ?_, ?_, ?_⟩
 ·obtain ⟨k, hk, rfl⟩ := List.mem_map.mp he
  exact h1.len _ (hvf k (hmem k hk)).2
 ·obtain ⟨k, hk, rfl⟩ := List.mem_map.mp he
  exact h1.val _ (hvf k (hmem k hk)).2
 ·rw [List.map_map, show ((fun x : Ent => x.1) ∘ fun k => (k, vf k)) = id from rfl, List.map_id]
  exact lsort_up h1.nd
 ·rw [List.length_map, (lsort_perm _).length_eq, List.length_map]; exact h2
end LW
namespace LW
open PySem HW
theorem whole_int (i : Int) : m_law_whole [.int i] = some (.bl true) := rfl
theorem rises_gen (x : D) (ns : List Int) (hlen : ∀ μ : Store, lenD [.v x] μ = some (.v (.int (ns.length : Int)), μ)) (hix : ∀ (i : Int) (p : Int) (μ : Store), L2.atI (ns.map D.int) i = some (.int p) -> ixD (.v x) (.v (.int i)) μ = some (.v (.int p), μ)) (hu : ns.Pairwise (· < ·)) (hl : ns.length < 2000) : m_law_rises [x] = some (.bl true) := by
 rw [u_law_rises]
 have h62 : -(2 ^ 62 : Int) <= (ns.length : Int) /\ (ns.length : Int) < 2 ^ 62 := by omega
 obtain ⟨ρ', μ', e, x1, rfl, rfl⟩ := loop_range (g := gNm 1) (b := l_law_rises_0) (ρ := [some (.v x), none]) (μ := []) ns.length
  (fun i ρ μ => ∃ x1, ρ = [some (.v x), x1] /\ μ = []) ⟨none, rfl, rfl⟩ (by
   rintro i hi ρ μ ⟨x1, rfl, rfl⟩
   obtain ⟨p, hp⟩ : ∃ p, ns[i]? = some p := ⟨_, List.getElem?_eq_getElem hi⟩
   have c0 := fun μ => hix (i : Int) p μ (at_map hp)
   cases i with
   | zero =>
    have c1 : decide ((0 : Int) < ((0 : Nat) : Int)) = false := rfl
    have c0' : ∀ μ : Store, ixD (.v x) (.v (.int ((0 : Nat) : Int))) μ = some (.v (.int p), μ) := c0
    refine ⟨[some (.v x), some (.v (.int ((0 : Nat) : Int)))], [], ?_, _, rfl, rfl⟩
    push_cast [l_law_rises_0, ev_gnm, ev_G, ev_ifS, ev_tor, ev_tnot, ev_tru, ev_call, ev_cons, ev_fz, ev_op, ev_v0, ev_vs, ls_set0, ls_sets, ev_op1, ev_op2, c0', whole_int, c1]
   | succ j =>
    obtain ⟨q, hq⟩ : ∃ q, ns[j]? = some q := ⟨_, List.getElem?_eq_getElem (by omega)⟩
    have c1 : decide ((0 : Int) < ((j + 1 : Nat) : Int)) = true := decide_eq_true (by omega)
    have c2 : ((j + 1 : Nat) : Int) - 1 = (j : Int) := by omega
    have c3 := fun μ => hix (j : Int) q μ (at_map hq)
    have hlt : q < p := by
     obtain ⟨h1, h1'⟩ := List.getElem?_eq_some_iff.mp hq
     obtain ⟨h2, h2'⟩ := List.getElem?_eq_some_iff.mp hp
     rw [← h1', ← h2']
     exact List.pairwise_iff_getElem.mp hu j (j + 1) h1 h2 (by omega)
    have c4 : decide (p <= q) = false := decide_eq_false (by omega)
    refine ⟨[some (.v x), some (.v (.int ((j + 1 : Nat) : Int)))], [], ?_, _, rfl, rfl⟩
    push_cast [l_law_rises_0, ev_gnm, ev_G, ev_ifS, ev_tor, ev_tnot, ev_tru, ev_call, ev_cons, ev_fz, ev_op, ev_v0, ev_vs, ls_set0, ls_sets, ev_op1, ev_op2, c0, c2, c3, whole_int, c1, c4])
 push_cast [b_law_rises, ev_seq, ev_for, ev_r1, ev_ar, ev_cons, ev_v0, ev_nil, ev_cons1, ev_cons2, ev_ar1, hlen, ev_r11 h62, ev_for1, Int.toNat_natCast, e]
theorem rises_tup (ns : List Int) (hu : ns.Pairwise (· < ·)) (hl : ns.length < 2000) : m_law_rises [.tup (ns.map .int)] = some (.bl true) :=
 rises_gen _ ns (fun μ => by rw [ev_lenT, List.length_map]) (fun i p μ h => by push_cast [h]) hu hl
theorem rises_fl (ns : List Int) (hu : ns.Pairwise (· < ·)) (hl : ns.length < 2000) : m_law_rises [.fl (ns.map .int)] = some (.bl true) :=
 rises_gen _ ns (fun μ => by rw [ev_lenF, List.length_map]) (fun i p μ h => by push_cast [h]) hu hl
theorem t1 (xs : List D) (μ : Store) : isiD "tuple" (.v (.tup xs)) μ = some (.v (.bl true), μ) := rfl
theorem t2 (b : Bool) (μ : Store) : isiD "bool" (.v (.bl b)) μ = some (.v (.bl true), μ) := rfl
theorem t3 (xs : List D) (μ : Store) : isiD "list" (.v (.fl xs)) μ = some (.v (.bl true), μ) := rfl
theorem two : (((2 : Nat) : Int) == 2) = true := rfl
theorem isr_true (r : Rc) (hu : r.2.Pairwise (· < ·)) (hl : r.2.length < 2000) : m_law_is_reach [rD r] = some (.bl true) := by
 rw [u_law_is_reach]
 have h := rises_tup r.2 hu hl
 push_cast [b_law_is_reach, t1, t2, two, h]
theorem isp_true {g : Rc} {qs : List (Int × Rc)} (h : PG g qs) : m_law_is_plot [pD g qs] = some (.bl true) := by
 rw [u_law_is_plot]
 have rg := isr_true g h.gr.1 (by have := h.gr.2; omega)
 obtain ⟨⟨dn, x2⟩, e, hd, -⟩ := loop_inv (g := gNm 2) (b := l_law_is_plot_0) sD
  (fun st : List (Int × Rc) × Option R => ([some (.v (pD g qs)), some (.v (rD (lst g st.1))), st.2], ([] : Store)))
  (fun st rem => st.1 ++ rem = qs /\ True) qs ([], none) ⟨rfl, trivial⟩ (by
   rintro ⟨dn, x2⟩ q rem ⟨hd, -⟩
   simp only at hd
   have hq : q ∈ qs := by rw [← hd]; simp
   have rq := isr_true q.2 (h.rs q hq).1 (by have := (h.rs q hq).2; omega)
   have hne : q.2 ≠ lst g dn := by
    have key : ∀ (a : List (Int × Rc)) (g : Rc) (r : List (Int × Rc)), Dif g (a ++ q :: r) -> q.2 ≠ lst g a := by
     intro a
     induction a with
     | nil => intro g r hz; exact hz.1
     | cons p a ih => intro g r hz; exact ih p.2 r hz.2
    exact key dn g rem (by rw [hd]; exact h.dif)
   have hne' : decide (q.2 = lst g dn) = false := decide_eq_false hne
   refine ⟨(dn ++ [q], some (.v (sD q))), ?_, by simp only [List.append_assoc, List.singleton_append]; exact ⟨hd, trivial⟩⟩
   push_cast [l_law_is_plot_0, sD, t1, two, rq, ok_rD, eq_rD, hne', lst_snoc])
 rw [List.append_nil] at hd
 have hn := h.n
 have hz : (qs.map sD).length <= sizeLine := small'' (by simp; omega)
 have hc := comp_typed (f := fOp ixD (fVar 0) (fK (.int 0))) (μ := []) (rest := []) sD (fun q => D.int q.1) qs none (fun q _ => by push_cast [sD])
 have hcm : qs.map (fun q => D.int q.1) = (qs.map (·.1)).map D.int := by rw [List.map_map]; rfl
 rw [hcm] at hc
 have hz2 : ((qs.map (·.1)).map D.int).length <= sizeLine := small'' (by simp; omega)
 have hr := rises_fl (qs.map (·.1)) (List.pairwise_map.mpr h.up) (by simp; omega)
 have e' : loop (gNm 2) l_law_is_plot_0 (qs.map sD) [some (.v (.tup [rD g, .tup (qs.map sD)])), some (.v (rD g)), none] [] = _ := e
 push_cast [b_law_is_plot, pD, t1, two, rg]
 rw [e']
 push_cast [hz, hc, hz2, hr]
theorem comp_whole (ks : List Int) (μ : Store) : compL (gNm 0) cYes (fCall m_law_whole 1 (fCons (fFz (fVar 0)) fNil)) (ks.map .int) [none] μ = some (ks.map (fun _ => D.bl true), μ) :=
 comp_typed (rest := []) D.int (fun _ => D.bl true) ks none (fun k _ => by push_cast [whole_int])
theorem all_true : ∀ ks : List Int, boolsD (ks.map fun _ => D.bl true) = some (ks.map fun _ => true)
 | [] => rfl
 | k :: ks => by simp only [List.map_cons, boolsD, all_true ks, Option.bind_some]
end LW
namespace LW
open PySem HW
theorem llt_irr : ∀ a : List Int, HT2.llt a a = false
 | [] => rfl
 | x :: a => by simp [HT2.llt, llt_irr a]
theorem lup_nd {l : List (List Int)} (h : LUp l) : l.Nodup := h.imp fun {a b} h e => by subst e; rw [llt_irr] at h; cases h
theorem lsort_id {l : List (List Int)} (h : LUp l) : lsort l = l := lup_one (lsort_up (lup_nd h)) h (lsort_perm l)
theorem ints_mapD : ∀ ns : List Int, intsD (ns.map D.int) = some ns
 | [] => rfl
 | n :: ns => by simp only [List.map_cons, intsD, ints_mapD ns, Option.map_some]
theorem tupsI_rows : ∀ rows : List (List Int), tupsI (rows.map rowD) = some rows
 | [] => rfl
 | r :: rows => by
  have : tupI (rowD r) = some r := by unfold tupI; exact ints_mapD r
  simp only [List.map_cons, tupsI, this, tupsI_rows rows, Option.bind_some]
theorem ok_rows {n : Nat} (rows : List (List Int)) : okD (n + 3) (.fl (rows.map rowD)) = true := ok_fl (oks_map (fun r => ok_tup (okDs_ints r)) rows)
theorem eq_rows (a : List (List Int)) : eqD (.fl (a.map rowD)) (.fl (a.map rowD)) = true := by
 have : ∀ l : List (List Int), eqDs (l.map rowD) (l.map rowD) = true := by
  intro l
  induction l with
  | nil => rfl
  | cons x l ih => simp only [List.map_cons, eqDs, ih, Bool.and_true, rowD, eqD, eqDs_ints, decide_eq_true]
 simp only [eqD, this]
theorem Tab.few {w : Nat} {T : List Ent} (h : Tab w T) : (T.map (·.1)).length < 64 /\ ((T.map (·.1)).length < 2 \/ ∀ k ∈ T.map (·.1), k ≠ []) := by
 have hn := h.n
 refine ⟨by simp; omega, ?_⟩
 cases w with
 | succ w =>
  right
  intro k hk z
  obtain ⟨e, he, rfl⟩ := List.mem_map.mp hk
  have := h.row e he
  rw [z] at this
  simp at this
 | zero =>
  left
  have nd := lup_nd h.up
  match T, h, nd with
  | [], _, _ => simp
  | [_], _, _ => simp
  | p :: q :: r, h, nd =>
   have a := List.eq_nil_of_length_eq_zero (h.row p (by simp))
   have b := List.eq_nil_of_length_eq_zero (h.row q (by simp))
   simp [a, b] at nd
theorem ist_true (bt : Bool) {w : Nat} {T : List Ent} (h : Tab w T) (h3 : w <= 3) : m_law_is_table bt [.fl (T.map eD), .int (w : Int)] = some (.bl true) := by
 rw [u_law_is_table]
 obtain ⟨⟨μ, x2⟩, e, -⟩ := loop_inv (g := gNm 2) (b := l_law_is_table_0 bt) eD
  (fun st : Store × Option R => ([some (.v (.fl (T.map eD))), some (.v (.int (w : Int))), st.2, none], st.1))
  (fun st rem => ∀ e ∈ rem, e ∈ T) T ([], none) (fun _ h => h) (by
   rintro ⟨μ, x2⟩ e rem hm
   have he := hm e List.mem_cons_self
   obtain ⟨g, qs, hv, pg, hz⟩ := h.val e he
   have hw := h.row e he
   have hp := isp_true pg
   have hz' : eqD (pD g qs) NS = false := by rw [eqN]; exact decide_eq_false hz
   have hww : ((e.1.length : Int) == (w : Int)) = true := by rw [hw]; exact beq_self_eq_true _
   have hwl : e.1.length <= sizeLine := small'' (by omega)
   have cw := comp_whole e.1
   have at' := all_true e.1
   have hall : (e.1.map fun _ => true).all id = true := by simp
   have okn := ok_NS
   obtain ⟨r, v⟩ := e
   simp only at hv hw hww hwl cw at' hall
   subst hv
   refine ⟨(μ ++ [Cell.lst (r.map fun _ => D.bl true)], some (.v (eD (r, pD g qs)))), ?_, fun e he => hm e (List.mem_cons_of_mem _ he)⟩
   push_cast [l_law_is_table_0, eD, rowD, t1, two, hww, List.length_map, hwl, cw, at', hall, hp, ok_pD, okn, hz', lke, Bool.not_true])
 have hn := h.n
 have z1 : (T.map eD).length <= sizeLine := small'' (by simp; omega)
 have hc := comp_typed (f := fOp ixD (fVar 0) (fK (.int 0))) (μ := μ) (rest := []) eD (fun e => rowD e.1) T none (fun e _ => by push_cast [eD])
 have hcm : T.map (fun e => rowD e.1) = (T.map (·.1)).map rowD := by rw [List.map_map]; rfl
 rw [hcm] at hc
 have z2 : ((T.map (·.1)).map rowD).length <= sizeLine := small'' (by simp; omega)
 have ss : ssD (.p μ.length) (μ ++ [.lst ((T.map (·.1)).map rowD)]) = some (.p (μ ++ [Cell.lst ((T.map (·.1)).map rowD)]).length, μ ++ [.lst ((T.map (·.1)).map rowD)] ++ [.lst ((T.map (·.1)).map rowD)]) := by
  unfold ssD seqL
  simp only [lke, Option.bind_some, tupsI_rows]
  rw [if_pos ⟨lup_nd h.up, h.few⟩, lsort_id h.up]
 have e' : loop (gNm 2) (l_law_is_table_0 bt) (T.map eD) [some (.v (.fl (T.map eD))), some (.v (.int (w : Int))), none, none] [] = _ := e
 push_cast [b_law_is_table, t3]
 rw [e']
 generalize hrows : (T.map (·.1)).map rowD = rows at *
 have okr : okD 60 (.fl rows) = true := by rw [← hrows]; exact ok_rows _
 have eqr : eqD (.fl rows) (.fl rows) = true := by rw [← hrows]; exact eq_rows _
 have g1 : (μ ++ [Cell.lst rows] ++ [Cell.lst rows])[μ.length]? = some (.lst rows) := by
  rw [List.getElem?_append_left (by simp)]; exact lke
 have fs : fSS (fVar 3) [some (.v (.fl (T.map eD))), some (.v (.int (w : Int))), x2, some (.p μ.length)] (μ ++ [.lst rows]) = some (.p (μ ++ [Cell.lst rows]).length, μ ++ [.lst rows] ++ [.lst rows]) := ss
 push_cast [z1, hc, z2, fs, g1, lke, okr, eqr]
end LW
namespace LW
open PySem HW
noncomputable def cnt (r : Rc) (n : Int) : Nat := (r.2.filter fun e => decide (e <= n)).length
noncomputable def lieB (r : Rc) (n : Int) : Bool := if cnt r n % 2 = 0 then r.1 else !r.1
theorem comp_filter {α : Type} {c : FT} {f : FE} {μ : Store} {rest : Lo} (e out : α -> D) (p : α -> Bool) : ∀ (xs : List α) (x0 : Option R), (∀ a ∈ xs, c (some (.v (e a)) :: rest) μ = some (p a, μ)) -> (∀ a ∈ xs, p a = true -> f (some (.v (e a)) :: rest) μ = some (.v (out a), μ)) -> compL (gNm 0) c f (xs.map e) (x0 :: rest) μ = some ((xs.filter p).map out, μ)
 | [], _, _, _ => rfl
 | a :: xs, x0, h, h' => by
  have h1 := h a List.mem_cons_self
  have ih := comp_filter e out p xs (some (.v (e a))) (fun b hb => h b (List.mem_cons_of_mem _ hb)) (fun b hb => h' b (List.mem_cons_of_mem _ hb))
  cases hp : p a with
  | true =>
   have h2 := h' a List.mem_cons_self hp
   simp only [List.map_cons, compL, gNm, List.set_cons_zero, Option.bind_some, h1, hp, if_true, h2, ih, List.filter_cons]
  | false => simp only [List.map_cons, compL, gNm, List.set_cons_zero, Option.bind_some, h1, hp, Bool.false_eq_true, if_false, ih, List.filter_cons]
theorem lies_eq (r : Rc) (n : Int) (hl : r.2.length <= 100) : m_lies_in [rD r, .int n] = some (.bl (lieB r n)) := by
 rw [u_lies_in]
 have hz : r.2.length <= sizeLine := small'' (by omega)
 have cm : ∀ μ : Store, compL (gNm 0) (fB (fOp leD (fVar 0) (fVar 1))) (fVar 0) (r.2.map D.int) [none, some (.v (.int n))] μ = some ((r.2.filter fun e => decide (e <= n)).map D.int, μ) := fun μ =>
  comp_filter D.int D.int (fun e => decide (e <= n)) r.2 none (fun e _ => by push_cast [HW.sz2]) (fun e _ _ => by push_cast [HW.sz2])
 have hz2 : ((r.2.filter fun e => decide (e <= n)).map D.int).length <= sizeLine := small'' (by have := List.length_filter_le (fun e => decide (e <= n)) r.2; rw [List.length_map]; omega)
 unfold lieB cnt
 by_cases h : (r.2.filter fun e => decide (e <= n)).length % 2 = 0
 ·have hc : ((((r.2.filter fun e => decide (e <= n)).length : Int)) % 2 == 0) = true := by simp; omega
  push_cast [b_lies_in, List.length_map, hz, cm, hz2, ev_mod (j := 2) (by decide), hc, if_pos h]
 ·have hc : ((((r.2.filter fun e => decide (e <= n)).length : Int)) % 2 == 0) = false := by simp; omega
  push_cast [b_lies_in, List.length_map, hz, cm, hz2, ev_mod (j := 2) (by decide), hc, if_neg h]
theorem liesat_eq (g : Rc) (qs : List (Int × Rc)) (d t : Int) (hl : (ra g qs t).2.length <= 100) : m_lies_at [pD g qs, .int d, .int t] = some (.bl (lieB (ra g qs t) d)) := by
 rw [u_lies_at]
 have h1 := reach_at_eq g qs t
 have h2 := lies_eq (ra g qs t) d hl
 push_cast [b_lies_at, h1, h2]
noncomputable def la (t : Int) (h : Rc) (q : Int × Rc) : Rc := if q.1 <= t then q.2 else h
theorem la_ra : ∀ (qs : List (Int × Rc)) (g : Rc) (t : Int), Up qs -> qs.foldl (la t) g = ra g qs t
 | [], _, _, _ => rfl
 | q :: qs, g, t, hu => by
  obtain ⟨h1, h2⟩ := List.pairwise_cons.mp hu
  rw [List.foldl_cons, ra]
  by_cases h : t < q.1
  ·rw [if_pos h, la, if_neg (by omega), la_ra qs g t h2]
   exact ra_late _ _ _ fun p hp => by have := h1 p hp; omega
  ·rw [if_neg h, la, if_pos (by omega), la_ra qs q.2 t h2]
noncomputable def tg (d : Int) (b : Bool) (e : Int) : Bool := if e <= d then !b else b
theorem tg_fold (d : Int) : ∀ (es : List Int) (b : Bool), es.foldl (tg d) b = if (es.filter fun e => decide (e <= d)).length % 2 = 0 then b else !b
 | [], b => rfl
 | e :: es, b => by
  rw [List.foldl_cons, tg_fold d es]
  by_cases h : e <= d
  ·rw [tg, if_pos h, List.filter_cons_of_pos (by simpa using h), List.length_cons]
   by_cases z : (es.filter fun e => decide (e <= d)).length % 2 = 0
   ·rw [if_pos z, if_neg (by omega)]
   ·rw [if_neg z, if_pos (by omega), Bool.not_not]
  ·rw [tg, if_neg h, List.filter_cons_of_neg (by simpa using h)]
theorem lawlies_eq (g : Rc) (qs : List (Int × Rc)) (d t : Int) (hu : Up qs) : m_law_lies [pD g qs, .int d, .int t] = some (.bl (lieB (ra g qs t) d)) := by
 rw [u_law_lies]
 obtain ⟨⟨r, x5, x6⟩, e, h1⟩ := loop_inv (g := gTp 2 (gsCons (gNm 5) (gsCons (gNm 6) gsNil))) (b := l_law_lies_0) sD
  (fun st : Rc × Option R × Option R => ([some (.v (pD g qs)), some (.v (.int d)), some (.v (.int t)), some (.v (.bl st.1.1)), some (.v (.tup (st.1.2.map .int))), st.2.1, st.2.2, none], ([] : Store)))
  (fun st rem => rem.foldl (la t) st.1 = ra g qs t) qs (g, none, none) (la_ra qs g t hu) (by
   rintro ⟨h, x, y⟩ q rem hh
   refine ⟨(la t h q, some (.v (.int q.1)), some (.v (rD q.2))), ?_, hh⟩
   by_cases hz : q.1 <= t
   ·have hz' : decide (q.1 <= t) = true := decide_eq_true hz
    push_cast [l_law_lies_0, sD, rD, hz', la, if_pos hz]
   ·have hz' : decide (q.1 <= t) = false := decide_eq_false hz
    push_cast [l_law_lies_0, sD, rD, hz', la, if_neg hz])
 have h1 : r = ra g qs t := h1
 obtain ⟨⟨b, x7⟩, e2, h2⟩ := loop_inv (g := gNm 7) (b := l_law_lies_1) D.int
  (fun st : Bool × Option R => ([some (.v (pD g qs)), some (.v (.int d)), some (.v (.int t)), some (.v (.bl st.1)), some (.v (.tup (r.2.map .int))), x5, x6, st.2], ([] : Store)))
  (fun st rem => rem.foldl (tg d) st.1 = lieB r d) r.2 (r.1, none) (tg_fold d r.2 r.1) (by
   rintro ⟨b, x⟩ q rem hh
   refine ⟨(tg d b q, some (.v (.int q))), ?_, hh⟩
   by_cases hz : q <= d
   ·have hz' : decide (q <= d) = true := decide_eq_true hz
    push_cast [l_law_lies_1, hz', tg, if_pos hz]
   ·have hz' : decide (q <= d) = false := decide_eq_false hz
    push_cast [l_law_lies_1, hz', tg, if_neg hz])
 have h2 : b = lieB r d := h2
 have e' : loop (gTp 2 (gsCons (gNm 5) (gsCons (gNm 6) gsNil))) l_law_lies_0 (qs.map sD) [some (.v (.tup [.tup [.bl g.1, .tup (g.2.map .int)], .tup (qs.map sD)])), some (.v (.int d)), some (.v (.int t)), some (.v (.bl g.1)), some (.v (.tup (g.2.map .int))), none, none, none] [] = _ := e
 have e2' : loop (gNm 7) l_law_lies_1 (r.2.map .int) [some (.v (.tup [.tup [.bl g.1, .tup (g.2.map .int)], .tup (qs.map sD)])), some (.v (.int d)), some (.v (.int t)), some (.v (.bl r.1)), some (.v (.tup (r.2.map .int))), x5, x6, none] [] = _ := e2
 push_cast [b_law_lies, pD, rD]
 rw [e']
 push_cast [pD, rD]
 rw [e2']
 push_cast [h2, h1]
end LW
namespace LW
open PySem HW
noncomputable abbrev TE := List Int × Rc × List (Int × Rc)
noncomputable abbrev tE (e : TE) : Ent := (e.1, pD e.2.1 e.2.2)
noncomputable abbrev xD (e : TE) : D := .tup [rowD e.1, pD e.2.1 e.2.2]
structure GE (e : TE) : Prop where
 pg : PG e.2.1 e.2.2
 no : ¬ (e.2.1 = (false, []) /\ e.2.2 = [])
theorem typed : ∀ {T : List Ent}, (∀ e ∈ T, GP e.2) -> ∃ Ts : List TE, T = Ts.map tE /\ ∀ e ∈ Ts, GE e
 | [], _ => ⟨[], rfl, fun _ h => nomatch h⟩
 | e :: T, h => by
  obtain ⟨g, qs, hv, pg, no⟩ := h e List.mem_cons_self
  obtain ⟨Ts, h1, h2⟩ := typed (T := T) fun x hx => h x (List.mem_cons_of_mem _ hx)
  refine ⟨(e.1, g, qs) :: Ts, by rw [List.map_cons, ← h1]; congr 1; exact Prod.ext rfl hv, fun x hx => ?_⟩
  rcases List.mem_cons.mp hx with rfl | hx
  ·exact ⟨pg, no⟩
  ·exact h2 x hx
theorem ok_tab {w : Nat} {T : List Ent} (h : Tab w T) : okD 60 (.fl (T.map eD)) = true := by
 refine ok_fl ?_
 have : ∀ (L : List Ent), (∀ e ∈ L, e ∈ T) -> okDs 59 (L.map eD) = true := by
  intro L
  induction L with
  | nil => intro _; exact oks_nil
  | cons e L ih =>
   intro hm
   obtain ⟨g, qs, e1, -, -⟩ := h.val e (hm e List.mem_cons_self)
   refine oks_cons (ok_tup (oks_cons (ok_tup (okDs_ints _)) (oks_cons ?_ oks_nil))) (ih fun x hx => hm x (List.mem_cons_of_mem _ hx))
   rw [e1]; exact ok_pDn g qs
 exact this T fun e he => he
abbrev TT (w : Nat) (Ts : List TE) : Prop := Tab w (Ts.map tE) /\ ∀ e ∈ Ts, GE e
theorem map_x (Ts : List TE) : (Ts.map tE).map eD = Ts.map xD := by rw [List.map_map]; rfl
noncomputable def lies (d t : Int) (e : TE) : Bool := lieB (ra e.2.1 e.2.2 t) d
theorem ra_few {g : Rc} {qs : List (Int × Rc)} (h : PG g qs) (t : Int) : (ra g qs t).2.Pairwise (· < ·) /\ (ra g qs t).2.length <= 3 := by
 have key : ∀ (qs : List (Int × Rc)) (g : Rc), (g.2.Pairwise (· < ·) /\ g.2.length <= 3) -> (∀ p ∈ qs, p.2.2.Pairwise (· < ·) /\ p.2.2.length <= 3) -> (ra g qs t).2.Pairwise (· < ·) /\ (ra g qs t).2.length <= 3 := by
  intro qs
  induction qs with
  | nil => intro g h1 _; exact h1
  | cons q qs ih =>
   intro g h1 h2
   unfold ra
   split
   ·exact h1
   ·exact ih q.2 (h2 q List.mem_cons_self) fun p hp => h2 p (List.mem_cons_of_mem _ hp)
 exact key qs g h.gr h.rs
theorem comp_x {c : FT} {f : FE} {rest : Lo} {μ : Store} (p : TE -> Bool) (out : TE -> D) : ∀ (T : List TE) (x0 x1 : Option R), (∀ e ∈ T, c (some (.v (rowD e.1)) :: some (.v (pD e.2.1 e.2.2)) :: rest) μ = some (p e, μ)) -> (∀ e ∈ T, p e = true -> f (some (.v (rowD e.1)) :: some (.v (pD e.2.1 e.2.2)) :: rest) μ = some (.v (out e), μ)) ->
  compL (gTp 2 (gsCons (gNm 0) (gsCons (gNm 1) gsNil))) c f (T.map xD) (x0 :: x1 :: rest) μ = some ((T.filter p).map out, μ)
 | [], _, _, _, _ => rfl
 | e :: T, x0, x1, h, h' => by
  have h1 := h e List.mem_cons_self
  have ih := comp_x p out T (some (.v (rowD e.1))) (some (.v (pD e.2.1 e.2.2))) (fun b hb => h b (List.mem_cons_of_mem _ hb)) (fun b hb => h' b (List.mem_cons_of_mem _ hb))
  have hg : gTp 2 (gsCons (gNm 0) (gsCons (gNm 1) gsNil)) (.v (xD e)) (x0 :: x1 :: rest) μ = some (some (.v (rowD e.1)) :: some (.v (pD e.2.1 e.2.2)) :: rest, μ) := rfl
  cases hp : p e with
  | true =>
   have h2 := h' e List.mem_cons_self hp
   simp only [List.map_cons, compL, hg, Option.bind_some, h1, hp, if_true, h2, ih, List.filter_cons]
  | false => simp only [List.map_cons, compL, hg, Option.bind_some, h1, hp, Bool.false_eq_true, if_false, ih, List.filter_cons]
noncomputable abbrev cut (d t : Int) (Ts : List TE) : List (List Int) := (Ts.filter (lies d t)).map (·.1)
theorem cut_len (d t : Int) (Ts : List TE) : (cut d t Ts).length <= Ts.length := by rw [List.length_map]; exact List.length_filter_le _ _
variable {w : Nat} {Ts : List TE}
theorem TT.n (h : TT w Ts) : Ts.length <= 40 := by have := h.1.n; rwa [List.length_map] at this
theorem cut_eq (h : TT w Ts) (d t : Int) : n_cut_at [.fl (Ts.map xD), .int d, .int t] = some (.lst ((cut d t Ts).map rowD)) := by
 rw [u_cut_at]
 have hn := h.n
 have hc := cut_len d t Ts
 have z1 : (Ts.map xD).length <= sizeLine := small'' (by rw [List.length_map]; omega)
 have z2 : ((cut d t Ts).map rowD).length <= sizeLine := small'' (by rw [List.length_map]; omega)
 have cm0 : compL (gTp 2 (gsCons (gNm 0) (gsCons (gNm 1) gsNil))) (fTru (fCall m_lies_at 3 (fCons (fFz (fVar 1)) (fCons (fFz (fVar 2)) (fCons (fFz (fVar 3)) fNil))))) (fVar 0) (Ts.map xD) [none, none, some (.v (.int d)), some (.v (.int t))] [] = some ((Ts.filter (lies d t)).map (fun e => rowD e.1), []) :=
  comp_x (rest := [some (.v (.int d)), some (.v (.int t))]) (lies d t) (fun e => rowD e.1) Ts none none (fun e he => by
   have h1 := liesat_eq e.2.1 e.2.2 d t (by have := (ra_few (h.2 e he).pg t).2; omega)
   push_cast [h1, lies]) (fun e _ _ => by push_cast [HW.sz2])
 have cm : compL (gTp 2 (gsCons (gNm 0) (gsCons (gNm 1) gsNil))) (fTru (fCall m_lies_at 3 (fCons (fFz (fVar 1)) (fCons (fFz (fVar 2)) (fCons (fFz (fVar 3)) fNil))))) (fVar 0) (Ts.map xD) (blockLo 2 [1, 2] [some (.v (.fl (Ts.map xD))), some (.v (.int d)), some (.v (.int t))]) [] = some ((cut d t Ts).map rowD, []) := by
  rw [cut, List.map_map]; exact cm0
 push_cast [b_cut_at, z1, cm, z2]
theorem lat_eq (h : TT w Ts) (d t : Int) : n_law_at [.fl (Ts.map xD), .int d, .int t] = some (.lst ((cut d t Ts).map rowD)) := by
 rw [u_law_at]
 have hn := h.n
 have hc := cut_len d t Ts
 have z1 : (Ts.map xD).length <= sizeLine := small'' (by rw [List.length_map]; omega)
 have z2 : ((cut d t Ts).map rowD).length <= sizeLine := small'' (by rw [List.length_map]; omega)
 have cm0 : compL (gTp 2 (gsCons (gNm 0) (gsCons (gNm 1) gsNil))) (fTru (fCall m_law_lies 3 (fCons (fFz (fVar 1)) (fCons (fFz (fVar 2)) (fCons (fFz (fVar 3)) fNil))))) (fVar 0) (Ts.map xD) [none, none, some (.v (.int d)), some (.v (.int t))] [] = some ((Ts.filter (lies d t)).map (fun e => rowD e.1), []) :=
  comp_x (rest := [some (.v (.int d)), some (.v (.int t))]) (lies d t) (fun e => rowD e.1) Ts none none (fun e he => by
   have h1 := lawlies_eq e.2.1 e.2.2 d t (h.2 e he).pg.up
   push_cast [h1, lies]) (fun e _ _ => by push_cast [HW.sz2])
 have cm : compL (gTp 2 (gsCons (gNm 0) (gsCons (gNm 1) gsNil))) (fTru (fCall m_law_lies 3 (fCons (fFz (fVar 1)) (fCons (fFz (fVar 2)) (fCons (fFz (fVar 3)) fNil))))) (fVar 0) (Ts.map xD) (blockLo 2 [1, 2] [some (.v (.fl (Ts.map xD))), some (.v (.int d)), some (.v (.int t))]) [] = some ((cut d t Ts).map rowD, []) := by
  rw [cut, List.map_map]; exact cm0
 push_cast [b_law_at, z1, cm, z2]
noncomputable def sl (t : Int) (e : TE) : TE := (e.1, ra e.2.1 e.2.2 t, [])
noncomputable def notNo (e : TE) : Bool := !decide (e.2.1 = (false, []))
noncomputable abbrev SL (t : Int) (Ts : List TE) : List TE := (Ts.map (sl t)).filter notNo
theorem SL_tab (h : TT w Ts) (t : Int) : TT w (SL t Ts) := by
 have hm : ∀ e ∈ SL t Ts, ∃ x ∈ Ts, e = sl t x /\ e.2.1 ≠ (false, []) := fun e he => by
  obtain ⟨h1, h2⟩ := List.mem_filter.mp he
  obtain ⟨x, hx, rfl⟩ := List.mem_map.mp h1
  exact ⟨x, hx, rfl, by simpa [notNo] using h2⟩
 have hg : ∀ e ∈ SL t Ts, GE e := fun e he => by
  obtain ⟨x, hx, rfl, hn⟩ := hm e he
  exact ⟨⟨.nil, trivial, ra_few (h.2 x hx).pg t, (fun _ h => nomatch h), by simp [sl]⟩, fun z => hn z.1⟩
 refine ⟨⟨fun e he => ?_, fun e he => ?_, ?_, ?_⟩, hg⟩
 ·obtain ⟨y, hy, rfl⟩ := List.mem_map.mp he
  obtain ⟨x, hx, rfl, _⟩ := hm y hy
  exact h.1.row (tE x) (List.mem_map_of_mem hx)
 ·obtain ⟨y, hy, rfl⟩ := List.mem_map.mp he
  exact ⟨y.2.1, y.2.2, rfl, (hg y hy).pg, (hg y hy).no⟩
 ·have hu := h.1.up
  rw [List.map_map] at hu ⊢
  have e1 : (Ts.map (sl t)).map ((fun x : Ent => x.1) ∘ tE) = Ts.map ((fun x : Ent => x.1) ∘ tE) := by rw [List.map_map]; rfl
  rw [← e1] at hu
  exact hu.sublist (List.filter_sublist.map _)
 ·have := h.n
  have hk : (SL t Ts).length <= (Ts.map (sl t)).length := List.length_filter_le notNo (Ts.map (sl t))
  rw [List.length_map] at hk ⊢
  omega
theorem lies_sl (d t u : Int) (e : TE) : lies d u (sl t e) = lies d t e := rfl
theorem cut_SL (d t u : Int) : ∀ Ts : List TE, cut d u (SL t Ts) = cut d t Ts
 | [] => rfl
 | e :: Ts => by
  have ih := cut_SL d t u Ts
  show ((((sl t e) :: Ts.map (sl t)).filter notNo).filter (lies d u)).map (·.1) = ((e :: Ts).filter (lies d t)).map (·.1)
  by_cases hn : notNo (sl t e) = true
  ·rw [List.filter_cons_of_pos hn]
   by_cases hl : lies d t e = true
   ·rw [List.filter_cons_of_pos (by rw [lies_sl]; exact hl), List.filter_cons_of_pos hl, List.map_cons, List.map_cons]
    exact congrArg _ ih
   ·rw [List.filter_cons_of_neg (by rw [lies_sl]; exact hl), List.filter_cons_of_neg hl]
    exact ih
  ·rw [List.filter_cons_of_neg hn]
   have hr : ra e.2.1 e.2.2 t = (false, []) := by
    apply Classical.byContradiction
    intro z
    refine hn ?_
    show (!decide (ra e.2.1 e.2.2 t = (false, []))) = true
    rw [decide_eq_false z]; rfl
   have hl : ¬ lies d t e = true := by rw [lies, hr]; simp [lieB, cnt]
   rw [List.filter_cons_of_neg hl]
   exact ih
theorem SL_SL (t u : Int) (Ts : List TE) : SL u (SL t Ts) = SL t Ts := by
 have h1 : ∀ e ∈ SL t Ts, sl u e = e := fun e he => by
  obtain ⟨h1, h2⟩ := List.mem_filter.mp he
  obtain ⟨x, hx, rfl⟩ := List.mem_map.mp h1
  rfl
 show ((SL t Ts).map (sl u)).filter notNo = SL t Ts
 rw [List.map_congr_left h1, List.map_id']
 exact List.filter_eq_self.mpr fun e he => (List.mem_filter.mp he).2
end LW
namespace LW
open PySem HW
noncomputable abbrev fD (e : TE) : D := .tup [rowD e.1, rD e.2.1]
theorem comp_f {c : FT} {f : FE} {rest : Lo} {μ : Store} (p : TE -> Bool) (out : TE -> D) : ∀ (T : List TE) (x0 x1 : Option R), (∀ e ∈ T, c (some (.v (rowD e.1)) :: some (.v (rD e.2.1)) :: rest) μ = some (p e, μ)) -> (∀ e ∈ T, p e = true -> f (some (.v (rowD e.1)) :: some (.v (rD e.2.1)) :: rest) μ = some (.v (out e), μ)) ->
  compL (gTp 2 (gsCons (gNm 0) (gsCons (gNm 1) gsNil))) c f (T.map fD) (x0 :: x1 :: rest) μ = some ((T.filter p).map out, μ)
 | [], _, _, _, _ => rfl
 | e :: T, x0, x1, h, h' => by
  have h1 := h e List.mem_cons_self
  have ih := comp_f p out T (some (.v (rowD e.1))) (some (.v (rD e.2.1))) (fun b hb => h b (List.mem_cons_of_mem _ hb)) (fun b hb => h' b (List.mem_cons_of_mem _ hb))
  have hg : gTp 2 (gsCons (gNm 0) (gsCons (gNm 1) gsNil)) (.v (fD e)) (x0 :: x1 :: rest) μ = some (some (.v (rowD e.1)) :: some (.v (rD e.2.1)) :: rest, μ) := rfl
  cases hp : p e with
  | true =>
   have h2 := h' e List.mem_cons_self hp
   simp only [List.map_cons, compL, hg, Option.bind_some, h1, hp, if_true, h2, ih, List.filter_cons]
  | false => simp only [List.map_cons, compL, hg, Option.bind_some, h1, hp, Bool.false_eq_true, if_false, ih, List.filter_cons]
variable {w : Nat} {Ts : List TE}
theorem ok_No : okD 60 (.tup [.bl false, .tup []]) = true := by decide +kernel
theorem eq_No (r : Rc) : eqD (rD r) (.tup [.bl false, .tup []]) = decide (r = (false, [])) := eq_rD r (false, [])
theorem slice_eq (h : TT w Ts) (t : Int) : n_slice_of [.fl (Ts.map xD), .int t] = some (.lst ((SL t Ts).map xD)) := by
 rw [u_slice_of]
 have hn := h.n
 have hk : (SL t Ts).length <= (Ts.map (sl t)).length := List.length_filter_le notNo (Ts.map (sl t))
 rw [List.length_map] at hk
 have z1 : (Ts.map xD).length <= sizeLine := small'' (by rw [List.length_map]; omega)
 have z2 : ((Ts.map (sl t)).map fD).length <= sizeLine := small'' (by rw [List.length_map, List.length_map]; omega)
 have z3 : ((SL t Ts).map xD).length <= sizeLine := small'' (by rw [List.length_map]; omega)
 have c0 : compL (gTp 2 (gsCons (gNm 0) (gsCons (gNm 1) gsNil))) cYes (fTup (fCons (fVar 0) (fCons (fCall m_reach_at 2 (fCons (fFz (fVar 1)) (fCons (fFz (fVar 2)) fNil))) fNil))) (Ts.map xD) [none, none, some (.v (.int t))] [] = some ((Ts.filter fun _ => true).map (fun e => fD (sl t e)), []) :=
  comp_x (rest := [some (.v (.int t))]) (fun _ => true) (fun e => fD (sl t e)) Ts none none (fun e he => rfl) (fun e _ _ => by
   have h1 := reach_at_eq e.2.1 e.2.2 t
   push_cast [h1, sl, fD])
 have hf : (Ts.filter fun _ => true).map (fun e => fD (sl t e)) = (Ts.map (sl t)).map fD := by
  rw [List.filter_eq_self.mpr fun _ _ => rfl, List.map_map]; rfl
 rw [hf] at c0
 have c1 : ∀ μ : Store, compL (gTp 2 (gsCons (gNm 0) (gsCons (gNm 1) gsNil))) (fB (fOp (eqR true) (fVar 1) (fK (.tup [.bl false, .tup []])))) (fTup (fCons (fVar 0) (fCons (fTup (fCons (fVar 1) (fCons (fTup fNil) fNil))) fNil))) ((Ts.map (sl t)).map fD) [none, none] μ = some ((SL t Ts).map xD, μ) := fun μ =>
  comp_f (rest := []) notNo xD (Ts.map (sl t)) none none (fun e he => by push_cast [ok_rD, ok_No, eq_No, notNo]) (fun e he _ => by
   obtain ⟨x, hx, rfl⟩ := List.mem_map.mp he
   push_cast [sl, pD, xD, List.map_nil])
 have c0' : compL (gTp 2 (gsCons (gNm 0) (gsCons (gNm 1) gsNil))) cYes (fTup (fCons (fVar 0) (fCons (fCall m_reach_at 2 (fCons (fFz (fVar 1)) (fCons (fFz (fVar 2)) fNil))) fNil))) (Ts.map xD) (blockLo 2 [1] [some (.v (.fl (Ts.map xD))), some (.v (.int t)), none]) [] = some ((Ts.map (sl t)).map fD, []) := c0
 have bl : ∀ x0 x1 x2 : Option R, blockLo 2 [] [x0, x1, x2] = [none, none] := fun _ _ _ => rfl
 push_cast [b_slice_of, z1, c0', z2, bl, c1, z3]
theorem spot_ex (cell k s : Int) (hk : 0 <= k /\ k < 100) (h : TT w Ts) : ∃ d t : Int, m_law_spot [.int cell, .int k, .fl (Ts.map xD), .int s] = some (.tup [.int d, .int t]) := by
 rw [u_law_spot]
 obtain ⟨n, hn, hn0, hn1⟩ := stir_ex cell (k + 31) (by omega)
 have dv : ∀ (j : Int), 0 < j -> j < 2 ^ 30 -> ∀ (μ : Store), divD (.v (.int n)) (.v (.int j)) μ = some (.v (.int (n / j)), μ) := fun j j0 j1 μ => ev_div (by omega) (by omega)
 have m9 : ∀ μ : Store, modD (.v (.int n)) (.v (.int 9)) μ = some (.v (.int (n % 9)), μ) := fun μ => ev_mod (by decide)
 have md : ∀ (i j : Int), 0 < j -> ∀ μ : Store, modD (.v (.int i)) (.v (.int j)) μ = some (.v (.int (i % j)), μ) := fun i j j0 μ => ev_mod (by omega)
 have b15 := emod_b (n / 9) (j := 15) (by decide)
 have ml : ∀ μ : Store, mulD (.v (.int (n / 9 % 15 - 4))) (.v (.int s)) μ = some (.v (.int ((n / 9 % 15 - 4) * s)), μ) := fun μ => ev_mulL (by omega)
 have okT : okD 60 (.fl (Ts.map xD)) = true := by have := ok_tab h.1; rwa [map_x] at this
 have ok0 : okD 60 (.fl []) = true := rfl
 have okn : okD 60 (.tup []) = true := by decide +kernel
 by_cases hT : Ts = []
 ·subst hT
  have e0 : eqD (.fl (([] : List TE).map xD)) (.fl []) = true := rfl
  push_cast [b_law_spot, hn, m9, dv 9 (by decide) (by decide), dv 135 (by decide) (by decide), md _ 15 (by decide), md _ 2 (by decide), ml, okT, ok0, e0, Bool.not_true]
  exact ⟨_, _, rfl⟩
 ·have e0 : eqD (.fl (Ts.map xD)) (.fl []) = false := by
   cases Ts with
   | nil => exact absurd rfl hT
   | cons e T => rfl
  cases q3 : decide (0 < n / 270 % 3) with
  | false =>
   push_cast [b_law_spot, hn, m9, dv 9 (by decide) (by decide), dv 135 (by decide) (by decide), dv 270 (by decide) (by decide), md _ 15 (by decide), md _ 2 (by decide), md _ 3 (by decide), ml, okT, ok0, e0, q3, Bool.not_false]
   exact ⟨_, _, rfl⟩
  | true =>
   have pick : ∀ {α : Type} (f : α -> D) (xs : List α) (i : Int), xs ≠ [] -> ∃ x ∈ xs, L2.atI (xs.map f) (i % (xs.length : Int)) = some (f x) /\ (0 : Int) < (xs.length : Int) := fun {α} f xs i hx => by
    have hpos : (0 : Int) < (xs.length : Int) := by have := List.length_pos_iff.mpr hx; omega
    obtain ⟨j, hj⟩ : ∃ j : Nat, (j : Int) = i % (xs.length : Int) := ⟨(i % (xs.length : Int)).toNat, by rw [Int.toNat_of_nonneg (Int.emod_nonneg _ (by omega))]⟩
    have hlt : j < xs.length := by have := Int.emod_lt_of_pos i hpos; omega
    exact ⟨xs[j], List.getElem_mem hlt, by rw [← hj]; exact at_map (List.getElem?_eq_getElem hlt), hpos⟩
   obtain ⟨e, he, a1, p1⟩ := pick xD Ts (n / 810) hT
   have mT := fun μ => md (n / 810) (Ts.length : Int) p1 μ
   obtain ⟨row, g, qs⟩ := e
   have okq : okD 60 (.tup (qs.map sD)) = true := ok_tup (oks_map (fun p => ok_sDn p) qs)
   have oke : ∀ r : Rc, okD 60 (.tup (r.2.map .int)) = true := fun r => ok_tup (okDs_ints _)
   have eqe : ∀ r : Rc, eqD (.tup (r.2.map .int)) (.tup []) = decide (r.2 = []) := fun r => by
    have := eqDs_ints r.2 []
    simp only [eqD]; exact this
   have fin : ∀ (r : Rc) (x7 : R) (t d : Int) (μ : Store), ∃ (d' : Int), (sIf (fB (fOp (eqR true) (fOp ixD (fVar 8) (fK (.int 1))) (fTup fNil))) (sSet 6 (fOp subD (fOp ixD (fOp ixD (fVar 8) (fK (.int 1))) (fOp modD (fOp divD (fVar 4) (fK (.int 180000))) (fAr lenD (fCons (fOp ixD (fVar 8) (fK (.int 1))) fNil)))) (fOp modD (fOp divD (fVar 4) (fK (.int 1800000))) (fK (.int 2))))) sNext)
     [some (.v (.int cell)), some (.v (.int k)), some (.v (.fl (Ts.map xD))), some (.v (.int s)), some (.v (.int n)), some (.v (.int t)), some (.v (.int d)), some x7, some (.v (rD r))] μ = some (.nx [some (.v (.int cell)), some (.v (.int k)), some (.v (.fl (Ts.map xD))), some (.v (.int s)), some (.v (.int n)), some (.v (.int t)), some (.v (.int d')), some x7, some (.v (rD r))] μ) := fun r x7 t d μ => by
    by_cases hr : r.2 = []
    ·have hr' : decide (r.2 = []) = true := decide_eq_true hr
     refine ⟨d, ?_⟩
     push_cast [oke, okn, eqe, hr', Bool.not_true]
    ·have hr' : decide (r.2 = []) = false := decide_eq_false hr
     obtain ⟨x, hx, a2, p2⟩ := pick D.int r.2 (n / 180000) hr
     have mR := fun μ => md (n / 180000) (r.2.length : Int) p2 μ
     refine ⟨x - n / 1800000 % 2, ?_⟩
     push_cast [oke, okn, eqe, hr', Bool.not_false, dv 180000 (by decide) (by decide), dv 1800000 (by decide) (by decide), List.length_map, mR, a2, md _ 2 (by decide)]
   generalize hL : (sIf (fB (fOp (eqR true) (fOp ixD (fVar 8) (fK (.int 1))) (fTup fNil))) (sSet 6 (fOp subD (fOp ixD (fOp ixD (fVar 8) (fK (.int 1))) (fOp modD (fOp divD (fVar 4) (fK (.int 180000))) (fAr lenD (fCons (fOp ixD (fVar 8) (fK (.int 1))) fNil)))) (fOp modD (fOp divD (fVar 4) (fK (.int 1800000))) (fK (.int 2))))) sNext) = L at fin
   by_cases hq : qs = []
   ·subst hq
    have eq0 : eqD (.tup []) (.tup []) = true := by decide +kernel
    obtain ⟨d', hf⟩ := fin g (.v (.tup [rD g, .tup []])) (n % 9 - 2) ((n / 9 % 15 - 4) * s - n / 135 % 2) [Cell.lst []]
    refine ⟨d', n % 9 - 2, ?_⟩
    rw [b_law_spot, hL]
    push_cast [hn, m9, dv 9 (by decide) (by decide), dv 135 (by decide) (by decide), dv 270 (by decide) (by decide), dv 810 (by decide) (by decide), md _ 15 (by decide), md _ 2 (by decide), md _ 3 (by decide), ml, okT, ok0, e0, q3, Bool.not_false, List.length_map, mT, a1, xD, pD, List.map_nil, okn, eq0, Bool.not_true, hf]
   ·have eq0 : eqD (.tup (qs.map sD)) (.tup []) = false := by
     cases qs with
     | nil => exact absurd rfl hq
     | cons q rs => simp [eqD, eqDs]
    obtain ⟨q, hqm, a2, p2⟩ := pick sD qs (n / 9000) hq
    have mQ := fun μ => md (n / 9000) (qs.length : Int) p2 μ
    have a2' : L2.atI (qs.map sD) (n / 9000 % (qs.length : Int)) = some (.tup [.int q.1, rD q.2]) := a2
    obtain ⟨d', hf⟩ := fin q.2 (.v (.tup [rD g, .tup (qs.map sD)])) (q.1 - n / 90000 % 2) ((n / 9 % 15 - 4) * s - n / 135 % 2) [Cell.lst []]
    refine ⟨d', q.1 - n / 90000 % 2, ?_⟩
    rw [b_law_spot, hL]
    push_cast [hn, m9, dv 9 (by decide) (by decide), dv 135 (by decide) (by decide), dv 270 (by decide) (by decide), dv 810 (by decide) (by decide), dv 9000 (by decide) (by decide), dv 90000 (by decide) (by decide), md _ 15 (by decide), md _ 2 (by decide), md _ 3 (by decide), ml, okT, ok0, e0, q3, Bool.not_false, List.length_map, mT, a1, xD, pD, okq, okn, eq0, mQ, a2', hf]
end LW
namespace LW
open PySem HW
variable {w : Nat} {Ts : List TE}
theorem flat_ent' {e : Ent} (h : GP e.2) : flatD (eD e) = true := by
 obtain ⟨g, qs, hv, -, -⟩ := h
 show (flatD (rowD e.1) && (flatD e.2 && true)) = true
 rw [hv, flat_pD]
 simp [rowD, flatD, flats_ints]
theorem flat_ents : ∀ {T : List Ent}, (∀ e ∈ T, GP e.2) -> flatDs (T.map eD) = true
 | [], _ => rfl
 | e :: T, h => by
  show (flatD (eD e) && flatDs (T.map eD)) = true
  rw [flat_ent' (h e List.mem_cons_self), flat_ents fun x hx => h x (List.mem_cons_of_mem _ hx)]; rfl
theorem flat_rows : ∀ rows : List (List Int), flatDs (rows.map rowD) = true
 | [] => rfl
 | r :: rows => by
  show (flatD (rowD r) && flatDs (rows.map rowD)) = true
  rw [flat_rows rows]; simp [rowD, flatD, flats_ints]
theorem fl_rows (rows : List (List Int)) : flatC (.lst (rows.map rowD)) = true := by simpa [flatC] using flat_rows rows
theorem TT.fl (h : TT w Ts) : flatC (.lst (Ts.map xD)) = true := by
 have := flat_ents h.1.val
 rw [map_x] at this
 simpa [flatC] using this
theorem TT.ok (h : TT w Ts) : okD 60 (.fl (Ts.map xD)) = true := by have := ok_tab h.1; rwa [map_x] at this
theorem eq_ents : ∀ {Ts : List TE}, eqDs (Ts.map xD) (Ts.map xD) = true
 | [] => rfl
 | e :: T => by
  have h1 : eqD (xD e) (xD e) = true := by
   have h2 : eqD (rowD e.1) (rowD e.1) = true := by simp only [rowD, eqD, eqDs_ints, decide_eq_true]
   have h3 : eqD (pD e.2.1 e.2.2) (pD e.2.1 e.2.2) = true := by rw [eq_pD]; simp
   show (eqD (rowD e.1) (rowD e.1) && (eqD (pD e.2.1 e.2.2) (pD e.2.1 e.2.2) && true)) = true
   rw [h2, h3]; rfl
  simp only [List.map_cons, eqDs, h1, eq_ents, Bool.and_self]
theorem eq_tab (Ts : List TE) : eqD (.fl (Ts.map xD)) (.fl (Ts.map xD)) = true := by simp only [eqD, eq_ents]
theorem loopL_nx (bt : Bool) (F : List D) (n : Nat) (μ : Store) (hμ : μ[n]? = some (.lst F)) (x0 x1 x2 x3 x4 x5 x8 x9 : Option R) : ∀ (T : List TE) (x6 x7 : Option R), (∀ e ∈ T, e.2.2 = []) -> ∃ y6 y7,
  loopL n F (gTp 2 (gsCons (gNm 6) (gsCons (gNm 7) gsNil))) (l_law_sliced_0 bt) (T.map xD) [x0, x1, x2, x3, x4, x5, x6, x7, x8, x9] μ = some (.nx [x0, x1, x2, x3, x4, x5, y6, y7, x8, x9] μ)
 | [], x6, x7, _ => ⟨x6, x7, rfl⟩
 | e :: T, x6, x7, h => by
  obtain ⟨row, g, qs⟩ := e
  have hq : qs = [] := h (row, g, qs) List.mem_cons_self
  subst hq
  obtain ⟨y6, y7, ih⟩ := loopL_nx bt F n μ hμ x0 x1 x2 x3 x4 x5 x8 x9 T (some (.v (rowD row))) (some (.v (pD g []))) fun e he => h e (List.mem_cons_of_mem _ he)
  have hg : gTp 2 (gsCons (gNm 6) (gsCons (gNm 7) gsNil)) (.v (xD (row, g, []))) [x0, x1, x2, x3, x4, x5, x6, x7, x8, x9] μ = some ([x0, x1, x2, x3, x4, x5, some (.v (rowD row)), some (.v (pD g [])), x8, x9], μ) := rfl
  have okn : okD 60 (.tup []) = true := by decide +kernel
  have eq0 : eqD (.tup []) (.tup []) = true := by decide +kernel
  have hb : l_law_sliced_0 bt [x0, x1, x2, x3, x4, x5, some (.v (rowD row)), some (.v (pD g [])), x8, x9] μ = some (.nx [x0, x1, x2, x3, x4, x5, some (.v (rowD row)), some (.v (pD g [])), x8, x9] μ) := by
   push_cast [l_law_sliced_0, pD, List.map_nil, okn, eq0, Bool.not_true]
  refine ⟨y6, y7, ?_⟩
  rw [List.map_cons, loopL, hg]
  simp only [Option.bind_some]
  rw [hb]
  simp only [Option.bind_some]
  rw [if_pos hμ]
  exact ih
theorem sliced_true (bt : Bool) (h : TT w Ts) (h3 : w <= 3) (d t o : Int) : m_law_sliced bt [.fl (Ts.map xD), .int (w : Int), .int d, .int t, .int o] = some (.bl true) := by
 rw [u_law_sliced]
 have hS := SL_tab h t
 have s1 := slice_eq h t
 have ist := ist_true bt hS.1 h3
 rw [map_x] at ist
 have c1 := cut_eq hS d o
 have c2 := lat_eq h d t
 have c3 := lat_eq hS o d
 have c4 := lat_eq h o t
 rw [cut_SL] at c1 c3
 have s2 := slice_eq hS o
 rw [SL_SL] at s2
 have he : ∀ e ∈ SL t Ts, e.2.2 = [] := fun e he => by
  obtain ⟨h1, h2⟩ := List.mem_filter.mp he
  obtain ⟨x, hx, rfl⟩ := List.mem_map.mp h1
  rfl
 have fS := hS.fl
 have okS := hS.ok
 have eqS := eq_tab (SL t Ts)
 have hn := hS.n
 have zS : ((SL t Ts).map xD).length <= sizeLine := small'' (by rw [List.length_map]; omega)
 have zS' : ((SL t Ts).map xD).length < sizeLine := small' (by rw [List.length_map]; omega)
 have f1 := fl_rows (cut d t Ts)
 have f2 := fl_rows (cut o t Ts)
 have o1 : okD 60 (.fl ((cut d t Ts).map rowD)) = true := ok_rows _
 have o2 : okD 60 (.fl ((cut o t Ts).map rowD)) = true := ok_rows _
 have q1 := eq_rows (cut d t Ts)
 have q2 := eq_rows (cut o t Ts)
 obtain ⟨y6, y7, lp⟩ := loopL_nx bt ((SL t Ts).map xD) 0 [.lst ((SL t Ts).map xD)] rfl (some (.v (.fl (Ts.map xD)))) (some (.v (.int (w : Int)))) (some (.v (.int d))) (some (.v (.int t))) (some (.v (.int o))) (some (.p 0)) none none (SL t Ts) none none he
 have fb : flatD (D.bl true) = true := rfl
 generalize hF : (SL t Ts).map xD = F at *
 generalize hR1 : (cut d t Ts).map rowD = R1 at *
 generalize hR2 : (cut o t Ts).map rowD = R2 at *
 have fl : sForL (fVar 5) (gTp 2 (gsCons (gNm 6) (gsCons (gNm 7) gsNil))) (l_law_sliced_0 bt) [some (.v (.fl (Ts.map xD))), some (.v (.int (w : Int))), some (.v (.int d)), some (.v (.int t)), some (.v (.int o)), some (.p 0), none, none, none, none] [.lst F] = some (.nx [some (.v (.fl (Ts.map xD))), some (.v (.int (w : Int))), some (.v (.int d)), some (.v (.int t)), some (.v (.int o)), some (.p 0), y6, y7, none, none] [.lst F]) := by
  unfold sForL
  rw [show fVar 5 [some (.v (.fl (Ts.map xD))), some (.v (.int (w : Int))), some (.v (.int d)), some (.v (.int t)), some (.v (.int o)), some (.p 0), none, none, none, none] [Cell.lst F] = some (.p 0, [Cell.lst F]) from rfl]
  simp only [Option.bind_some, List.getElem?_cons_zero]
  exact lp
 push_cast [b_law_sliced, s1, fS, ist, fb, Bool.not_true, fl, c1, c2, f1, o1, q1, c3, c4, f2, o2, q2, zS, s2, okS, eqS, zS']
end LW
namespace LW
open PySem HW
variable {w : Nat} {Ts : List TE}
theorem turn_nx (bt : Bool) (h : TT w Ts) (h3 : w <= 3) (s cell : Int) (μ : Store) (cH : Cell) (hH : μ[1]? = some cH) (hc : cH = .lst (Ts.map xD) \/ cH = .fz (Ts.map xD)) (x0 x6 x7 x8 x9 : Option R) : ∃ μ' c' y6 y7 y8 y9,
  l_law_0 bt [x0, some (.v (.int (w : Int))), some (.v (.int s)), some (.v (.fl (Ts.map xD))), some (.p 1), some (.v (.int cell)), x6, x7, x8, x9] μ = some (.nx [x0, some (.v (.int (w : Int))), some (.v (.int s)), some (.v (.fl (Ts.map xD))), some (.p 1), some (.v (.int cell)), y6, y7, y8, y9] μ') /\ μ'[1]? = some c' /\ (c' = .lst (Ts.map xD) \/ c' = .fz (Ts.map xD)) := by
 obtain ⟨d, t, hs1⟩ := spot_ex cell 2 s (by decide) h
 obtain ⟨d2, t2, hs2⟩ := spot_ex cell 3 s (by decide) h
 have c1 := cut_eq h d t
 have c2 := lat_eq h d t
 have f1 := fl_rows (cut d t Ts)
 have o1 : okD 60 (.fl ((cut d t Ts).map rowD)) = true := ok_rows _
 have q1 := eq_rows (cut d t Ts)
 have zr : ((cut d t Ts).map rowD).length < sizeLine := small' (by have := cut_len d t Ts; have := h.n; rw [List.length_map]; omega)
 have okT := h.ok
 have eqT := eq_tab Ts
 have st := sliced_true bt h h3 d t t2
 have m3 : ∀ μ : Store, modD (.v (.int cell)) (.v (.int 3)) μ = some (.v (.int (cell % 3)), μ) := fun μ => ev_mod (by decide)
 have l1 : 1 < μ.length := (List.getElem?_eq_some_iff.mp hH).1
 generalize hR : (cut d t Ts).map rowD = R1 at *
 obtain ⟨A, hA⟩ : ∃ A, A = Cell.lst R1 := ⟨_, rfl⟩
 have g1 : (μ ++ [Cell.lst R1])[μ.length]? = some (.lst R1) := lke
 have g2 : (μ ++ [Cell.lst R1])[1]? = some cH := by rw [List.getElem?_append_left l1]; exact hH
 have g3 : (μ ++ [Cell.lst R1] ++ [Cell.lst R1])[μ.length]? = some (.lst R1) := by rw [List.getElem?_append_left (by simp)]; exact g1
 have g4 : (μ ++ [Cell.lst R1] ++ [Cell.lst R1])[(μ ++ [Cell.lst R1]).length]? = some (.lst R1) := lke
 have g5 : (μ ++ [Cell.lst R1] ++ [Cell.lst R1])[1]? = some cH := by rw [List.getElem?_append_left (by simp; omega)]; exact g2
 have isl : ∀ μ' : Store, μ'[μ.length]? = some (.lst R1) -> isiD "list" (.p μ.length) μ' = some (.v (.bl true), μ') := fun μ' e => by
  have ht : tyD (.p μ.length) μ' = some "list" := by simp only [tyD, e]
  unfold isiD
  rw [ht]
  rfl
 have i1 := isl _ g1
 obtain ⟨M2, hM2⟩ : ∃ M2, M2 = (μ ++ [Cell.lst R1] ++ [Cell.lst R1]).set μ.length (.lst (R1 ++ [.tup []])) := ⟨_, rfl⟩
 have g6 : M2[1]? = some cH := by rw [hM2, List.getElem?_set_ne (by omega)]; exact g5
 have l2 : 1 < M2.length := (List.getElem?_eq_some_iff.mp g6).1
 rcases hc with hc | hc
 ·subst hc
  cases q3 : (cell % 3 == 0) with
  | false =>
   refine ⟨M2, _, some (.v (.int d)), some (.v (.int t)), some (.p μ.length), some (.v (.int t2)), ?_, g6, .inl rfl⟩
   push_cast [l_law_0, hs1, hH, c1, f1, i1, c2, g3, g4, g5, o1, q1, okT, eqT, zr, ← hM2, hs2, m3, q3, Bool.not_true]
  | true =>
   refine ⟨M2.set 1 (.fz (Ts.map xD)), .fz (Ts.map xD), some (.v (.int d)), some (.v (.int t)), some (.p μ.length), some (.v (.int t2)), ?_, by rw [List.getElem?_set_self l2], .inr rfl⟩
   push_cast [l_law_0, hs1, hH, c1, f1, i1, c2, g3, g4, g5, o1, q1, okT, eqT, zr, ← hM2, hs2, m3, q3, g6, st, Bool.not_true]
 ·subst hc
  cases q3 : (cell % 3 == 0) with
  | false =>
   refine ⟨M2, _, some (.v (.int d)), some (.v (.int t)), some (.p μ.length), some (.v (.int t2)), ?_, g6, .inr rfl⟩
   push_cast [l_law_0, hs1, hH, c1, f1, i1, c2, g3, g4, g5, o1, q1, okT, eqT, zr, ← hM2, hs2, m3, q3, Bool.not_true]
  | true =>
   refine ⟨M2, _, some (.v (.int d)), some (.v (.int t)), some (.p μ.length), some (.v (.int t2)), ?_, g6, .inr rfl⟩
   push_cast [l_law_0, hs1, hH, c1, f1, i1, c2, g3, g4, g5, o1, q1, okT, eqT, zr, ← hM2, hs2, m3, q3, g6, st, Bool.not_true]
theorem cell_ex (ns : List Int) (k : Nat) : ∃ c, m_law_cell [.fl (ns.map .int), .int (k : Int)] = some (.int c) := by
 rw [u_law_cell]
 by_cases h : k < ns.length
 ·have c0 : decide ((k : Int) < (ns.length : Int)) = true := decide_eq_true (by omega)
  have c1 : L2.atI (ns.map D.int) (k : Int) = some (.int ns[k]) := at_map (List.getElem?_eq_getElem h)
  exact ⟨ns[k], by push_cast [b_law_cell, List.length_map, c0, c1]⟩
 ·have c0 : decide ((k : Int) < (ns.length : Int)) = false := decide_eq_false (by omega)
  exact ⟨0, by push_cast [b_law_cell, List.length_map, c0]⟩
theorem scale_ex (c : Int) : ∃ s : Int, m_law_scale [.int c] = some (.int s) /\ 0 < s := by
 rw [u_law_scale]
 obtain ⟨P, hP⟩ : ∃ P : Int, P = 10 ^ (40 : Int).toNat := ⟨_, rfl⟩
 have hpow : ∀ μ : Store, powD (.v (.int 10)) (.v (.int 40)) μ = some (.v (.int P), μ) := fun μ => by rw [ev_pow (by decide), hP]
 have hP0 : 0 < P := by rw [hP]; exact Int.pow_pos (by decide)
 clear hP
 have b := emod_b c (j := 3) (by decide)
 obtain ⟨x, hx, hx0⟩ : ∃ x : Int, L2.atI [D.int 1, D.int 1, D.int P] (c % 3) = some (.int x) /\ 0 < x := by
  have : c % 3 = 0 \/ c % 3 = 1 \/ c % 3 = 2 := by omega
  rcases this with h | h | h <;> rw [h]
  ·exact ⟨1, rfl, by decide⟩
  ·exact ⟨1, rfl, by decide⟩
  ·exact ⟨P, rfl, hP0⟩
 exact ⟨x, by push_cast [b_law_scale, hpow, ev_mod (i := c) (j := 3) (by decide), hx], hx0⟩
theorem lk3b {μ : Store} {a b c : Cell} : (μ ++ [a] ++ [b] ++ [c])[μ.length + 1]? = some b := by simp
theorem lk3c {μ : Store} {a b c : Cell} : (μ ++ [a] ++ [b] ++ [c])[μ.length + 1 + 1]? = some c := by
 simp only [List.append_assoc, List.cons_append, List.nil_append, Nat.add_assoc, Nat.reduceAdd]; rw [List.getElem?_append_right (by omega)]; simp
theorem lk4d {μ : Store} {a b c d : Cell} : (μ ++ [a] ++ [b] ++ [c] ++ [d])[μ.length + 1 + 1 + 1]? = some d := by
 simp only [List.append_assoc, List.cons_append, List.nil_append, Nat.add_assoc, Nat.reduceAdd]; rw [List.getElem?_append_right (by omega)]; simp
theorem lk6b {μ : Store} {a b c d e f : Cell} : (μ ++ [a] ++ [b] ++ [c] ++ [d] ++ [e] ++ [f])[μ.length + 1 + 1 + 1 + 1]? = some e := by
 simp only [List.append_assoc, List.cons_append, List.nil_append, Nat.add_assoc, Nat.reduceAdd]; rw [List.getElem?_append_right (by omega)]; simp
theorem lk6c {μ : Store} {a b c d e f : Cell} : (μ ++ [a] ++ [b] ++ [c] ++ [d] ++ [e] ++ [f])[μ.length + 1 + 1 + 1 + 1 + 1]? = some f := by
 simp only [List.append_assoc, List.cons_append, List.nil_append, Nat.add_assoc, Nat.reduceAdd]; rw [List.getElem?_append_right (by omega)]; simp
theorem nil_tt (w : Nat) : TT w [] := ⟨⟨(fun _ h => nomatch h), (fun _ h => nomatch h), .nil, by simp⟩, (fun _ h => nomatch h)⟩
theorem law_true (bt : Bool) (ns : List Int) (hl : ns.length <= 63) : m_law bt [.fl (ns.map .int)] = some (.bl true) := by
 rw [u_law]
 obtain ⟨c, hc⟩ := cell_ex ns 0
 have hc' : m_law_cell [.fl (ns.map .int), .int 0] = some (.int c) := hc
 obtain ⟨s, hsc, hs⟩ := scale_ex (c / 4)
 have bw := emod_b c (j := 4) (by decide)
 obtain ⟨w, hw⟩ : ∃ w : Nat, c % 4 = (w : Int) := ⟨(c % 4).toNat, by omega⟩
 have hw3 : w <= 3 := by omega
 obtain ⟨ms, hms, hml⟩ : ∃ ms : List Int, cutD (ns.map D.int) (some 1) (some 41) = ms.map D.int /\ ms.length <= 40 := by
  unfold cutD
  rw [← List.map_drop, ← List.map_take]
  refine ⟨_, rfl, ?_⟩
  have h1 : ∀ d n : Nat, HT.sIx n d (some 1) = min 1 n := fun d n => rfl
  have h2 : ∀ d n : Nat, HT.sIx n d (some 41) = min 41 n := fun d n => rfl
  simp only [h1, h2, List.length_map, List.length_take, List.length_drop]
  omega
 obtain ⟨T, hT, tab⟩ := table_ex bt ms w hw3 s hs hml
 obtain ⟨Ts, hTs, hge⟩ := typed tab.val
 rw [hTs, map_x] at hT
 rw [hTs] at tab
 have tt : TT w Ts := ⟨tab, hge⟩
 have hN := tt.n
 have zT : (Ts.map xD).length <= sizeLine := small'' (by rw [List.length_map]; omega)
 have hd : ∀ μ : Store, modD (.v (.int c)) (.v (.int 4)) μ = some (.v (.int (w : Int)), μ) := fun μ => by rw [ev_mod (by decide), hw]
 have hq : ∀ μ : Store, divD (.v (.int c)) (.v (.int 4)) μ = some (.v (.int (c / 4)), μ) := fun μ => ev_div (by decide) (by decide)
 have z1 : 1 + (ns.map D.int).length <= sizeLine := small'' (by simp; omega)
 have aF : ∀ c0 c1 : Cell, addF (.p 2) (.v (.fl (ns.map .int))) [c0, c1, .lst [.int 0]] = some (.p 3, [c0, c1, .lst [.int 0], .lst (.int 0 :: ns.map .int)]) := fun c0 c1 => by
  show (if 1 + (ns.map D.int).length <= sizeLine then _ else _) = _
  rw [if_pos z1]; rfl
 have sl0 : n_slice_of [.fl [], .int 5] = some (.lst []) := slice_eq (nil_tt 0) 5
 have cu0 : n_cut_at [.fl [], .int 0, .int 0] = some (.lst []) := cut_eq (nil_tt 0) 0 0
 have ok0 : okD 60 (.fl []) = true := rfl
 have q0 : eqD (.fl []) (.fl []) = true := rfl
 have f0 : flatC (.lst []) = true := rfl
 have okT := tt.ok
 have eqT := eq_tab Ts
 obtain ⟨⟨μ, x5, x6, x7, x8, x9⟩, e, cH, hH, hcH⟩ := loop_inv (g := gNm 5) (b := l_law_0 bt) D.int
  (fun st : Store × Option R × Option R × Option R × Option R × Option R => ([some (.v (.fl (ns.map .int))), some (.v (.int (w : Int))), some (.v (.int s)), some (.v (.fl (Ts.map xD))), some (.p 1), st.2.1, st.2.2.1, st.2.2.2.1, st.2.2.2.2.1, st.2.2.2.2.2], st.1))
  (fun st _ => ∃ cH, st.1[1]? = some cH /\ (cH = .lst (Ts.map xD) \/ cH = .fz (Ts.map xD))) (0 :: ns) ([Cell.fz (ms.map .int), .lst (Ts.map xD), .lst [.int 0], .fz (.int 0 :: ns.map .int)], none, none, none, none, none) ⟨_, rfl, .inl rfl⟩ (by
   rintro ⟨μ, x5, x6, x7, x8, x9⟩ cell rem ⟨cH, hH, hcH⟩
   obtain ⟨μ', c', y6, y7, y8, y9, q, h1, h2⟩ := turn_nx bt tt hw3 s cell μ cH hH hcH (some (.v (.fl (ns.map .int)))) x6 x7 x8 x9
   refine ⟨(μ', some (.v (.int cell)), y6, y7, y8, y9), ?_, c', h1, h2⟩
   rw [ev_gnm, ev_G]
   exact q)
 simp only [List.map_cons] at e hH
 generalize hTd : Ts.map xD = Td at *
 push_cast [b_law, hc', hd, hq, hsc, hms, hT, zT, sz1, aF]
 rw [e]
 rcases hcH with h | h
 ·subst h
  push_cast [hH, okT, eqT, sl0, f0, ok0, q0, cu0, lke, lk3b, lk3c, lk4d, lk6b, lk6c, List.length_append, List.length_cons, List.length_nil]
 ·subst h
  push_cast [hH, okT, eqT, sl0, f0, ok0, q0, cu0, lke, lk3b, lk3c, lk4d, lk6b, lk6c, List.length_append, List.length_cons, List.length_nil]
end LW
open PySem PySem.W PyProof.Rows
set_option maxRecDepth 100000 in
set_option maxHeartbeats 0 in
theorem PySem.Challenge.cw_heldwhen_k19_cuts_and_slices_holds : PySem.Challenge.rw_heldwhen_k19_cuts_and_slices.Holds := by
 w_on; o_law; k_head; (case hw => w_witness2)
 k_fill
 refine L2.walk_ofK (l := PySem.Challenge.rw_heldwhen_k19_cuts_and_slices) (n := 63) (k := 7) (x := "script") (CX := L2.CX0) (sp := fun K => (fun vs H Q E => ∀ b, HW.spP K 1 (LW.m_law b) vs H Q E)) rfl (by decide) rfl ⟨rfl, by decide, by decide⟩ (fun w h Y => PySem.W.kIn_of Y) ?F (fun K H a ns hl hO hS => fun b => HW.law_sp hO hS (LW.law_true b ns hl)) fun _ _ _ _ z => z
 case F =>
  intro w mg fa h KX G hmg
  refine' LW.all_mk KX G hmg ?a0 ?a1 ?a2 ?a3 ?a4 ?a5 ?a6 ?a7 ?a8 ?a9 ?a10 ?a11 ?a12 ?a13 ?a14 ?a15 ?a16 ?a17 ?a18 ?a19 ?a20 ?a21 ?gNO_NUMBERS ?LNO_NUMBERS ?LNO_NUMBERS_1 ?z0 ?z1 ?z2 ?z3 ?z4 ?z5 ?z6 ?z7 ?z8 ?z9
  (case a0 | a1 | a2 | a3 | a4 | a5 | a6 | a7 | a8 | a9 | a10 | a11 | a12 | a13 | a14 | a15 | a16 | a17 | a18 | a19 | a20 | a21 => exact ⟨_, by k_is, _, _, _, _, _, _, _, _, _, by k_is, by k_is, by k_is⟩)
  (case gNO_NUMBERS | LNO_NUMBERS | LNO_NUMBERS_1 | z0 | z1 | z2 | z3 | z4 | z5 | z6 | z7 | z8 | z9 => k_is)