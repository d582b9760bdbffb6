import PyProof.Rows.All
import Wide.All
import OpenK.AllK
import Wide.FinOn
import Lean
import PyProof.EqAt
import PyProof.EqKinds
import PyProof.TupleCall
import PyProof.IsiH_tuple
import PyProof.NsDelKeeps
import PyProof.FString4
import PyProof.ExcBaseAll.ValueError
import PyProof.ForAny
import KE.KIsAll
import KE.KSortTup
import KE.KLam
import KE.KNestM
import PyProof.StrWalks
import PyProof.SliceStr2
import PyProof.StrBlockI
import KE.KIntText
import PyProof.StrCalls2
import PyProof.StrLawsTight
import PyProof.Rows.FStrParts
import PyProof.Rows.StrInSeq3
import PyProof.TupleKey
import PyProof.IsRules
import PyProof.SumWalkG
import PyProof.EnumFor
import PyProof.EnumStmt
import PyProof.EnumMake
import PyProof.StrBlock2
import PySem.Challenge.RW_heldwhen_k51_fallen
set_option Elab.async false
set_option linter.all false
set_option maxRecDepth 100000
namespace L2
open PySem PySem.Spec PyProof.Rows
noncomputable abbrev Key := Sum Int Str
noncomputable def keyIs : Key -> Value -> Bool
 | .inl k, v => Value.isInt k v
 | .inr x, v => Value.isStrOf x v
noncomputable def keyH (w : World) : Key -> Int
 | .inl k => hashInt k
 | .inr x => hashStr w x
theorem keyIs_shape : ∀ {k : Key} {v : Value}, keyIs k v = true -> (∃ i t, k = Sum.inl i /\ v = Value.int i t) \/ (∃ x t, k = Sum.inr x /\ v = Value.str x t)
 | .inl i, v, h => by
  obtain ⟨t, e⟩ := Value.isInt_shape (k := i) (v := v) h
  exact .inl ⟨i, t, rfl, e⟩
 | .inr x, v, h => by
  obtain ⟨t, e⟩ := Value.isStrOf_shape (x := x) (v := v) h
  exact .inr ⟨x, t, rfl, e⟩
theorem key_ll (a b : Int) : decide ((Sum.inl a : Key) = Sum.inl b) = (a == b) := by
 by_cases e : a = b
 ·subst e; simp
 ·have h : ¬ (Sum.inl a : Key) = Sum.inl b := fun q => e (Sum.inl.inj q)
  rw [decide_eq_false h]
  exact (beq_eq_false_iff_ne.mpr e).symm
theorem key_rr (a b : Str) : decide ((Sum.inr a : Key) = Sum.inr b) = decide (a = b) := by
 by_cases e : a = b
 ·subst e; simp
 ·have h : ¬ (Sum.inr a : Key) = Sum.inr b := fun q => e (Sum.inr.inj q)
  rw [decide_eq_false h, decide_eq_false e]
theorem key_lr (a : Int) (b : Str) : decide ((Sum.inl a : Key) = Sum.inr b) = false := decide_eq_false (fun q => nomatch q)
theorem key_rl (a : Str) (b : Int) : decide ((Sum.inr a : Key) = Sum.inl b) = false := decide_eq_false (fun q => nomatch q)
noncomputable def mixKind (prog : Program) (w : World) : PySem.KeyKind prog w Key where
 is := keyIs
 hash := keyH w
 inj := fun v a b ha hb => by
  rcases keyIs_shape ha with ⟨i, t, rfl, rfl⟩ | ⟨x, t, rfl, rfl⟩
  ·rcases keyIs_shape hb with ⟨j, u, rfl, e⟩ | ⟨y, u, rfl, e⟩
   ·injection e with e1 _; rw [e1]
   ·exact nomatch e
  ·rcases keyIs_shape hb with ⟨j, u, rfl, e⟩ | ⟨y, u, rfl, e⟩
   ·exact nomatch e
   ·injection e with e1 _; rw [e1]
 byValue := fun k v h => by
  rcases keyIs_shape h with ⟨i, t, rfl, rfl⟩ | ⟨x, t, rfl, rfl⟩ <;> rfl
 pyHash := fun hv h => by
  rcases keyIs_shape hv with ⟨i, t, rfl, rfl⟩ | ⟨x, t, rfl, rfl⟩
  ·exact wpAny_pyHash_int h
  ·exact wpAny_pyHash_str h
 eqBool := fun hu hv h => by
  rcases keyIs_shape hu with ⟨i, t, rfl, rfl⟩ | ⟨x, t, rfl, rfl⟩
  ·rcases keyIs_shape hv with ⟨j, u, rfl, rfl⟩ | ⟨y, u, rfl, rfl⟩
   ·rw [key_ll] at h; exact wpAny_eqBool_int h
   ·rw [key_lr] at h; exact SeqAt.EqAt.int_str i t y u _ _ _ _ h
  ·rcases keyIs_shape hv with ⟨j, u, rfl, rfl⟩ | ⟨y, u, rfl, rfl⟩
   ·rw [key_rl] at h; exact SeqAt.EqAt.str_int x t j u _ _ _ _ h
   ·rw [key_rr] at h; exact wpAny_eqBool_str h
 «strs» := fun k x t v h => by
  rcases keyIs_shape h with ⟨i, u, rfl, e⟩ | ⟨y, u, rfl, e⟩
  ·exact nomatch e
  ·injection e with e1 _
   subst e1
   cases v <;> rfl
end L2
namespace L2
open PySem PySem.Spec PyProof.Rows
inductive V where
 | non | bl (b : Bool) | int (i : Int) | str (x : Str) | byt (b : Array UInt8) | flt (b : UInt64) | ref (a : Addr) | ty (n : String)
 deriving DecidableEq
def RelV : V -> Value -> Prop
 | .non, u => u = Value.none
 | .bl b, u => u = Value.bool b
 | .int i, u => ∃ t, u = Value.int i t
 | .str x, u => ∃ t, u = Value.str x t
 | .byt b, u => ∃ t, u = Value.bytes b t
 | .flt b, u => ∃ t, u = Value.float b t
 | .ref a, u => u = Value.ref a
 | .ty n, u => u = Value.type n
abbrev Vals : List V -> List Value -> Prop := Paired RelV
theorem Vals.length {xs : List V} {us : List Value} (r : Vals xs us) : xs.length = us.length := Paired.length r
theorem Vals.get : ∀ {xs : List V} {us : List Value} {i : Nat} {x : V}, Vals xs us -> xs[i]? = some x -> ∃ u, us[i]? = some u /\ RelV x u
 | _, _, _, _, .nil, e => by simp at e
 | _, _, 0, _, .cons r _, e => by simp at e; subst e; exact ⟨_, rfl, r⟩
 | _, _, i + 1, x, .cons _ t, e => by
  obtain ⟨u, h1, h2⟩ := Vals.get (i := i) (x := x) t (by simpa using e)
  exact ⟨u, by simpa using h1, h2⟩
theorem Vals.set {x : V} {u : Value} (r : RelV x u) : ∀ {xs : List V} {us : List Value} (i : Nat), Vals xs us -> Vals (xs.set i x) (us.set i u)
 | _, _, _, .nil => .nil
 | _, _, 0, .cons _ t => .cons r t
 | _, _, i + 1, .cons q t => .cons q (Vals.set r i t)
theorem Vals.append : ∀ {xs ys : List V} {us ws : List Value}, Vals xs us -> Vals ys ws -> Vals (xs ++ ys) (us ++ ws)
 | _, _, _, _, .nil, s => s
 | _, _, _, _, .cons r t, s => .cons r (Vals.append t s)
theorem Vals.take : ∀ {xs : List V} {us : List Value} (n : Nat), Vals xs us -> Vals (xs.take n) (us.take n)
 | _, _, 0, _ => .nil
 | _, _, _ + 1, .nil => .nil
 | _, _, n + 1, .cons r t => .cons r (Vals.take n t)
theorem Vals.drop : ∀ {xs : List V} {us : List Value} (n : Nat), Vals xs us -> Vals (xs.drop n) (us.drop n)
 | _, _, 0, r => r
 | _, _, _ + 1, .nil => .nil
 | _, _, n + 1, .cons _ t => Vals.drop n t
def RelO : Option V -> Option Value -> Prop
 | some v, some u => RelV v u
 | none, none => True
 | _, _ => False
def KV {κ : Type} : List (κ × V) -> List (κ × Value) -> Prop := Paired fun (p : κ × V) (q : κ × Value) => p.1 = q.1 /\ RelV p.2 q.2
noncomputable def kV : Key -> V
 | .inl i => .int i
 | .inr x => .str x
inductive HO where
 | lst (xs : List V)
 | tup (xs : List V)
 | dK (kvs : List (Key × V)) | dT (kvs : List (List Key × V))
 | set (S : Int -> Bool) (n : Nat)
 | ins (C dx : Addr) (fs : List (Str × V))
 | own (x : Addr)
 | xd (fs : List (Str × V))
 | met (f x : Addr)
 | rng (lo hi : Int)
 | frz (o : Obj) (u : HO)
 | tbl (ps : Array Value)
 | ext (φ : Heap -> Prop)
noncomputable abbrev Hp := Addr -> Option HO
def upd (H : Hp) (a : Addr) (o : HO) : Hp := fun b => if b = a then some o else H b
theorem upd_same {H : Hp} {a : Addr} {o : HO} : upd H a o a = some o := by unfold upd; rw [if_pos rfl]
theorem upd_ne {H : Hp} {a b : Addr} {o : HO} (h : b ≠ a) : upd H a o b = H b := by unfold upd; rw [if_neg h]
theorem ne_of_none {H : Hp} {a b : Addr} {o : HO} (h : H a = some o) (h' : H b = none) : a ≠ b := by
 intro e; subst e; rw [h] at h'; cases h'
def IsTupD (h : Heap) (a : Addr) (items : Array Value) : Prop := IsTup h a items /\ ∀ o, h.get? a = some o -> o.dict = none
theorem IsTupD.new (h : Heap) (items : Array Value) : IsTupD (h.push { cls := .type "tuple", data := .seq items }) h.objs.size items := ⟨IsTup.new _ _, fun o e => by rw [Heap.get?_push_size _ rfl] at e; cases e; rfl⟩
section
variable (P : Program) (w : World)
def ObjOk (H : Hp) (h : Heap) (a : Addr) : HO -> Prop
 | .lst xs => xs.length <= sizeLine /\ ∃ (its : List Value) (n : Nat), Vals xs its /\ h.get? a = some { cls := .type "list", data := .seq its.toArray n }
 | .tup xs => xs.length <= sizeLine /\ ∃ its : List Value, Vals xs its /\ IsTupD h a its.toArray
 | .dK kvs => kvs.length <= sizeLine /\ (a == sysModules) = false /\ ∃ vs, KV kvs vs /\ h.DictOf (mixKind P w) a vs
 | .dT kvs => kvs.length <= sizeLine /\ (a == sysModules) = false /\ ∃ xs : List (List Key × Addr × Value),
   Paired (fun (p : List Key × V) (q : List Key × Addr × Value) => p.1 = q.1 /\ H q.2.1 = some (.tup (p.1.map kV)) /\ RelV p.2 q.2.2) kvs xs /\
   ∃ o es ep, h.get? a = some o /\ o.ExactDict /\ o.data = .dict es ep /\ es.toList = xs.map (entryOfKey (tupleKind (mixKind P w))) /\ (xs.map (·.1)).Nodup
 | .set S n => h.SetOf (intKind P w) a S n
 | .ins C dx fs => H dx = some (.own a) /\ fs.length <= 1000 /\ dx ≠ a /\ h.get? a = some (PySem.W.instObj C dx) /\
   ∃ mA, h.Ns1 dx mA /\ (∀ f, RelO (fs.lookup f) (mA f)) /\ PySem.Within mA (fs.map (·.1))
 | .own _ => ∃ o, h.get? a = some o
 | .xd fs => ∃ mA, h.Ns1 a mA /\ ∀ f, RelO (fs.lookup f) (mA f)
 | .rng lo hi => ∃ t u v, h.get? a = some { cls := .type "range", data := .fields #[.int lo t, .int hi u, .int 1 v] }
 | .frz o u => h.get? a = some o /\ ObjOk H h a u
 | .tbl ps => h.get? a = some { cls := .none, data := .fields ps }
 | .met f x => h.get? a = some (PySem.W.methodObj (.ref f) (.ref x))
 | .ext φ => φ h /\ (∃ o, h.get? a = some o) /\ ∀ h1 h2 : Heap, φ h1 -> (∀ o, h1.get? a = some o -> h2.get? a = some o) -> φ h2
def HOk (H : Hp) (h : Heap) : Prop := ∀ a o, H a = some o -> ObjOk P w H h a o
end
section
variable {P : Program} {w : World} {H H' : Hp} {h h' : Heap} {a : Addr} {o : HO}
theorem ObjOk.lt (x : ObjOk P w H h a o) : a < h.objs.size := by
 cases o with
 | lst xs => obtain ⟨_, _, _, _, e⟩ := x; exact Heap.lt_size e
 | tup xs => obtain ⟨_, _, _, p⟩ := x; exact p.1.lt
 | dK kvs => obtain ⟨_, _, _, _, o, _, _, e, _⟩ := x; exact Heap.lt_size e
 | dT kvs => obtain ⟨_, _, _, _, o, _, _, e, _⟩ := x; exact Heap.lt_size e
 | set S n => obtain ⟨o, _, _, _, e, _⟩ := x; exact Heap.lt_size e
 | ins C dx fs => obtain ⟨_, _, _, e, _⟩ := x; exact Heap.lt_size e
 | own y => obtain ⟨_, e⟩ := x; exact Heap.lt_size e
 | xd fs => obtain ⟨_, ⟨_, _, _, e, _⟩, _⟩ := x; exact Heap.lt_size e
 | rng lo hi => obtain ⟨_, _, _, e⟩ := x; exact Heap.lt_size e
 | frz ob u => obtain ⟨e, _⟩ := x; exact Heap.lt_size e
 | tbl ps => exact Heap.lt_size (show h.get? a = some _ from x)
 | met f y => exact Heap.lt_size (show h.get? a = some _ from x)
 | ext φ => obtain ⟨_, ⟨_, e⟩, _⟩ := x; exact Heap.lt_size e
theorem Paired.mapP {α β : Type} {F G : α -> β -> Prop} : ∀ {l₁ : List α} {l₂ : List β}, Paired F l₁ l₂ -> (∀ a b, F a b -> G a b) -> Paired G l₁ l₂
 | _, _, .nil, _ => .nil
 | _, _, .cons r t, f => .cons (f _ _ r) (Paired.mapP t f)
theorem ObjOk.stay (x : ObjOk P w H h a o) (k : ∀ b u, (b = a \/ H b = some (.own a)) -> h.get? b = some u -> h'.get? b = some u)
  (ho : ∀ b, H b = some (.own a) -> H' b = some (.own a)) (ht : ∀ b xs, H b = some (.tup xs) -> H' b = some (.tup xs)) : ObjOk P w H' h' a o := by
 induction o with
 | lst xs => obtain ⟨z, its, n, r, e⟩ := x; exact ⟨z, its, n, r, k _ _ (.inl rfl) e⟩
 | tup xs => obtain ⟨z, its, r, ⟨ob, e, c⟩, dn⟩ := x; exact ⟨z, its, r, ⟨ob, k _ _ (.inl rfl) e, c⟩, fun o q => by rw [k _ _ (.inl rfl) e] at q; cases q; exact dn _ e⟩
 | dK kvs => obtain ⟨z, y, vs, r, ob, es, ep, e, c⟩ := x; exact ⟨z, y, vs, r, ob, es, ep, k _ _ (.inl rfl) e, c⟩
 | dT kvs =>
  obtain ⟨z, y, xs, r, ob, es, ep, e, c⟩ := x
  exact ⟨z, y, xs, Paired.mapP r fun p q z => ⟨z.1, ht _ _ z.2.1, z.2.2⟩, ob, es, ep, k _ _ (.inl rfl) e, c⟩
 | set S n => obtain ⟨ob, es, ep, t, e, c⟩ := x; exact ⟨ob, es, ep, t, k _ _ (.inl rfl) e, c⟩
 | ins C dx fs =>
  obtain ⟨d, z, ne, e, mA, ⟨od, es, ep, e2, c⟩, r⟩ := x
  exact ⟨ho _ d, z, ne, k _ _ (.inl rfl) e, mA, ⟨od, es, ep, k _ _ (.inr d) e2, c⟩, r⟩
 | own y => obtain ⟨ob, e⟩ := x; exact ⟨ob, k _ _ (.inl rfl) e⟩
 | xd fs => obtain ⟨mA, ⟨od, es, ep, e, c⟩, r⟩ := x; exact ⟨mA, ⟨od, es, ep, k _ _ (.inl rfl) e, c⟩, r⟩
 | rng lo hi => obtain ⟨t, u, v, e⟩ := x; exact ⟨t, u, v, k _ _ (.inl rfl) e⟩
 | frz ob u ih => obtain ⟨e, q⟩ := x; exact ⟨k _ _ (.inl rfl) e, ih q⟩
 | tbl ps =>
  have e : h.get? a = some { cls := .none, data := .fields ps } := x
  show h'.get? a = some { cls := .none, data := .fields ps }
  exact k a _ (.inl rfl) e
 | met f y =>
  have e : h.get? a = some (PySem.W.methodObj (.ref f) (.ref y)) := x
  show h'.get? a = some (PySem.W.methodObj (.ref f) (.ref y))
  exact k a _ (.inl rfl) e
 | ext φ => obtain ⟨p, ⟨o, e⟩, st⟩ := x; exact ⟨st _ _ p fun o q => k _ _ (.inl rfl) q, ⟨o, k _ _ (.inl rfl) e⟩, st⟩
theorem HOk.lt (x : HOk P w H h) (e : H a = some o) : a < h.objs.size := (x a o e).lt
theorem HOk.fresh (x : HOk P w H h) (e : h.objs.size <= a) : H a = none := by
 cases q : H a with
 | none => rfl
 | some u => exact absurd (Nat.lt_of_lt_of_le (x.lt q) e) (Nat.lt_irrefl _)
theorem HOk.kept (x : HOk P w H h) (k : ∀ b u, h.get? b = some u -> h'.get? b = some u) : HOk P w H h' := fun a o e =>
 (x a o e).stay (fun b u _ q => k b u q) (fun _ q => q) fun _ _ q => q
theorem HOk.laid (x : HOk P w H h) (k : ∀ b u, h.get? b = some u -> h'.get? b = some u) (hp : h.objs.size <= a) (new : ObjOk P w (upd H a o) h' a o) : HOk P w (upd H a o) h' := fun b u e => by
 have hn := x.fresh hp
 by_cases hb : b = a
 ·subst hb; rw [upd_same] at e; cases e; exact new
 ·rw [upd_ne hb] at e
  exact (x b u e).stay (fun c v _ q => k c v q) (fun c q => by rw [upd_ne (ne_of_none q hn)]; exact q) fun c xs q => by rw [upd_ne (ne_of_none q hn)]; exact q
end
def Rd (H : Hp) (a : Addr) (u : HO) : Prop := H a = some u \/ ∃ o, H a = some (.frz o u)
theorem Rd.ok {P : Program} {w : World} {H : Hp} {h : Heap} {a : Addr} {u : HO} (r : Rd H a u) (x : HOk P w H h) : ObjOk P w H h a u := by
 rcases r with r | ⟨o, r⟩
 ·exact x a u r
 ·obtain ⟨_, q⟩ := x a _ r
  exact q
def Mut : Option HO -> Prop
 | some (.lst _) => True
 | some (.dK _) => True
 | some (.dT _) => True
 | some (.set _ _) => True
 | some (.ins _ _ _) => True
 | some (.ext _) => True
 | _ => False
section
variable {P : Program} {w : World} {H : Hp} {h h' : Heap} {x e : Addr} {o' : HO}
theorem HOk.write (ok : HOk P w H h) (mu : Mut (H x)) (he : e = x \/ H e = some (.own x)) (k : ∀ b u, b ≠ e -> h.get? b = some u -> h'.get? b = some u) (heo : ∃ u, h'.get? e = some u)
  (new : ObjOk P w (upd H x o') h' x o') : HOk P w (upd H x o') h' := fun b u q => by
 have nown : ∀ c y, H c = some (.own y) -> c ≠ x := fun c y r z => by subst z; rw [r] at mu; exact mu
 have ntup : ∀ c xs, H c = some (.tup xs) -> c ≠ x := fun c xs r z => by subst z; rw [r] at mu; exact mu
 by_cases hb : b = x
 ·subst hb; rw [upd_same] at q; cases q; exact new
 ·rw [upd_ne hb] at q
  by_cases hbe : b = e
  ·have q' : H b = some (.own x) := by
    rcases he with z | z
    ·exact absurd (hbe.trans z) hb
    ·rw [hbe]; exact z
   rw [q] at q'; cases q'
   obtain ⟨v, hv⟩ := heo
   exact ⟨v, by rw [hbe]; exact hv⟩
  ·refine (ok b u q).stay (fun c v hc r => k c v ?_ r) (fun c r => by rw [upd_ne (nown c b r)]; exact r) fun c xs r => by rw [upd_ne (ntup c xs r)]; exact r
   rcases hc with rfl | hc
   ·exact hbe
   ·rintro rfl
    rcases he with z | z
    ·exact nown c b hc z
    ·rw [hc] at z; cases z; exact hb rfl
end
structure Un (fs ex : List Addr) (H H' : Hp) (h h' : Heap) : Prop where
 keep : ∀ b o, h.get? b = some o -> H b = none -> b ∉ fs -> b ∉ ex -> h'.get? b = some o
 slot : ∀ b o, h.get? b = some o -> H b = none -> b ∈ fs -> b ∉ ex -> ∃ sl, h'.get? b = some { o with slots := sl }
 free : ∀ b o, h.get? b = some o -> H b = none -> b ∉ ex -> H' b = none
 there : ∀ b o, h.get? b = some o -> b ∉ ex -> ∃ o', h'.get? b = some o'
 tups : ∀ b xs, H b = some (.tup xs) -> H' b = some (.tup xs)
 frzs : ∀ b o u, H b = some (.frz o u) -> H' b = some (.frz o u)
 tbls : ∀ b ps, H b = some (.tbl ps) -> ∃ more, H' b = some (.tbl (ps ++ more))
section
variable {fs fs' ex ex' : List Addr} {H H1 H2 : Hp} {h h1 h2 h' : Heap} {a x e : Addr} {o : HO}
theorem Un.any (u : Un fs ex H H1 h h1) {b : Addr} {ob : Obj} (q : h.get? b = some ob) (n : H b = none) (hx : b ∉ ex) : ∃ sl, h1.get? b = some { ob with slots := sl } := by
 by_cases hb : b ∈ fs
 ·exact u.slot b ob q n hb hx
 ·exact ⟨ob.slots, u.keep b ob q n hb hx⟩
theorem Un.kept (k : ∀ b u, h.get? b = some u -> h'.get? b = some u) : Un fs ex H H h h' :=
 ⟨fun b ob q _ _ _ => k b ob q, fun b ob q _ _ _ => ⟨ob.slots, k b ob q⟩, fun _ _ _ n _ => n, fun b ob q _ => ⟨ob, k b ob q⟩, fun _ _ q => q, fun _ _ _ q => q, fun _ ps q => ⟨#[], by rw [q]; simp⟩⟩
theorem Un.refl : Un fs ex H H h h := Un.kept fun _ _ q => q
theorem Un.laid (k : ∀ b u, h.get? b = some u -> h'.get? b = some u) (hp : h.objs.size <= a) (hn : H a = none) : Un fs ex H (upd H a o) h h' where
 keep := fun b u q _ _ _ => k b u q
 slot := fun b u q _ _ _ => ⟨u.slots, k b u q⟩
 free := fun b u q n _ => by rw [upd_ne (Nat.ne_of_lt (Nat.lt_of_lt_of_le (Heap.lt_size q) hp))]; exact n
 there := fun b u q _ => ⟨u, k b u q⟩
 tups := fun b xs q => by rw [upd_ne (ne_of_none q hn)]; exact q
 frzs := fun b u xs q => by rw [upd_ne (ne_of_none q hn)]; exact q
 tbls := fun b ps q => ⟨#[], by rw [upd_ne (ne_of_none q hn), q]; simp⟩
theorem Un.write (mu : Mut (H x)) (he : e = x \/ H e = some (.own x)) (k : ∀ b u, b ≠ e -> h.get? b = some u -> h'.get? b = some u) (heo : ∃ u, h'.get? e = some u) : Un fs ex H (upd H x o) h h' := by
 have hx : ∀ b, H b = none -> b ≠ x := fun b n z => by subst z; rw [n] at mu; exact mu
 have hb : ∀ b, H b = none -> b ≠ e := fun b n z => by
  subst z
  rcases he with r | r
  ·exact hx b n r
  ·rw [n] at r; cases r
 have hm : ∀ b u, H b = some u -> ¬ Mut (some u) -> b ≠ x := fun b u q nm z => by subst z; rw [q] at mu; exact nm mu
 refine ⟨fun b u q n _ _ => k b u (hb b n) q, fun b u q n _ _ => ⟨u.slots, k b u (hb b n) q⟩, fun b u q n _ => by rw [upd_ne (hx b n)]; exact n, fun b u q _ => ?_,
  fun b xs q => by rw [upd_ne (hm b _ q fun z => z)]; exact q, fun b u xs q => by rw [upd_ne (hm b _ q fun z => z)]; exact q, fun b ps q => ⟨#[], by rw [upd_ne (hm b _ q fun z => z), q]; simp⟩⟩
 by_cases hbe : b = e
 ·subst hbe; exact heo
 ·exact ⟨u, k b u hbe q⟩
end
def trk (h : Heap) (H : Hp) : List Addr := (List.range h.objs.size).filter fun a => (H a).isSome
def hidT (h : Heap) (H : Hp) : Heap := PySem.W.hideAll h (trk h H)
theorem hidT_size (h : Heap) (H : Hp) : (hidT h H).objs.size = h.objs.size := PySem.W.hideAll_size _ _
theorem hidT_get {h : Heap} {H : Hp} {b : Addr} {o : Obj} (e : h.get? b = some o) (n : H b = none) : (hidT h H).get? b = some o :=
 PySem.W.hideAll_get _ e fun hm => by
  have q : (H b).isSome = true := (List.mem_filter.mp hm).2
  rw [n] at q; simp at q
theorem of_hidT {h : Heap} {H : Hp} {b : Addr} {o : Obj} (e : (hidT h H).get? b = some o) : h.get? b = some o /\ H b = none := by
 have e' : h.get? b = some o := PySem.W.of_hideAll (trk h H) e
 refine ⟨e', ?_⟩
 cases q : H b with
 | none => rfl
 | some x =>
  have hm : b ∈ trk h H := List.mem_filter.mpr ⟨List.mem_range.mpr (Heap.lt_size e'), by simp [q]⟩
  have z : (hidT h H).get? b = none := PySem.W.hideAll_none (trk h H) hm
  rw [z] at e; cases e
noncomputable def allNews (g h : Heap) (L : Addr) : List (Addr × Obj) := (List.range h.objs.size).filterMap fun a => if a = L \/ (g.get? a).isSome = true then none else (h.get? a).map fun o => (a, o)
noncomputable def rest (g h : Heap) (L d : Addr) : List (Addr × Obj) := (allNews g h L).filter fun p => decide (p.1 ≠ d)
end L2
namespace L2
open PySem PySem.Spec PyProof.Rows
structure Mod (K : PySem.W.Frag) (mg : Str -> Option Value) (base : Heap) : Prop where
 kin : K.In base
 glob : base.Ns mainGlobals mg
 blt : ∃ mb, base.Ns builtinsNs mb /\ ∀ x : Str, x ≠ "__name__" -> mb x = bootBuiltins x
 nolimit : base.NoLimit
/-- the context: a def's body (or a comprehension's block) running. base: fixed through the whole law; s₀, H₀: the entry; outer: the frames whose slots others may change (a def's callers); stack: all frames that run;
   ex: iterators that were made ahead of the entry and are walked here (a comprehension's); fn: the names whose cells were made at the entry (a def: all; a comprehension's block: its own); calm: not within an except suite; pn: pins that every state bears; xe: what is wanted of an exception that leaves the code -/
structure Cx where
 prog : Program
 w : World
 K : PySem.W.Frag
 mg : Str -> Option Value
 base : Heap
 A : Around
 N : List Str
 s₀ : Shared
 H₀ : Hp
 env : Env
 outer : List Env
 stack : List Env
 ex : List Addr
 fn : Str -> Bool
 calm : Bool
 pn : List (Addr × Obj)
 xe : Value -> Shared -> Prop
noncomputable def frs (l : List Env) : List Addr := l.filterMap (·.frame)
noncomputable abbrev Cx.fs (X : Cx) : List Addr := frs X.outer
def Vis (sc : Scope) (x : Str) : Prop := sc.names.lookup x = some .local \/ sc.names.lookup x = some .cell \/ sc.names.lookup x = some .free
def Loc (sc : Scope) (x : Str) : Prop := sc.names.lookup x = some .local \/ sc.names.lookup x = some .cell
def Look (env : Env) (h : Heap) (m : Str -> Option Value) (x : Str) (u : Value) : Prop :=
 (env.kindOf x = some .local /\ m x = some u) \/ ((env.kindOf x = some .cell \/ env.kindOf x = some .free) /\ ∃ c, env.cells.lookup x = some c /\ h.IsCell c (some u))
structure Cx.Ok (X : Cx) : Prop where
 mod : Mod X.K X.mg X.base
 kind : X.env.scope.kind = .function
 glob : X.env.globals = mainGlobals
 blt : X.env.builtins = builtinsNs
 above : X.s₀.heap.objs.size <= X.env.locals
 inj : ∀ x y c, X.env.cells.lookup x = some c -> X.env.cells.lookup y = some c -> x = y
 has : ∀ x, (X.env.kindOf x = some .cell \/ X.env.kindOf x = some .free) -> ∃ c, X.env.cells.lookup x = some c
 cab : ∀ x c, X.fn x = true -> X.env.cells.lookup x = some c -> X.s₀.heap.objs.size <= c
 hd : X.calm = true -> X.A.handled = none
 frames : X.A.frames = some X.stack
 stk : X.stack = X.outer \/ (X.stack = X.env :: X.outer /\ X.env.frame = some X.env.locals)
 exf : ∀ b ∈ X.ex, b ≠ X.env.locals /\ ∀ x c, X.env.cells.lookup x = some c -> c ≠ b
 bs : ∀ b o, X.base.get? b = some o -> X.s₀.heap.get? b = some o /\ X.H₀ b = none
 bsz : X.base.objs.size <= X.s₀.heap.objs.size
 noex : ∀ b o, X.base.get? b = some o -> b ∉ X.ex
 exfs : ∀ b ∈ X.ex, b ∉ X.fs
 funs : X.s₀.heap.FunFrames X.base X.outer
 frf : ∀ b ∈ X.fs, X.H₀ b = none
structure Inv (X : Cx) (pins : List (Addr × Obj)) (σ : List (Option V)) (H : Hp) (s : Shared) : Prop where
 ok : X.Ok
 os : s.os = X.s₀.os
 bare : AllBare s.gens
 base : Un X.fs X.ex X.H₀ H X.s₀.heap s.heap
 loc : ∃ m, s.heap.Ns X.env.locals m /\ ∀ (i : Nat) (x : Str) (v : V), X.N[i]? = some x -> σ[i]? = some (some v) -> Vis X.env.scope x -> ∃ u, RelV v u /\ Look X.env s.heap m x u
 cell : ∀ x c, X.env.cells.lookup x = some c -> ∃ v, s.heap.IsCell c v
 free : H X.env.locals = none
 freeC : ∀ x c, X.env.cells.lookup x = some c -> H c = none
 pin : ∀ p ∈ X.pn ++ pins, s.heap.get? p.1 = some p.2 /\ H p.1 = none /\ p.1 ≠ X.env.locals /\ p.1 ∉ X.fs /\ ∀ v, p.2.data ≠ .cell v
 hok : HOk X.prog X.w H s.heap
 len : σ.length = X.N.length
section
variable {X : Cx} {pins : List (Addr × Obj)} {σ : List (Option V)} {H H' : Hp} {s : Shared} {h' : Heap}
theorem Cx.Ok.nofr (ok : X.Ok) {b : Addr} {o : Obj} (e : X.base.get? b = some o) : b ∉ X.fs := fun hb => by
 have := (ok.funs.mem hb).1
 rw [e] at this; cases this
theorem Inv.bs (I : Inv X pins σ H s) : ∀ b o, X.base.get? b = some o -> s.heap.get? b = some o /\ H b = none := fun b o e =>
 ⟨I.base.keep b o (I.ok.bs b o e).1 (I.ok.bs b o e).2 (I.ok.nofr e) (I.ok.noex b o e), I.base.free b o (I.ok.bs b o e).1 (I.ok.bs b o e).2 (I.ok.noex b o e)⟩
theorem Inv.bk (I : Inv X pins σ H s) : ∀ b o, X.base.get? b = some o -> s.heap.get? b = some o := fun b o e => (I.bs b o e).1
theorem Inv.mod (I : Inv X pins σ H s) : Mod X.K X.mg X.base := I.ok.mod
theorem Inv.kIn (I : Inv X pins σ H s) : X.K.In s.heap := I.ok.mod.kin.keeps I.bk
theorem Inv.lt (I : Inv X pins σ H s) : X.env.locals < s.heap.objs.size := let ⟨_, hn, _⟩ := I.loc; hn.lt
theorem Inv.sz (I : Inv X pins σ H s) : X.s₀.heap.objs.size <= s.heap.objs.size := Nat.le_trans I.ok.above (Nat.le_of_lt I.lt)
theorem Inv.nofs (I : Inv X pins σ H s) {a : Addr} (h : s.heap.objs.size <= a) : a ∉ X.fs := fun hb => by
 obtain ⟨_, o, ho, _⟩ := I.ok.funs.mem hb
 exact absurd (Nat.lt_of_lt_of_le (Heap.lt_size ho) (Nat.le_trans I.sz h)) (Nat.lt_irrefl _)
theorem Inv.cne (I : Inv X pins σ H s) : ∀ x c, X.env.cells.lookup x = some c -> c ≠ X.env.locals := fun x c e z => by
 obtain ⟨v, o, ho, hd⟩ := I.cell x c e
 obtain ⟨m, ⟨o', es, ep, ho', hd', _⟩, _⟩ := I.loc
 rw [z, ho'] at ho; cases ho; rw [hd'] at hd; cases hd
theorem Inv.funs (I : Inv X pins σ H s) : s.heap.FunFrames X.base X.outer := by
 have all : ∀ (l : List Env), (∀ b ∈ frs l, b ∈ X.fs) -> X.s₀.heap.FunFrames X.base l -> s.heap.FunFrames X.base l := by
  intro l
  induction l with
  | nil => intro _ _; trivial
  | cons env r ih =>
   intro hs hl
   obtain ⟨hk, ⟨L, o, hf, hn, ho, hd⟩, hr⟩ := hl
   have hL : L ∈ X.fs := hs L (by unfold frs; rw [List.filterMap_cons, hf]; exact List.mem_cons_self)
   obtain ⟨sl, e⟩ := I.base.slot L o ho (I.ok.frf L hL) hL fun z => I.ok.exfs L z hL
   exact ⟨hk, ⟨L, _, hf, hn, e, hd⟩, ih (fun b hb => hs b (by unfold frs; rw [List.filterMap_cons, hf]; exact List.mem_cons_of_mem _ hb)) hr⟩
 exact all X.outer (fun _ hb => hb) I.ok.funs
theorem Inv.stack (I : Inv X pins σ H s) : s.heap.FunFrames X.base X.stack := by
 rcases I.ok.stk with e | ⟨e, hf⟩
 ·rw [e]; exact I.funs
 ·rw [e]
  obtain ⟨m, hn, _⟩ := I.loc
  refine .cons (by rw [I.ok.kind]; decide) hf hn ?_ I.funs
  exact Heap.get?_none_of_le (Nat.le_trans I.ok.bsz I.ok.above)
theorem Inv.stkSub (I : Inv X pins σ H s) : ∀ b ∈ frs X.stack, b ∈ X.env.locals :: X.fs := fun b hb => by
 rcases I.ok.stk with e | ⟨e, hf⟩
 ·rw [e] at hb; exact List.mem_cons_of_mem _ hb
 ·rw [e] at hb
  unfold frs at hb
  rw [List.filterMap_cons, hf] at hb
  exact hb
theorem Inv.stkFree (I : Inv X pins σ H s) : ∀ b ∈ frs X.stack, H b = none := fun b hb => by
 rcases List.mem_cons.mp (I.stkSub b hb) with e | hb
 ·rw [e]; exact I.free
 ·obtain ⟨_, o, ho, _⟩ := I.ok.funs.mem hb
  exact I.base.free b o ho (I.ok.frf b hb) fun z => I.ok.exfs b z hb
theorem Inv.step {g' : Array GenState} {t' : Nat} {d' : Drawn} {ch : List Addr} (I : Inv X pins σ H s)
  (hch : ∀ b ∈ ch, (b ∈ X.ex \/ X.s₀.heap.objs.size <= b) /\ b ≠ X.env.locals /\ (∀ x c, X.env.cells.lookup x = some c -> c ≠ b) /\ ∀ p ∈ X.pn ++ pins, p.1 ≠ b)
  (keep : ∀ b o, b ≠ X.env.locals -> b ∉ X.fs -> b ∉ ch -> s.heap.get? b = some o -> H b = none -> h'.get? b = some o)
  (slot : ∀ b o, b ≠ X.env.locals -> b ∈ X.fs -> b ∉ ch -> s.heap.get? b = some o -> H b = none -> ∃ sl, h'.get? b = some { o with slots := sl }) (free : ∀ b o, b ∉ ch -> s.heap.get? b = some o -> H b = none -> H' b = none)
  (there : ∀ b o, b ∉ ch -> s.heap.get? b = some o -> ∃ o', h'.get? b = some o')
  (tups : ∀ b xs, H b = some (.tup xs) -> H' b = some (.tup xs)) (frzs : ∀ b o u, H b = some (.frz o u) -> H' b = some (.frz o u)) (tbls : ∀ b ps, H b = some (.tbl ps) -> ∃ more, H' b = some (.tbl (ps ++ more)))
  (ns : ∀ m, s.heap.Ns X.env.locals m -> h'.Ns X.env.locals m) (hok : HOk X.prog X.w H' h') (hg : AllBare g') :
  Inv X pins σ H' { s with heap := h', gens := g', drawn := d', toks := t' } := by
 have neL : ∀ b o, X.s₀.heap.get? b = some o -> b ≠ X.env.locals := fun b o e => Nat.ne_of_lt (Nat.lt_of_lt_of_le (Heap.lt_size e) I.ok.above)
 have neC : ∀ b o, X.s₀.heap.get? b = some o -> b ∉ X.ex -> b ∉ ch := fun b o e hx hb => by
  rcases (hch b hb).1 with z | z
  ·exact hx z
  ·exact absurd (Nat.lt_of_lt_of_le (Heap.lt_size e) z) (Nat.lt_irrefl _)
 have cellK : ∀ x c, X.env.cells.lookup x = some c -> ∀ v, s.heap.IsCell c v -> h'.IsCell c v := fun x c e v ⟨o, ho, hd⟩ => by
  have nch : c ∉ ch := fun z => (hch c z).2.2.1 x c e rfl
  by_cases hc : c ∈ X.fs
  ·obtain ⟨sl, q⟩ := slot c o (I.cne x c e) hc nch ho (I.freeC x c e)
   exact ⟨_, q, hd⟩
  ·exact ⟨o, keep c o (I.cne x c e) hc nch ho (I.freeC x c e), hd⟩
 refine ⟨I.ok, I.os, hg, ⟨fun b o e n hb hx => ?_, fun b o e n hb hx => ?_, fun b o e n hx => ?_, fun b o e hx => ?_, fun b xs e => tups b xs (I.base.tups b xs e), fun b o xs e => frzs b o xs (I.base.frzs b o xs e), fun b ps e => ?_⟩, ?_, fun x c e => ?_, ?_, fun x c e => ?_, fun p hp => ?_, hok, I.len⟩
 ·exact keep b o (neL b o e) hb (neC b o e hx) (I.base.keep b o e n hb hx) (I.base.free b o e n hx)
 ·obtain ⟨sl, e1⟩ := I.base.slot b o e n hb hx
  obtain ⟨sl', e2⟩ := slot b _ (neL b o e) hb (neC b o e hx) e1 (I.base.free b o e n hx)
  exact ⟨sl', e2⟩
 ·obtain ⟨o', e1⟩ := I.base.there b o e hx
  exact free b o' (neC b o e hx) e1 (I.base.free b o e n hx)
 ·obtain ⟨o', e1⟩ := I.base.there b o e hx
  exact there b o' (neC b o e hx) e1
 ·obtain ⟨m1, e1⟩ := I.base.tbls b ps e
  obtain ⟨m2, e2⟩ := tbls b _ e1
  exact ⟨m1 ++ m2, by rw [e2, Array.append_assoc]⟩
 ·obtain ⟨m, hn, hl⟩ := I.loc
  refine ⟨m, ns m hn, fun i x v e1 e2 e3 => ?_⟩
  obtain ⟨u, r, l⟩ := hl i x v e1 e2 e3
  refine ⟨u, r, ?_⟩
  rcases l with l | ⟨k, c, e, z⟩
  ·exact .inl l
  ·exact .inr ⟨k, c, e, cellK x c e _ z⟩
 ·obtain ⟨v, z⟩ := I.cell x c e
  exact ⟨v, cellK x c e v z⟩
 ·obtain ⟨m, ⟨o, _, _, ho, _⟩, _⟩ := I.loc
  exact free _ o (fun z => (hch _ z).2.1 rfl) ho I.free
 ·obtain ⟨v, o, ho, hd⟩ := I.cell x c e
  exact free c o (fun z => (hch c z).2.2.1 x c e rfl) ho (I.freeC x c e)
 ·obtain ⟨e, n, ne, nf, d⟩ := I.pin p hp
  have nch : p.1 ∉ ch := fun z => (hch p.1 z).2.2.2 p hp rfl
  exact ⟨keep p.1 p.2 ne nf nch e n, free p.1 p.2 nch e n, ne, nf, d⟩
theorem Inv.un {t' : Nat} (I : Inv X pins σ H s) (u : Un X.fs [] H H' s.heap h') (hok : HOk X.prog X.w H' h') : Inv X pins σ H' { s with heap := h', toks := t' } := by
 obtain ⟨m, ⟨o, es, ep, ho, r⟩, _⟩ := id I.loc
 obtain ⟨sl, hL⟩ := u.any ho I.free (by simp)
 exact I.step (g' := s.gens) (d' := s.drawn) (ch := []) (fun _ z => nomatch z) (fun b o _ hb _ e n => u.keep b o e n hb (by simp)) (fun b o _ hb _ e n => u.slot b o e n hb (by simp)) (fun b o _ e n => u.free b o e n (by simp)) (fun b o _ e => u.there b o e (by simp)) u.tups u.frzs u.tbls (fun m' hm => by
  obtain ⟨o', es', ep', ho', r'⟩ := hm
  rw [ho] at ho'; cases ho'
  exact ⟨_, es', ep', hL, r'⟩) hok I.bare
theorem Inv.call {g' : Array GenState} {t' : Nat} {d' : Drawn} {ch : List Addr} (I : Inv X pins σ H s) (u : Un (frs X.stack) ch H H' s.heap h') (hok : HOk X.prog X.w H' h') (hg : AllBare g')
  (hch : ∀ b ∈ ch, (b ∈ X.ex \/ X.s₀.heap.objs.size <= b) /\ b ≠ X.env.locals /\ (∀ x c, X.env.cells.lookup x = some c -> c ≠ b) /\ ∀ p ∈ X.pn ++ pins, p.1 ≠ b) :
  Inv X pins σ H' { s with heap := h', gens := g', drawn := d', toks := t' } := by
 obtain ⟨m, ⟨o, es, ep, ho, r⟩, _⟩ := id I.loc
 obtain ⟨sl, hL⟩ := u.any ho I.free fun z => (hch _ z).2.1 rfl
 exact I.step (ch := ch) hch (fun b o hL hb hc e n => u.keep b o e n (fun z => (List.mem_cons.mp (I.stkSub b z)).elim hL hb) hc) (fun b o _ _ hc e n => u.any e n hc) (fun b o hc e n => u.free b o e n hc) (fun b o hc e => u.there b o e hc) u.tups u.frzs u.tbls (fun m' hm => by
  obtain ⟨o', es', ep', ho', r'⟩ := hm
  rw [ho] at ho'; cases ho'
  exact ⟨_, es', ep', hL, r'⟩) hok hg
theorem Inv.turned {t' : Nat} {it : Addr} (I : Inv X pins σ H s) (k : ∀ b o, b ≠ it -> s.heap.get? b = some o -> h'.get? b = some o) (hn : H it = none) (hL : it ≠ X.env.locals)
  (h1 : it ∈ X.ex \/ X.s₀.heap.objs.size <= it) (h2 : ∀ x c, X.env.cells.lookup x = some c -> c ≠ it) (h3 : ∀ p ∈ X.pn ++ pins, p.1 ≠ it) : Inv X pins σ H { s with heap := h', toks := t' } := by
 have nit : ∀ b u, H b = some u -> b ≠ it := fun b u e z => by rw [z, hn] at e; cases e
 refine I.step (g' := s.gens) (d' := s.drawn) (ch := [it]) (fun b hb => ?_) (fun b o _ _ hc e _ => k b o (fun z => hc (by simp [z])) e) (fun b o _ _ hc e _ => ⟨o.slots, k b o (fun z => hc (by simp [z])) e⟩) (fun _ _ _ _ n => n)
  (fun b o hc e => ⟨o, k b o (fun z => hc (by simp [z])) e⟩) (fun _ _ e => e) (fun _ _ _ e => e) (fun b ps e => ⟨#[], by rw [e]; simp⟩) (fun m hm => ?_) (fun b u e => ?_) I.bare
 ·have e : b = it := by simpa using hb
  subst e
  exact ⟨h1, hL, h2, h3⟩
 ·obtain ⟨o, es, ep, ho, r⟩ := hm
  exact ⟨o, es, ep, k _ o (Ne.symm hL) ho, r⟩
 ·refine (I.hok b u e).stay (fun c v hc q => k c v ?_ q) (fun _ q => q) fun _ _ q => q
  rcases hc with z | z
  ·rw [z]; exact nit b u e
  ·exact nit c _ z
theorem Inv.tok (I : Inv X pins σ H s) (t : Nat) : Inv X pins σ H { s with toks := t } := I.un (h' := s.heap) (t' := t) Un.refl I.hok
theorem Inv.kept {t' : Nat} (I : Inv X pins σ H s) (k : ∀ b u, s.heap.get? b = some u -> h'.get? b = some u) : Inv X pins σ H { s with heap := h', toks := t' } := I.un (Un.kept k) (I.hok.kept k)
theorem Inv.laid {a : Addr} {o : HO} {t' : Nat} (I : Inv X pins σ H s) (k : ∀ b u, s.heap.get? b = some u -> h'.get? b = some u) (hp : s.heap.objs.size <= a) (new : ObjOk X.prog X.w (upd H a o) h' a o) :
  Inv X pins σ (upd H a o) { s with heap := h', toks := t' } := I.un (Un.laid k hp (I.hok.fresh hp)) (I.hok.laid k hp new)
theorem Inv.write {x e : Addr} {o : HO} {t' : Nat} (I : Inv X pins σ H s) (mu : Mut (H x)) (he : e = x \/ H e = some (.own x)) (k : ∀ b u, b ≠ e -> s.heap.get? b = some u -> h'.get? b = some u) (heo : ∃ u, h'.get? e = some u)
  (new : ObjOk X.prog X.w (upd H x o) h' x o) : Inv X pins σ (upd H x o) { s with heap := h', toks := t' } := I.un (Un.write mu he k heo) (I.hok.write mu he k heo new)
theorem Inv.pins_of {pins' : List (Addr × Obj)} (I : Inv X pins σ H s) (h : ∀ p ∈ pins', s.heap.get? p.1 = some p.2 /\ H p.1 = none /\ p.1 ≠ X.env.locals /\ p.1 ∉ X.fs /\ ∀ v, p.2.data ≠ .cell v) : Inv X pins' σ H s :=
 ⟨I.ok, I.os, I.bare, I.base, I.loc, I.cell, I.free, I.freeC, fun p hp => (List.mem_append.mp hp).elim (fun z => I.pin p (List.mem_append_left _ z)) (h p), I.hok, I.len⟩
theorem nodup_ix {N : List Str} (hN : N.Nodup) {i j : Nat} {x : Str} (a : N[i]? = some x) (b : N[j]? = some x) : i = j := by
 obtain ⟨h1, e1⟩ := List.getElem?_eq_some_iff.mp a
 obtain ⟨h2, e2⟩ := List.getElem?_eq_some_iff.mp b
 exact (List.getElem_inj hN).mp (e1.trans e2.symm)
theorem store_ok2 {M : Model} {A : Around} {E : Value -> Shared -> Prop} {i : Nat} {x : Str} {v : V} {u : Value} {Q : Unit -> Shared -> Prop} (I : Inv X pins σ H s) (hN : X.N.Nodup) (hi : X.N[i]? = some x) (hx : Loc X.env.scope x) (r : RelV v u)
  (h : ∀ s', Inv X pins (σ.set i (some v)) H s' -> (∃ a, Heap.SameBut a s.heap s'.heap /\ (a = X.env.locals \/ X.env.cells.lookup x = some a)) -> Q () s') (hf : X.fn x = true \/ X.env.scope.names.lookup x = some .local := by first | exact .inl rfl | exact .inr rfl | assumption) : wpAny M A (storeName X.env x u) Q E s := by
 obtain ⟨m, hn, hl⟩ := id I.loc
 have hcls : (X.env.scope.kind == .class || (X.env.scope.kind == .module && X.env.locals != X.env.globals)) = false := by rw [I.ok.kind]; rfl
 have hiσ : i < σ.length := by rw [I.len]; exact (List.getElem?_eq_some_iff.mp hi).1
 have cne := I.cne
 have tracked : ∀ {a : Addr} {h' : Heap}, (∃ o, s.heap.get? a = some o /\ H a = none) -> Heap.SameBut a s.heap h' -> HOk X.prog X.w H h' := fun {a h'} ha hs b ob e => by
  obtain ⟨_, _, hfree⟩ := ha
  refine (I.hok b ob e).stay (fun c w' hc q => (hs.2 c ?_).trans q) (fun _ q => q) fun _ _ q => q
  rintro rfl
  rcases hc with rfl | hc
  ·rw [hfree] at e; cases e
  ·rw [hfree] at hc; cases hc
 rcases hx with hk | hk
 ·refine wpAny_storeName_local hk hn (fun h' hn' hs => ?_) hcls
  obtain ⟨oL, _, _, hoL, _⟩ := id hn
  refine h _ ⟨I.ok, I.os, I.bare, ⟨fun b o e n hb hx => ?_, fun b o e n hb hx => ?_, I.base.free, fun b o e hx => ?_, I.base.tups, I.base.frzs, I.base.tbls⟩, ⟨_, hn', fun j y v' e1 e2 e3 => ?_⟩, fun y c e => ?_, I.free, I.freeC, fun p hp => ?_, tracked ⟨oL, hoL, I.free⟩ hs, by simpa using I.len⟩ ⟨_, hs, .inl rfl⟩
  ·exact (hs.2 b (Nat.ne_of_lt (Nat.lt_of_lt_of_le (Heap.lt_size e) I.ok.above))).trans (I.base.keep b o e n hb hx)
  ·obtain ⟨sl, e1⟩ := I.base.slot b o e n hb hx
   exact ⟨sl, (hs.2 b (Nat.ne_of_lt (Nat.lt_of_lt_of_le (Heap.lt_size e) I.ok.above))).trans e1⟩
  ·obtain ⟨o', e1⟩ := I.base.there b o e hx
   exact ⟨o', (hs.2 b (Nat.ne_of_lt (Nat.lt_of_lt_of_le (Heap.lt_size e) I.ok.above))).trans e1⟩
  ·by_cases hj : j = i
   ·subst hj
    rw [hi] at e1; cases e1
    rw [List.getElem?_set_self hiσ] at e2
    cases e2
    exact ⟨u, r, .inl ⟨hk, by simp⟩⟩
   ·rw [List.getElem?_set_ne (Ne.symm hj)] at e2
    obtain ⟨u', r', q⟩ := hl j y v' e1 e2 e3
    refine ⟨u', r', ?_⟩
    rcases q with ⟨k, e⟩ | ⟨k, c, e, z⟩
    ·refine .inl ⟨k, ?_⟩
     have : y ≠ x := fun e => hj (nodup_ix hN e1 (e ▸ hi))
     simp [this, e]
    ·exact .inr ⟨k, c, e, z.sameBut hs (cne y c e)⟩
  ·obtain ⟨w', z⟩ := I.cell y c e
   exact ⟨w', z.sameBut hs (cne y c e)⟩
  ·obtain ⟨e, n, ne, nf, d⟩ := I.pin p hp
   exact ⟨(hs.2 p.1 ne).trans e, n, ne, nf, d⟩
 ·have hfn : X.fn x = true := by
   rcases hf with z | z
   ·exact z
   ·rw [z] at hk; cases hk
  obtain ⟨c, hc⟩ := I.ok.has x (.inl hk)
  obtain ⟨w', z⟩ := I.cell x c hc
  refine wpAny_storeName_cell I.ok.kind hk hc z (fun h' hc' hs => ?_)
  obtain ⟨oc, hoc, hocd⟩ := id z
  refine h { s with heap := h' } ⟨I.ok, I.os, I.bare, ⟨fun b o e n hb hx => ?_, fun b o e n hb hx => ?_, I.base.free, fun b o e hx => ?_, I.base.tups, I.base.frzs, I.base.tbls⟩, ⟨m, hn.sameBut hs (Ne.symm (cne x c hc)), fun j y v' e1 e2 e3 => ?_⟩, fun y c' e => ?_, I.free, I.freeC, fun p hp => ?_, tracked ⟨oc, hoc, I.freeC x c hc⟩ hs, by simpa using I.len⟩ ⟨c, hs, .inr hc⟩
  ·exact (hs.2 b (Nat.ne_of_lt (Nat.lt_of_lt_of_le (Heap.lt_size e) (I.ok.cab x c hfn hc)))).trans (I.base.keep b o e n hb hx)
  ·obtain ⟨sl, e1⟩ := I.base.slot b o e n hb hx
   exact ⟨sl, (hs.2 b (Nat.ne_of_lt (Nat.lt_of_lt_of_le (Heap.lt_size e) (I.ok.cab x c hfn hc)))).trans e1⟩
  ·obtain ⟨o', e1⟩ := I.base.there b o e hx
   exact ⟨o', (hs.2 b (Nat.ne_of_lt (Nat.lt_of_lt_of_le (Heap.lt_size e) (I.ok.cab x c hfn hc)))).trans e1⟩
  ·by_cases hj : j = i
   ·subst hj
    rw [hi] at e1; cases e1
    rw [List.getElem?_set_self hiσ] at e2
    cases e2
    exact ⟨u, r, .inr ⟨.inl hk, c, hc, hc'⟩⟩
   ·rw [List.getElem?_set_ne (Ne.symm hj)] at e2
    obtain ⟨u', r', q⟩ := hl j y v' e1 e2 e3
    refine ⟨u', r', ?_⟩
    rcases q with q | ⟨k, c', e, z'⟩
    ·exact .inl q
    ·refine .inr ⟨k, c', e, z'.sameBut hs ?_⟩
     rintro rfl
     exact hj (nodup_ix hN e1 (I.ok.inj _ _ _ e hc ▸ hi))
  ·by_cases hcc : c' = c
   ·subst hcc; exact ⟨_, hc'⟩
   ·obtain ⟨w2, z2⟩ := I.cell y c' e
    exact ⟨w2, z2.sameBut hs hcc⟩
  ·obtain ⟨e, n, ne, nf, d⟩ := I.pin p hp
   refine ⟨(hs.2 p.1 ?_).trans e, n, ne, nf, d⟩
   intro q
   rw [q, hoc] at e
   have q' : oc = p.2 := Option.some.inj e
   exact d w' (by rw [← q']; exact hocd)
theorem store_ok {M : Model} {A : Around} {E : Value -> Shared -> Prop} {i : Nat} {x : Str} {v : V} {u : Value} {Q : Unit -> Shared -> Prop} (I : Inv X pins σ H s) (hN : X.N.Nodup) (hi : X.N[i]? = some x) (hx : Loc X.env.scope x) (r : RelV v u)
  (h : ∀ s', Inv X pins (σ.set i (some v)) H s' -> Q () s') (hf : X.fn x = true \/ X.env.scope.names.lookup x = some .local := by first | exact .inl rfl | exact .inr rfl | assumption) : wpAny M A (storeName X.env x u) Q E s :=
 store_ok2 I hN hi hx r (fun s' I' _ => h s' I') hf
theorem Inv.call' {s' : Shared} {ch : List Addr} (I : Inv X pins σ H s) (ho : s'.os = s.os) (u : Un (frs X.stack) ch H H' s.heap s'.heap) (hok : HOk X.prog X.w H' s'.heap) (hg : AllBare s'.gens)
  (hch : ∀ b ∈ ch, (b ∈ X.ex \/ X.s₀.heap.objs.size <= b) /\ b ≠ X.env.locals /\ (∀ x c, X.env.cells.lookup x = some c -> c ≠ b) /\ ∀ p ∈ X.pn ++ pins, p.1 ≠ b) : Inv X pins σ H' s' := by
 obtain ⟨h', g', d', t', o'⟩ := s'
 have e : o' = s.os := ho
 subst e
 exact I.call (g' := g') (t' := t') (d' := d') u hok hg hch
end
noncomputable abbrev XK := Value -> Option Addr -> Hp -> Prop
noncomputable abbrev St := List (Option V)
noncomputable abbrev VK := V -> Hp -> Prop
noncomputable abbrev TE := St -> Hp -> VK -> Prop
noncomputable abbrev TT := St -> Hp -> (Bool -> Hp -> Prop) -> Prop
noncomputable abbrev TA := St -> Hp -> (List V -> Hp -> Prop) -> Prop
structure Ends where
 nx : St -> Hp -> Prop
 rt : VK
 bk : St -> Hp -> Prop := fun _ _ => False
 ct : St -> Hp -> Prop := fun _ _ => False
noncomputable abbrev TS := Ends -> St -> Hp -> Prop
def EP (X : Cx) (pins : List (Addr × Obj)) (σ : St) (Q : VK) (u : Value) (s' : Shared) : Prop := ∃ v H', Inv X pins σ H' s' /\ RelV v u /\ Q v H'
def TP (X : Cx) (pins : List (Addr × Obj)) (σ : St) (Q : Bool -> Hp -> Prop) (b : Bool) (s' : Shared) : Prop := ∃ H', Inv X pins σ H' s' /\ Q b H'
def AP (X : Cx) (pins : List (Addr × Obj)) (σ : St) (Q : List V -> Hp -> Prop) (us : List Value) (s' : Shared) : Prop := ∃ vs H', Inv X pins σ H' s' /\ Vals vs us /\ Q vs H'
def SP (X : Cx) (pins : List (Addr × Obj)) (D : Ends) (f : Flow) (s' : Shared) : Prop :=
 match f with
 | .next => ∃ σ' H', Inv X pins σ' H' s' /\ D.nx σ' H'
 | .brk => ∃ σ' H', Inv X pins σ' H' s' /\ D.bk σ' H'
 | .cont => ∃ σ' H', Inv X pins σ' H' s' /\ D.ct σ' H'
 | .ret u => ∃ v σ' H', Inv X pins σ' H' s' /\ RelV v u /\ D.rt v H'
def PE (X : Cx) (e : Expr) (t : TE) : Prop :=
 ∀ (pins : List (Addr × Obj)) (s : Shared) (σ : St) (H : Hp) (Q : VK), Inv X pins σ H s -> t σ H Q -> wpAny (model X.prog X.w) X.A (eval e X.env) (EP X pins σ Q) X.xe s
def PT (X : Cx) (e : Expr) (t : TT) : Prop :=
 ∀ (pins : List (Addr × Obj)) (s : Shared) (σ : St) (H : Hp) (Q : Bool -> Hp -> Prop), Inv X pins σ H s -> t σ H Q -> wpAny (model X.prog X.w) X.A (isTrue e X.env (eval e X.env)) (TP X pins σ Q) X.xe s
def PW (X : Cx) (e : Expr) (t : TT) : Prop :=
 ∀ (whole : Sem Value) (pins : List (Addr × Obj)) (s : Shared) (σ : St) (H : Hp) (Q : Bool -> Hp -> Prop), Inv X pins σ H s -> t σ H Q -> wpAny (model X.prog X.w) X.A (isTrue e X.env whole) (TP X pins σ Q) X.xe s
theorem PW.pt {X : Cx} {e : Expr} {t : TT} (h : PW X e t) : PT X e t := h _
def PA (X : Cx) (es : List Expr) (t : TA) : Prop :=
 ∀ (pos : Pos) (pins : List (Addr × Obj)) (s : Shared) (σ : St) (H : Hp) (Q : List V -> Hp -> Prop), Inv X pins σ H s -> t σ H Q -> wpAny (model X.prog X.w) X.A (spliced (backTo pos (starEach es X.env))) (AP X pins σ Q) X.xe s
def PS (X : Cx) (st : Stmt) (t : TS) : Prop :=
 ∀ (pins : List (Addr × Obj)) (s : Shared) (σ : St) (H : Hp) (D : Ends), Inv X pins σ H s -> t D σ H -> wpAny (model X.prog X.w) X.A (exec st X.env) (SP X pins D) X.xe s
def PSs (X : Cx) (st : List Stmt) (t : TS) : Prop :=
 ∀ (pins : List (Addr × Obj)) (s : Shared) (σ : St) (H : Hp) (D : Ends), Inv X pins σ H s -> t D σ H -> wpAny (model X.prog X.w) X.A (execs st X.env) (SP X pins D) X.xe s
theorem thn {α : Type} {t : Sem α} {Q Q' : α -> Shared -> Prop} {M : Model} {A : Around} {E : Value -> Shared -> Prop} {s : Shared} (h : wpAny M A t Q E s) (hQ : ∀ a s, Q a s -> Q' a s) : wpAny M A t Q' E s := wpAny_mono h hQ fun _ _ x => x
end L2
namespace L2
open PySem PySem.Spec PyProof.Rows
section
variable {X : Cx}
def tVar (i : Nat) : TE := fun σ H Q => ∃ v, σ[i]? = some (some v) /\ Q v H
def tC (v : V) : TE := fun _ H Q => Q v H
theorem pe_var {i : Nat} {x : Str} {pos : Pos} (hN : X.N[i]? = some x) (hv : Vis X.env.scope x) (hd : (x == ("__debug__" : Str)) = false := by decide) (hcd : (x == ("__classdict__" : Str)) = false := by decide) : PE X (.Name x pos) (tVar i) := by
 intro pins s σ H Q I h
 obtain ⟨v, e, h⟩ := h
 obtain ⟨m, hn, hl⟩ := I.loc
 obtain ⟨u, r, l⟩ := hl i x v hN e hv
 have fin : EP X pins σ Q u s := ⟨v, H, I, r, h⟩
 rcases l with ⟨hk, hm⟩ | ⟨hk, c, hc, hcell⟩
 ·exact wpAny_Name (wpAny_loadName_local I.ok.kind hk hn hm fin) hd
 ·rcases hk with hk | hk
  ·exact wpAny_Name (wpAny_loadName_cell I.ok.kind hk hc hcell fin) hd
  ·exact wpAny_Name (wpAny_loadName_free I.ok.kind hk hc hcell fin hcd) hd
theorem pe_int {i j pos} : PE X (.Constant (.int i) j pos) (tC (.int i)) := fun _ _ _ H _ I h => wpAny_Constant_int ⟨.int i, H, I.tok _, ⟨_, rfl⟩, h⟩
theorem pe_bl {b j pos} : PE X (.Constant (.bool b) j pos) (tC (.bl b)) := fun _ _ _ H _ I h => Constant_bool ⟨.bl b, H, I, rfl, h⟩
theorem pe_non {j pos} : PE X (.Constant .none j pos) (tC .non) := fun _ _ _ H _ I h => Constant_none ⟨.non, H, I, rfl, h⟩
theorem pe_str {x j pos} : PE X (.Constant (.str x) j pos) (tC (.str x)) := fun _ _ _ H _ I h => Calls.Constant_str ⟨.str x, H, I.tok _, ⟨_, rfl⟩, h⟩
def Gl (X : Cx) (x : Str) : Prop := X.env.kindOf x = some .globalImplicit
theorem ld_glob {E : Value -> Shared -> Prop} {pins : List (Addr × Obj)} {s : Shared} {σ : St} {H : Hp} {x : Str} {u : Value} {pos : Pos} {Q : Value -> Shared -> Prop} (I : Inv X pins σ H s) (hg : Gl X x) (hm : X.mg x = some u) (h : Q u s)
  (hd : (x == ("__debug__" : Str)) = false := by decide) : wpAny (model X.prog X.w) X.A (eval (.Name x pos) X.env) Q E s :=
 Calls.Name_function_global I.ok.kind hg (Calls.loadGlobal_global (by rw [I.ok.glob]; exact I.mod.glob.keeps I.bk) hm h) hd
theorem ld_blt {E : Value -> Shared -> Prop} {pins : List (Addr × Obj)} {s : Shared} {σ : St} {H : Hp} {x : Str} {u : Value} {pos : Pos} {Q : Value -> Shared -> Prop} (I : Inv X pins σ H s) (hg : Gl X x) (hm : X.mg x = none) (hv : bootBuiltins x = some u) (h : Q u s)
  (hn : x ≠ "__name__" := by decide) (hd : (x == ("__debug__" : Str)) = false := by decide) : wpAny (model X.prog X.w) X.A (eval (.Name x pos) X.env) Q E s := by
 obtain ⟨mb, h1, h2⟩ := I.mod.blt
 exact Calls.Name_function_global I.ok.kind hg (Calls.loadGlobal_builtin (by rw [I.ok.glob]; exact I.mod.glob.keeps I.bk) hm (by rw [I.ok.blt]; exact h1.keeps I.bk) ((h2 x hn).trans hv) h) hd
variable {a b : Expr} {ta tb : TE} {pos : Pos}
def tB (t : TE) : TT := fun σ H Q => t σ H fun x H1 => ∃ c, x = .bl c /\ Q c H1
variable {tA tB' : TT} {rest : List Expr}
def tAnd (t u : TT) : TT := fun σ H Q => t σ H fun c H1 => if c = true then u σ H1 Q else Q false H1
def tOr (t u : TT) : TT := fun σ H Q => t σ H fun c H1 => if c = true then Q true H1 else u σ H1 Q
theorem pw_and1 (ha : PT X a tA) : PW X (.BoolOp .And [a] pos) tA := by
 intro wh pins s σ H Q I h
 refine isTrue_and (thn (ha pins s σ H Q I h) fun c s1 e => ?_)
 cases c with
 | true => exact isTrue_and_nil e
 | false => exact e
theorem pw_or1 (ha : PT X a tA) : PW X (.BoolOp .Or [a] pos) tA := by
 intro wh pins s σ H Q I h
 refine isTrue_or (thn (ha pins s σ H Q I h) fun c s1 e => ?_)
 cases c with
 | false => exact isTrue_or_nil e
 | true => exact e
theorem pw_and (ha : PT X a tA) (hb : PW X (.BoolOp .And (b :: rest) pos) tB') : PW X (.BoolOp .And (a :: b :: rest) pos) (tAnd tA tB') := by
 intro wh pins s σ H Q I h
 refine isTrue_and (thn (ha pins s σ H _ I h) fun c s1 ⟨H1, I1, q1⟩ => ?_)
 cases c with
 | true => exact hb wh pins s1 σ H1 Q I1 q1
 | false => exact ⟨H1, I1, q1⟩
theorem pw_or (ha : PT X a tA) (hb : PW X (.BoolOp .Or (b :: rest) pos) tB') : PW X (.BoolOp .Or (a :: b :: rest) pos) (tOr tA tB') := by
 intro wh pins s σ H Q I h
 refine isTrue_or (thn (ha pins s σ H _ I h) fun c s1 ⟨H1, I1, q1⟩ => ?_)
 cases c with
 | true => exact ⟨H1, I1, q1⟩
 | false => exact hb wh pins s1 σ H1 Q I1 q1
def tAndV (ta tb : TE) : TE := fun σ H Q => ta σ H fun x H1 => ∃ c, x = .bl c /\ if c = true then tb σ H1 Q else Q (.bl false) H1
theorem pe_one {op} {t : TE} (h : PE X a t) : PE X (.BoolOp op [a] pos) t := fun pins s σ H Q I hw => BoolOp_one (h pins s σ H Q I hw)
theorem pe_and (ha : PE X a ta) (hb : PE X (.BoolOp .And (b :: rest) pos) tb) : PE X (.BoolOp .And (a :: b :: rest) pos) (tAndV ta tb) := by
 intro pins s σ H Q I h
 refine BoolOp_and (thn (ha pins s σ H _ I h) fun v s1 ⟨x, H1, I1, r1, q1⟩ => ?_)
 obtain ⟨c, rfl, q1⟩ := q1
 cases r1
 refine wpAny_truthy_bool ?_
 cases c with
 | true => exact hb pins s1 σ H1 Q I1 q1
 | false => exact ⟨.bl false, H1, I1, rfl, q1⟩
end
end L2
namespace L2
open PySem PySem.Spec PyProof.Rows
def SqL (K : PySem.W.Frag) (H : Hp) (a : Addr) (xs : List V) : Prop :=
 Rd H a (.lst xs) \/
  ∃ (o : Obj) (its : Array Value) (n : Nat), K.lookup a = some o /\ o.cls = .type "list" /\ (o.dict = none /\ o.slots = #[]) /\ o.data = .seq its n /\ its.size <= sizeLine /\ Vals xs its.toList
def SqT (K : PySem.W.Frag) (H : Hp) (a : Addr) (xs : List V) : Prop :=
 Rd H a (.tup xs) \/
  ∃ (o : Obj) (its : Array Value) (n : Nat), K.lookup a = some o /\ o.cls = .type "tuple" /\ o.dict = none /\ o.data = .seq its n /\ its.size <= sizeLine /\ Vals xs its.toList
noncomputable def absV : Value -> Option V
 | .none => some .non
 | .bool b => some (.bl b)
 | .int i _ => some (.int i)
 | .str x _ => some (.str x)
 | .bytes b _ => some (.byt b)
 | .float b _ => some (.flt b)
 | .ref a => some (.ref a)
 | .type n => some (.ty n)
 | _ => none
theorem RelV.abs {x : V} {u : Value} (r : RelV x u) : absV u = some x := by
 cases x with
 | non => cases r; rfl
 | bl _ => cases r; rfl
 | int _ => obtain ⟨t, rfl⟩ := r; rfl
 | str _ => obtain ⟨t, rfl⟩ := r; rfl
 | byt _ => obtain ⟨t, rfl⟩ := r; rfl
 | flt _ => obtain ⟨t, rfl⟩ := r; rfl
 | ref _ => cases r; rfl
 | ty _ => cases r; rfl
theorem RelV.inj {x y : V} {u : Value} (r : RelV x u) (q : RelV y u) : x = y := Option.some.inj (r.abs.symm.trans q.abs)
theorem Vals.inj : ∀ {xs ys : List V} {us : List Value}, Vals xs us -> Vals ys us -> xs = ys
 | _, _, _, .nil, .nil => rfl
 | _, _, _, .cons r t, .cons r' t' => by rw [r.inj r', Vals.inj t t']
section
variable {X : Cx} {pins : List (Addr × Obj)} {σ : St} {H : Hp} {s : Shared} {a : Addr} {xs ys : List V}
theorem SqL.of {K : PySem.W.Frag} (h : H a = some (.lst xs)) : SqL K H a xs := .inl (.inl h)
theorem Inv.list (I : Inv X pins σ H s) (h : SqL X.K H a xs) : ∃ its : List Value, Vals xs its /\ PlainL s.heap a its.toArray /\ xs.length <= sizeLine := by
 rcases h with h | ⟨o, its, n, hk, hc, hd, hs, hz, r⟩
 ·obtain ⟨z, its, n, r, e⟩ := h.ok I.hok
  exact ⟨its, r, ⟨_, n, e, rfl, rfl, rfl⟩, z⟩
 ·refine ⟨its.toList, r, ⟨o, n, I.kIn a o hk, hc, hd.1, by simpa using hs⟩, ?_⟩
  have e := r.length
  simp only [Array.length_toList] at e
  omega
theorem Inv.tuple (I : Inv X pins σ H s) (h : SqT X.K H a xs) : ∃ its : List Value, Vals xs its /\ IsTup s.heap a its.toArray /\ xs.length <= sizeLine := by
 rcases h with h | ⟨o, its, n, hk, hc, hn, hs, hz, r⟩
 ·obtain ⟨z, its, r, p⟩ := h.ok I.hok
  exact ⟨its, r, p.1, z⟩
 ·refine ⟨its.toList, r, ⟨o, I.kIn a o hk, hc, n, by simpa using hs⟩, ?_⟩
  have e := r.length
  simp only [Array.length_toList] at e
  omega
theorem Inv.list_inj (I : Inv X pins σ H s) (h : SqL X.K H a xs) (h' : SqL X.K H a ys) : xs = ys := by
 obtain ⟨its, r, ⟨o, n, e, _, _, d⟩, _⟩ := I.list h
 obtain ⟨its', r', ⟨o', n', e', _, _, d'⟩, _⟩ := I.list h'
 rw [e] at e'; cases e'
 rw [d] at d'
 injection d' with d1 _
 have : its = its' := by simpa using congrArg Array.toList d1
 subst this
 exact r.inj r'
theorem Inv.tuple_inj (I : Inv X pins σ H s) (h : SqT X.K H a xs) (h' : SqT X.K H a ys) : xs = ys := by
 obtain ⟨its, r, ⟨o, e, _, n, d⟩, _⟩ := I.tuple h
 obtain ⟨its', r', ⟨o', e', _, n', d'⟩, _⟩ := I.tuple h'
 rw [e] at e'; cases e'
 rw [d] at d'
 injection d' with d1 _
 have : its = its' := by simpa using congrArg Array.toList d1
 subst this
 exact r.inj r'
end
abbrev Cx.wish (X : Cx) (E : Value -> Shared -> Prop) : Cx := { X with xe := E }
noncomputable abbrev Cx.nox (X : Cx) : Cx := X.wish fun _ _ => False
theorem Cx.Ok.wish {X : Cx} (ok : X.Ok) (E : Value -> Shared -> Prop) : (X.wish E).Ok :=
 ⟨ok.mod, ok.kind, ok.glob, ok.blt, ok.above, ok.inj, ok.has, ok.cab, ok.hd, ok.frames, ok.stk, ok.exf, ok.bs, ok.bsz, ok.noex, ok.exfs, ok.funs, ok.frf⟩
theorem Cx.Ok.unwish {X : Cx} {E : Value -> Shared -> Prop} (ok : (X.wish E).Ok) : X.Ok :=
 ⟨ok.mod, ok.kind, ok.glob, ok.blt, ok.above, ok.inj, ok.has, ok.cab, ok.hd, ok.frames, ok.stk, ok.exf, ok.bs, ok.bsz, ok.noex, ok.exfs, ok.funs, ok.frf⟩
section
variable {X : Cx} {pins : List (Addr × Obj)} {σ : St} {H : Hp} {s : Shared} {E : Value -> Shared -> Prop}
theorem Inv.wish (I : Inv X pins σ H s) (E : Value -> Shared -> Prop) : Inv (X.wish E) pins σ H s := ⟨I.ok.wish E, I.os, I.bare, I.base, I.loc, I.cell, I.free, I.freeC, I.pin, I.hok, I.len⟩
theorem Inv.unwish (I : Inv (X.wish E) pins σ H s) : Inv X pins σ H s := ⟨I.ok.unwish, I.os, I.bare, I.base, I.loc, I.cell, I.free, I.freeC, I.pin, I.hok, I.len⟩
theorem SP.unwish {D : Ends} {f : Flow} {s' : Shared} (h : SP (X.wish E) pins D f s') : SP X pins D f s' := by
 cases f with
 | next => obtain ⟨σ', H', I, q⟩ := h; exact ⟨σ', H', I.unwish, q⟩
 | brk => obtain ⟨σ', H', I, q⟩ := h; exact ⟨σ', H', I.unwish, q⟩
 | cont => obtain ⟨σ', H', I, q⟩ := h; exact ⟨σ', H', I.unwish, q⟩
 | ret u => obtain ⟨v, σ', H', I, r, q⟩ := h; exact ⟨v, σ', H', I.unwish, r, q⟩
theorem PSs.nox {st : List Stmt} {t : TS} (h : PSs X.nox st t) : PSs X st t := fun pins s σ H D I hw =>
 wpAny_mono (h pins s σ H D (I.wish _) hw) (fun _ _ q => q.unwish) fun _ _ z => False.elim z
end
section
variable {X : Cx} {st : Stmt} {rest : List Stmt} {t u : TS} {e : Expr} {te : TE} {pos : Pos}
def tNext : TS := fun D σ H => D.nx σ H
def tSeq (t u : TS) : TS := fun D σ H => t { D with nx := u D } σ H
theorem pss_nil : PSs X [] tNext := fun _ _ σ H _ I h => wpAny_execs_nil ⟨σ, H, I, h⟩
theorem pss_cons (h1 : PS X st t) (h2 : PSs X rest u) : PSs X (st :: rest) (tSeq t u) := by
 intro pins s σ H D I h
 refine wpAny_execs_cons (thn (h1 pins s σ H { D with nx := u D } I h) fun f s1 q => ?_)
 cases f with
 | next =>
  obtain ⟨σ', H', I', q⟩ := q
  exact h2 pins s1 σ' H' D I' q
 | ret v => exact q
 | brk => exact q
 | cont => exact q
theorem pss_one (h1 : PS X st t) : PSs X [st] t := by
 intro pins s σ H D I h
 refine wpAny_execs_cons (thn (h1 pins s σ H D I h) fun f s1 q => ?_)
 cases f with
 | next => exact wpAny_execs_nil q
 | ret v => exact q
 | brk => exact q
 | cont => exact q
theorem Inv.quiet {pins : List (Addr × Obj)} {σ : St} {H : Hp} {s : Shared} (I : Inv X pins σ H s) : interactive X.env = false := by simp [interactive, I.ok.kind]
def tDrop (te : TE) : TS := fun D σ H => te σ H fun _ H1 => D.nx σ H1
theorem ps_expr (he : PE X e te) (hs : swapsWith e none pos.line X.env = pure false := by rfl) : PS X (.Expr e pos) (tDrop te) := by
 intro pins s σ H D I h
 exact wpAny_Expr_any (thn (he pins s σ H _ I h) fun v s1 ⟨x, H1, I1, r1, q1⟩ => ⟨σ, H1, I1, q1⟩) I.quiet hs
def tRet (te : TE) : TS := fun D σ H => te σ H D.rt
theorem ps_ret (he : PE X e te) : PS X (.Return (some e) pos) (tRet te) := by
 intro pins s σ H D I h
 exact wpAny_Return_some (thn (he pins s σ H _ I h) fun v s1 ⟨x, H1, I1, r1, q1⟩ => ⟨x, σ, H1, I1, r1, q1⟩)
def tIfS (c : TT) (t u : TS) : TS := fun D σ H => c σ H fun b H1 => if b = true then t D σ H1 else u D σ H1
theorem ps_if {c : Expr} {a b : List Stmt} {tc : TT} (hc : PT X c tc) (ha : PSs X a t) (hb : PSs X b u) : PS X (.If c a b pos) (tIfS tc t u) := by
 intro pins s σ H D I h
 refine wpAny_If (thn (hc pins s σ H _ I h) fun d s1 ⟨H1, I1, q1⟩ => ?_)
 cases d with
 | true => exact ha pins s1 σ H1 D I1 q1
 | false => exact hb pins s1 σ H1 D I1 q1
end
noncomputable abbrev TG := V -> St -> Hp -> (St -> Hp -> Prop) -> Prop
noncomputable abbrev TGs := List V -> St -> Hp -> (St -> Hp -> Prop) -> Prop
def PG (X : Cx) (target : Expr) (t : TG) : Prop :=
 ∀ (pins : List (Addr × Obj)) (s : Shared) (σ : St) (H : Hp) (v : V) (u : Value) (Q : St -> Hp -> Prop), Inv X pins σ H s -> RelV v u -> t v σ H Q ->
  wpAny (model X.prog X.w) X.A (assign target X.env u) (fun _ s' => ∃ σ' H', Inv X pins σ' H' s' /\ Q σ' H') X.xe s
def PGs (X : Cx) (ts : List Expr) (t : TGs) : Prop :=
 ∀ (pins : List (Addr × Obj)) (s : Shared) (σ : St) (H : Hp) (vs : List V) (us : List Value) (Q : St -> Hp -> Prop), Inv X pins σ H s -> Vals vs us -> t vs σ H Q ->
  wpAny (model X.prog X.w) X.A (assignInOrder ((assignEach ts X.env).map (·.2)) us) (fun _ s' => ∃ σ' H', Inv X pins σ' H' s' /\ Q σ' H') X.xe s
noncomputable abbrev TSet := V -> V -> V -> Hp -> (Hp -> Prop) -> Prop
def PSet (X : Cx) (t : TSet) : Prop :=
 ∀ (pins : List (Addr × Obj)) (s : Shared) (σ : St) (H : Hp) (o i v : V) (ov iv u : Value) (Q : Hp -> Prop), Inv X pins σ H s -> RelV o ov -> RelV i iv -> RelV v u -> t o i v H Q ->
  wpAny (model X.prog X.w) X.A (setItem ov iv u) (fun _ s' => ∃ H', Inv X pins σ H' s' /\ Q H') X.xe s
section
variable {X : Cx} {pos : Pos}
def gName (i : Nat) : TG := fun v σ H Q => Q (σ.set i (some v)) H
theorem pg_name {i : Nat} {x : Str} (hN : X.N.Nodup) (hi : X.N[i]? = some x) (hx : Loc X.env.scope x) (hf : X.fn x = true \/ X.env.scope.names.lookup x = some .local := by first | exact .inl rfl | exact .inr rfl | assumption) : PG X (.Name x pos) (gName i) := by
 intro pins s σ H v u Q I r h
 exact wpAny_assign_Name (store_ok I hN hi hx r (fun s' I' => ⟨_, H, I', h⟩) hf)
def gNil : TGs := fun vs σ H Q => vs = [] /\ Q σ H
def gCons (t : TG) (u : TGs) : TGs := fun vs σ H Q => ∃ v r, vs = v :: r /\ t v σ H fun σ' H' => u r σ' H' Q
theorem pgs_nil : PGs X [] gNil := by
 intro pins s σ H vs us Q I r h
 obtain ⟨e, h⟩ := h
 subst e
 cases r
 exact assignInOrder_nil ⟨σ, H, I, h⟩
theorem pgs_cons {e : Expr} {es : List Expr} {t : TG} {u : TGs} (h1 : PG X e t) (h2 : PGs X es u)
  (hs : (assignEach (e :: es) X.env).map (·.2) = assign e X.env :: (assignEach es X.env).map (·.2) := by rfl) : PGs X (e :: es) (gCons t u) := by
 intro pins s σ H vs us Q I r h
 obtain ⟨v, vr, e1, h⟩ := h
 subst e1
 cases r with
 | cons r rr =>
  rw [hs]
  refine assignInOrder_cons (thn (h1 pins s σ H _ _ _ I r h) fun _ s1 ⟨σ1, H1, I1, q1⟩ => ?_)
  exact h2 pins s1 σ1 H1 _ _ Q I1 rr q1
def gTup (K : PySem.W.Frag) (n : Nat) (t : TGs) : TG := fun v σ H Q => ∃ a xs, v = .ref a /\ SqT K H a xs /\ xs.length = n /\ t xs σ H Q
theorem pg_tup {es : List Expr} {k : Nat} {t : TGs} {n : Nat} (hc : X.calm = true) (h : PGs X es t)
  (hn : (assignEach es X.env).length = n := by rfl) (hst : (assignEach es X.env).findIdx? (·.1) = none := by rfl) : PG X (.Tuple es k pos) (gTup X.K n t) := by
 intro pins s σ H v u Q I r hw
 obtain ⟨a, xs, e1, hq, hl, hw⟩ := hw
 subst e1
 cases r
 obtain ⟨its, rv, ht, hz⟩ := I.tuple hq
 refine assign_Tuple_tuple (I.ok.hd hc) ht (by simp [hn, ← hl, rv.length]) hst fun h' hx => ?_
 have I1 : Inv X pins σ H { s with heap := h' } := I.kept (t' := s.toks) fun b o e => hx b o (Nat.ne_of_lt (Heap.lt_size e)) e
 exact h pins _ σ H xs _ Q I1 (by simpa using rv) hw
def gSub (to ti : TE) (t : TSet) : TG := fun v σ H Q => to σ H fun o H1 => ti σ H1 fun i H2 => t o i v H2 fun H3 => Q σ H3
theorem pg_sub {o i : Expr} {to ti : TE} {t : TSet} (ho : PE X o to) (hi : PE X i ti) (hs : PSet X t)
  (ha : ∀ v, assign (.Subscript o i pos) X.env v = (do
   let ov ← holding [v] (eval o X.env)
   let iv ← holding [v, ov] (eval i X.env)
   standAt pos
   holding [v, ov, iv] (setItem ov iv v)
   release [v, ov, iv] []) := by intro _; rfl) : PG X (.Subscript o i pos) (gSub to ti t) := by
 intro pins s σ H v u Q I r h
 rw [ha]
 refine wpAny_bind (wpAny_holding (thn (ho pins s σ H _ I h) fun ov s1 ⟨x, H1, I1, r1, q1⟩ => ?_))
 refine wpAny_bind (wpAny_holding (thn (hi pins s1 σ H1 _ I1 q1) fun iv s2 ⟨y, H2, I2, r2, q2⟩ => ?_))
 refine wpAny_bind (wpAny_standAt (wpAny_bind (wpAny_holding (thn (hs pins s2 σ H2 x y v ov iv u _ I2 r1 r2 r q2) fun _ s3 ⟨H3, I3, q3⟩ => ?_))))
 exact wpAny_release ⟨σ, H3, I3, q3⟩
def tAsg (te : TE) (g : TG) : TS := fun D σ H => te σ H fun x H1 => g x σ H1 D.nx
theorem ps_asg {tg e : Expr} {te : TE} {g : TG} (he : PE X e te) (hg : PG X tg g) (hs : swapsWithSole [tg] e pos.line X.env = pure false := by rfl) (hw : swappedStores [tg] e X.env = pure none := by rfl)
  (h1 : (assignEach [tg] X.env).map (·.2) = [assign tg X.env] := by rfl) : PS X (.Assign [tg] e pos) (tAsg te g) := by
 intro pins s σ H D I h
 refine wpAny_Assign_stores (thn (he pins s σ H _ I h) fun v s1 ⟨x, H1, I1, r1, q1⟩ => ?_) hs hw
 rw [h1]
 exact thn (hg pins s1 σ H1 x v _ I1 r1 q1) fun _ s2 q => q
theorem ps_set {i : Nat} {x : Str} {e : Expr} {te : TE} {pos' : Pos} (hN : X.N.Nodup) (hi : X.N[i]? = some x) (hx : Loc X.env.scope x) (he : PE X e te) (hs : swapsWith e (some (.Name x pos')) pos.line X.env = pure false := by rfl) (hf : X.fn x = true \/ X.env.scope.names.lookup x = some .local := by first | exact .inl rfl | exact .inr rfl | assumption) :
  PS X (.Assign [.Name x pos'] e pos) (tAsg te (gName i)) := by
 intro pins s σ H D I h
 refine wpAny_Assign_Name (thn (he pins s σ H _ I h) fun v s1 ⟨y, H1, I1, r1, q1⟩ => ?_) hs
 exact store_ok I1 hN hi hx r1 (fun s2 I2 => ⟨_, H1, I2, q1⟩) hf
end
section
variable {X : Cx} {pos : Pos}
end
structure It where
 go : Nat -> Hp -> Prop
 yld : Nat -> Hp -> V -> Hp -> Prop
 stop : Nat -> Hp -> Prop
def FpOk (X : Cx) (pins : List (Addr × Obj)) (H : Hp) (b : Addr) : Prop :=
 H b = none /\ b ≠ X.env.locals /\ b ∉ X.fs /\ (b ∈ X.ex \/ X.s₀.heap.objs.size <= b) /\ (∀ x c, X.env.cells.lookup x = some c -> c ≠ b) /\ ∀ p ∈ X.pn ++ pins, p.1 ≠ b
theorem Inv.fpOk {X : Cx} {pins : List (Addr × Obj)} {σ : St} {H H' : Hp} {s : Shared} {b : Addr} (I : Inv X pins σ H s) (hb : s.heap.objs.size <= b) (hn : H' b = none) : FpOk X pins H' b := by
 refine ⟨hn, Nat.ne_of_gt (Nat.lt_of_lt_of_le I.lt hb), I.nofs hb, .inr (Nat.le_trans I.sz hb), fun x c e z => ?_, fun p hp z => ?_⟩
 ·obtain ⟨v, q⟩ := I.cell x c e
  exact absurd (Nat.lt_of_lt_of_le q.lt (by rw [z]; exact hb)) (Nat.lt_irrefl _)
 ·exact absurd (Nat.lt_of_lt_of_le (Heap.lt_size (I.pin p hp).1) (by rw [z]; exact hb)) (Nat.lt_irrefl _)
structure Turn (P : Program) (w : World) (K : PySem.W.Frag) (tg : Expr) (J : It) (fp : List Addr) (it : Addr) (tn : Nat -> Heap -> Prop) : Prop where
 mem : it ∈ fp
 obj : ∀ i h, tn i h -> ∀ b ∈ fp, ∃ o, h.get? b = some o /\ ∀ v, o.data ≠ .cell v
 keep : ∀ i h h', tn i h -> (∀ b ∈ fp, ∀ o, h.get? b = some o -> h'.get? b = some o) -> tn i h'
 item : ∀ (X : Cx), X.prog = P -> X.w = w -> X.K = K -> X.calm = true -> ∀ (i : Nat) (pins : List (Addr × Obj)) (s : Shared) (σ : St) (H : Hp) (E : Value -> Shared -> Prop), Inv X pins σ H s -> (∀ b ∈ fp, FpOk X pins H b) -> tn i s.heap -> J.go i H ->
  wpAny (model P w) X.A (pyNext (.ref it)) (fun r s1 => ∃ u, r = some u /\
   wpAny (model P w) X.A (letOwnedTupleGo tg (.ref it) u) (fun _ s2 => ∃ x H', Inv X pins σ H' s2 /\ RelV x u /\ J.yld i H x H' /\ tn (i + 1) s2.heap /\ ∀ b ∈ fp, H' b = none) E s1) E s
 done : ∀ (X : Cx), X.prog = P -> X.w = w -> X.K = K -> X.calm = true -> ∀ (i : Nat) (pins : List (Addr × Obj)) (s : Shared) (σ : St) (H : Hp) (E : Value -> Shared -> Prop), Inv X pins σ H s -> (∀ b ∈ fp, FpOk X pins H b) -> tn i s.heap -> J.stop i H ->
  wpAny (model P w) X.A (pyNext (.ref it)) (fun r s1 => r = none /\ Inv X pins σ H s1) E s
 self : ∀ (A : Around) (i : Nat) (s : Shared) (Q : Value -> Shared -> Prop) (E : Value -> Shared -> Prop), tn i s.heap -> Q (.ref it) s -> wpAny (model P w) A (pyIter (.ref it)) Q E s
noncomputable abbrev TI := St -> Hp -> (It -> Hp -> Prop) -> Prop
def PIE (X : Cx) (pins : List (Addr × Obj)) (σ : St) (tg : Expr) (R : It -> Hp -> Prop) (itv : Value) (s2 : Shared) : Prop :=
 ∃ (it : Addr) (fp : List Addr) (tn : Nat -> Heap -> Prop) (J : It) (H' : Hp), itv = .ref it /\ Inv X pins σ H' s2 /\ Turn X.prog X.w X.K tg J fp it tn /\ tn 0 s2.heap /\ (∀ b ∈ fp, FpOk X pins H' b) /\ R J H'
def PI (X : Cx) (tg iter : Expr) (wi : TI) : Prop :=
 ∀ (pins : List (Addr × Obj)) (s : Shared) (σ : St) (H : Hp) (R : It -> Hp -> Prop), Inv X pins σ H s -> wi σ H R ->
  wpAny (model X.prog X.w) X.A (eval iter X.env) (fun v s1 => wpAny (model X.prog X.w) X.A (pyIter v) (PIE X pins σ tg R) X.xe s1) X.xe s
theorem go_of {M : Model} {A : Around} {E : Value -> Shared -> Prop} {s : Shared} {tg : Expr} {it : Addr} {u : Value} {o : Obj} {n : String} {vs : Array Value} {Q : Unit -> Shared -> Prop} (ho : s.heap.get? it = some o) (hc : o.cls = .type n) (hd : o.data = .fields vs)
    (hn : ["enumerate", "zip", "dict_itemiterator", "dict_reverseitemiterator", "odict_iterator", "itertools.zip_longest", "itertools.pairwise"].contains n = false) (hQ : Q () s) : wpAny M A (letOwnedTupleGo tg (.ref it) u) Q E s := by
  unfold letOwnedTupleGo
  cases tg <;> first
    | exact wpAny_pure hQ
    | (cases u <;> first
        | exact wpAny_pure hQ
        | (refine wpAny_bind (wpAny_load ho ?_)
           rw [hc, hd]
           show wpAny M A (if (["enumerate", "zip", "dict_itemiterator", "dict_reverseitemiterator", "odict_iterator", "itertools.zip_longest", "itertools.pairwise"].contains n && vs[0]? == some (rawInt _)) = true then _ else _) Q E s
           rw [if_neg (by intro h; rw [hn, Bool.false_and] at h; cases h)]
           exact wpAny_pure hQ))
noncomputable def Itl (K : PySem.W.Frag) (a : Addr) : It :=
 ⟨fun i H => ∃ xs x, SqL K H a xs /\ xs[i]? = some x, fun i H x H' => H' = H /\ ∀ xs, SqL K H a xs -> xs[i]? = some x, fun i H => ∃ xs, SqL K H a xs /\ xs.length <= i⟩
noncomputable def Itt (K : PySem.W.Frag) (a : Addr) : It :=
 ⟨fun i H => ∃ xs x, SqT K H a xs /\ xs[i]? = some x, fun i H x H' => H' = H /\ ∀ xs, SqT K H a xs -> xs[i]? = some x, fun i H => ∃ xs, SqT K H a xs /\ xs.length <= i⟩
noncomputable def Itr (lo : Int) (n : Nat) : It := ⟨fun i _ => i < n, fun i H x H' => H' = H /\ x = .int (lo + i), fun i _ => n <= i⟩
theorem turn_list {P : Program} {w : World} {K : PySem.W.Frag} {tg : Expr} (a it : Addr) : Turn P w K tg (Itl K a) [it] it (fun i h => h.IsListIter it a i) where
 mem := by simp
 obj := fun i h st b hb => by
  have e : b = it := by simpa using hb
  subst e
  obtain ⟨o, e, c, d⟩ := st
  exact ⟨o, e, fun v z => by rw [d] at z; cases z⟩
 keep := fun i h h' st k => st.at fun o e => k it (by simp) o e
 item := by
  intro X hP hw hK hc i pins s σ H E I hf st hg
  subst hP hw hK
  obtain ⟨xs, x, hq, hx⟩ := hg
  obtain ⟨its, rv, p, hz⟩ := I.list hq
  obtain ⟨u, hu, ru⟩ := rv.get hx
  obtain ⟨f0, f1, f2, f3, f4, f5⟩ := hf it (by simp)
  refine wpAny_pyNext_list_item st p.isList (x := u) (by simpa using hu) fun h' st' sb => ?_
  have I1 : Inv X pins σ H { s with heap := h' } := I.turned (t' := s.toks) (fun b o hb e => (sb.2 b hb).trans e) f0 f1 f3 f4 f5
  obtain ⟨o, e, c, d⟩ := id st'
  exact ⟨u, rfl, go_of (s := { s with heap := h' }) e c d (by decide) ⟨x, H, I1, ru, ⟨rfl, fun ys hy => by rw [I.list_inj hy hq]; exact hx⟩, st', fun b hb => (hf b hb).1⟩⟩
 done := by
  intro X hP hw hK hc i pins s σ H E I hf st hg
  subst hP hw hK
  obtain ⟨xs, hq, hx⟩ := hg
  obtain ⟨its, rv, p, hz⟩ := I.list hq
  obtain ⟨f0, f1, f2, f3, f4, f5⟩ := hf it (by simp)
  have hl := rv.length
  exact wpAny_pyNext_list_end (I.ok.hd hc) st p.isList (by simp; omega) fun h' eb => ⟨rfl, I.turned (t' := s.toks) (fun b o hb e => eb b o hb e) f0 f1 f3 f4 f5⟩
 self := fun _ _ _ _ _ st h => wpAny_pyIter_listiter st h
theorem turn_tuple {P : Program} {w : World} {K : PySem.W.Frag} {tg : Expr} (a it : Addr) : Turn P w K tg (Itt K a) [it] it (fun i h => h.IsTupleIter it a i) where
 mem := by simp
 obj := fun i h st b hb => by
  have e : b = it := by simpa using hb
  subst e
  obtain ⟨o, e, c, d⟩ := st
  exact ⟨o, e, fun v z => by rw [d] at z; cases z⟩
 keep := fun i h h' st k => st.at fun o e => k it (by simp) o e
 item := by
  intro X hP hw hK hc i pins s σ H E I hf st hg
  subst hP hw hK
  obtain ⟨xs, x, hq, hx⟩ := hg
  obtain ⟨its, rv, p, hz⟩ := I.tuple hq
  obtain ⟨u, hu, ru⟩ := rv.get hx
  obtain ⟨f0, f1, f2, f3, f4, f5⟩ := hf it (by simp)
  refine wpAny_pyNext_tuple_item st (show s.heap.IsTuple a its.toArray from p) (x := u) (by simpa using hu) fun h' st' sb => ?_
  have I1 : Inv X pins σ H { s with heap := h' } := I.turned (t' := s.toks) (fun b o hb e => (sb.2 b hb).trans e) f0 f1 f3 f4 f5
  obtain ⟨o, e, c, d⟩ := id st'
  exact ⟨u, rfl, go_of (s := { s with heap := h' }) e c d (by decide) ⟨x, H, I1, ru, ⟨rfl, fun ys hy => by rw [I.tuple_inj hy hq]; exact hx⟩, st', fun b hb => (hf b hb).1⟩⟩
 done := by
  intro X hP hw hK hc i pins s σ H E I hf st hg
  subst hP hw hK
  obtain ⟨xs, hq, hx⟩ := hg
  obtain ⟨its, rv, p, hz⟩ := I.tuple hq
  obtain ⟨f0, f1, f2, f3, f4, f5⟩ := hf it (by simp)
  have hl := rv.length
  exact wpAny_pyNext_tuple_end (I.ok.hd hc) st (show s.heap.IsTuple a its.toArray from p) (by simp; omega) fun h' eb => ⟨rfl, I.turned (t' := s.toks) (fun b o hb e => eb b o hb e) f0 f1 f3 f4 f5⟩
 self := fun _ _ _ _ _ st h => wpAny_pyIter_tupleiter st h
theorem turn_range {P : Program} {w : World} {K : PySem.W.Frag} {tg : Expr} (it : Addr) (lo : Int) (n : Nat) : Turn P w K tg (Itr lo n) [it] it (fun i h => IsRangeIter h it (lo + (i : Nat) * 1) ((n : Int) - (i : Nat)) 1) where
 mem := by simp
 obj := fun i h st b hb => by
  have e : b = it := by simpa using hb
  subst e
  exact ⟨_, st, fun v z => by
   have z' : Data.fields _ = Data.cell v := z
   cases z'⟩
 keep := fun i h h' st k => k it (by simp) _ st
 item := by
  intro X hP hw hK hc i pins s σ H E I hf st hg
  subst hP hw hK
  obtain ⟨f0, f1, f2, f3, f4, f5⟩ := hf it (by simp)
  have W := Walks.range (prog := X.prog) (w := X.w) (I.ok.hd hc) it lo 1 n
  refine W.item i s _ _ hg st fun v h' tk hv st' kk => ?_
  obtain ⟨t, rfl⟩ := hv
  have I1 : Inv X pins σ H { s with heap := h', toks := tk } := I.turned (fun b o hb e => kk b o (by simpa using hb) e) f0 f1 f3 f4 f5
  refine ⟨_, rfl, go_of (s := { s with heap := h', toks := tk }) (n := "range_iterator") st' rfl rfl (by decide) ⟨.int (lo + i), H, I1, ⟨t, ?_⟩, ⟨rfl, rfl⟩, st', fun b hb => (hf b hb).1⟩⟩
  rw [Int.mul_one]
 done := by
  intro X hP hw hK hc i pins s σ H E I hf st hg
  subst hP hw hK
  obtain ⟨f0, f1, f2, f3, f4, f5⟩ := hf it (by simp)
  exact wpAny_pyNext_range_end (I.ok.hd hc) st (by have : n <= i := hg; omega) fun h' eb => ⟨rfl, I.turned (t' := s.toks) (fun b o hb e => eb b o hb e) f0 f1 f3 f4 f5⟩
 self := fun _ _ _ _ _ st h => wpAny_pyIter_rangeiter st h
end L2
namespace L2
open PySem PySem.Spec PyProof.Rows
section
variable {X : Cx} {tg : Expr}
theorem range_it {pins : List (Addr × Obj)} {σ : St} {H : Hp} {s : Shared} {R : It -> Hp -> Prop} {E : Value -> Shared -> Prop} {lo hi : Int} {t u v : Tok} {tk : Nat} (I : Inv X pins σ H s) (h1 : -(2 ^ 62) <= lo) (h2 : lo < 2 ^ 62) (h3 : -(2 ^ 62) <= hi) (h4 : hi < 2 ^ 62)
  (q : R (Itr lo (hi - lo).toNat) H) : wpAny (model X.prog X.w) X.A (pyIter (.ref s.heap.objs.size)) (PIE X pins σ tg R) E { s with heap := s.heap.push { cls := .type "range", data := .fields #[.int lo t, .int hi u, .int 1 v] }, toks := tk } := by
 refine wpAny_pyIter_range (IsRange.new ..) (small_one h1 h2 h3 h4) ?_
 have I1 : Inv X pins σ H { s with heap := s.heap.push { cls := .type "range", data := .fields #[.int lo t, .int hi u, .int 1 v] }, toks := tk } := I.kept fun b o e => Heap.get?_push_of_some _ e
 refine ⟨(s.heap.push { cls := .type "range", data := .fields #[.int lo t, .int hi u, .int 1 v] }).objs.size, [(s.heap.push { cls := .type "range", data := .fields #[.int lo t, .int hi u, .int 1 v] }).objs.size], _, _, H, rfl,
  I1.kept (t' := tk) fun b o e => Heap.get?_push_of_some _ e, turn_range _ lo (hi - lo).toNat, ?_, fun b hb => ?_, q⟩
 ·have e1 : lo + ((0 : Nat) : Int) * 1 = lo := by simp
  have e2 : (((hi - lo).toNat : Nat) : Int) - ((0 : Nat) : Int) = Builtin.Range.rangeSize lo hi 1 := by rw [rangeSize_one]; split <;> omega
  show IsRangeIter _ _ (lo + ((0 : Nat) : Int) * 1) ((((hi - lo).toNat : Nat) : Int) - ((0 : Nat) : Int)) 1
  rw [e1, e2]
  exact Heap.get?_push_size _ rfl
 ·have e : b = (s.heap.push { cls := .type "range", data := .fields #[.int lo t, .int hi u, .int 1 v] }).objs.size := by simpa using hb
  subst e
  exact I1.fpOk (Nat.le_refl _) (I1.hok.fresh (Nat.le_refl _))
def iRng1 (ta : TA) : TI := fun σ H R => ta σ H fun vs H1 => ∃ j : Int, vs = [.int j] /\ -(2 ^ 62) <= j /\ j < 2 ^ 62 /\ R (Itr 0 j.toNat) H1
theorem pi_range1 {a : Expr} {ta : TA} {p pos : Pos} (hg : Gl X "range") (hm : X.mg "range" = none) (ha : PA X [a] ta) (hs : starEach [a] X.env = [(false, eval a X.env)] := by rfl) : PI X tg (.Call (.Name "range" p) [a] [] pos) (iRng1 ta) := by
 intro pins s σ H R I h
 refine Call_ (ld_blt I hg hm boot_range (PyProof.Rows.callWith_type1 (thn (ha pos pins s σ H _ I h) fun us s1 ⟨vs, H1, I1, r1, q1⟩ => ?_) hs rfl))
 obtain ⟨j, e, q1, q2, q⟩ := q1
 subst e
 cases r1 with
 | cons r rr =>
  cases rr
  obtain ⟨t, rfl⟩ := r
  exact call_range_1 (range_it I1 (by omega) (by omega) q1 q2 (by simpa using q))
def tFor (wi : TI) (g : TG) (tb : TS) : TS := fun D σ H => wi σ H fun J H1 => ∃ W : Nat -> Nat -> St -> Hp -> Prop, (∃ m, W 0 m σ H1) /\ ∀ i m σ H, W i m σ H ->
 (J.stop i H /\ D.nx σ H) \/ (J.go i H /\ ∃ N : St -> Hp -> Prop, (∀ σ' H', N σ' H' -> ∃ m', m' < m /\ W (i + 1) m' σ' H') /\ ∀ x H', J.yld i H x H' -> g x σ H' fun σ2 H2 => tb { D with nx := N, ct := N, bk := D.nx } σ2 H2)
noncomputable def pinsAt (fp : List Addr) (h : Heap) : List (Addr × Obj) := fp.filterMap fun b => (h.get? b).map fun o => (b, o)
theorem mem_pinsAt {fp : List Addr} {h : Heap} {b : Addr} {o : Obj} (hb : b ∈ fp) (e : h.get? b = some o) : (b, o) ∈ pinsAt fp h := List.mem_filterMap.mpr ⟨b, hb, by rw [e]; rfl⟩
theorem of_pinsAt {fp : List Addr} {h : Heap} {p : Addr × Obj} (hp : p ∈ pinsAt fp h) : p.1 ∈ fp /\ h.get? p.1 = some p.2 := by
 obtain ⟨b, hb, e⟩ := List.mem_filterMap.mp hp
 cases q : h.get? b with
 | none => rw [q] at e; cases e
 | some o =>
  rw [q] at e
  have e' : (b, o) = p := Option.some.inj e
  subst e'
  exact ⟨hb, q⟩
theorem Inv.pinned {pins : List (Addr × Obj)} {σ : St} {H : Hp} {s : Shared} {fp : List Addr} (I : Inv X pins σ H s) (hf : ∀ b ∈ fp, FpOk X pins H b) (ho : ∀ b ∈ fp, ∃ o, s.heap.get? b = some o /\ ∀ v, o.data ≠ .cell v) : Inv X (pins ++ pinsAt fp s.heap) σ H s :=
 I.pins_of fun p hp => (List.mem_append.mp hp).elim (fun z => I.pin p (List.mem_append_right _ z)) fun z => by
  obtain ⟨hb, e⟩ := of_pinsAt z
  obtain ⟨f0, f1, f2, _⟩ := hf p.1 hb
  obtain ⟨o, e', d⟩ := ho p.1 hb
  rw [e] at e'; cases e'
  exact ⟨e, f0, f1, f2, d⟩
theorem Inv.unpinned {pins pl : List (Addr × Obj)} {σ : St} {H : Hp} {s : Shared} (I : Inv X (pins ++ pl) σ H s) : Inv X pins σ H s := I.pins_of fun p hp => I.pin p (List.mem_append_right _ (List.mem_append_left _ hp))
theorem ps_for {iter : Expr} {body : List Stmt} {wi : TI} {g : TG} {tb : TS} {pos : Pos} (hp : PassesOwn (model X.prog X.w) X.A X.env X.xe) (hc : X.calm = true) (hi : PI X tg iter wi) (hg : PG X tg g) (hb : PSs X body tb)
  (hs : ∀ x, foldedSetIterable iter X.env x = pure x := by intro _; rfl) : PS X (.For tg iter body [] pos) (tFor wi g tb) := by
 intro pins s σ H D I h
 refine wpAny_For (thn (hi pins s σ H _ I h) fun v s1 h1 => thn h1 fun itv s2 h2 => ?_) hs
 obtain ⟨it, fp, tn, J, H2, e, I2, T, st2, f2, W, ⟨m0, w0⟩, turn⟩ := h2
 subst e
 -- what stays true of the iterator's objects through the loop
 have stat : ∀ {H' : Hp}, (∀ b ∈ fp, H' b = none) -> ∀ b ∈ fp, FpOk X pins H' b := fun hn b hb => ⟨hn b hb, (f2 b hb).2⟩
 refine codeAny_forLoop_any (fun n s' => ∃ i σ' H', Inv X pins σ' H' s' /\ tn i s'.heap /\ (∀ b ∈ fp, H' b = none) /\ W i n σ' H') ?_ m0 ⟨0, σ, H2, I2, st2, fun b hb => (f2 b hb).1, w0⟩
 rintro n s3 ⟨i, σ3, H3, I3, st3, fr3, w3⟩
 rcases turn i n σ3 H3 w3 with ⟨stop, qn⟩ | ⟨go, N, hN, step⟩
 ·refine wpAny_passesOwn hp (thn (T.done X rfl rfl rfl hc i pins s3 σ3 H3 X.xe I3 (stat fr3) st3 stop) fun r s4 ⟨hr, I4⟩ => ?_)
  subst hr
  exact wpAny_execs_nil ⟨σ3, H3, I4, qn⟩
 ·refine wpAny_passesOwn hp (thn (T.item X rfl rfl rfl hc i pins s3 σ3 H3 X.xe I3 (stat fr3) st3 go) fun r s4 ⟨u, hr, h4⟩ => ?_)
  subst hr
  refine wpAny_passesOwn hp (thn h4 fun _ s5 ⟨x, H5, I5, r5, y5, st5, fr5⟩ => ?_)
  have I5' := I5.pinned (stat fr5) (T.obj _ _ st5)
  refine wpAny_passesOwn hp (thn (hg _ s5 σ3 H5 x u _ I5' r5 (step x H5 y5)) fun _ s6 ⟨σ6, H6, I6, q6⟩ => ?_)
  refine wpAny_passesOwn hp (thn (hb _ s6 σ6 H6 _ I6 q6) fun f s7 q7 => ?_)
  have again : ∀ {σ7 : St} {H7 : Hp}, Inv X (pins ++ pinsAt fp s5.heap) σ7 H7 s7 -> N σ7 H7 -> ∃ m, m < n /\ ∃ i σ' H', Inv X pins σ' H' s7 /\ tn i s7.heap /\ (∀ b ∈ fp, H' b = none) /\ W i m σ' H' := fun {σ7 H7} I7 n7 => by
   obtain ⟨m', hm, w7⟩ := hN σ7 H7 n7
   refine ⟨m', hm, i + 1, σ7, H7, I7.unpinned, T.keep _ _ _ st5 fun b hb o e => (I7.pin (b, o) (List.mem_append_right _ (List.mem_append_right _ (mem_pinsAt hb e)))).1, fun b hb => ?_, w7⟩
   obtain ⟨o, e, d⟩ := T.obj _ _ st5 b hb
   exact (I7.pin (b, o) (List.mem_append_right _ (List.mem_append_right _ (mem_pinsAt hb e)))).2.1
  cases f with
  | next => obtain ⟨σ7, H7, I7, n7⟩ := q7; exact again I7 n7
  | cont => obtain ⟨σ7, H7, I7, n7⟩ := q7; exact again I7 n7
  | brk => obtain ⟨σ7, H7, I7, q7⟩ := q7; exact ⟨σ7, H7, I7.unpinned, q7⟩
  | ret v => obtain ⟨x7, σ7, H7, I7, r7, q7⟩ := q7; exact ⟨x7, σ7, H7, I7.unpinned, r7, q7⟩
end
end L2
namespace L2
open PySem PySem.Spec PyProof.Rows
noncomputable abbrev R2 := V -> V -> Hp -> VK -> Prop
def OpR (X : Cx) (f : Value -> Value -> Sem Value) (r : R2) : Prop :=
 ∀ (pins : List (Addr × Obj)) (s : Shared) (σ : St) (H : Hp) (x y : V) (v u : Value) (Q : VK), Inv X pins σ H s -> RelV x v -> RelV y u -> r x y H Q ->
  wpAny (model X.prog X.w) X.A (f v u) (EP X pins σ Q) X.xe s
def CallR (X : Cx) (f : Value) (r : List V -> Hp -> VK -> Prop) : Prop :=
 ∀ (pins : List (Addr × Obj)) (s : Shared) (σ : St) (H : Hp) (xs : List V) (us : List Value) (Q : VK), Inv X pins σ H s -> Vals xs us -> r xs H Q ->
  wpAny (model X.prog X.w) X.A (call f us) (EP X pins σ Q) X.xe s
def tOp (r : R2) (ta tb : TE) : TE := fun σ H Q => ta σ H fun x H1 => tb σ H1 fun y H2 => r x y H2 Q
def rI (C : Int -> Int -> Prop) (g : Int -> Int -> V) : R2 := fun x y H Q => ∃ i j, x = .int i /\ y = .int j /\ C i j /\ Q (g i j) H
noncomputable def rI0 (g : Int -> Int -> V) : R2 := fun x y H Q => ∃ i j, x = .int i /\ y = .int j /\ Q (g i j) H
section
variable {X : Cx} {a b c : Expr} {ta tb tc : TE} {pos : Pos}
theorem binT (ha : PE X a ta) (hb : PE X b tb) {pins : List (Addr × Obj)} {s : Shared} {σ : St} {H : Hp} {R : V -> V -> Hp -> Prop} (I : Inv X pins σ H s)
  (h : ta σ H fun x H1 => tb σ H1 fun y H2 => R x y H2) {Q : Value -> Shared -> Prop} {f : Value -> Value -> Sem Value}
  (hf : ∀ v u s2 x y H2, Inv X pins σ H2 s2 -> RelV x v -> RelV y u -> R x y H2 -> wpAny (model X.prog X.w) X.A (f v u) Q X.xe s2) :
  wpAny (model X.prog X.w) X.A (eval a X.env) (fun v s₁ => wpAny (model X.prog X.w) X.A (eval b X.env) (fun u s₂ => wpAny (model X.prog X.w) X.A (f v u) Q X.xe s₂) X.xe s₁) X.xe s := by
 refine thn (ha pins s σ H _ I h) fun v s1 ⟨x, H1, I1, r1, q1⟩ => ?_
 refine thn (hb pins s1 σ H1 _ I1 q1) fun u s2 ⟨y, H2, I2, r2, q2⟩ => ?_
 exact hf v u s2 x y H2 I2 r1 r2 q2
theorem pe_op {op : Operator} {r : R2} (ho : OpR X (binaryOp op) r) (ha : PE X a ta) (hb : PE X b tb) : PE X (.BinOp a op b pos) (tOp r ta tb) := by
 intro pins s σ H Q I h
 exact wpAny_BinOp (binT ha hb I h fun v u s2 x y H2 I2 rx ry q => ho pins s2 σ H2 x y v u Q I2 rx ry q)
theorem opI {f : Value -> Value -> Sem Value} {C : Int -> Int -> Prop} {g : Int -> Int -> Int}
  (rule : ∀ (i j : Int) (t u : Tok) (s : Shared) (Q : Value -> Shared -> Prop) (E : Value -> Shared -> Prop), C i j -> Q (.int (g i j) s.toks) { s with toks := s.toks + 1 } -> wpAny (model X.prog X.w) X.A (f (.int i t) (.int j u)) Q E s) :
  OpR X f (rI C fun i j => .int (g i j)) := by
 intro pins s σ H x y v u Q I rx ry h
 obtain ⟨i, j, rfl, rfl, hc, q⟩ := h
 obtain ⟨t, rfl⟩ := rx
 obtain ⟨t', rfl⟩ := ry
 exact rule i j t t' s _ _ hc ⟨.int (g i j), H, I.tok _, ⟨_, rfl⟩, q⟩
theorem opI0 {f : Value -> Value -> Sem Value} {g : Int -> Int -> Int}
  (rule : ∀ (i j : Int) (t u : Tok) (s : Shared) (Q : Value -> Shared -> Prop) (E : Value -> Shared -> Prop), Q (.int (g i j) s.toks) { s with toks := s.toks + 1 } -> wpAny (model X.prog X.w) X.A (f (.int i t) (.int j u)) Q E s) :
  OpR X f (rI0 fun i j => .int (g i j)) := by
 intro pins s σ H x y v u Q I rx ry h
 obtain ⟨i, j, rfl, rfl, q⟩ := h
 obtain ⟨t, rfl⟩ := rx
 obtain ⟨t', rfl⟩ := ry
 exact rule i j t t' s _ _ ⟨.int (g i j), H, I.tok _, ⟨_, rfl⟩, q⟩
theorem opB0 {f : Value -> Value -> Sem Value} {g : Int -> Int -> Bool}
  (rule : ∀ (i j : Int) (t u : Tok) (s : Shared) (Q : Value -> Shared -> Prop) (E : Value -> Shared -> Prop), Q (.bool (g i j)) s -> wpAny (model X.prog X.w) X.A (f (.int i t) (.int j u)) Q E s) :
  OpR X f (rI0 fun i j => .bl (g i j)) := by
 intro pins s σ H x y v u Q I rx ry h
 obtain ⟨i, j, rfl, rfl, q⟩ := h
 obtain ⟨t, rfl⟩ := rx
 obtain ⟨t', rfl⟩ := ry
 exact rule i j t t' s _ _ ⟨.bl (g i j), H, I, rfl, q⟩
def CDiv (i j : Int) : Prop := 0 < j /\ j < 1073741824
def CMul (i j : Int) : Prop := (-(2 ^ 64) < i /\ i < 2 ^ 64) \/ (-(2 ^ 64) < j /\ j < 2 ^ 64)
theorem CMul.ok {i j : Int} (h : CMul i j) : IntMulOk i j := by
 rcases h with ⟨h1, h2⟩ | ⟨h1, h2⟩
 ·exact .of_left (intBits_le_64 h1 h2)
 ·exact .of_right (intBits_le_64 h1 h2)
theorem op_add : OpR X (binaryOp .Add) (rI0 fun i j => .int (i + j)) := opI0 fun _ _ _ _ _ _ _ q => add_int q
theorem op_mul : OpR X (binaryOp .Mult) (rI CMul fun i j => .int (i * j)) := opI fun _ _ _ _ _ _ _ hc q => mul_int q hc.ok
theorem op_fdiv : OpR X (binaryOp .FloorDiv) (rI CDiv fun i j => .int (i / j)) := opI fun i j _ _ _ _ _ hc q => by
 have h1 : (0 : Int) < j := hc.1
 have h2 : j < 1073741824 := hc.2
 exact floordiv_int (by omega) (by rw [Int.fdiv_eq_ediv_of_nonneg i (by omega)]; exact q) (.inl (PyProof.noPylong_small (by omega)))
theorem op_mod : OpR X (binaryOp .Mod) (rI (fun _ j => 0 < j) fun i j => .int (i % j)) := opI fun i j _ _ _ _ _ hc q => by
 have h1 : (0 : Int) < j := hc
 exact mod_int' (by omega) (by rw [Int.fmod_eq_emod_of_nonneg i (by omega)]; exact q)
end
section
variable {X : Cx} {a b c : Expr} {ta tb tc : TE} {pos : Pos}
theorem fin_bl {pins : List (Addr × Obj)} {σ : St} {H : Hp} {s : Shared} {Q : VK} {k k' : Bool} (I : Inv X pins σ H s) (q : Q (.bl k) H) (e : k = k') : EP X pins σ Q (.bool k') s := by
 subst e
 exact ⟨.bl k, H, I, rfl, q⟩
theorem op_lt : OpR X (compareOp .Lt) (rI0 fun i j => .bl (decide (i < j))) := opB0 fun _ _ _ _ _ _ _ q => lt_int q
theorem op_isN : OpR X (compareOp .Is) (fun x y H Q => y = .non /\ Q (.bl (decide (x = .non))) H) := by
 intro pins s σ H x y v u Q I rx ry h
 obtain ⟨rfl, q⟩ := h
 cases ry
 refine is_none_gen (fin_bl I q ?_)
 cases x <;> first
  | (cases rx; rfl)
  | (obtain ⟨t, rfl⟩ := rx; rfl)
theorem op_notN : OpR X (compareOp .IsNot) (fun x y H Q => y = .non /\ Q (.bl (!decide (x = .non))) H) := by
 intro pins s σ H x y v u Q I rx ry h
 obtain ⟨rfl, q⟩ := h
 cases ry
 refine isnot_none_gen (fin_bl I q ?_)
 cases x <;> first
  | (cases rx; rfl)
  | (obtain ⟨t, rfl⟩ := rx; rfl)
theorem OpR.or {f : Value -> Value -> Sem Value} {r r' : R2} (h : OpR X f r) (h' : OpR X f r') : OpR X f (fun x y H Q => r x y H Q \/ r' x y H Q) := by
 intro pins s σ H x y v u Q I rx ry q
 rcases q with q | q
 ·exact h pins s σ H x y v u Q I rx ry q
 ·exact h' pins s σ H x y v u Q I rx ry q
theorem nomark (b : Expr) {op : CmpOp} (h : op ≠ .In := by decide) (h2 : op ≠ .NotIn := by decide) : behindInMarks op b = false := by
 have e1 : (op == CmpOp.In) = false := by cases op <;> first | rfl | exact absurd rfl h
 have e2 : (op == CmpOp.NotIn) = false := by cases op <;> first | rfl | exact absurd rfl h2
 cases b <;> simp [behindInMarks, e1, e2]
theorem pe_cmpR {op : CmpOp} {r : R2} (ho : OpR X (compareOp op) r) (ha : PE X a ta) (hb : PE X b tb) (hm : behindInMarks op b = false) : PE X (.Compare a [op] [b] pos) (tOp r ta tb) := by
 intro pins s σ H Q I h
 exact wpAny_Compare1 (binT ha hb I h fun v u s2 x y H2 I2 rx ry q => ho pins s2 σ H2 x y v u Q I2 rx ry q) hm
def tTest (t : TE) : TT := fun σ H Q => t σ H fun x H' => ∃ k, x = .bl k /\ Q k H'
theorem pt_cmpR {op : CmpOp} {r : R2} (ho : OpR X (compareOp op) r) (ha : PE X a ta) (hb : PE X b tb) (hm : behindInMarks op b = false) : PT X (.Compare a [op] [b] pos) (tTest (tOp r ta tb)) := by
 intro pins s σ H Q I h
 refine wpAny_isTrue_Compare1 (thn (ha pins s σ H _ I h) fun v s1 ⟨x, H1, I1, r1, q1⟩ => thn (hb pins s1 σ H1 _ I1 q1) fun u s2 ⟨y, H2, I2, r2, q2⟩ =>
  thn (ho pins s2 σ H2 x y v u _ I2 r1 r2 q2) fun c s3 ⟨z, H3, I3, r3, k, e, q3⟩ => ?_) hm
 subst e
 cases r3
 exact wpAny_truthy_bool ⟨H3, I3, q3⟩
theorem line63 : (sizeLine : Nat) < 2 ^ 63 := by rw [sizeLine_eq]; decide
theorem op_add_str : OpR X (binaryOp .Add) (fun x y H Q => ∃ i j, x = .str i /\ y = .str j /\ i.length + j.length <= sizeLine /\ Q (.str (i ++ j)) H) := by
 intro pins s σ H x y v u Q I rx ry h
 obtain ⟨i, j, rfl, rfl, hz, q⟩ := h
 obtain ⟨t, rfl⟩ := rx
 obtain ⟨t', rfl⟩ := ry
 exact add_str (fun t' tk => ⟨.str (i ++ j), H, I.tok _, ⟨_, rfl⟩, q⟩) hz
theorem vals1 {x : V} {us : List Value} (r : Vals [x] us) : ∃ u, us = [u] /\ RelV x u := by
 cases r with
 | cons r1 r2 => cases r2; exact ⟨_, rfl, r1⟩
theorem vals2 {x y : V} {us : List Value} (r : Vals [x, y] us) : ∃ u w', us = [u, w'] /\ RelV x u /\ RelV y w' := by
 cases r with
 | cons r1 r2 =>
  cases r2 with
  | cons r3 r4 => cases r4; exact ⟨_, _, rfl, r1, r3⟩
theorem call_min2 (hc : X.calm = true) : CallR X (.builtin "min") (fun xs H Q => ∃ i j, xs = [.int i, .int j] /\ Q (.int (if j < i then j else i)) H) := by
 intro pins s σ H xs us Q I r h
 obtain ⟨i, j, rfl, q⟩ := h
 obtain ⟨u, w', rfl, ⟨t, rfl⟩, ⟨t', rfl⟩⟩ := vals2 r
 refine min_two_ints (I.ok.hd hc) fun h' tk k => ⟨_, H, I.kept k, ?_, q⟩
 by_cases hj : j < i
 ·rw [if_pos hj, if_pos hj]; exact ⟨_, rfl⟩
 ·rw [if_neg hj, if_neg hj]; exact ⟨_, rfl⟩
theorem call_str_int : CallR X (.type "str") (fun xs H Q => ∃ i, xs = [.int i] /\ i.natAbs.log2 < 1920 /\ Q (.str (toString i)) H) := by
 intro pins s σ H xs us Q I r h
 obtain ⟨i, rfl, hz, q⟩ := h
 obtain ⟨u, rfl, t, rfl⟩ := vals1 r
 exact PySem.P.str_of_int hz ⟨.str _, H, I.tok _, ⟨_, rfl⟩, q⟩
end
end L2
namespace L2
open PySem PySem.Spec PyProof.Rows
structure ObjM (h : Heap) (x dx C : Addr) (mA : Str -> Option Value) : Prop where
 obj : h.get? x = some (PySem.W.instObj C dx)
 ns : h.Ns1 dx mA
 ne : dx ≠ x
theorem lookIn_ns {h : Heap} {dx : Addr} {mA : Str -> Option Value} (n : h.Ns1 dx mA) : ∃ od, h.get? dx = some od /\ ∀ name, PySem.W.lookIn name od = some (mA name) := by
 obtain ⟨o, es, ep, ho, hd, hk, _, hm⟩ := n
 refine ⟨o, ho, fun name => ?_⟩
 have e := hm name
 unfold nsFind findBy at e
 rw [← Array.find?_toList] at e
 unfold PySem.W.lookIn
 rw [hd]
 dsimp only
 split
 ·rename_i y q
  rw [q] at e
  exact congrArg some e
 ·rename_i q
  rw [q] at e
  have a : es.toList.any (·.refKey) = false := by
   rw [List.any_eq_false]
   intro y hy
   obtain ⟨z, t, hkey⟩ := hk y (Array.mem_toList_iff.mp hy)
   simp [DictEntry.refKey, hkey]
  have a' : ¬ es.toList.any (·.refKey) = true := by rw [a]; exact Bool.false_ne_true
  rw [if_neg a']
  exact congrArg some e
theorem ObjM.look {h : Heap} {x dx C : Addr} {mA : Str -> Option Value} (I : ObjM h x dx C mA) : ∃ od, PySem.W.InstAt h x (PySem.W.instObj C dx) C (some od) /\ ∀ name, PySem.W.lookIn name od = some (mA name) :=
 let ⟨od, ho, hl⟩ := lookIn_ns I.ns
 ⟨od, ⟨I.obj, rfl, rfl, ho⟩, hl⟩
section
variable {prog : Program} {w : World} {A : Around} {E : Value -> Shared -> Prop} {s : Shared} {K : PySem.W.Frag} {x dx C f : Addr} {mA : Str -> Option Value} {name : Str} {v : Value}
theorem get_map {expr : Bool} {Q : Value -> Shared -> Prop} (X : K.In s.heap) (I : ObjM s.heap x dx C mA) (hg : PySem.W.plainGet K C name = true) (hh : PySem.W.hasDictIn K C = true)
  (ha : PySem.W.findIn K (.ref C) name = some none) (hv : mA name = some v) (hv' : PySem.W.handedIn v = true) (h : Q v { s with toks := s.toks + 1 }) :
  wpAny (model prog w) A (getAttr (.ref x) name expr) Q E s := by
 obtain ⟨od, J, hl⟩ := I.look
 exact PySem.W.get_value X J (PySem.W.plainGet_of hg).1 (PySem.W.findObj_own hh ha rfl (by rw [hl, hv])) hv' h
theorem get_meth {pl : Sem Bool} {Q : Value × List Value -> Shared -> Prop} (X : K.In s.heap) (I : ObjM s.heap x dx C mA) (hg : PySem.W.plainGet K C name = true)
  (hf : PySem.W.findIn K (.ref C) name = some (some (.ref f))) (ht : PySem.W.isFn K (.ref f) = true) (hv : mA name = none) (h : Q (.ref f, [.ref x]) s) :
  wpAny (model prog w) A (getMethod (.ref x) name pl) Q E s := by
 obtain ⟨od, J, hl⟩ := I.look
 exact PySem.W.method_fn X J (PySem.W.plainGet_of hg).1 (PySem.W.plainGet_of hg).2 hf (beq_iff_eq.mp ht) (by show (PySem.W.lookIn name od).map (·.isSome) = some false; rw [hl, hv]; rfl) h
theorem set_map {ns : List Str} {Q : Unit -> Shared -> Prop} (X : K.In s.heap) (I : ObjM s.heap x dx C mA)
  (hs : PySem.W.findIn K (.ref C) "__setattr__" = some (some (.builtin "object.__setattr__"))) (hp : PySem.W.plainOver K C = true) (ht : PySem.W.takerIn K C name = some none) (hh : PySem.W.hasDictIn K C = true)
  (hw : PySem.Within mA ns) (hsz : ns.length <= sizeLine)
  (h : ∀ h', ObjM h' x dx C (fun y => if y = name then some v else mA y) -> Heap.SameBut dx s.heap h' -> Q () { s with heap := h', toks := s.toks + 2 }) :
  wpAny (model prog w) A (setAttr (.ref x) name v) Q E s := by
 obtain ⟨od, J, hl⟩ := I.look
 refine PySem.W.set_plain X J hs (PySem.W.osa_open (s := { s with toks := s.toks + 1 }) (r := none) X J hp ht fun b => ?_)
 obtain ⟨cd, hc, hd'⟩ := PySem.W.any_some hh
 have hx : s.heap.get? x = some ⟨.ref C, some dx, .plain, #[]⟩ := I.obj
 refine wpAny_bind (wpAny_pure (wpAny_bind (wpAny_bind (wpAny_loadPart hx (wpAny_bind (PySem.W.Looks.here (s := { s with toks := s.toks + 1 }) (PySem.W.looks_clsIn X hc) ?_))))))
 rw [hd']
 refine wpAny_pure (a := some dx) (wpAny_bind (wpAny_pure (wpAny_bind ?_)))
 refine wpAny_nsSet1 (s := { s with toks := s.toks + 1 }) I.ns fun h' hn2 hs2 => ?_
 obtain ⟨oD, esD, epD, hoD, hdD, hcD⟩ := hn2.count (PySem.Within.cons name v hw)
 refine wpAny_bind (wpAny_lookBehind hoD (by rw [hdD]; exact pastItsLine_dict (Nat.le_trans hcD (by rw [List.length_cons]; omega))) ?_)
 exact wpAny_pure (h _ ⟨(hs2.2 _ (Ne.symm I.ne)).trans I.obj, hn2, I.ne⟩ hs2)
theorem make_map {R : Result -> Shared -> Prop} {vs : List Value} {kw : List (Str × Value)} (X : K.In s.heap) (hm : PySem.W.makesIn K C = true)
  (hi : PySem.W.findIn K (.ref C) "__init__" = some (some (.ref f))) (hf : PySem.W.typeIn K (.ref f) = some (.type "function"))
  (h : codeAny (model prog w) (A.under (.builtin "type.__call__" ⟨.ref C :: vs, kw⟩)) (.call (.ref f) ⟨.ref (s.heap.objs.size + 1) :: vs, kw⟩) (PySem.W.InitBack (s.heap.objs.size + 1) R)
   { s with heap := (s.heap.push PySem.W.emptyDict).push (PySem.W.instObj C s.heap.objs.size) }) :
  codeAny (model prog w) A (.call (.ref C) ⟨vs, kw⟩) R s := by
 obtain ⟨hh, g, d, t, os⟩ := s
 exact PySem.W.make_core (PySem.W.makes_of X hm) (PySem.W.looks_findIn X hi) (fun self => PySem.W.bind_fn X self hf) (.inl rfl) h
end
noncomputable def putF (f : Str) (v : V) : List (Str × V) -> List (Str × V)
 | [] => [(f, v)]
 | (g, x) :: r => if g = f then (g, v) :: r else (g, x) :: putF f v r
theorem lookup_putF (f g : Str) (v : V) : ∀ fs : List (Str × V), (putF f v fs).lookup g = if g = f then some v else fs.lookup g
 | [] => by
  show List.lookup g [(f, v)] = _
  by_cases h : g = f
  ·have hb : (g == f) = true := beq_iff_eq.mpr h
   simp only [List.lookup, hb, if_pos h]
  ·have hb : (g == f) = false := beq_eq_false_iff_ne.mpr h
   simp only [List.lookup, hb, if_neg h]
 | (k, x) :: r => by
  have ih := lookup_putF f g v r
  rw [show putF f v ((k, x) :: r) = (if k = f then (k, v) :: r else (k, x) :: putF f v r) from rfl]
  by_cases hk : k = f
  ·rw [if_pos hk]
   by_cases h : g = k
   ·have hb : (g == k) = true := beq_iff_eq.mpr h
    simp only [List.lookup, hb, if_pos (h.trans hk)]
   ·have hb : (g == k) = false := beq_eq_false_iff_ne.mpr h
    simp only [List.lookup, hb, if_neg (fun e : g = f => h (e.trans hk.symm))]
  ·rw [if_neg hk]
   by_cases h : g = k
   ·have hb : (g == k) = true := beq_iff_eq.mpr h
    simp only [List.lookup, hb, if_neg (fun e : g = f => hk (h.symm.trans e))]
   ·have hb : (g == k) = false := beq_eq_false_iff_ne.mpr h
    simp only [List.lookup, hb]
    exact ih
theorem keys_putF (f : Str) (v : V) : ∀ fs : List (Str × V), f ∈ (putF f v fs).map (·.1) /\ ∀ g, g ∈ fs.map (·.1) -> g ∈ (putF f v fs).map (·.1)
 | [] => ⟨by simp [putF], fun g h => by simp at h⟩
 | (k, x) :: r => by
  obtain ⟨i1, i2⟩ := keys_putF f v r
  rw [show putF f v ((k, x) :: r) = (if k = f then (k, v) :: r else (k, x) :: putF f v r) from rfl]
  by_cases hk : k = f
  ·rw [if_pos hk]
   subst hk
   exact ⟨by simp, fun g h => by simpa using h⟩
  ·rw [if_neg hk]
   refine ⟨?_, fun g h => ?_⟩
   ·rw [List.map_cons]
    exact List.mem_cons_of_mem _ i1
   ·rw [List.map_cons] at h ⊢
    rcases List.mem_cons.mp h with e | e
    ·exact List.mem_cons.mpr (.inl e)
    ·exact List.mem_cons_of_mem _ (i2 g e)
theorem length_putF (f : Str) (v : V) : ∀ fs : List (Str × V), (putF f v fs).length <= fs.length + 1
 | [] => by simp [putF]
 | (k, x) :: r => by
  have ih := length_putF f v r
  rw [show putF f v ((k, x) :: r) = (if k = f then (k, v) :: r else (k, x) :: putF f v r) from rfl]
  by_cases hk : k = f
  ·rw [if_pos hk, List.length_cons, List.length_cons]; omega
  ·rw [if_neg hk, List.length_cons, List.length_cons]; omega
theorem RelO.some_of {v : V} {o : Option Value} (r : RelO (some v) o) : ∃ u, o = some u /\ RelV v u := by
 cases o with
 | none => exact (show False from r).elim
 | some u => exact ⟨u, rfl, r⟩
theorem RelO.none_of {o : Option Value} (r : RelO none o) : o = none := by
 cases o with
 | none => rfl
 | some u => exact (show False from r).elim
theorem handed_of {v : V} {u : Value} (r : RelV v u) : PySem.W.handedIn u = true := by
 cases v with
 | non => cases (show u = Value.none from r); rfl
 | bl b => cases (show u = Value.bool b from r); rfl
 | int i => obtain ⟨t, e⟩ := (show ∃ t, u = Value.int i t from r); cases e; rfl
 | str x => obtain ⟨t, e⟩ := (show ∃ t, u = Value.str x t from r); cases e; rfl
 | byt b => obtain ⟨t, e⟩ := (show ∃ t, u = Value.bytes b t from r); cases e; rfl
 | flt b => obtain ⟨t, e⟩ := (show ∃ t, u = Value.float b t from r); cases e; rfl
 | ref a => cases (show u = Value.ref a from r); rfl
 | ty n => cases (show u = Value.type n from r); rfl
section
variable {P : Program} {w : World} {H H' : Hp} {h h' : Heap} {a C dx : Addr} {fs fs' : List (Str × V)}
theorem ins_get (hok : HOk P w H h) (e : H a = some (.ins C dx fs)) : ∃ mA, ObjM h a dx C mA /\ (∀ f, RelO (fs.lookup f) (mA f)) /\ PySem.Within mA (fs.map (·.1)) /\ fs.length <= 1000 /\ H dx = some (.own a) := by
 obtain ⟨d, z, ne, ob, mA, n, r, q⟩ := (show ObjOk P w H h a (.ins C dx fs) from hok a _ e)
 exact ⟨mA, ⟨ob, n, ne⟩, r, q, z, d⟩
end
structure Cls (K : PySem.W.Frag) (C : Addr) : Prop where
 pg : PySem.W.plainGet K C Str.empty = true
 hd : PySem.W.hasDictIn K C = true
 po : PySem.W.plainOver K C = true
 sa : PySem.W.findIn K (.ref C) "__setattr__" = some (some (.builtin "object.__setattr__"))
theorem Cls.get {K : PySem.W.Frag} {C : Addr} (c : Cls K C) (f : Str) : PySem.W.plainGet K C f = true := c.pg
def NoAttr (K : PySem.W.Frag) (C : Addr) (f : Str) : Prop := PySem.W.findIn K (.ref C) f = some none
theorem NoAttr.taker {K : PySem.W.Frag} {C : Addr} {f : Str} (n : NoAttr K C f) : PySem.W.takerIn K C f = some none := by
 unfold PySem.W.takerIn
 rw [show PySem.W.findIn K (.ref C) f = some none from n]
 rfl
structure Meth (K : PySem.W.Frag) (C : Addr) (m : Str) (f : Addr) : Prop where
 at_ : PySem.W.findIn K (.ref C) m = some (some (.ref f))
 fn : PySem.W.isFn K (.ref f) = true
 kp : PySem.W.keepIn K (.ref f) = true
section
variable {X : Cx} {pins : List (Addr × Obj)} {σ : St} {H : Hp} {s : Shared} {a C dx : Addr} {fs : List (Str × V)} {f : Str} {v : V} {A : Around} {E : Value -> Shared -> Prop}
theorem getattr_ok {b : Bool} {Q : Value -> Shared -> Prop} (I : Inv X pins σ H s) (e : H a = some (.ins C dx fs)) (c : Cls X.K C) (n : NoAttr X.K C f) (l : fs.lookup f = some v)
  (h : ∀ u s', Inv X pins σ H s' -> RelV v u -> Q u s') : wpAny (model X.prog X.w) A (getAttr (.ref a) f b) Q E s := by
 obtain ⟨mA, O, r, _, _, _⟩ := ins_get I.hok e
 obtain ⟨u, hu, ru⟩ := RelO.some_of (v := v) (o := mA f) (by rw [← l]; exact r f)
 exact get_map I.kIn O (c.get f) c.hd n hu (handed_of ru) (h u _ (I.tok _) ru)
theorem getmeth_ok {m : Str} {g : Addr} {pl : Sem Bool} {Q : Value × List Value -> Shared -> Prop} (I : Inv X pins σ H s) (e : H a = some (.ins C dx fs)) (c : Cls X.K C) (k : Meth X.K C m g) (l : fs.lookup m = none)
  (h : Q (.ref g, [.ref a]) s) : wpAny (model X.prog X.w) A (getMethod (.ref a) m pl) Q E s := by
 obtain ⟨mA, O, r, _, _, _⟩ := ins_get I.hok e
 have hn : mA m = none := RelO.none_of (by rw [← l]; exact r m)
 exact get_meth I.kIn O (c.get m) k.at_ k.fn hn h
theorem setattr_ok {y : V} {u : Value} {Q : Unit -> Shared -> Prop} (I : Inv X pins σ H s) (e : H a = some (.ins C dx fs)) (c : Cls X.K C) (n : NoAttr X.K C f) (hl : fs.length < 1000) (ry : RelV y u)
  (h : ∀ s', Inv X pins σ (upd H a (.ins C dx (putF f y fs))) s' -> Q () s') : wpAny (model X.prog X.w) A (setAttr (.ref a) f u) Q E s := by
 obtain ⟨mA, O, r, wi, _, ho⟩ := ins_get I.hok e
 have hz : (fs.map (·.1)).length <= sizeLine := by rw [List.length_map, sizeLine_eq]; omega
 refine set_map I.kIn O c.sa c.po n.taker c.hd wi hz fun h' O' sb => h _ ?_
 have hd : ∃ o, h'.get? dx = some o := let ⟨o, _, _, e', _⟩ := O'.ns; ⟨o, e'⟩
 refine I.write (x := a) (e := dx) (by rw [e]; exact True.intro) (.inr ho) (fun b q hb z => (sb.2 b hb).trans z) hd ?_
 refine ⟨by rw [upd_ne O.ne]; exact ho, ?_, O.ne, O'.obj, _, O'.ns, fun g => ?_, fun g hg => ?_⟩
 ·have := length_putF f y fs; omega
 ·show RelO ((putF f y fs).lookup g) (if g = f then some u else mA g)
  rw [lookup_putF]
  by_cases q : g = f
  ·rw [if_pos q, if_pos q]; exact ry
  ·rw [if_neg q, if_neg q]; exact r g
 ·by_cases q : g = f
  ·rw [q]; exact (keys_putF f y fs).1
  ·refine (keys_putF f y fs).2 g (wi g fun z => hg ?_)
   show (if g = f then some u else mA g) = none
   rw [if_neg q]; exact z
theorem Inv.made (I : Inv X pins σ H s) : Inv X pins σ (upd (upd H s.heap.objs.size (.own (s.heap.objs.size + 1))) (s.heap.objs.size + 1) (.ins C s.heap.objs.size []))
  { s with heap := (s.heap.push PySem.W.emptyDict).push (PySem.W.instObj C s.heap.objs.size) } := by
 have e1 : (s.heap.push PySem.W.emptyDict).get? s.heap.objs.size = some PySem.W.emptyDict := Heap.get?_push_size s.heap rfl
 have e2 : ((s.heap.push PySem.W.emptyDict).push (PySem.W.instObj C s.heap.objs.size)).get? (s.heap.objs.size + 1) = some (PySem.W.instObj C s.heap.objs.size) := by
  have := Heap.get?_push_size (s.heap.push PySem.W.emptyDict) (o := PySem.W.instObj C s.heap.objs.size) rfl
  rwa [Heap.size_push] at this
 have e3 : (s.heap.push PySem.W.emptyDict).Ns s.heap.objs.size (fun _ => none) := ⟨PySem.W.emptyDict, #[], _, e1, rfl, (fun e he => absurd he (by simp)), fun _ => rfl⟩
 have I1 := I.laid (a := s.heap.objs.size) (o := .own (s.heap.objs.size + 1)) (h' := s.heap.push PySem.W.emptyDict) (t' := s.toks) (fun b u q => Heap.get?_push_of_some _ q) (Nat.le_refl _) ⟨_, e1⟩
 refine I1.laid (a := s.heap.objs.size + 1) (o := .ins C s.heap.objs.size []) (t' := s.toks) (fun b u q => Heap.get?_push_of_some _ q) (Nat.le_of_eq (Heap.size_push _ _)) ?_
 have ne : s.heap.objs.size ≠ s.heap.objs.size + 1 := Nat.ne_of_lt (Nat.lt_succ_self _)
 refine ⟨by rw [upd_ne ne, upd_same], Nat.zero_le _, ne, e2, fun _ => none, (Heap.Ns1.of_empty e3).at fun o q => Heap.get?_push_of_some _ q, fun _ => True.intro, fun y hy => absurd rfl hy⟩
theorem attr_of {prog : Program} {w : World} {env : Env} {e : Expr} {f : Str} {pos : Pos} {s : Shared} {Q : Value -> Shared -> Prop} (hb : attributeBase e f env (eval e env) = eval e env)
  (h : wpAny (model prog w) A (eval e env) (fun o s₁ => wpAny (model prog w) A (getAttr o f true) Q E s₁) E s) : wpAny (model prog w) A (eval (.Attribute e f pos) env) Q E s :=
 Attribute_any_ h (by rw [arm_eval_Attribute, hb])
end
def tFld (K : PySem.W.Frag) (ta : TE) (f : Str) : TE := fun σ H Q => ta σ H fun x H1 => ∃ a C dx fs v, x = .ref a /\ H1 a = some (.ins C dx fs) /\ Cls K C /\ NoAttr K C f /\ fs.lookup f = some v /\ Q v H1
def sFld (K : PySem.W.Frag) (ta tv : TE) (f : Str) : TS := fun D σ H => tv σ H fun y H1 => ta σ H1 fun x H2 => ∃ a C dx fs, x = .ref a /\ H2 a = some (.ins C dx fs) /\ Cls K C /\ NoAttr K C f /\ fs.length < 1000 /\
 D.nx σ (upd H2 a (.ins C dx (putF f y fs)))
section
variable {X : Cx} {o e value : Expr} {f : Str} {pos pos' tpos : Pos} {ta tv : TE}
theorem pe_fld (he : PE X e ta) (hb : attributeBase e f X.env (eval e X.env) = eval e X.env) : PE X (.Attribute e f pos) (tFld X.K ta f) := by
 intro pins s σ H Q I h
 refine attr_of hb (thn (he pins s σ H _ I h) fun u s1 ⟨x, H1, I1, rx, a, C, dx, fs, v, ex, ea, c, n, l, q⟩ => ?_)
 subst ex
 obtain rfl : u = Value.ref a := rx
 exact getattr_ok I1 ea c n l fun u' s2 I2 ru => ⟨v, H1, I2, ru, q⟩
theorem ps_fld (ha : PE X o ta) (hv : PE X value tv) (hs : swapsWith value (some (.Attribute o f pos')) pos.line X.env = pure false) : PS X (.Assign [.Attribute o f pos'] value pos) (sFld X.K ta tv f) := by
 intro pins s σ H D I h
 refine plainObj_wpAny_Assign_Attribute (thn (hv pins s σ H _ I h) fun u s1 ⟨y, H1, I1, ry, q⟩ => thn (ha pins s1 σ H1 _ I1 q) fun ov s2 ⟨x, H2, I2, rx, a, C, dx, fs, ex, ea, c, n, l, q2⟩ => ?_) hs
 subst ex
 obtain rfl : ov = Value.ref a := rx
 exact setattr_ok I2 ea c n l ry fun s3 I3 => ⟨σ, _, I3, q2⟩
end
section
variable {X : Cx} {pins : List (Addr × Obj)} {σ : St} {H : Hp} {s : Shared} {A : Around} {E : Value -> Shared -> Prop} {Q : Value -> Shared -> Prop} {c : Value} {b : Bool}
end
end L2
namespace L2
open PySem PySem.Spec PyProof.Rows
structure Room (k : Nat) (A : Around) : Prop where
 hd : A.handled = none
 dp : A.depth + 3 * k + 5 < recursionLimit
 un : A.units + 16 * k + 200 < cLine
theorem Room.mono {j k : Nat} {A : Around} (r : Room k A) (h : j <= k) : Room j A := ⟨r.hd, by have := r.dp; omega, by have := r.un; omega⟩
theorem Room.deeper {k : Nat} {A : Around} (r : Room (k + 1) A) (env : Env) : Room k (A.deeper env) :=
 ⟨r.hd, by have := r.dp; show A.depth + 1 + 3 * k + 5 < _; omega, by have := r.un; show A.units + 3 + 16 * k + 200 < _; omega⟩
theorem make_depth {A : Around} {C : Addr} {us : List Value} {kw : List (Str × Value)} : (A.under (.builtin "type.__call__" ⟨.ref C :: us, kw⟩)).depth = A.depth + 1 := by
 first | rfl | simp [Around.under, Code.weight, Code.isCreation, Code.isGuard, Code.isCaller, Code.frames, Code.isFrame, guardIds]
theorem make_units {A : Around} {C : Addr} {us : List Value} {kw : List (Str × Value)} : (A.under (.builtin "type.__call__" ⟨.ref C :: us, kw⟩)).units = A.units + 1 := by
 first | rfl | simp [Around.under, Code.cUnits, Code.frames, Code.isFrame]
theorem Room.make {k : Nat} {A : Around} (r : Room (k + 1) A) (C : Addr) (us : List Value) (kw : List (Str × Value)) : Room k (A.under (.builtin "type.__call__" ⟨.ref C :: us, kw⟩)) :=
 ⟨r.hd, by have := r.dp; rw [make_depth]; omega, by have := r.un; rw [make_units]; omega⟩
theorem Room.depth {k : Nat} {A : Around} (r : Room k A) : A.depth < recursionLimit := by have := r.dp; omega
theorem Room.units {k : Nat} {A : Around} (r : Room k A) : A.units + 64 < cLine := by have := r.un; omega
def tNil : TA := fun _ H Q => Q [] H
def tCons (ta : TE) (tr : TA) : TA := fun σ H Q => ta σ H fun x H1 => tr σ H1 fun xs H2 => Q (x :: xs) H2
section
variable {X : Cx} {e : Expr} {es : List Expr} {te : TE} {t : TA} {pos : Pos}
theorem pa_nil : PA X [] tNil := fun _ _ _ _ H Q I h => Calls.spliced_nil ⟨[], H, I, .nil, h⟩
theorem pa_cons (ha : PE X e te) (hr : PA X es t) (hs : starEach (e :: es) X.env = (false, eval e X.env) :: starEach es X.env := by rfl) : PA X (e :: es) (tCons te t) := by
 intro pos pins s σ H Q I h
 rw [hs]
 show wpAny _ _ (spliced ((false, eval e X.env) :: backTo pos (starEach es X.env))) _ _ s
 refine Calls.spliced_cons (thn (ha pins s σ H _ I h) fun u s1 ⟨x, H1, I1, r1, q1⟩ => ?_)
 exact thn (hr pos pins s1 σ H1 _ I1 q1) fun us s2 ⟨xs, H2, I2, r2, q2⟩ => ⟨x :: xs, H2, I2, .cons r1 r2, q2⟩
def tTup (t : TA) : TE := fun σ H Q => t σ H fun xs H1 => xs.length <= sizeLine /\ ∀ p, H1 p = none -> Q (.ref p) (upd H1 p (.tup xs))
def tLst (t : TA) : TE := fun σ H Q => t σ H fun xs H1 => xs.length <= sizeLine /\ ∀ p, H1 p = none -> Q (.ref p) (upd H1 p (.lst xs))
theorem pe_tup {x1} (h : PA X es t) : PE X (.Tuple es x1 pos) (tTup t) := by
 intro pins s σ H Q I hq
 refine wpAny_Tuple_spliced (thn (h pos pins s σ H _ I hq) fun us s1 ⟨xs, H1, I1, r, z, q⟩ => ⟨by rw [← r.length]; exact z, ?_⟩)
 have hf : H1 s1.heap.objs.size = none := I1.hok.fresh (Nat.le_refl _)
 refine ⟨.ref s1.heap.objs.size, upd H1 s1.heap.objs.size (.tup xs), I1.laid (t' := s1.toks) (fun b u e => Heap.get?_push_of_some _ e) (Nat.le_refl _) ?_, rfl, q _ hf⟩
 exact ⟨z, us, r, IsTupD.new _ _⟩
theorem pe_lst (h : PA X es t) : PE X (.List es pos) (tLst t) := by
 intro pins s σ H Q I hq
 refine wpAny_List_spliced (thn (h pos pins s σ H _ I hq) fun us s1 ⟨xs, H1, I1, r, z, q⟩ => ⟨by rw [← r.length]; exact z, ?_⟩)
 have hf : H1 s1.heap.objs.size = none := I1.hok.fresh (Nat.le_refl _)
 refine ⟨.ref s1.heap.objs.size, upd H1 s1.heap.objs.size (.lst xs), I1.laid (t' := s1.toks) (fun b u e => Heap.get?_push_of_some _ e) (Nat.le_refl _) ?_, rfl, q _ hf⟩
 exact ⟨z, us, 0, r, Heap.get?_push_size _ rfl⟩
end
noncomputable abbrev Sp := List V -> Hp -> VK -> XK -> Prop
noncomputable abbrev CXT := List Env -> Hp -> Shared -> XK -> Value -> Shared -> Prop
structure Env0 (P : Program) (w : World) (K : PySem.W.Frag) (mg : Str -> Option Value) (base : Heap) (A : Around) (outer : List Env) (s : Shared) (H : Hp) : Prop where
 frames : A.frames = some outer
 mod : Mod K mg base
 bs : ∀ b o, base.get? b = some o -> s.heap.get? b = some o /\ H b = none
 bsz : base.objs.size <= s.heap.objs.size
 funs : s.heap.FunFrames base outer
 frf : ∀ b ∈ frs outer, H b = none
 hok : HOk P w H s.heap
 bare : AllBare s.gens
def CE (outer : List Env) (P : Program) (w : World) (H : Hp) (s : Shared) (Q : VK) (u : Value) (s' : Shared) : Prop :=
 ∃ v H', s'.os = s.os /\ AllBare s'.gens /\ Un (frs outer) [] H H' s.heap s'.heap /\ HOk P w H' s'.heap /\ RelV v u /\ Q v H'
def CR (CX : CXT) (outer : List Env) (P : Program) (w : World) (H : Hp) (s : Shared) (Q : VK) (E : XK) (r : Result) (s' : Shared) : Prop :=
 match r with
 | .ok (.ret u) => CE outer P w H s Q u s'
 | .ok _ => False
 | .error e => CX outer H s E e s'
structure FnOk (P : Program) (w : World) (K : PySem.W.Frag) (mg : Str -> Option Value) (base : Heap) (CX : CXT) (k : Nat) (f : Addr) (fd : FuncData) (ps : List Str) (sp : Sp) : Prop where
 len : ∀ vs H Q E, sp vs H Q E -> vs.length = ps.length
 run : ∀ (A : Around) (outer : List Env) (s : Shared) (H : Hp) (args : Args) (us : List Value) (vs : List V) (Q : VK) (E : XK), Room k A -> Env0 P w K mg base A outer s H -> BindsTo s fd args (ps.zip us) -> Vals vs us -> sp vs H Q E ->
  codeAny (model P w) A (.call (.ref f) args) (CR CX outer P w H s Q E) s
theorem FnOk.imp {P : Program} {w : World} {K : PySem.W.Frag} {mg : Str -> Option Value} {base : Heap} {CX : CXT} {k : Nat} {f : Addr} {fd : FuncData} {ps : List Str} {sp sp' : Sp} (F : FnOk P w K mg base CX k f fd ps sp)
  (h : ∀ vs H Q E, sp' vs H Q E -> sp vs H Q E) : FnOk P w K mg base CX k f fd ps sp' :=
 ⟨fun vs H Q E q => F.len vs H Q E (h _ _ _ _ q), fun A outer s H args us vs Q E hr he hb hv hs => F.run A outer s H args us vs Q E hr he hb hv (h _ _ _ _ hs)⟩
theorem Env0.make {P : Program} {w : World} {K : PySem.W.Frag} {mg : Str -> Option Value} {base : Heap} {A : Around} {outer : List Env} {s : Shared} {H : Hp} (e : Env0 P w K mg base A outer s H) (C : Addr) (us : List Value) (kw : List (Str × Value)) :
  Env0 P w K mg base (A.under (.builtin "type.__call__" ⟨.ref C :: us, kw⟩)) outer s H := ⟨by first | exact e.frames | (simpa [Around.under, Code.envs, Code.isFrame, pushEnvs] using e.frames), e.mod, e.bs, e.bsz, e.funs, e.frf, e.hok, e.bare⟩
section
variable {X : Cx} {pins : List (Addr × Obj)} {σ : St} {H : Hp} {s s' : Shared}
theorem Inv.env0 (I : Inv X pins σ H s) : Env0 X.prog X.w X.K X.mg X.base X.A X.stack s H :=
 ⟨I.ok.frames, I.ok.mod, I.bs, Nat.le_trans I.ok.bsz I.sz, I.stack, I.stkFree, I.hok, I.bare⟩
theorem Inv.after {Q : VK} {u : Value} (I : Inv X pins σ H s) (h : CE X.stack X.prog X.w H s Q u s') : EP X pins σ Q u s' := by
 obtain ⟨v, H', os, bare, un, hok, r, q⟩ := h
 obtain ⟨hh, g, d, t, os'⟩ := s'
 obtain rfl : os' = s.os := os
 exact ⟨v, H', I.call (h' := hh) (g' := g) (d' := d) (t' := t) (ch := []) un hok bare (fun b z => absurd z (by simp)), r, q⟩
end
def tCall (sp : Sp) (dvs : List V) (E : XK) (t : TA) : TE := fun σ H Q => t σ H fun vs H1 => sp (vs ++ dvs) H1 Q E
def tMeth (C : Addr) (m : Str) (sp : Sp) (dvs : List V) (E : XK) (ta : TE) (t : TA) : TE := fun σ H Q => ta σ H fun x H1 => ∃ a dx fs, x = .ref a /\ H1 a = some (.ins C dx fs) /\ fs.lookup m = none /\
 t σ H1 fun vs H2 => sp (x :: (vs ++ dvs)) H2 Q E
def tMake (C : Addr) (sp : Sp) (dvs : List V) (E : XK) (t : TA) : TE := fun σ H Q => t σ H fun vs H1 => ∀ x dx, H1 x = none -> H1 dx = none -> dx ≠ x ->
 sp (.ref x :: (vs ++ dvs)) (upd (upd H1 dx (.own x)) x (.ins C dx [])) (fun v H2 => v = .non /\ Q (.ref x) H2) E
def Binds (K : PySem.W.Frag) (fd : FuncData) (ps : List Str) (ds : List Value) : Prop :=
 ∀ (s : Shared) (us : List Value), K.In s.heap -> (us ++ ds).length = ps.length -> BindsTo s fd ⟨us, []⟩ (ps.zip (us ++ ds))
theorem Binds.all {K : PySem.W.Frag} {fd : FuncData} {ps : List Str} (h : ∀ us : List Value, us.length = ps.length -> bindArgs fd ⟨us, []⟩ = pure (ps.zip us)) : Binds K fd ps [] := fun s us _ hl => by
 rw [List.append_nil] at hl ⊢
 exact .of_eq (h us hl)
def Passes (CX : CXT) (X : Cx) (E : XK) : Prop := ∀ (pins : List (Addr × Obj)) (σ : St) (H : Hp) (s : Shared) (e : Value) (s' : Shared), Inv X pins σ H s -> CX X.stack H s E e s' -> X.xe e s'
section
variable {X : Cx} {CX : CXT} {k : Nat} {f C : Addr} {fd : FuncData} {ps : List Str} {sp : Sp} {dvs : List V} {ds : List Value} {E : XK} {x m : Str} {p pos apos : Pos} {e o : Expr} {es : List Expr} {ta : TE} {t : TA}
theorem run_fn {pins : List (Addr × Obj)} {σ : St} {H : Hp} {s : Shared} {Q : VK} {us : List Value} {vs : List V} (F : FnOk X.prog X.w X.K X.mg X.base CX k f fd ps sp) (hr : Room k X.A) (hb : Binds X.K fd ps ds) (hd : Vals dvs ds) (hx : Passes CX X E)
  (I : Inv X pins σ H s) (r : Vals vs us) (h : sp (vs ++ dvs) H Q E) : wpAny (model X.prog X.w) X.A (call (.ref f) us) (EP X pins σ Q) X.xe s := by
 have r2 : Vals (vs ++ dvs) (us ++ ds) := r.append hd
 have hl : (us ++ ds).length = ps.length := by rw [← r2.length]; exact F.len _ _ _ _ h
 refine wpAny_call (codeAny_mono (F.run X.A X.stack s H ⟨us, []⟩ (us ++ ds) (vs ++ dvs) Q E hr I.env0 (hb s us I.kIn hl) r2 h) fun r s' hq => ?_)
 cases r with
 | error e => exact hx pins σ H s e s' I hq
 | ok fl =>
  cases fl with
  | ret u => exact I.after hq
  | next => exact False.elim hq
  | brk => exact False.elim hq
  | cont => exact False.elim hq
theorem pe_call (F : FnOk X.prog X.w X.K X.mg X.base CX k f fd ps sp) (hr : Room k X.A) (hg : Gl X x) (hm : X.mg x = some (.ref f)) (hk : PySem.W.keepIn X.K (.ref f) = true) (hb : Binds X.K fd ps ds) (hd : Vals dvs ds) (hx : Passes CX X E)
  (ha : PA X (e :: es) t) (hdb : (x == ("__debug__" : Str)) = false := by decide) (he : starEach (e :: es) X.env = (false, eval e X.env) :: starEach es X.env := by rfl) (hpl : (backTo pos (starEach es X.env)).any (·.1) = false := by rfl) :
  PE X (.Call (.Name x p) (e :: es) [] pos) (tCall sp dvs E t) := by
 intro pins s σ H Q I h
 refine wpAny_Call_Name_kw (ld_glob I hg hm ?_ hdb)
 refine PySem.W.callWith_K (h₀ := X.base) I.ok.mod.kin hk (thn (ha pos pins s σ H _ I h) fun us s1 ⟨vs, H1, I1, r, q⟩ => ⟨I1.kIn, ?_⟩) he hpl
 exact run_fn F hr hb hd hx I1 r q
theorem pe_meth {pl : Sem Bool} (he : PE X o ta) (c : Cls X.K C) (hm : Meth X.K C m f) (F : FnOk X.prog X.w X.K X.mg X.base CX k f fd ps sp) (hr : Room k X.A) (hb : Binds X.K fd ps ds) (hd : Vals dvs ds) (hx : Passes CX X E) (ha : PA X (e :: es) t)
  (hst : starEach (e :: es) X.env = (false, eval e X.env) :: starEach es X.env := by rfl) (hpl : (backTo pos (starEach es X.env)).any (·.1) = false := by rfl)
  (ht : eval (.Call (.Attribute o m apos) (e :: es) [] pos) X.env = (do
   let ov ← eval o X.env
   standAt apos.atName
   let (f, first) ← holding [ov] (getMethod ov m pl)
   callWith pos f first (backTo pos (starEach (e :: es) X.env)) (backToKw pos (keywordEach [] X.env))) := by rfl) :
  PE X (.Call (.Attribute o m apos) (e :: es) [] pos) (tMeth C m sp dvs E ta t) := by
 intro pins s σ H Q I h
 refine PySem.W.methodCall_KW (pl := pl) (thn (he pins s σ H _ I h) fun u s1 ⟨x, H1, I1, rx, a, dx, fs, ex, ea, l, q⟩ => ?_) ht
 subst ex
 obtain rfl : u = Value.ref a := rx
 refine getmeth_ok I1 ea c hm l ?_
 refine PySem.W.callWith_K (first := [.ref a]) (h₀ := X.base) I.ok.mod.kin hm.kp (thn (ha pos pins s1 σ H1 _ I1 q) fun us s2 ⟨vs, H2, I2, r, q2⟩ => ⟨I2.kIn, ?_⟩) hst hpl
 exact run_fn (us := .ref a :: us) (vs := .ref a :: vs) F hr hb hd hx I2 (.cons rfl r) q2
theorem pe_meth0 {pl : Sem Bool} (he : PE X o ta) (c : Cls X.K C) (hm : Meth X.K C m f) (F : FnOk X.prog X.w X.K X.mg X.base CX k f fd ps sp) (hr : Room k X.A) (hb : Binds X.K fd ps ds) (hd : Vals dvs ds) (hx : Passes CX X E)
  (ht : eval (.Call (.Attribute o m apos) [] [] pos) X.env = (do
   let ov ← eval o X.env
   standAt apos.atName
   let (f, first) ← holding [ov] (getMethod ov m pl)
   callWith pos f first (backTo pos (starEach [] X.env)) (backToKw pos (keywordEach [] X.env))) := by rfl) :
  PE X (.Call (.Attribute o m apos) [] [] pos) (tMeth C m sp dvs E ta tNil) := by
 intro pins s σ H Q I h
 refine PySem.W.methodCall_KW (pl := pl) (thn (he pins s σ H _ I h) fun u s1 ⟨x, H1, I1, rx, a, dx, fs, ex, ea, l, q⟩ => ?_) ht
 subst ex
 obtain rfl : u = Value.ref a := rx
 refine getmeth_ok I1 ea c hm l ?_
 exact PySem.W.callWith_K0 (first := [.ref a]) I1.kIn hm.kp (run_fn (us := [.ref a]) (vs := [.ref a]) F hr hb hd hx I1 (.cons rfl .nil) q)
structure Mk (K : PySem.W.Frag) (C f : Addr) : Prop where
 makes : PySem.W.makesIn K C = true
 init : PySem.W.findIn K (.ref C) "__init__" = some (some (.ref f))
 fn : PySem.W.isFn K (.ref f) = true
 kp : PySem.W.keepIn K (.ref C) = true
theorem run_make {pins : List (Addr × Obj)} {σ : St} {H : Hp} {s : Shared} {Q : VK} {us : List Value} {vs : List V} (M : Mk X.K C f) (F : FnOk X.prog X.w X.K X.mg X.base CX k f fd ps sp) (hr : Room (k + 1) X.A) (hb : Binds X.K fd ps ds) (hd : Vals dvs ds)
  (hx : Passes CX X E) (I : Inv X pins σ H s) (r : Vals vs us)
  (h : ∀ x dx, H x = none -> H dx = none -> dx ≠ x -> sp (.ref x :: (vs ++ dvs)) (upd (upd H dx (.own x)) x (.ins C dx [])) (fun v H2 => v = .non /\ Q (.ref x) H2) E) :
  wpAny (model X.prog X.w) X.A (call (.ref C) us) (EP X pins σ Q) X.xe s := by
 have hq := h (s.heap.objs.size + 1) s.heap.objs.size (I.hok.fresh (Nat.le_succ _)) (I.hok.fresh (Nat.le_refl _)) (Nat.ne_of_lt (Nat.lt_succ_self _))
 have I2 := Inv.made (C := C) I
 have r2 : Vals (V.ref (s.heap.objs.size + 1) :: (vs ++ dvs)) (Value.ref (s.heap.objs.size + 1) :: (us ++ ds)) := .cons rfl (r.append hd)
 have hl : (Value.ref (s.heap.objs.size + 1) :: us ++ ds).length = ps.length := by
  have e := r2.length
  rw [F.len _ _ _ _ hq] at e
  exact e.symm
 refine wpAny_call (make_map (f := f) I.kIn M.makes M.init (beq_iff_eq.mp M.fn) (codeAny_mono (F.run _ X.stack _ _ ⟨Value.ref (s.heap.objs.size + 1) :: us, []⟩ (Value.ref (s.heap.objs.size + 1) :: (us ++ ds)) _ _ E (hr.make C us [])
  (I2.env0.make C us []) (hb _ (Value.ref (s.heap.objs.size + 1) :: us) I2.kIn hl) r2 hq) fun r s' hq' => ?_))
 cases r with
 | error e => exact hx pins σ _ _ e s' I2 hq'
 | ok fl =>
  cases fl with
  | ret u =>
   obtain ⟨v, H', I3, rv, ev, q3⟩ := I2.after hq'
   subst ev
   exact ⟨rv, ⟨V.ref (s.heap.objs.size + 1), H', I3, rfl, q3⟩⟩
  | next => exact False.elim hq'
  | brk => exact False.elim hq'
  | cont => exact False.elim hq'
theorem pe_make0 (M : Mk X.K C f) (F : FnOk X.prog X.w X.K X.mg X.base CX k f fd ps sp) (hr : Room (k + 1) X.A) (hg : Gl X x) (hm : X.mg x = some (.ref C)) (hb : Binds X.K fd ps ds) (hd : Vals dvs ds) (hx : Passes CX X E)
  (hdb : (x == ("__debug__" : Str)) = false := by decide) : PE X (.Call (.Name x p) [] [] pos) (tMake C sp dvs E tNil) := by
 intro pins s σ H Q I h
 refine wpAny_Call_Name_kw (ld_glob I hg hm ?_ hdb)
 exact PySem.W.callWith_K0 I.kIn M.kp (run_make (us := []) M F hr hb hd hx I .nil h)
end
section
variable {X : Cx} {CX : CXT} {k : Nat} {f C : Addr} {fd : FuncData} {ps ks : List Str} {sp : Sp} {E : XK} {x m : Str} {p pos apos kpos : Pos} {e o : Expr} {es : List Expr} {kws : List Keyword} {te ta : TE} {t tk : TA} {nm : Option Str}
variable {g : List Value -> List Value -> List Value} {gV : List V -> List V -> List V}
end
structure FnScope (N P : List Str) (sc : Scope) : Prop where
 kind : sc.kind = .function
 co : sc.isCoroutine = false
 gen : sc.isGenerator = false
 nd : N.Nodup
 pre : N.take P.length = P
 par : ∀ x ∈ P, sc.names.lookup x = some .local \/ sc.names.lookup x = some .cell
 nofree : ∀ y ∈ sc.names, y.2 ≠ .free
theorem bindL_out {kindOf : Str -> Option NameKind} {x : Str} : ∀ {binds : List (Str × Value)} {m : Str -> Option Value}, (∀ v, (x, v) ∉ binds) -> bindL kindOf binds m x = m x
 | [], _, _ => rfl
 | (n, v) :: r, m, h => by
  unfold bindL
  rw [bindL_out fun w hw => h w (List.mem_cons_of_mem _ hw)]
  split
  ·have : x ≠ n := by rintro rfl; exact h v List.mem_cons_self
   simp [this]
  ·rfl
theorem bindC_out {kindOf : Str -> Option NameKind} {x : Str} : ∀ {binds : List (Str × Value)} {m : Str -> Option Value}, (∀ v, (x, v) ∉ binds) -> bindC kindOf binds m x = m x
 | [], _, _ => rfl
 | (n, v) :: r, m, h => by
  unfold bindC
  rw [bindC_out fun w hw => h w (List.mem_cons_of_mem _ hw)]
  split
  ·rfl
  ·have : x ≠ n := by rintro rfl; exact h v List.mem_cons_self
   simp [this]
theorem bindL_get {kindOf : Str -> Option NameKind} {x : Str} {v : Value} : ∀ {P : List Str} {vs : List Value} {i : Nat} {m : Str -> Option Value}, P.Nodup -> P[i]? = some x -> vs[i]? = some v -> kindOf x = some .local ->
  bindL kindOf (P.zip vs) m x = some v
 | [], _, _, _, _, h, _, _ => by simp at h
 | _ :: _, [], _, _, _, _, h, _ => by simp at h
 | p :: P, w :: vs, 0, m, nd, h1, h2, hk => by
  simp at h1 h2; subst h1; subst h2
  show bindL kindOf ((p, w) :: P.zip vs) m p = _
  unfold bindL
  rw [bindL_out fun v hv => (List.nodup_cons.mp nd).1 (List.of_mem_zip hv).1, if_pos hk]
  simp
 | p :: P, w :: vs, i + 1, m, nd, h1, h2, hk => by
  show bindL kindOf ((p, w) :: P.zip vs) m x = _
  unfold bindL
  exact bindL_get (i := i) (List.nodup_cons.mp nd).2 (by simpa using h1) (by simpa using h2) hk
theorem bindC_get {kindOf : Str -> Option NameKind} {x : Str} {v : Value} : ∀ {P : List Str} {vs : List Value} {i : Nat} {m : Str -> Option Value}, P.Nodup -> P[i]? = some x -> vs[i]? = some v -> kindOf x ≠ some .local ->
  bindC kindOf (P.zip vs) m x = some v
 | [], _, _, _, _, h, _, _ => by simp at h
 | _ :: _, [], _, _, _, _, h, _ => by simp at h
 | p :: P, w :: vs, 0, m, nd, h1, h2, hk => by
  simp at h1 h2; subst h1; subst h2
  show bindC kindOf ((p, w) :: P.zip vs) m p = _
  unfold bindC
  rw [bindC_out fun v hv => (List.nodup_cons.mp nd).1 (List.of_mem_zip hv).1, if_neg hk]
  simp
 | p :: P, w :: vs, i + 1, m, nd, h1, h2, hk => by
  show bindC kindOf ((p, w) :: P.zip vs) m x = _
  unfold bindC
  exact bindC_get (i := i) (List.nodup_cons.mp nd).2 (by simpa using h1) (by simpa using h2) hk
noncomputable def start (N : List Str) (vs : List V) : St := vs.map some ++ List.replicate (N.length - vs.length) none
def cxOf (CX : CXT) (P : Program) (w : World) (K : PySem.W.Frag) (mg : Str -> Option Value) (base : Heap) (N : List Str) (qual : Str) (scope : Scope) (f : Addr) (cd : Value) (A : Around) (outer : List Env) (s : Shared) (H : Hp) (E : XK) : Cx where
 prog := P
 w := w
 K := K
 mg := mg
 base := base
 A := A.deeper (envOfC qual scope s.heap.objs.size f cd)
 N := N
 s₀ := s
 H₀ := H
 env := envOfC qual scope s.heap.objs.size f cd
 outer := outer
 stack := envOfC qual scope s.heap.objs.size f cd :: outer
 ex := []
 calm := true
 fn := fun _ => true
 pn := []
 xe := fun e s' => wpAny (model P w) (A.deeper (envOfC qual scope s.heap.objs.size f cd)) (leaving (envOfC qual scope s.heap.objs.size f cd) e) (fun _ s'' => CX outer H s E e s'') (fun e' s'' => CX outer H s E e' s'') s'
theorem cell_has {sc : Scope} {n : Nat} {x : Str} (h : sc.names.lookup x = some .cell) : ∃ c, (cellsFrom n sc.names []).lookup x = some c := by
 have q := PySem.W.cellsFrom_some sc.names n [] (.inl h)
 exact Option.isSome_iff_exists.mp q
theorem inv_start {CX : CXT} {P : Program} {w : World} {K : PySem.W.Frag} {mg : Str -> Option Value} {base : Heap} {N ps : List Str} {qual : Str} {scope : Scope} {f : Addr} {cd : Value} {A : Around} {outer : List Env} {s s1 : Shared} {H : Hp} {E : XK} {us : List Value} {vs : List V}
  (S : FnScope N ps scope) (hd : A.handled = none) (e0 : Env0 P w K mg base A outer s H) (hl : vs.length = ps.length) (r : Vals vs us)
  (x : InCallC s s.heap.objs.size (bindL (envOfC qual scope s.heap.objs.size f cd).kindOf (ps.zip us) fun _ => none) (cellsFrom (s.heap.objs.size + 1) scope.names []) (bindC (envOfC qual scope s.heap.objs.size f cd).kindOf (ps.zip us) fun _ => none) s1) :
  Inv (cxOf CX P w K mg base N qual scope f cd A outer s H E) [] (start N vs) H s1 := by
 have hpl : ps.length <= N.length := by have := congrArg List.length S.pre; rw [List.length_take] at this; omega
 obtain ⟨h1, tk, rfl, hk⟩ := x.done
 have noA : ∀ b : Addr, b ∉ (cxOf CX P w K mg base N qual scope f cd A outer s H E).ex := fun b z => absurd (show b ∈ ([] : List Addr) from z) (by simp)
 refine ⟨⟨e0.mod, S.kind, rfl, rfl, Nat.le_refl _, fun y z c h1 h2 => ?_, fun y hy => ?_, fun y c _ h => ?_, fun _ => hd, Around.frames_deeper e0.frames, .inr ⟨rfl, rfl⟩, fun b z => absurd z (noA b), e0.bs, e0.bsz, fun b _ _ => noA b, fun b z => absurd z (noA b), e0.funs, e0.frf⟩,
  rfl, e0.bare, Un.kept hk, ⟨_, x.toInCall.ns, fun i y v h1 h2 h3 => ?_⟩, fun y c h => ⟨_, x.cell y c h⟩, e0.hok.fresh (Nat.le_refl _), fun y c h => ?_, fun p hp => absurd (show p ∈ ([] : List (Addr × Obj)) from hp) (by simp), e0.hok.kept hk, ?_⟩
 ·exact name_of_addr x.apart (PySem.mem_of_lookup h1) (PySem.mem_of_lookup h2)
 ·have hy : scope.names.lookup y = some .cell \/ scope.names.lookup y = some .free := hy
  rcases hy with hy | hy
  ·exact cell_has hy
  ·exact absurd rfl (S.nofree _ (PySem.mem_of_lookup hy))
 ·exact Nat.le_of_lt (x.above y c (PySem.mem_of_lookup h))
 ·have hi : i < vs.length := by
   unfold start at h2
   by_cases hi : i < vs.length
   ·exact hi
   ·rw [List.getElem?_append_right (by simpa using hi)] at h2
    rw [List.getElem?_replicate] at h2
    split at h2 <;> cases h2
  have ha : vs[i]? = some v := by
   unfold start at h2
   rw [List.getElem?_append_left (by simpa using hi), List.getElem?_map] at h2
   cases e : vs[i]? with
   | none => rw [e] at h2; cases h2
   | some a => rw [e] at h2; cases h2; rfl
  obtain ⟨u, hu, rv⟩ := r.get ha
  have hp : ps[i]? = some y := by
   rw [← S.pre, List.getElem?_take_of_lt (by omega)]; exact h1
  have ndP : ps.Nodup := by rw [← S.pre]; exact S.nd.sublist (List.take_sublist _ _)
  refine ⟨u, rv, ?_⟩
  rcases S.par y (List.mem_of_getElem? hp) with k | k
  ·exact .inl ⟨k, bindL_get ndP hp hu k⟩
  ·obtain ⟨c, e⟩ := cell_has (n := s.heap.objs.size + 1) k
   refine .inr ⟨.inl k, c, e, ?_⟩
   have q := x.cell y c e
   rw [bindC_get ndP hp hu (by show scope.names.lookup y ≠ _; rw [k]; decide)] at q
   exact q
 ·exact e0.hok.fresh (Nat.le_of_lt (x.above y c (PySem.mem_of_lookup h)))
 ·unfold start
  show _ = N.length
  rw [List.length_append, List.length_map, List.length_replicate]
  omega
theorem fn_of {CX : CXT} {P : Program} {w : World} {K : PySem.W.Frag} {mg : Str -> Option Value} {base : Heap} {k : Nat} {f : Addr} {name qual : Str} {params : Arguments} {body : List Stmt} {scope : Scope} {dV kV doc pm cdv ct oc : Value} {an od : Option Addr}
  {osl : Array (Option Value)} {N ps : List Str} {sp : Sp} (lk : K.lookup f = some ⟨oc, od, .func (PySem.W.fnOf name qual params body scope dV kV doc pm an cdv ct), osl⟩) (hcd : PySem.W.codeIn K cdv qual = true) (S : FnScope N ps scope)
  (len : ∀ vs H Q E, sp vs H Q E -> vs.length = ps.length)
  (hbody : ∀ (A : Around) (outer : List Env) (s : Shared) (H : Hp) (vs : List V) (Q : VK) (E : XK), Room k (A.deeper (envOfC qual scope s.heap.objs.size f cdv)) -> sp vs H Q E ->
   ∃ t, PSs (cxOf CX P w K mg base N qual scope f cdv A outer s H E) body t /\ t { nx := fun _ H' => Q .non H', rt := Q } (start N vs) H) :
  FnOk P w K mg base CX (k + 1) f (PySem.W.fnOf name qual params body scope dV kV doc pm an cdv ct) ps sp := by
 refine ⟨len, fun A outer s H args us vs Q E hr e0 hb r hsp => ?_⟩
 have hl := len _ _ _ _ hsp
 have KX : K.In s.heap := e0.mod.kin.keeps fun b o e => (e0.bs b o e).1
 have lim : s.heap.NoLimit := e0.mod.nolimit.keeps fun b o e => (e0.bs b o e).1
 have hkind : ∀ y ∈ ps.zip us, scope.names.lookup y.1 = some .local \/ (scope.names.lookup y.1 = some .cell /\ ((cellsFrom (s.heap.objs.size + 1) scope.names []).lookup y.1).isSome = true) := fun ⟨n, v⟩ hy => by
  rcases S.par n (List.of_mem_zip hy).1 with q | q
  ·exact .inl q
  ·exact .inr ⟨q, PySem.W.cellsFrom_some _ _ _ (.inl q)⟩
 refine codeAny_call_function hr.depth (KX _ _ lk) rfl S.co S.gen rfl (PySem.W.codeRec_of KX hcd) (hb _ _ _ _ ?_)
 refine wpAny_newFunctionEnv_cells S.kind hkind fun env he s1 x => ?_
 subst he
 refine ⟨lim.keeps x.toInCall.keep, codeAny_func ?_⟩
 obtain ⟨t, ht, hq⟩ := hbody A outer s H vs Q E (hr.deeper _) hsp
 have I : Inv (cxOf CX P w K mg base N qual scope f cdv A outer s H E) [] (start N vs) H s1 := inv_start S hr.hd e0 hl r x
 refine wpAny_mono (ht [] s1 (start N vs) H _ I hq) (fun fl s' hs => ?_) fun e s' hs => hs
 have fin : ∀ {σ' : St} {H' : Hp} {v : V} {u : Value}, Inv (cxOf CX P w K mg base N qual scope f cdv A outer s H E) [] σ' H' s' -> RelV v u -> Q v H' -> CE outer P w H s Q u s' :=
  fun {σ' H' v u} J rv q => ⟨v, H', J.os, J.bare, J.base, J.hok, rv, q⟩
 cases fl with
 | ret u =>
  obtain ⟨v, σ', H', J, rv, q⟩ := hs
  exact fin J rv q
 | next =>
  obtain ⟨σ', H', J, q⟩ := hs
  exact fin (v := V.non) (u := Value.none) J rfl q
 | brk =>
  obtain ⟨_, _, _, q⟩ := hs
  exact False.elim q
 | cont =>
  obtain ⟨_, _, _, q⟩ := hs
  exact False.elim q
end L2
namespace L2
open PySem PySem.Spec PyProof.Rows
section
variable {X : Cx} {x : Str} {p pos : Pos} {e : Expr} {es : List Expr} {t : TA} {id T : String} {r : List V -> Hp -> VK -> Prop}
def tCB (r : List V -> Hp -> VK -> Prop) (t : TA) : TE := fun σ H Q => t σ H fun vs H1 => r vs H1 Q
theorem pe_callB (hc : CallR X (.builtin id) r) (hg : Gl X x) (hm : X.mg x = none) (hv : bootBuiltins x = some (.builtin id)) (ha : PA X (e :: es) t) (hn : x ≠ "__name__" := by decide) (hdb : (x == ("__debug__" : Str)) = false := by decide)
  (he : starEach (e :: es) X.env = (false, eval e X.env) :: starEach es X.env := by rfl) (hpl : (backTo pos (starEach es X.env)).any (·.1) = false := by rfl) : PE X (.Call (.Name x p) (e :: es) [] pos) (tCB r t) := by
 intro pins s σ H Q I h
 refine wpAny_Call_Name_kw (ld_blt I hg hm hv ?_ hn hdb)
 exact PyProof.Rows.callWith_builtin1 (thn (ha pos pins s σ H _ I h) fun us s1 ⟨vs, H1, I1, r1, q1⟩ => hc pins s1 σ H1 vs us Q I1 r1 q1) he hpl
theorem pe_callTy (hc : CallR X (.type T) r) (hg : Gl X x) (hm : X.mg x = none) (hv : bootBuiltins x = some (.type T)) (ha : PA X (e :: es) t) (hn : x ≠ "__name__" := by decide) (hdb : (x == ("__debug__" : Str)) = false := by decide)
  (he : starEach (e :: es) X.env = (false, eval e X.env) :: starEach es X.env := by rfl) (hpl : (backTo pos (starEach es X.env)).any (·.1) = false := by rfl) : PE X (.Call (.Name x p) (e :: es) [] pos) (tCB r t) := by
 intro pins s σ H Q I h
 refine wpAny_Call_Name_kw (ld_blt I hg hm hv ?_ hn hdb)
 exact PyProof.Rows.callWith_type1 (thn (ha pos pins s σ H _ I h) fun us s1 ⟨vs, H1, I1, r1, q1⟩ => hc pins s1 σ H1 vs us Q I1 r1 q1) he hpl
end
end L2
namespace HT
open PySem PyProof.Rows
section
open PySem.SeqAt
open PySem.AutoSeq1 (wpAny_loadPart')
open PySem.MeetsSeq PySem.MeetsSeq2 PySem.MeetsSeq3
end
section
variable {prog : Program} {w : World} {A : Around} {E : Value -> Shared -> Prop} {s : Shared}
theorem cat_tup {t b : Addr} {vs ws : List Value} {Q : Value -> Shared -> Prop} (ht : IsTup s.heap t vs.toArray) (hb : IsTup s.heap b ws.toArray) (hv : vs ≠ [])
  (h1 : ws = [] -> Q (.ref t) s) (h2 : ws ≠ [] -> Q (.ref s.heap.objs.size) { s with heap := s.heap.push { cls := .type "tuple", data := .seq (vs ++ ws).toArray } })
  (hsz : vs.length + ws.length <= sizeLine) : wpAny (model prog w) A (binaryOp .Add (.ref t) (.ref b)) Q E s := by
 obtain ⟨⟨cls, dd, data, sl⟩, ho, hc, n, hd⟩ := id ht
 obtain ⟨⟨cls2, dd2, data2, sl2⟩, ho2, hc2, n2, hd2⟩ := id hb
 simp only at hc hd hc2 hd2
 subst hc hd hc2 hd2
 have e : vs.toArray ++ ws.toArray = (vs ++ ws).toArray := by simp
 by_cases hw : ws = []
 ·exact concat_meets ⟨_, ho, rfl⟩ ⟨_, ho2, rfl⟩ noFill_tuple_add seq_tuple_add PySem.F.slot_tuple_add PySem.F.entry_tuple_add (PySem.F.args_tuple_add_2 _ _)
   (tuple_addW1 t b vs.toArray ws.toArray n n2 dd dd2 sl sl2 (by simpa using hv) (by simp [hw])) ⟨ho, ho2, h1 hw⟩
 ·refine concat_meets ⟨_, ho, rfl⟩ ⟨_, ho2, rfl⟩ noFill_tuple_add seq_tuple_add PySem.F.slot_tuple_add PySem.F.entry_tuple_add (PySem.F.args_tuple_add_2 _ _)
   (tuple_addW2 t b vs.toArray ws.toArray n n2 dd dd2 sl sl2 (by simpa using hv) (by simpa using hw) (by rw [List.size_toArray, List.size_toArray]; exact hsz)) ⟨ho, ho2, ?_⟩
  rw [e]
  exact h2 hw
noncomputable def sIx (n d : Nat) : Option Int -> Nat
 | none => d
 | some v => if v < 0 then (v + (n : Int)).toNat else min v.toNat n
theorem sIx_none (n d : Nat) : sIx n d none = d := rfl
theorem sIx_nat (n d k : Nat) : sIx n d (some (k : Int)) = min k n := by
 show (if (k : Int) < 0 then ((k : Int) + (n : Int)).toNat else min (k : Int).toNat n) = min k n
 rw [if_neg (by omega), Int.toNat_natCast]
theorem sIx_le (n d : Nat) (hd : d <= n) (o : Option Int) : sIx n d o <= n := by
 cases o with
 | none => exact hd
 | some v =>
  show (if v < 0 then (v + (n : Int)).toNat else min v.toNat n) <= n
  by_cases hv : v < 0
  ·rw [if_pos hv]; omega
  ·rw [if_neg hv]; exact Nat.min_le_right _ _
theorem clip_eq (v : Int) (n d : Nat) : (if v < 0 then max (v + (n : Int)) 0 else min v (n : Int)) = ((sIx n d (some v) : Nat) : Int) := by
 show (if v < 0 then max (v + (n : Int)) 0 else min v (n : Int)) = (((if v < 0 then (v + (n : Int)).toNat else min v.toNat n) : Nat) : Int)
 by_cases hv : v < 0
 ·simp only [if_pos hv]; omega
 ·simp only [if_neg hv]; omega
theorem adjust_gen (lo hi : Option Int) (n : Nat) : Builtin.Slice.sliceAdjust lo hi 1 (n : Int) = (((sIx n 0 lo : Nat) : Int), ((sIx n n hi : Nat) : Int)) := by
 have h1 : ¬ ((1 : Int) < 0) := by omega
 unfold Builtin.Slice.sliceAdjust
 simp only [h1, if_false]
 refine Prod.ext ?_ ?_
 ·cases lo with
  | none => rfl
  | some v => exact clip_eq v n 0
 ·cases hi with
  | none => rfl
  | some v => exact clip_eq v n n
theorem places_gen (i j : Nat) : Builtin.Slice.slicePlaces (i : Int) (j : Int) 1 = j - i := by
 unfold Builtin.Slice.slicePlaces
 have h1 : (1 : Int) > 0 := by omega
 simp only [h1, if_true, Int.ediv_one]
 split <;> omega
theorem slicePart_ {v : Value} {o : Option Int} {Q : Option Int -> Shared -> Prop} (p : IsPart v o) (h : Q o s) : wpAny (model prog w) A (Builtin.Slice.slicePartIndex v) Q E s := by
 cases p with
 | none => exact slicePart_none h
 | int i t => exact slicePart_int h
theorem sliceApplied_gen {sl : Addr} {vl vu : Value} {lo hi : Option Int} {n : Nat} {Q : Int × Int × Nat -> Shared -> Prop} (hs : s.heap.IsSliceOf sl vl vu .none) (pl : IsPart vl lo) (pu : IsPart vu hi)
  (h : Q (((sIx n 0 lo : Nat) : Int), 1, sIx n n hi - sIx n 0 lo) s) : wpAny (model prog w) A (Builtin.Slice.sliceApplied (.ref sl) (pure (n : Int))) Q E s := by
 obtain ⟨os, hos, hcs, hds⟩ := id hs
 unfold Builtin.Slice.sliceApplied Builtin.Slice.sliceFields
 refine wpAny_bind (wpAny_bind (wpAny_field hos hds (x := vl) rfl (wpAny_bind (wpAny_field hos hds (x := vu) rfl (wpAny_bind (wpAny_field hos hds (x := .none) rfl (wpAny_pure ?_)))))))
 refine wpAny_bind (slicePart_none ?_)
 show wpAny _ _ (if ((1 : Int) == 0) = true then _ else _) _ _ s
 rw [if_neg (by decide)]
 refine wpAny_bind (slicePart_ pl (wpAny_bind (slicePart_ pu (wpAny_bind (wpAny_pure ?_)))))
 show wpAny _ _ (match Builtin.Slice.sliceAdjust lo hi 1 (n : Int) with | (lo, hi) => pure (lo, (1 : Int), Builtin.Slice.slicePlaces lo hi 1)) _ _ s
 rw [adjust_gen lo hi n]
 show wpAny _ _ (pure (((sIx n 0 lo : Nat) : Int), (1 : Int), Builtin.Slice.slicePlaces ((sIx n 0 lo : Nat) : Int) ((sIx n n hi : Nat) : Int) 1)) _ _ s
 rw [places_gen]
 exact wpAny_pure h
theorem pick_gen (xs : Array Value) (i k : Nat) : ((List.range k).filterMap fun (m : Nat) => xs[((i : Int) + (m : Int) * 1).toNat]?).toArray = ((xs.toList.drop i).take k).toArray := by
 have e : (fun (m : Nat) => xs[((i : Int) + (m : Int) * 1).toNat]?) = fun m => xs[i + m]? := by
  funext m
  have : ((i : Int) + (m : Int) * 1).toNat = i + m := by omega
  rw [this]
 rw [e]
 have := pick_run xs i k
 rw [List.filterMap_map] at this
 have e2 : ((fun x => xs[x]?) ∘ fun x => i + x) = fun m => xs[i + m]? := rfl
 rw [e2] at this
 rw [this]
theorem getItem_tuple_cut {t sl : Addr} {items : Array Value} {vl vu : Value} {lo hi : Option Int} {Q : Value -> Shared -> Prop} (ht : IsTup s.heap t items) (hs : s.heap.IsSliceOf sl vl vu .none) (pl : IsPart vl lo) (pu : IsPart vu hi)
  (hw : ¬ (sIx items.size 0 lo = 0 /\ sIx items.size items.size hi = items.size))
  (h : Q (.ref s.heap.objs.size) { s with heap := s.heap.push { cls := .type "tuple", data := .seq ((items.toList.drop (sIx items.size 0 lo)).take (sIx items.size items.size hi - sIx items.size 0 lo)).toArray } })
  (hsz : items.size <= sizeLine) : wpAny (model prog w) A (getItem (.ref t) (.ref sl)) Q E s := by
 have htake : sizeOk (.seq ((items.toList.drop (sIx items.size 0 lo)).take (sIx items.size items.size hi - sIx items.size 0 lo)).toArray) := by
  show ((items.toList.drop (sIx items.size 0 lo)).take (sIx items.size items.size hi - sIx items.size 0 lo)).toArray.size <= sizeLine
  rw [List.size_toArray, List.length_take, List.length_drop, Array.length_toList]
  omega
 have hj : sIx items.size items.size hi <= items.size := sIx_le _ _ (Nat.le_refl _) hi
 obtain ⟨os, hos, hcs, hds⟩ := id hs
 have hTs : s.TypeIs (.ref sl) "slice" := ⟨os, hos, hcs⟩
 unfold getItem
 try with_reducible refine wpAny_holding ?_
 first | refine wpAny_bind (wpAny_pure ?_) | skip
 refine wpAny_bind (wpAny_sequenceKey ht.typeIs (by decide) ?_)
 refine wpAny_bind (wpAny_callSpecial?_slot (name := Str.ofString "__getitem__") ht.typeIs PyProof.Rows.slot_tuple_getitem
  (wpAny_call_entry PyProof.Rows.slot_tuple_getitem ht.typeIs entry_tuple_getitem ?_ (args_tuple_getitem _ _)))
 show wpAny _ _ (Builtin.Tuple.tupleItemsOf (.ref t) >>= _) _ _ s
 refine wpAny_bind (tupleItemsOf_ ht ?_)
 refine wpAny_bind (wpAny_typeOf hTs ?_)
 rw [if_pos (by decide)]
 refine wpAny_bind (sliceApplied_gen hs pl pu ?_)
 have hno : ¬ ((((sIx items.size 0 lo : Nat) : Int) == 0 && (1 : Int) == 1 && (sIx items.size items.size hi - sIx items.size 0 lo) == items.size) = true) := by
  intro q
  rw [Bool.and_eq_true, Bool.and_eq_true] at q
  have q1 : ((sIx items.size 0 lo : Nat) : Int) = 0 := eq_of_beq q.1.1
  have q2 : sIx items.size items.size hi - sIx items.size 0 lo = items.size := eq_of_beq q.2
  exact hw ⟨by omega, by omega⟩
 show wpAny _ _ (if (((sIx items.size 0 lo : Nat) : Int) == 0 && (1 : Int) == 1 && (sIx items.size items.size hi - sIx items.size 0 lo) == items.size) = true then _ else _) _ _ s
 rw [if_neg hno, pick_gen]
 first
  | exact wpAny_bind (m := Builtin.Tuple.tupleExact _) (wpAny_newObj_type (wpAny_pure ⟨_, rfl, wpAny_pure h⟩) htake)
  | exact wpAny_bind (m := Builtin.Tuple.tupleExact _) (wpAny_newObj_type (wpAny_bind (wpAny_pure (wpAny_pure ⟨_, rfl, wpAny_pure h⟩))) htake)
  | exact wpAny_bind (wpAny_bind (m := Builtin.Tuple.tupleExact _) (wpAny_newObj_type (wpAny_pure (wpAny_pure ⟨_, rfl, wpAny_pure h⟩)) htake))
  | exact wpAny_bind (wpAny_bind (m := Builtin.Tuple.tupleExact _) (wpAny_newObj_type (wpAny_pure ⟨_, rfl, wpAny_pure h⟩) htake))
end
end HT
namespace L2
open PySem PySem.Spec PyProof.Rows
noncomputable abbrev TO := St -> Hp -> (Option Int -> Hp -> Prop) -> Prop
def PO (X : Cx) (e : Option Expr) (t : TO) : Prop :=
 ∀ (pins : List (Addr × Obj)) (s : Shared) (σ : St) (H : Hp) (Q : Option Int -> Hp -> Prop), Inv X pins σ H s -> t σ H Q ->
  wpAny (model X.prog X.w) X.A (evalPart e X.env) (fun u s' => ∃ o H', Inv X pins σ H' s' /\ IsPart u o /\ Q o H') X.xe s
def tNoPart : TO := fun _ H Q => Q none H
def tPart (t : TE) : TO := fun σ H Q => t σ H fun x H1 => ∃ i, x = .int i /\ Q (some i) H1
section
variable {X : Cx} {e : Expr} {te : TE} {lo hi : Option Expr} {tl th : TO} {pos p2 : Pos}
theorem po_none : PO X none tNoPart := by
 intro pins s σ H Q I h
 rw [evalPart_none]
 exact wpAny_pure ⟨none, H, I, .none, h⟩
theorem po_some (h : PE X e te) : PO X (some e) (tPart te) := by
 intro pins s σ H Q I hw
 rw [evalPart_some]
 refine thn (h pins s σ H _ I hw) fun u s1 ⟨x, H1, I1, r1, q1⟩ => ?_
 obtain ⟨i, rfl, q⟩ := q1
 obtain ⟨t, rfl⟩ := r1
 exact ⟨some i, H1, I1, .int i t, q⟩
def SlR (X : Cx) (r : V -> Option Int -> Option Int -> Hp -> VK -> Prop) : Prop :=
 ∀ (pins : List (Addr × Obj)) (s : Shared) (σ : St) (H : Hp) (x : V) (v vl vu : Value) (lo hi : Option Int) (sl : Addr) (Q : VK), Inv X pins σ H s -> RelV x v -> s.heap.IsSliceOf sl vl vu .none -> IsPart vl lo -> IsPart vu hi -> r x lo hi H Q ->
  ∃ T id, typeLookup (.type T) "__getitem__" = pure (some (.builtin id)) /\ s.TypeIs v T /\ wpAny (model X.prog X.w) X.A (getItem v (.ref sl)) (EP X pins σ Q) X.xe s
theorem SlR.or {r r' : V -> Option Int -> Option Int -> Hp -> VK -> Prop} (h : SlR X r) (h' : SlR X r') : SlR X (fun x lo hi H Q => r x lo hi H Q \/ r' x lo hi H Q) := by
 intro pins s σ H x v vl vu lo hi sl Q I rx hs pl pu q
 rcases q with q | q
 ·exact h pins s σ H x v vl vu lo hi sl Q I rx hs pl pu q
 ·exact h' pins s σ H x v vl vu lo hi sl Q I rx hs pl pu q
def tSl (r : V -> Option Int -> Option Int -> Hp -> VK -> Prop) (te : TE) (tl th : TO) : TE := fun σ H Q => te σ H fun x H1 => tl σ H1 fun l H2 => th σ H2 fun u H3 => r x l u H3 Q
theorem pe_slice {r : V -> Option Int -> Option Int -> Hp -> VK -> Prop} (hr : SlR X r) (he : PE X e te) (hl : PO X lo tl) (hu : PO X hi th) : PE X (.Subscript e (.Slice lo hi none p2) pos) (tSl r te tl th) := by
 intro pins s σ H Q I h
 refine Subscript_ (thn (he pins s σ H _ I h) fun v s1 ⟨x, H1, I1, r1, q1⟩ => ?_)
 refine wpAny_Slice (thn (hl pins s1 σ H1 _ I1 q1) fun vl s2 ⟨l, H2, I2, pl, q2⟩ => thn (hu pins s2 σ H2 _ I2 q2) fun vu s3 ⟨u, H3, I3, pu, q3⟩ => ?_)
 rw [evalPart_none]
 refine wpAny_pure ?_
 have I4 : Inv X pins σ H3 { s3 with heap := s3.heap.push { cls := .type "slice", data := .fields #[vl, vu, .none] } } := I3.kept (t' := s3.toks) fun b ob q => Heap.get?_push_of_some _ q
 obtain ⟨T, id, hT, ht, hg⟩ := hr pins { s3 with heap := s3.heap.push { cls := .type "slice", data := .fields #[vl, vu, .none] } } σ H3 x v vl vu l u s3.heap.objs.size Q I4 r1 (Heap.IsSliceOf.new ..) pl pu q3
 show wpAny (model X.prog X.w) X.A (subscriptTail e (.Slice lo hi none p2) v (.ref s3.heap.objs.size)) (EP X pins σ Q) X.xe { s3 with heap := s3.heap.push { cls := .type "slice", data := .fields #[vl, vu, .none] } }
 exact tail_any (ops := [.ref s3.heap.objs.size, v]) ht hT hg (by with_unfolding_all rfl)
noncomputable def cutV (xs : List V) (lo hi : Option Int) : List V := (xs.drop (HT.sIx xs.length 0 lo)).take (HT.sIx xs.length xs.length hi - HT.sIx xs.length 0 lo)
theorem cutV_length (xs : List V) (lo hi : Option Int) : (cutV xs lo hi).length <= xs.length := by
 unfold cutV
 rw [List.length_take, List.length_drop]
 omega
def rSlT (K : PySem.W.Frag) : V -> Option Int -> Option Int -> Hp -> VK -> Prop := fun x lo hi H Q => ∃ a xs, x = .ref a /\ SqT K H a xs /\
 ¬ (HT.sIx xs.length 0 lo = 0 /\ HT.sIx xs.length xs.length hi = xs.length) /\ ∀ p, H p = none -> Q (.ref p) (upd H p (.tup (cutV xs lo hi)))
theorem sl_tup : SlR X (rSlT X.K) := by
 intro pins s σ H x v vl vu lo hi sl Q I rx hs pl pu h
 obtain ⟨a, xs, rfl, hx, hw, q⟩ := h
 cases rx
 obtain ⟨its, r, ht, hz⟩ := I.tuple hx
 have hlen : its.toArray.size = xs.length := by rw [List.size_toArray]; exact r.length.symm
 refine ⟨"tuple", _, PyProof.Rows.slot_tuple_getitem.lookup, ht.typeIs, ?_⟩
 refine HT.getItem_tuple_cut ht hs pl pu (by rw [hlen]; exact hw) ?_ (by rw [hlen]; exact hz)
 rw [hlen]
 refine ⟨.ref s.heap.objs.size, _, I.laid (t' := s.toks) (o := .tup (cutV xs lo hi)) (fun b ob q => Heap.get?_push_of_some _ q) (Nat.le_refl _) ?_, rfl, q _ (I.hok.fresh (Nat.le_refl _))⟩
 exact ⟨Nat.le_trans (cutV_length xs lo hi) hz, _, (r.drop (HT.sIx xs.length 0 lo)).take (HT.sIx xs.length xs.length hi - HT.sIx xs.length 0 lo), IsTupD.new _ _⟩
noncomputable def rCatT (K : PySem.W.Frag) : R2 := fun x y H Q => ∃ a b xs ys, x = .ref a /\ y = .ref b /\ SqT K H a xs /\ SqT K H b ys /\ xs ≠ [] /\ xs.length + ys.length <= sizeLine /\
 (ys = [] -> Q (.ref a) H) /\ (ys ≠ [] -> ∀ p, H p = none -> Q (.ref p) (upd H p (.tup (xs ++ ys))))
theorem Vals.nil_iff {xs : List V} {us : List Value} (r : Vals xs us) : us = [] ↔ xs = [] := by
 cases r with
 | nil => simp
 | cons _ _ => simp
theorem op_catT : OpR X (binaryOp .Add) (rCatT X.K) := by
 intro pins s σ H x y v u Q I rx ry h
 obtain ⟨a, b, xs, ys, rfl, rfl, ha, hb, hx, hz, q1, q2⟩ := h
 cases rx
 cases ry
 obtain ⟨its, r1, p1, _⟩ := I.tuple ha
 obtain ⟨its2, r2, p2, _⟩ := I.tuple hb
 refine HT.cat_tup p1 p2 (fun z => hx (r1.nil_iff.mp z)) (fun z => ⟨.ref a, H, I, rfl, q1 (r2.nil_iff.mp z)⟩) (fun z => ?_) (by rw [← r1.length, ← r2.length]; exact hz)
 refine ⟨.ref s.heap.objs.size, _, I.laid (t' := s.toks) (o := .tup (xs ++ ys)) (fun b ob q => Heap.get?_push_of_some _ q) (Nat.le_refl _) ?_, rfl, q2 (fun w => z (r2.nil_iff.mpr w)) _ (I.hok.fresh (Nat.le_refl _))⟩
 exact ⟨by rw [List.length_append]; exact hz, _, r1.append r2, IsTupD.new _ _⟩
end
end L2
namespace L2
open PySem PySem.Spec PyProof.Rows
noncomputable def ixN (n : Nat) (i : Int) : Option Nat := if 0 <= i then (if i < n then some i.toNat else none) else if -(n : Int) <= i then some (i + n).toNat else none
noncomputable def atI {α : Type} (xs : List α) (i : Int) : Option α := (ixN xs.length i).bind fun j => xs[j]?
theorem ixN_seq {n : Nat} {i : Int} {j : Nat} (h : ixN n i = some j) : seqIndex? i n = some j /\ j < n /\ -(n : Int) <= i /\ i < n := by
 unfold ixN at h
 by_cases h0 : 0 <= i
 ·rw [if_pos h0] at h
  by_cases h1 : i < n
  ·rw [if_pos h1] at h
   have e : i.toNat = j := Option.some.inj h
   exact ⟨by rw [seqIndex_of h0 h1, e], by omega, by omega, h1⟩
  ·rw [if_neg h1] at h; cases h
 ·rw [if_neg h0] at h
  by_cases h1 : -(n : Int) <= i
  ·rw [if_pos h1] at h
   have e : (i + n).toNat = j := Option.some.inj h
   exact ⟨by rw [seqIndex_neg (by omega) h1, e], by omega, h1, by omega⟩
  ·rw [if_neg h1] at h; cases h
theorem atI_get {α : Type} {xs : List α} {i : Int} {v : α} (h : atI xs i = some v) : ∃ j, seqIndex? i xs.length = some j /\ xs[j]? = some v /\ j < xs.length /\ -(xs.length : Int) <= i /\ i < xs.length := by
 unfold atI at h
 cases e : ixN xs.length i with
 | none => rw [e] at h; cases h
 | some j =>
  rw [e] at h
  obtain ⟨h1, h2, h3, h4⟩ := ixN_seq e
  exact ⟨j, h1, h, h2, h3, h4⟩
theorem atI_nat {α : Type} {xs : List α} {j : Nat} {v : α} (h : xs[j]? = some v) : atI xs (j : Int) = some v := by
 have hj : j < xs.length := (List.getElem?_eq_some_iff.mp h).1
 have e : ixN xs.length (j : Int) = some j := by
  unfold ixN
  rw [if_pos (by omega), if_pos (by omega)]; simp
 unfold atI; rw [e]; exact h
def PlainIx (b : Expr) : Prop := ∀ o i, subscripted b false o i = operate [o, i] (getItem o i)
def IxR (X : Cx) (r : R2) : Prop :=
 ∀ (value slice : Expr) (pins : List (Addr × Obj)) (s : Shared) (σ : St) (H : Hp) (x y : V) (v u : Value) (Q : VK), Inv X pins σ H s -> RelV x v -> RelV y u -> r x y H Q ->
  subscripted slice false v u = operate [v, u] (getItem v u) -> wpAny (model X.prog X.w) X.A (subscriptTail value slice v u) (EP X pins σ Q) X.xe s
def MtR (X : Cx) (id : String) (r : V -> List V -> Hp -> VK -> Prop) : Prop :=
 ∀ (pins : List (Addr × Obj)) (s : Shared) (σ : St) (H : Hp) (x : V) (xs : List V) (v : Value) (us : List Value) (Q : VK), Inv X pins σ H s -> RelV x v -> Vals xs us -> r x xs H Q ->
  wpAny (model X.prog X.w) X.A (call (.builtin id) (v :: us)) (EP X pins σ Q) X.xe s
section
variable {X : Cx} {a b : Expr} {ta tb : TE} {pos : Pos}
theorem IxR.or {r r' : R2} (h : IxR X r) (h' : IxR X r') : IxR X (fun x y H Q => r x y H Q \/ r' x y H Q) := by
 intro value slice pins s σ H x y v u Q I rx ry q hs
 rcases q with q | q
 ·exact h value slice pins s σ H x y v u Q I rx ry q hs
 ·exact h' value slice pins s σ H x y v u Q I rx ry q hs
theorem pe_ix {r : R2} (hr : IxR X r) (ha : PE X a ta) (hb : PE X b tb) (hs : PlainIx b) : PE X (.Subscript a b pos) (tOp r ta tb) := by
 intro pins s σ H Q I h
 exact Subscript_ (binT ha hb I h fun v u s2 x y H2 I2 rx ry q => hr a b pins s2 σ H2 x y v u Q I2 rx ry q (hs _ _))
noncomputable def rIxL (K : PySem.W.Frag) : R2 := fun x y H Q => ∃ p xs i v, x = .ref p /\ y = .int i /\ SqL K H p xs /\ atI xs i = some v /\ Q v H
noncomputable def rIxT (K : PySem.W.Frag) : R2 := fun x y H Q => ∃ p xs i v, x = .ref p /\ y = .int i /\ SqT K H p xs /\ atI xs i = some v /\ Q v H
noncomputable def rIxS : R2 := fun x y H Q => ∃ z i c, x = .str z /\ y = .int i /\ z.length <= sizeLine /\ atI z.cps.toList i = some c /\ Q (.str ⟨#[c]⟩) H
theorem ix_list : IxR X (rIxL X.K) := by
 intro value slice pins s σ H x y v u Q I rx ry h hs
 obtain ⟨p, xs, i, z, rfl, rfl, hq, he, q⟩ := h
 cases rx
 obtain ⟨t, rfl⟩ := ry
 obtain ⟨its, r, pl, hz⟩ := I.list hq
 obtain ⟨j, h1, h2, h3, h4, h5⟩ := atI_get he
 obtain ⟨w, ew, rw'⟩ := r.get h2
 have hl := r.length
 have hn := line63
 have fin : EP X pins σ Q w s := ⟨z, H, I, rw', q⟩
 by_cases h0 : 0 <= i
 ·have hj : i.toNat = j := by
   rw [seqIndex_of h0 h5] at h1
   exact Option.some.inj h1
  exact item_listR pl.isList h0 (by omega) (by rw [hj]; simpa using ew) fin hs
 ·have hj : (i + (its.toArray.size : Int)).toNat = j := by
   rw [seqIndex_neg (by omega) h4] at h1
   rw [List.size_toArray, ← hl]
   exact Option.some.inj h1
  exact subscriptTail_builtinR (x := w) pl.isList.typeIs slot_list_getitem.lookup
   (wpAny_getItem_list_neg (Q := fun r s' => r = w /\ EP X pins σ Q r s') pl.isList (by omega) (by rw [List.size_toArray] <;> omega) (by omega) (by rw [hj]; simpa using ew) ⟨rfl, fin⟩) hs
theorem ix_tup : IxR X (rIxT X.K) := by
 intro value slice pins s σ H x y v u Q I rx ry h hs
 obtain ⟨p, xs, i, z, rfl, rfl, hq, he, q⟩ := h
 cases rx
 obtain ⟨t, rfl⟩ := ry
 obtain ⟨its, r, pl, hz⟩ := I.tuple hq
 obtain ⟨j, h1, h2, h3, h4, h5⟩ := atI_get he
 obtain ⟨w, ew, rw'⟩ := r.get h2
 have hl := r.length
 have hn := line63
 have fin : EP X pins σ Q w s := ⟨z, H, I, rw', q⟩
 exact subscriptTail_builtinR (x := w) pl.typeIs slot_tuple_getitem.lookup
  (getItem_tuple (j := j) (Q := fun r s' => r = w /\ EP X pins σ Q r s') pl (by omega) (by omega) (by rw [List.size_toArray, ← hl]; exact h1) (by simpa using ew) ⟨rfl, fin⟩) hs
theorem ix_str : IxR X rIxS := by
 intro value slice pins s σ H x y v u Q I rx ry h hs
 obtain ⟨z, i, c, rfl, rfl, hz, he, q⟩ := h
 obtain ⟨t, rfl⟩ := rx
 obtain ⟨t', rfl⟩ := ry
 obtain ⟨j, h1, h2, h3, h4, h5⟩ := atI_get he
 have hl : z.cps.toList.length = z.length := by simp [Str.length]
 rw [hl] at h1 h4 h5
 have hn := line63
 exact tail_any (typeIs_str s z t) slot_str_getitem.lookup (getItem_str (c := c) (by
  have e1 : decide (i < -(2 ^ 63 : Int)) = false := decide_eq_false (by omega)
  have e2 : decide (i >= 2 ^ 63) = false := decide_eq_false (by omega)
  rw [e1, e2, Bool.or_false]) (by rw [h1]; simpa using h2) ⟨.str ⟨#[c]⟩, H, I.tok _, ⟨_, rfl⟩, q⟩) hs
noncomputable def rIx (K : PySem.W.Frag) : R2 := fun x y H Q => rIxL K x y H Q \/ rIxT K x y H Q \/ rIxS x y H Q
theorem ix_seq : IxR X (rIx X.K) := ix_list.or (ix_tup.or ix_str)
theorem mapSeq_set (its : List Value) (n j : Nat) (u : Value) : Obj.mapSeq (·.setIfInBounds j u) { cls := .type "list", data := .seq its.toArray n } = { cls := .type "list", data := .seq (its.set j u).toArray n } := by
 simp [Obj.mapSeq]
theorem Inv.lst {pins : List (Addr × Obj)} {σ : St} {H : Hp} {s : Shared} {p : Addr} {xs : List V} (I : Inv X pins σ H s) (h : H p = some (.lst xs)) :
  ∃ (its : List Value) (n : Nat), Vals xs its /\ s.heap.get? p = some { cls := .type "list", data := .seq its.toArray n } /\ xs.length <= sizeLine := by
 obtain ⟨z, its, n, r, e⟩ := I.hok p _ h
 exact ⟨its, n, r, e, z⟩
theorem Inv.lstUpd {pins : List (Addr × Obj)} {σ : St} {H : Hp} {s : Shared} {p : Addr} {xs ys : List V} {its its' : List Value} {n n' : Nat} {f : Obj -> Obj} (I : Inv X pins σ H s) (h : H p = some (.lst xs))
  (ho : s.heap.get? p = some { cls := .type "list", data := .seq its.toArray n }) (hf : f { cls := .type "list", data := .seq its.toArray n } = { cls := .type "list", data := .seq its'.toArray n' }) (r : Vals ys its') (hz : ys.length <= sizeLine) (t : Nat) :
  Inv X pins σ (upd H p (.lst ys)) { s with heap := s.heap.update p f, toks := t } := by
 have e : (s.heap.update p f).get? p = some { cls := .type "list", data := .seq its'.toArray n' } := by
  rw [Heap.get?_update_self f ho (by rw [hf] <;> rfl), hf]
 refine I.write (x := p) (e := p) (by rw [h]; trivial) (.inl rfl) (fun b u hb q => (Heap.get?_update_other _ _ (Ne.symm hb)).trans q) ⟨_, e⟩ ?_
 exact ⟨hz, its', n', r, e⟩
def rSetL : V -> V -> V -> Hp -> (Hp -> Prop) -> Prop := fun o i v H Q => ∃ p xs k j, o = .ref p /\ i = .int k /\ H p = some (.lst xs) /\ ixN xs.length k = some j /\ Q (upd H p (.lst (xs.set j v)))
theorem set_list : PSet X rSetL := by
 intro pins s σ H o i v ov iv u Q I ro ri rv h
 obtain ⟨p, xs, k, j, rfl, rfl, hp, hj, q⟩ := h
 cases ro
 obtain ⟨t, rfl⟩ := ri
 obtain ⟨its, n, r, ho, hz⟩ := I.lst hp
 obtain ⟨h1, h2, h3, h4⟩ := ixN_seq hj
 have hl := r.length
 have hn := line63
 have I' : Inv X pins σ (upd H p (.lst (xs.set j v))) { s with heap := s.heap.update p (Obj.mapSeq (·.setIfInBounds j u)) } :=
  I.lstUpd hp ho (mapSeq_set its n j u) (r.set rv j) (by rw [List.length_set]; exact hz) s.toks
 by_cases h0 : 0 <= k
 ·have hk : k.toNat = j := by
   rw [seqIndex_of h0 h4] at h1
   exact Option.some.inj h1
  exact PySem.W.ki_setAt ho h0 (by omega) (by rw [List.size_toArray, ← hl]; exact h4) (by rw [hk]; exact ⟨_, I', q⟩)
 ·have hk : (k + (its.toArray.size : Int)).toNat = j := by
   rw [seqIndex_neg (by omega) h3] at h1
   rw [List.size_toArray, ← hl]
   exact Option.some.inj h1
  exact PySem.W.ki_setBack ho (by omega) (by rw [List.size_toArray, ← hl]; exact h3) (by omega) (by rw [hk]; exact ⟨_, I', q⟩)
theorem slice_bounds (lo hi : Option Int) (n : Nat) : (sliceBounds lo hi none n).1 = ((HT.sIx n 0 lo : Nat) : Int) /\ (sliceBounds lo hi none n).2.1 = ((HT.sIx n n hi : Nat) : Int) /\ (sliceBounds lo hi none n).2.2 = 1 := by
 refine ⟨?_, ?_, rfl⟩
 ·cases lo with
  | none => simp [sliceBounds, HT.sIx]
  | some i =>
   simp only [sliceBounds, HT.sIx, Option.getD_none, show (1 : Int) > 0 by decide, if_true]
   by_cases h : i < 0
   ·simp only [h, if_true] <;> omega
   ·simp only [h, if_false] <;> omega
 ·cases hi with
  | none => simp [sliceBounds, HT.sIx]
  | some i =>
   simp only [sliceBounds, HT.sIx, Option.getD_none, show (1 : Int) > 0 by decide, if_true]
   by_cases h : i < 0
   ·simp only [h, if_true] <;> omega
   ·simp only [h, if_false] <;> omega
theorem slicePick_cut (its : List Value) (lo hi : Option Int) : slicePick its.toArray lo hi none = ((its.drop (HT.sIx its.length 0 lo)).take (HT.sIx its.length its.length hi - HT.sIx its.length 0 lo)).toArray := by
 obtain ⟨h1, h2, h3⟩ := slice_bounds lo hi its.toArray.size
 unfold slicePick
 rw [h1, h2, h3]
 simp only [sliceRange_one, pick_run, List.size_toArray] <;> rfl
def rSlL (K : PySem.W.Frag) : V -> Option Int -> Option Int -> Hp -> VK -> Prop := fun x lo hi H Q => ∃ a xs, x = .ref a /\ SqL K H a xs /\ ∀ p, H p = none -> Q (.ref p) (upd H p (.lst (cutV xs lo hi)))
theorem sl_list : SlR X (rSlL X.K) := by
 intro pins s σ H x v vl vu lo hi sl Q I rx hs pl pu h
 obtain ⟨a, xs, rfl, hx, q⟩ := h
 cases rx
 obtain ⟨its, r, ht, hz⟩ := I.list hx
 have hlen := r.length
 refine ⟨"list", _, slot_list_getitem.lookup, ht.isList.typeIs, ?_⟩
 refine wpAny_getItem_list_slice ht.isList hs pl pu .none (by simp) ?_ (by rw [List.size_toArray] <;> omega)
 rw [slicePick_cut, ← hlen]
 refine ⟨.ref s.heap.objs.size, _, I.laid (t' := s.toks) (o := .lst (cutV xs lo hi)) (fun b ob q => Heap.get?_push_of_some _ q) (Nat.le_refl _) ?_, rfl, q _ (I.hok.fresh (Nat.le_refl _))⟩
 exact ⟨Nat.le_trans (cutV_length xs lo hi) hz, _, 0, (r.drop (HT.sIx xs.length 0 lo)).take (HT.sIx xs.length xs.length hi - HT.sIx xs.length 0 lo), Heap.get?_push_size _ rfl⟩
theorem call_len_seq : CallR X (.builtin "len") (fun xs H Q => ∃ p ys, xs = [.ref p] /\ (SqL X.K H p ys \/ SqT X.K H p ys) /\ Q (.int ys.length) H) := by
 intro pins s σ H xs us Q I r h
 obtain ⟨p, ys, rfl, hq, q⟩ := h
 obtain ⟨u, rfl, rx⟩ := vals1 r
 cases rx
 have hn := line63
 rcases hq with hq | hq
 ·obtain ⟨its, r', pl, hz⟩ := I.list hq
  have hlen := r'.length
  exact Calls.call_len_list pl.isList (by simp only [List.size_toArray] <;> omega) ⟨.int ys.length, H, I.tok _, ⟨s.toks + 1, by rw [List.size_toArray, hlen]⟩, q⟩
 ·obtain ⟨its, r', pl, hz⟩ := I.tuple hq
  have hlen := r'.length
  exact len_tuple pl (by simp only [List.size_toArray] <;> omega) ⟨.int ys.length, H, I.tok _, ⟨s.toks + 1, by rw [List.size_toArray, hlen]⟩, q⟩
theorem call_list_of : CallR X (.type "list") (fun xs H Q => ∃ p ys, xs = [.ref p] /\ (SqL X.K H p ys \/ SqT X.K H p ys) /\ ∀ l, H l = none -> Q (.ref l) (upd H l (.lst ys))) := by
 intro pins s σ H xs us Q I r h
 obtain ⟨p, ys, rfl, hq, q⟩ := h
 obtain ⟨u, rfl, rx⟩ := vals1 r
 cases rx
 have fin : ∀ (its : List Value), Vals ys its -> ys.length <= sizeLine -> ∀ (h' : Heap) (c' : Nat), (∀ b o', s.heap.get? b = some o' -> h'.get? b = some o') ->
   h'.get? s.heap.objs.size = some { cls := .type "list", dict := none, data := .seq its.toArray c', slots := #[] } -> EP X pins σ Q (.ref s.heap.objs.size) { s with heap := h' } := fun its r' hz h' c' kp e =>
  ⟨.ref s.heap.objs.size, _, I.laid (t' := s.toks) kp (Nat.le_refl _) (show ObjOk X.prog X.w _ h' _ (.lst ys) from ⟨hz, its, c', r', e⟩), rfl, q _ (I.hok.fresh (Nat.le_refl _))⟩
 rcases hq with hq | hq
 ·obtain ⟨its, r', pl, hz⟩ := I.list hq
  have hlen := r'.length
  obtain ⟨o, ho, hc, n, hd⟩ := pl.isList
  exact call_list_seq p (.inl rfl) ho hc hd (fun h' c' kp e => fin its r' hz h' c' kp e) (by simp only [List.size_toArray] <;> omega)
 ·obtain ⟨its, r', pl, hz⟩ := I.tuple hq
  have hlen := r'.length
  obtain ⟨o, ho, hc, n, hd⟩ := pl
  exact call_list_seq p (.inr rfl) ho hc hd (fun h' c' kp e => fin its r' hz h' c' kp e) (by simp only [List.size_toArray] <;> omega)
def tyV (K : PySem.W.Frag) (T : String) (x : V) (H : Hp) : Prop := match x with
 | .str _ => T = "str"
 | .int _ => T = "int"
 | .ref p => (T = "list" /\ ∃ xs, SqL K H p xs) \/ (T = "tuple" /\ ∃ o, K.lookup p = some o /\ o.cls = .type "tuple" /\ o.dict = none) \/
   (T = "dict" /\ ((∃ kvs, H p = some (.dK kvs)) \/ ∃ kvs, H p = some (.dT kvs))) \/ (T = "set" /\ ∃ S n, H p = some (.set S n))
 | _ => False
theorem tyV_is {pins : List (Addr × Obj)} {σ : St} {H : Hp} {s : Shared} {T : String} {x : V} {v : Value} (I : Inv X pins σ H s) (r : RelV x v) (ty : tyV X.K T x H) :
  s.TypeIs v T /\ ∀ a, v = .ref a -> ∃ ob, s.heap.get? a = some ob /\ ob.dict = none := by
 cases x with
 | str z =>
  obtain ⟨t, rfl⟩ := r
  cases (show T = "str" from ty)
  exact ⟨typeIs_str s z t, fun _ e => nomatch e⟩
 | int i =>
  obtain ⟨t, rfl⟩ := r
  cases (show T = "int" from ty)
  exact ⟨typeIs_int s i t, fun _ e => nomatch e⟩
 | ref p =>
  cases r
  rcases ty with ⟨rfl, xs, hq⟩ | ⟨rfl, o, hk, hc, hd⟩ | ⟨rfl, hk⟩ | ⟨rfl, S, n, hk⟩
  ·obtain ⟨its, _, pl, _⟩ := I.list hq
   refine ⟨pl.isList.typeIs, fun a e => ?_⟩
   cases e
   obtain ⟨o, n, e, c, hd, _⟩ := pl
   exact ⟨o, e, hd⟩
  ·refine ⟨⟨o, I.kIn p o hk, hc⟩, fun a e => ?_⟩
   cases e
   exact ⟨o, I.kIn _ o hk, hd⟩
  ·have z : ∃ o, s.heap.get? p = some o /\ o.ExactDict := by
    rcases hk with ⟨kvs, hk⟩ | ⟨kvs, hk⟩
    ·obtain ⟨_, _, _, _, o, _, _, e, ex, _⟩ := I.hok p _ hk
     exact ⟨o, e, ex⟩
    ·obtain ⟨_, _, _, _, o, _, _, e, ex, _⟩ := I.hok p _ hk
     exact ⟨o, e, ex⟩
   obtain ⟨o, e, ex⟩ := z
   refine ⟨⟨o, e, ex.1⟩, fun a e2 => ?_⟩
   cases e2
   exact ⟨o, e, ex.2.1⟩
  ·obtain ⟨o, _, _, _, e, ex, _⟩ := I.hok p _ hk
   refine ⟨⟨o, e, ex.1⟩, fun a e2 => ?_⟩
   cases e2
   exact ⟨o, e, ex.2.1⟩
 | _ => exact False.elim ty
def tBM (K : PySem.W.Frag) (T : String) (r : V -> List V -> Hp -> VK -> Prop) (to : TE) (t : TA) : TE := fun σ H Q => to σ H fun x H1 => tyV K T x H1 /\ t σ H1 fun xs H2 => r x xs H2 Q
variable {o e : Expr} {es : List Expr} {to : TE} {t : TA} {name : Str} {apos cpos : Pos} {T id : String} {r : V -> List V -> Hp -> VK -> Prop}
theorem pe_bm (pa : PlainAttrs T) (slot : Slot T name id) (hty : typeOf (.builtin id) = pure (.type "method_descriptor")) (hm : MtR X id r) (ho : PE X o to) (ha : PA X (e :: es) t)
  (hbase : attributeBase o name X.env (eval o X.env) = eval o X.env := by rfl)
  (hfew : ((backTo cpos (starEach (e :: es) X.env)).all (fun x => !x.1) && (backToKw cpos (keywordEach [] X.env)).all (fun x => x.1.isSome)
   && decide ((e :: es).length + ([] : List Keyword).length + (if ([] : List Keyword).isEmpty then 0 else 1) < 30)) = true := by rfl)
  (hline : (apos.endLine == cpos.line) = true := by rfl) (hs : starEach (e :: es) X.env = (false, eval e X.env) :: starEach es X.env := by rfl) (hplain : (backTo cpos (starEach es X.env)).any (·.1) = false := by rfl) :
  PE X (.Call (.Attribute o name apos) (e :: es) [] cpos) (tBM X.K T r to t) := by
 intro pins s σ H Q I h
 refine wpAny_Call_method_late hbase hfew hline rfl (thn (ho pins s σ H _ I h) fun v s1 ⟨x, H1, I1, r1, ty, q1⟩ => ?_)
 obtain ⟨h1, h2⟩ := tyV_is I1 r1 ty
 refine ⟨T, id, pa, slot, hty, h1, h2, ?_⟩
 have hA := ha cpos pins s1 σ H1 _ I1 q1
 rw [hs] at hA ⊢
 refine Calls.callWith_builtin (by show (false || (backTo cpos (starEach es X.env)).any (·.1)) = false; rw [hplain] <;> rfl) (Calls.evalArgs_plain ?_)
 exact thn hA fun us s2 ⟨vs, H2, I2, r2, q2⟩ => hm pins s2 σ H2 x vs v us Q I2 r1 r2 q2
/- xs.append(e), list.index on a module's tuple .. are MtR facts of 06m -/
end
end L2
namespace L2
open PySem PySem.Spec PyProof.Rows
def MtM (X : Cx) (id : String) (r : V -> List V -> Hp -> VK -> Prop) : Prop :=
 ∀ (pins : List (Addr × Obj)) (s : Shared) (σ : St) (H : Hp) (x : V) (xs : List V) (v : Value) (us : List Value) (Q : VK), Inv X pins σ H s -> RelV x v -> Vals xs us -> r x xs H Q ->
  wpAny (model X.prog X.w) X.A (call (.builtin id) (v :: us)) (EP X pins σ Q) X.xe s
theorem Vals.one : ∀ {x : V} {us : List Value}, Vals [x] us -> ∃ u, us = [u] /\ RelV x u
 | _, _, .cons r .nil => ⟨_, rfl, r⟩
section
variable {X : Cx} {pins : List (Addr × Obj)} {σ : St} {H : Hp} {s : Shared} {l b : Addr} {xs ys zs : List V}
theorem Inv.lset {its its' : List Value} {n : Nat} {f : Array Value -> Array Value} {t' : Nat} (I : Inv X pins σ H s) (hH : H l = some (.lst xs))
  (e : s.heap.get? l = some { cls := .type "list", data := .seq its.toArray n }) (hf : f its.toArray = its'.toArray) (hv : Vals ys its') (hz : ys.length <= sizeLine) :
  Inv X pins σ (upd H l (.lst ys)) { s with heap := s.heap.update l (Obj.mapSeq f), toks := t' } := by
 have q := PySem.IsL.update e f
 rw [hf] at q
 refine I.write (x := l) (e := l) (by rw [hH]; exact trivial) (.inl rfl) (fun b' u hb hu => (Heap.get?_update_other s.heap (Obj.mapSeq f) (Ne.symm hb)).trans hu) ⟨_, q⟩ ?_
 exact ⟨hz, its', _, hv, q⟩
theorem Inv.lnew {its : List Value} {t' : Nat} (I : Inv X pins σ H s) (hv : Vals ys its) (hz : ys.length <= sizeLine) :
  Inv X pins σ (upd H s.heap.objs.size (.lst ys)) { s with heap := s.heap.push { cls := .type "list", data := .seq its.toArray }, toks := t' } :=
 I.laid (fun _ _ q => Heap.get?_push_of_some _ q) (Nat.le_refl _) ⟨hz, its, 0, hv, Heap.get?_push_size _ rfl⟩
theorem Inv.fresh (I : Inv X pins σ H s) : H s.heap.objs.size = none := I.hok.fresh (Nat.le_refl _)
theorem Inv.lstM (I : Inv X pins σ H s) (hH : H l = some (.lst xs)) : xs.length <= sizeLine /\ ∃ (its : List Value) (n : Nat), Vals xs its /\ xs.length = its.length /\ s.heap.get? l = some { cls := .type "list", data := .seq its.toArray n } := by
 obtain ⟨z, its, n, r, e⟩ := I.hok l _ hH
 exact ⟨z, its, n, r, r.length, e⟩
end
section
variable {X : Cx}
def rAppend : V -> List V -> Hp -> VK -> Prop := fun x vs H Q => ∃ l xs y, x = .ref l /\ vs = [y] /\ H l = some (.lst xs) /\ xs.length < sizeLine /\ Q .non (upd H l (.lst (xs ++ [y])))
theorem mt_append : MtM X "list.append" rAppend := by
 intro pins s σ H x vs v us Q I rx rv h
 obtain ⟨l, xs, y, rfl, rfl, hH, hz, q⟩ := h
 cases rx
 obtain ⟨u, rfl, ru⟩ := rv.one
 obtain ⟨z, its, n, r, hl, e⟩ := I.lstM hH
 refine call_meets F.slot_list_append ⟨_, e, rfl⟩ F.entry_list_append (F.args_list_append_2 _ _) (PySem.list_append l its.toArray n u (by rw [List.size_toArray]; omega)) ⟨e, ?_⟩
 refine ⟨.non, _, I.lset (its' := its ++ [u]) hH e (by simp) (r.append (.cons ru .nil)) ?_, rfl, q⟩
 rw [List.length_append, List.length_singleton]
 omega
noncomputable def rCat : R2 := fun x y H Q => ∃ l b xs zs, x = .ref l /\ y = .ref b /\ H l = some (.lst xs) /\ H b = some (.lst zs) /\ xs.length + zs.length <= sizeLine /\ ∀ p, H p = none -> Q (.ref p) (upd H p (.lst (xs ++ zs)))
theorem op_cat : OpR X (binaryOp .Add) rCat := by
 intro pins s σ H x y v u Q I rx ry h
 obtain ⟨l, b, xs, zs, rfl, rfl, hH, hB, hz, q⟩ := h
 cases rx
 cases ry
 obtain ⟨z, its, n, r, hl, e⟩ := I.lstM hH
 obtain ⟨z2, its2, n2, r2, hl2, e2⟩ := I.lstM hB
 refine PySem.P.add_list e e2 ?_ (by rw [List.size_toArray, List.size_toArray]; omega)
 have ea : its.toArray ++ its2.toArray = (its ++ its2).toArray := by simp
 rw [ea]
 exact ⟨.ref _, _, I.lnew (t' := s.toks) (r.append r2) (by rw [List.length_append]; omega), rfl, q _ I.fresh⟩
end
section
variable {prog : Program} {w : World} {A : Around} {E : Value -> Shared -> Prop} {s : Shared}
end
section
variable {X : Cx}
end
end L2
namespace L2
open PySem PySem.Spec PyProof.Rows
section
variable {κ : Type} [DecidableEq κ]
end
section
variable {P : Program} {w : World} {H : Hp} {h : Heap} {a : Addr}
end
section
variable {X : Cx} {pins : List (Addr × Obj)} {σ : St} {H : Hp} {s : Shared} {a : Addr} {y v : V} {u r : Value} {o : Option V} {A : Around} {E : Value -> Shared -> Prop}
end
section
variable {X : Cx} {pins : List (Addr × Obj)} {σ : St} {H : Hp} {s : Shared} {a : Addr} {kvs : List (Key × V)} {k : Key} {u : Value} {A : Around} {E : Value -> Shared -> Prop}
end
section
variable {X : Cx} {o i e value : Expr} {pos pos' tpos : Pos} {td ty tv : TE}
end
section
variable {X : Cx} {pos : Pos}
end
section
variable {X : Cx} {pins : List (Addr × Obj)} {σ : St} {H : Hp} {s : Shared} {a : Addr} {y d : V} {u r : Value} {o : Option V} {A : Around} {E : Value -> Shared -> Prop}
end
section
variable {X : Cx} {o e f : Expr} {apos cpos : Pos} {td ty tx : TE}
end
section
variable {X : Cx} {pins : List (Addr × Obj)} {σ : St} {H : Hp} {s : Shared} {a : Addr} {kvs : List (Key × V)} {A : Around} {E : Value -> Shared -> Prop}
end
section
variable {X : Cx} {pins : List (Addr × Obj)} {σ : St} {H : Hp} {s : Shared} {a : Addr} {y : V} {u : Value} {A : Around} {E : Value -> Shared -> Prop}
end
end L2
namespace Att
open PySem PySem.W PySem.Calls PyProof.Rows
theorem ints_of_wellAll {P : Params} {h : Heap} : ∀ (ns : List Int) (vs : List Value), WellAll P h vs (ns.map WData.int) -> IntsAre vs ns := by
 intro ns
 induction ns with
 | nil =>
  intro vs w
  rw [List.map_nil] at w
  cases w
  exact .nil
 | cons n ns ih =>
  intro vs w
  rw [List.map_cons] at w
  cases w with
  | cons a b =>
   cases a
   exact .cons _ _ (ih _ b)
theorem script_of {l : OpenLaw} {n : Nat} (hn : l.most = some n) {P : Params} {h : Heap} {args : List WData} {vals : List Value}
  (hpre : l.row.toRowW.claim.pre args = true) (hwl : WellAll P h vals args) :
  ∃ a vs ns, vals = [Value.ref a] /\ args = [WData.list (ns.map WData.int)] /\ h.get? a = some { cls := .type "list", data := .seq vs.toArray } /\ IntsAre vs ns /\ ns.length <= n := by
 have hsh : WShape.hasAll [] args [.list .int] = true := (pre_splitW hpre).1
 have hc : l.pre.holds [] { args := args } = true := (pre_splitW hpre).2
 obtain ⟨d, r, rfl, h1, h2⟩ := hasAllW_cons hsh
 obtain rfl := hasAllW_nil h2
 obtain ⟨xs, rfl, h3⟩ := hasW_list h1
 obtain ⟨ns, rfl⟩ := items_int h3
 have hlen : ns.length <= n := by
  unfold OpenLaw.pre at hc
  have h4 : (WTm.not (.lt (.lit (.int (n : Int))) (.len (.arg 0)))).holds [] { args := [.list (ns.map .int)] } = true := by
   have h4 := (holds_andW hc).1
   rw [hn] at h4
   exact h4
  have h5 := condW_of h4 (w_not (w_lt w_lit (w_len_list (w_arg rfl))))
  rw [List.length_map] at h5
  refine Nat.le_of_not_lt fun q => ?_
  have q' : (n : Int) < ((ns.length : Nat) : Int) := by omega
  first
   | (rw [decide_eq_true q'] at h5; exact absurd h5 (by decide))
   | (simp at h5; omega)
 cases hwl with
 | cons w1 w2 =>
  cases w2
  cases w1 with
  | list ho hall => exact ⟨_, _, ns, rfl, rfl, ho, ints_of_wellAll ns _ hall, hlen⟩
theorem post_true (l : OpenLaw) (args : List WData) : l.row.toRowW.claim.post args (.bool true) args = true :=
 postW_of (r := l.row.toRowW) (X := (true == true))
  (show WShape.has [] (.bool true) .bool = true by first | rfl | decide | simp [WShape.has, WShape.arms, WShape.armsAll])
  (show (WTm.eq .res (.lit (.bool true))).value [] { args := args, res := some (.bool true), after := args } = some (.bool (true == true)) from w_eq_bool (w_res rfl) w_lit) rfl
theorem attach_call {l : OpenLaw} {n : Nat} {q : Program} {loose : List Str} {XP : (Str -> Option Value) -> Heap -> Prop} {YP : World -> Heap -> Prop} {d : DefRec}
  (hn : l.most = some n) (hdf : d.params.defaults = [])
  (call : ∀ (w : World) (s₀ s₁ : Shared) (mg mb : Str -> Option Value) (fa : Addr) (o : Obj) (pm cd doc : Value) (a : Addr) (vs : List Value) (ns : List Int),
   Ground q loose [] XP w s₀ mg mb s₁.heap -> YP w s₁.heap ->
   s₁.heap.get? fa = some o -> o.data = .func (docDef d.name d.params d.body d.scope pm cd doc) -> s₁.heap.CodeRec cd d.name -> mg d.name = some (.ref fa) ->
   s₁.heap.get? a = some { cls := .type "list", data := .seq vs.toArray } -> IntsAre vs ns -> ns.length <= n -> s₁.gens = #[] ->
   codeAny (model l.prog w) callerA (.call (.ref fa) ⟨[.ref a], []⟩) (fun r s' => r = .ok (.ret (.bool true)) /\ OldK s₁.heap s'.heap /\ s'.os = s₁.os /\ AllBare s'.gens) s₁) :
  WalkO q loose XP YP l.row.toRowW d [] (fun f vs => PySem.call f vs) := by
 intro w s₀ s₁ mg mb G Y fa o pm cd doc dV kV ho hd hcd hD hmg hg args vals as hpre hlay hrd hwl hlo
 obtain rfl : dV = .none := Dflts.none hD hdf
 obtain rfl : kV = .none := Dflts.noKw hD
 obtain ⟨a, vs, ns, rfl, rfl, hobj, hints, hlen⟩ := script_of hn hpre hwl
 refine enter_call (codeAny_mono (call w s₀ s₁ mg mb fa o pm cd doc a vs ns G Y ho (fd_plain hd) hcd hmg hobj hints hlen hg) fun r s' hq => ?_)
 obtain ⟨rfl, h2, h3, h4⟩ := hq
 exact ⟨.inl ⟨.bool true, .bool true, [], rfl, fun _ => rfl, .bool true, post_true l _, fun _ => ⟨List.Pairwise.nil, fun _ hm => (nomatch hm)⟩⟩, h2, h3, h4⟩
section
variable {prog : Program} {w : World} {A : Around} {E : Value -> Shared -> Prop} {s : Shared} {K : Frag}
end
end Att
namespace L2
open PySem PySem.Spec PyProof.Rows
theorem vals_ints : ∀ {vs : List Value} {ns : List Int}, IntsAre vs ns -> Vals (ns.map V.int) vs
 | _, _, .nil => .nil
 | _, _, .cons n t h => .cons ⟨t, rfl⟩ (vals_ints h)
def Only (H : Hp) : Prop := ∀ b, H b = none \/ ∃ o xs, H b = some (.frz o (.lst xs))
theorem law_call {P : Program} {w : World} {K : PySem.W.Frag} {mg mb : Str -> Option Value} {CX : CXT} {k : Nat} {fa a : Addr} {fd : FuncData} {x : Str} {sp : Sp} {s₁ : Shared} {vs : List Value} {ns : List Int}
  (KX : K.In s₁.heap) (hns : s₁.heap.Ns mainGlobals mg) (hb : s₁.heap.Ns builtinsNs mb) (hbb : ∀ x : Str, x ≠ "__name__" -> mb x = bootBuiltins x) (hlim : s₁.heap.NoLimit) (hg : s₁.gens = #[])
  (ha : s₁.heap.get? a = some { cls := .type "list", data := .seq vs.toArray }) (hi : IntsAre vs ns) (hl : ns.length <= sizeLine) (hr : Room k callerA)
  (F : ∀ base : Heap, K.In base -> base.Ns mainGlobals mg -> FnOk P w K mg base CX k fa fd [x] sp) (hbind : ∀ (s : Shared) (u : Value), BindsTo s fd ⟨[u], []⟩ [(x, u)])
  (hsp : ∀ H : Hp, Only H -> SqL K H a (ns.map V.int) -> sp [.ref a] H (fun v _ => v = .bl true) fun _ _ _ => False)
  (hCX : ∀ H e s', CX [] H s₁ (fun _ _ _ => False) e s' -> False) :
  codeAny (model P w) callerA (.call (.ref fa) ⟨[.ref a], []⟩) (fun r s' => r = .ok (.ret (.bool true)) /\ OldK s₁.heap s'.heap /\ s'.os = s₁.os /\ AllBare s'.gens) s₁ := by
 have rv := vals_ints hi
 have lenV := hi.length
 -- from an abstract heap in which nothing but the script may be tracked
 have core : ∀ H : Hp, Only H -> SqL K H a (ns.map V.int) -> HOk P w H s₁.heap -> (∀ b, H b ≠ none -> b = a) -> (H a ≠ none -> K.lookup a = none) ->
   codeAny (model P w) callerA (.call (.ref fa) ⟨[.ref a], []⟩) (fun r s' => r = .ok (.ret (.bool true)) /\ OldK s₁.heap s'.heap /\ s'.os = s₁.os /\ AllBare s'.gens) s₁ := by
  intro H hO hS hok hA hK
  have base_of : ∀ {b : Addr} {o : Obj}, s₁.heap.get? b = some o -> H b = none -> (hidT s₁.heap H).get? b = some o := fun e n => hidT_get e n
  have noA : ∀ {b : Addr} {o : Obj} {es : Array DictEntry} {ep : Nat}, s₁.heap.get? b = some o -> o.data = .dict es ep -> H b = none := fun {b o es ep} e d => by
   cases q : H b with
   | none => rfl
   | some u =>
    have e' : b = a := hA b (by rw [q]; simp)
    subst e'
    rw [ha] at e; cases e
    have d' : Data.seq vs.toArray _ = Data.dict es ep := d
    cases d'
  have nsK : ∀ {b : Addr} {m : Str -> Option Value}, s₁.heap.Ns b m -> (hidT s₁.heap H).Ns b m := fun {b m} ⟨o, es, ep, e, d, r⟩ => ⟨o, es, ep, base_of e (noA e d), d, r⟩
  have hKb : K.In (hidT s₁.heap H) := fun b o e => base_of (KX b o e) (by
   cases q : H b with
   | none => rfl
   | some u =>
    have e' : b = a := hA b (by rw [q]; simp)
    subst e'
    rw [hK (by rw [q]; simp)] at e; cases e)
  have hM : Mod K mg (hidT s₁.heap H) := ⟨hKb, nsK hns, ⟨mb, nsK hb, hbb⟩, let ⟨mc, h1, h2⟩ := hlim; ⟨mc, nsK h1, h2⟩⟩
  have e0 : Env0 P w K mg (hidT s₁.heap H) callerA [] s₁ H := ⟨rfl, hM, fun b o e => of_hidT e, Nat.le_of_eq (hidT_size _ _), trivial, fun b hb => absurd (show b ∈ ([] : List Addr) from hb) (by simp), hok, .of_eq hg⟩
  refine codeAny_mono ((F _ hKb (nsK hns)).run callerA [] s₁ H ⟨[.ref a], []⟩ [.ref a] [.ref a] _ _ hr e0 (hbind s₁ (.ref a)) (.cons rfl .nil) (hsp H hO hS)) fun r s' h => ?_
  cases r with
  | error e => exact (hCX H e s' h).elim
  | ok fl =>
   cases fl with
   | next => exact False.elim h
   | brk => exact False.elim h
   | cont => exact False.elim h
   | ret u =>
    obtain ⟨v, H', os, bare, un, hok', r', q⟩ := h
    have q' : v = .bl true := q
    subst q'
    obtain rfl : u = Value.bool true := r'
    refine ⟨rfl, OldK.of_keep fun b o e => ?_, os, bare⟩
    cases q : H b with
    | none => exact un.keep b o e q (by intro z; exact absurd (show b ∈ ([] : List Addr) from z) (by simp)) (by simp)
    | some u =>
     rcases hO b with z | ⟨ob, xs, z⟩
     ·rw [q] at z; cases z
     ·have z2 := un.frzs b ob _ z
      obtain ⟨e1, _⟩ := hok b _ z
      obtain ⟨e2, _⟩ := hok' b _ z2
      rw [e] at e1; cases e1
      exact e2
 cases hk : K.lookup a with
 | some o =>
  -- the script is one of the module's own objects
  have e := KX a o hk
  rw [ha] at e
  cases e
  refine core (fun _ => none) (fun _ => .inl rfl) (.inr ⟨_, vs.toArray, _, hk, rfl, ⟨rfl, rfl⟩, rfl, by rw [List.size_toArray, lenV]; exact hl, by simpa using rv⟩) (fun b u z => by have z' : (none : Option HO) = some u := z; cases z') (fun b z => absurd rfl z) fun z => absurd rfl z
 | none =>
  refine core (fun b => if b = a then some (.frz { cls := .type "list", data := .seq vs.toArray } (.lst (ns.map V.int))) else none) (fun b => ?_) (.inl (.inr ⟨{ cls := .type "list", data := .seq vs.toArray }, if_pos rfl⟩)) (fun b u z => ?_) (fun b z => ?_) fun _ => hk
  ·by_cases hb : b = a
   ·exact .inr ⟨_, _, if_pos hb⟩
   ·exact .inl (if_neg hb)
  ·by_cases hb : b = a
   ·have z' := (if_pos hb).symm.trans z
    cases z'
    subst hb
    exact ⟨ha, by rw [List.length_map]; exact hl, vs, _, rv, ha⟩
   ·have z' := (if_neg hb).symm.trans z
    cases z'
  ·by_cases hb : b = a
   ·exact hb
   ·exact absurd (if_neg hb) z
end L2
namespace L2
open PySem PySem.Spec PyProof.Rows
theorem walk_of {l : PySem.W.OpenLaw} {n k : Nat} {q : Program} {loose : List Str} {XP : (Str -> Option Value) -> Heap -> Prop} {YP : World -> Heap -> Prop} {d : DefRec} {K : Params -> PySem.W.Frag} {CX : World -> CXT} {sp : World -> Sp} {x : Str}
  (hn : l.most = some n) (hn2 : n <= sizeLine) (hdf : d.params.defaults = []) (hr : Room k callerA)
  (hY : ∀ (w : World) (h : Heap), YP w h -> (K w.params).In h)
  (F : ∀ (w : World) (mg : Str -> Option Value) (fa : Addr) (h : Heap), (K w.params).In h -> h.Ns mainGlobals mg -> mg d.name = some (.ref fa) ->
   ∃ fd : FuncData, (∀ (s : Shared) (u : Value), BindsTo s fd ⟨[u], []⟩ [(x, u)]) /\
    ∀ base : Heap, (K w.params).In base -> base.Ns mainGlobals mg -> FnOk l.prog w (K w.params) mg base (CX w) k fa fd [x] (sp w))
  (hsp : ∀ (w : World) (H : Hp) (a : Addr) (ns : List Int), ns.length <= n -> Only H -> SqL (K w.params) H a (ns.map V.int) -> sp w [.ref a] H (fun v _ => v = .bl true) fun _ _ _ => False)
  (hCX : ∀ (w : World) (H : Hp) (s : Shared) (e : Value) (s' : Shared), CX w [] H s (fun _ _ _ => False) e s' -> False) :
  PySem.W.WalkO q loose XP YP l.row.toRowW d [] (fun f vs => PySem.call f vs) := by
 refine Att.attach_call hn hdf fun w s₀ s₁ mg mb fa o pm cd doc a vs ns G Y ho hd hcd hmg hobj hints hlen hg => ?_
 have KX := hY w _ Y
 obtain ⟨fd, hb, hF⟩ := F w mg fa _ KX G.T.g hmg
 exact law_call KX G.T.g G.T.b G.T.builtins G.T.nolimit hg hobj hints (Nat.le_trans hlen hn2) hr hF hb (fun H hO hS => hsp w H a ns hlen hO hS) fun H e s' => hCX w H s₁ e s'
theorem walk_ofK {l : PySem.W.OpenLaw} {n k : Nat} {q : Program} {loose : List Str} {XP : (Str -> Option Value) -> Heap -> Prop} {YP : World -> Heap -> Prop} {d : DefRec} {K : Params -> PySem.W.Frag} {CX : CXT} {sp : PySem.W.Frag -> Sp} {x : Str}
  (hn : l.most = some n) (hn2 : n <= sizeLine) (hdf : d.params.defaults = []) (hr : Room k callerA)
  (hY : ∀ (w : World) (h : Heap), YP w h -> (K w.params).In h)
  (F : ∀ (w : World) (mg : Str -> Option Value) (fa : Addr) (h : Heap), (K w.params).In h -> h.Ns mainGlobals mg -> mg d.name = some (.ref fa) ->
   ∃ fd : FuncData, (∀ (s : Shared) (u : Value), BindsTo s fd ⟨[u], []⟩ [(x, u)]) /\
    ∀ base : Heap, (K w.params).In base -> base.Ns mainGlobals mg -> FnOk l.prog w (K w.params) mg base CX k fa fd [x] (sp (K w.params)))
  (hsp : ∀ (K : PySem.W.Frag) (H : Hp) (a : Addr) (ns : List Int), ns.length <= n -> Only H -> SqL K H a (ns.map V.int) -> sp K [.ref a] H (fun v _ => v = .bl true) fun _ _ _ => False)
  (hCX : ∀ (H : Hp) (s : Shared) (e : Value) (s' : Shared), CX [] H s (fun _ _ _ => False) e s' -> False) :
  PySem.W.WalkO q loose XP YP l.row.toRowW d [] (fun f vs => PySem.call f vs) :=
 walk_of (K := K) (CX := fun _ => CX) (sp := fun w => sp (K w.params)) hn hn2 hdf hr hY F (fun w H a ns h1 h2 h3 => hsp (K w.params) H a ns h1 h2 h3) fun _ H s e s' => hCX H s e s'
end L2
/- THE LAST THEOREM (shape; LID, My.* are yours):
   My.Adr: a structure of the addresses that your layer names (classes, functions); My.Txt K t: a structure (Prop) of the equations over K;
   My.txt_mk : {K} {implicit addresses ..} (e1 : nsIn K mainGlobals "law" = some (some (.ref f))) (e2 : K.lookup f = some ⟨oc, od, .func (fnOf "law" "law" params body scope dV kV doc pm an cdv ct), sl⟩) (e3 : codeIn K cdv "law" = true) .. : ∃ t, My.Txt K t
set_option maxRecDepth 100000 in
set_option maxHeartbeats 0 in
theorem PySem.Challenge.cw_LID_holds : PySem.Challenge.rw_LID.Holds := by
 w_on; o_law; k_head; (case hw => w_witness2)
 k_fill
 refine L2.walk_of (l := PySem.Challenge.rw_LID) (n := 63) (k := 40) (x := "script") (CX := fun w => ..) (sp := fun _ => My.sp_law) rfl (by decide) rfl ⟨rfl, by decide, by decide⟩ (fun w h Y => PySem.W.kIn_of Y) ?F ?S ?C
 case F =>
  intro w mg fa h KX G hmg
  have T : ∃ t, My.Txt (L2.KOf KX) t := by
   dsimp only [L2.KOf]                          -- K must stand as «<heap const> w.params» for k_is
   refine' My.txt_mk ?e1 ?e2 ?e3 ..
   (case e1 => PySem.W.k_is)                    -- in the order: a name -> its address -> its object -> its parts
   (case e2 => PySem.W.k_is)
   ..
  obtain ⟨t, T⟩ := T
  have e0 := hmg.symm.trans (PySem.W.mg_of KX G T.law)
  cases e0                                       -- fa is the law's own address
  exact ⟨_, fun s u => .of_eq rfl, fun base kb nb => My.law_fn T kb nb⟩     -- if «.of_eq rfl» comes too early: refine' ⟨_, ?b, fun base kb nb => My.law_fn T kb nb⟩; exact fun s u => .of_eq rfl
 case S => exact fun w H a ns hl hO hS => ..
 case C => exact ..
(the tactic k_is has no namespace: write k_is) -/
namespace L2
open PySem PySem.Spec PyProof.Rows
noncomputable def inClass (s : Stmt) (j : Nat) : Stmt := match s with
 | .ClassDef _ _ _ body _ _ _ _ _ _ _ => body.getD j (.Pass ⟨0, 0, 0, 0⟩)
 | _ => .Pass ⟨0, 0, 0, 0⟩
noncomputable def defArgs (s : Stmt) : Arguments := match s with
 | .FunctionDef _ a _ _ _ _ _ _ _ _ => a
 | _ => { posonlyargs := [], args := [], vararg := none, kwonlyargs := [], kw_defaults := [], kwarg := none, defaults := [] }
noncomputable def defBody (s : Stmt) : List Stmt := match s with
 | .FunctionDef _ _ b _ _ _ _ _ _ _ => b
 | _ => []
noncomputable def defScope (s : Stmt) : Scope := match s with
 | .FunctionDef _ _ _ _ _ _ sc _ _ _ => sc
 | _ => { kind := .function, names := [], isGenerator := false, isCoroutine := false }
noncomputable abbrev CX0 : CXT := fun _ _ _ _ _ _ => False
abbrev E0 : XK := fun _ _ _ => False
theorem pass0 {X : Cx} : Passes CX0 X E0 := fun _ _ _ _ _ _ _ h => h.elim
structure Fun (K : PySem.W.Frag) (x qual : Str) (st : Stmt) (f : Addr) (fd : FuncData) : Prop where
 ex : ∃ (oc : Value) (od : Option Addr) (kV doc pm : Value) (an : Option Addr) (cdv ct : Value) (osl : Array (Option Value)),
  fd = PySem.W.fnOf x qual (defArgs st) (defBody st) (defScope st) .none kV doc pm an cdv ct /\ K.lookup f = some ⟨oc, od, .func fd, osl⟩ /\ PySem.W.codeIn K cdv qual = true
 kp : PySem.W.keepIn K (.ref f) = true
section
variable {P : Program} {w : World} {K : PySem.W.Frag} {mg : Str -> Option Value} {base : Heap}
theorem Fun.ok {x qual : Str} {st : Stmt} {f : Addr} {fd : FuncData} {N ps : List Str} {k : Nat} {sp : Sp} (F : Fun K x qual st f fd) (S : FnScope N ps (defScope st)) (len : ∀ vs H Q E, sp vs H Q E -> vs.length = ps.length)
  (hbody : ∀ (cdv : Value) (A : Around) (outer : List Env) (s : Shared) (H : Hp) (vs : List V) (Q : VK) (E : XK), Room k (A.deeper (envOfC qual (defScope st) s.heap.objs.size f cdv)) -> sp vs H Q E ->
   ∃ t, PSs (cxOf CX0 P w K mg base N qual (defScope st) f cdv A outer s H E).nox (defBody st) t /\ t { nx := fun _ H' => Q .non H', rt := Q } (start N vs) H) : FnOk P w K mg base CX0 (k + 1) f fd ps sp := by
 obtain ⟨oc, od, kV, doc, pm, an, cdv, ct, osl, rfl, lk, hcd⟩ := F.ex
 refine fn_of lk hcd S len fun A outer s H vs Q E hr hsp => ?_
 obtain ⟨t, h, q⟩ := hbody cdv A outer s H vs Q E hr hsp
 exact ⟨t, h.nox, q⟩
theorem Fun.binds {x qual : Str} {st : Stmt} {f : Addr} {fd : FuncData} {ps : List Str} (F : Fun K x qual st f fd)
  (h : ∀ (kV doc pm : Value) (an : Option Addr) (cdv ct : Value) (us : List Value), us.length = ps.length -> bindArgs (PySem.W.fnOf x qual (defArgs st) (defBody st) (defScope st) .none kV doc pm an cdv ct) ⟨us, []⟩ = pure (ps.zip us)) : Binds K fd ps [] := by
 obtain ⟨oc, od, kV, doc, pm, an, cdv, ct, osl, rfl, lk, hcd⟩ := F.ex
 exact .all (h kV doc pm an cdv ct)
theorem fun_mk {x qual : Str} {st : Stmt} {f : Addr} {oc : Value} {od an : Option Addr} {osl : Array (Option Value)} {kV doc pm cdv ct : Value} (l : K.lookup f = some ⟨oc, od, .func (PySem.W.fnOf x qual (defArgs st) (defBody st) (defScope st) .none kV doc pm an cdv ct), osl⟩)
  (c : PySem.W.codeIn K cdv qual = true) (k : PySem.W.keepIn K (.ref f) = true) : Fun K x qual st f (PySem.W.fnOf x qual (defArgs st) (defBody st) (defScope st) .none kV doc pm an cdv ct) := ⟨⟨oc, od, kV, doc, pm, an, cdv, ct, osl, rfl, l, c⟩, k⟩
end
section
variable {X : Cx}
end
end L2
namespace HS
open PySem PySem.Spec
def Rises (t : SetTable) : Prop := t.plain = true -> t.place.toList.Pairwise (· < ·)
end HS
namespace HS
open PySem PySem.Spec PyProof.Rows
noncomputable def val (e : Int × Value) : Int := match e.2 with | .int n _ => n | _ => 0
def IsE (e : Int × Value) : Prop := ∃ n t, e = (hashInt n, .int n t)
structure TabOk (led : Bool) (es : Array (Int × Value)) (t : SetTable) (xs : List Int) : Prop where
 el : ∀ e ∈ es.toList, IsE e
 pm : (es.toList.map val).Perm xs
 nd : xs.Nodup
 bd : es.size < scanBound
 ft : t.fits es.size = true
 rs : Rises t
 ld : t.led = led
structure TabW (led : Bool) (es : Array (Int × Value)) (t : SetTable) : Prop where
 bd : es.size < scanBound
 ft : t.fits es.size = true
 rs : Rises t
 ld : t.led = led
def SetG (led : Bool) (o : Obj) (xs : List Int) : Prop := ∃ es ep t, o.ExactSet /\ o.data = .set es ep t /\ TabOk led es t xs
section
variable {prog : Program} {w : World} {A : Around} {E : Value -> Shared -> Prop} {s : Shared}
noncomputable def plus (xs : List Int) (k : Int) : List Int := if k ∈ xs then xs else xs ++ [k]
theorem store_ok {a : Addr} {o : Obj} {es es' : Array (Int × Value)} {ep : Nat} {t t' : SetTable} {Q : Unit -> Shared -> Prop} (ho : s.heap.get? a = some o) (hx : o.ExactSet) (hd : o.data = .set es ep t)
  (hb : es'.size < scanBound)
  (h : ∀ h', Heap.SameBut a s.heap h' -> h'.get? a = some { o with data := .set es' (ep + 1) t' } -> Q () { s with heap := h' }) : wpAny (model prog w) A (storeSet a es' t') Q E s := by
 refine wpAny_storeSet_of ho hd (h _ (Heap.SameBut.update s.heap a _) ?_) (fits_of_scanBound hb)
 have q := Heap.get?_update_self (Obj.putSet es' t') ho (by rw [putSet_of es' t' hd]; rfl)
 rwa [putSet_of es' t' hd] at q
end
end HS
namespace HS
open PySem PySem.Spec PyProof.Rows
noncomputable def metOf (xs : List Int) (ns : List Int) : List Int := ns.foldl plus xs
section
variable {prog : Program} {w : World} {A : Around} {R : Result -> Shared -> Prop} {I : Addr} {fp wr : List Addr} {G : Array GenState -> Array GenState -> Prop} {n : Nat} {P : Nat -> Value -> Prop} {St : Nat -> Shared -> Prop}
end
section
variable {prog : Program} {w : World} {A : Around} {E : Value -> Shared -> Prop} {s : Shared}
end
end HS
namespace HS
open PySem PySem.Spec PyProof.Rows
section
variable {α : Type} {M : Model} {A : Around} {E : Value -> Shared -> Prop} {s : Shared}
end
end HS
namespace HS
open PySem PySem.Spec PyProof.Rows
section
variable {prog : Program} {w : World} {A : Around} {E : Value -> Shared -> Prop} {s : Shared}
end
end HS
namespace HS
open PySem PySem.Spec PyProof.Rows
section
variable {prog : Program} {w : World} {A : Around} {E : Value -> Shared -> Prop} {s : Shared}
end
end HS
namespace HS
open PySem PySem.Spec PyProof.Rows
section
variable {prog : Program} {w : World} {A : Around} {E : Value -> Shared -> Prop} {s : Shared}
end
variable {prog : Program} {w : World}
end HS
namespace HS
open PySem PySem.Spec PyProof.Rows
section
variable {prog : Program} {w : World} {A : Around} {E : Value -> Shared -> Prop} {s : Shared}
end
end HS
namespace HS
open PySem PySem.Spec PyProof.Rows
noncomputable def masks : List Nat := [7, 15, 31, 63, 127, 255]
end HS
namespace HS
open PySem PySem.Spec PyProof.Rows
section
variable {prog : Program} {w : World} {A : Around} {E : Value -> Shared -> Prop} {s : Shared}
end
end HS
namespace HS
open PySem PySem.Spec PyProof.Rows
section
variable {prog : Program} {w : World} {A : Around} {E : Value -> Shared -> Prop} {s : Shared}
end
end HS
namespace HS
open PySem PySem.Spec PyProof.Rows
section
variable {prog : Program} {w : World} {A : Around} {E : Value -> Shared -> Prop} {s : Shared}
end
end HS
namespace HS
open PySem PySem.Spec PyProof.Rows
section
variable {prog : Program} {w : World} {A : Around} {E : Value -> Shared -> Prop} {s : Shared}
end
end HS
namespace HS
open PySem PySem.Spec PyProof.Rows
section
variable {prog : Program} {w : World} {A : Around} {E : Value -> Shared -> Prop} {h : Heap} {g : Array GenState} {d : Drawn} {t : Nat} {os : OsState} {a : Addr} {its : Array Value} {n : Nat}
end
section
variable {prog : Program} {w : World} {A : Around} {R : Result -> Shared -> Prop} {I : Addr} {fp wr : List Addr} {n : Nat} {P : Nat -> Value -> Prop} {St : Nat -> Heap -> Prop}
structure PairAt (h : Heap) (v key val : Value) : Prop where
 ex : ∃ a o c, v = .ref a /\ h.get? a = some o /\ o.cls = .type "tuple" /\ o.data = .seq #[key, val] c
end
end HS
namespace HS
open PySem PySem.Spec PyProof.Rows
section
variable {prog : Program} {w : World} {A : Around} {E : Value -> Shared -> Prop} {s : Shared}
end
end HS
namespace L2
open PySem PySem.Spec PyProof.Rows
end L2
namespace L2
open PySem PySem.Spec PyProof.Rows
def LamGood (H : Hp) (q : Str) (ps : Array Value) : Prop := TriplesOk ps.toList /\ ∀ pos cv, codeAmong pos ps.toList = some cv -> ∃ c' oc vs t, cv = .ref c' /\ H c' = some (.frz oc (.ext fun _ => True)) /\ oc.data = .fields vs /\ vs[1]? = some (.str q t)
theorem LamGood.mono {H H' : Hp} {q : Str} {ps : Array Value} (g : LamGood H q ps) (k : ∀ b o u, H b = some (.frz o u) -> H' b = some (.frz o u)) : LamGood H' q ps :=
 ⟨g.1, fun pos cv e => let ⟨c', oc, vs, t, e1, e2, r⟩ := g.2 pos cv e; ⟨c', oc, vs, t, e1, k _ _ _ e2, r⟩⟩
end L2
namespace L2
open PySem PySem.Spec PyProof.Rows
structure LamScope (x : Str) (caps : List Str) (sc : Scope) (cl : List (Str × Addr)) : Prop where
 kind : sc.kind = .function
 co : sc.isCoroutine = false
 gen : sc.isGenerator = false
 nd : (x :: caps).Nodup
 par : sc.names.lookup x = some .local
 nocell : ∀ y ∈ sc.names, y.2 ≠ .cell
 free : ∀ y, sc.names.lookup y = some .free -> ∃ c, cl.lookup y = some c
 inj : ∀ y z c, cl.lookup y = some c -> cl.lookup z = some c -> y = z
end L2
namespace HW
open PySem L2
inductive D where
 | non | bl (b : Bool) | int (i : Int) | str (x : Str)
 | tup (xs : List D) | fl (xs : List D) | fd (ks : List Key) (ds : List D) | key (ks : List Int)
structure LamD where
 qual : Str
 params : Arguments
 body : Expr
 scope : Scope
 x : Str
 caps : List Str
inductive R where
 | v (d : D) | p (n : Nat) | s (b : Bool) (xs : List Int) | x (c : Str) | f (L : LamD) (ds : List D)
inductive Cell where
 | lst (xs : List D) | fz (xs : List D) | dct (kvs : List (Key × D)) | fzd (kvs : List (Key × D)) | dr (kvs : List (Key × R)) | lr (xs : List R) | dt (kvs : List (List Int × D)) | tb (P : Nat) (q : Str) | ob (c : Str) (fs : List (Str × R)) | tr (xs : List R)
noncomputable abbrev Store := List Cell
noncomputable abbrev Lo := List (Option R)
noncomputable abbrev FE := Lo -> Store -> Option (R × Store)
noncomputable abbrev FT := Lo -> Store -> Option (Bool × Store)
noncomputable abbrev FA := Lo -> Store -> Option (List R × Store)
inductive Out where
 | nx (ρ : Lo) (μ : Store) | rt (d : R) (μ : Store) | bk (ρ : Lo) (μ : Store) | ct (ρ : Lo) (μ : Store)
noncomputable abbrev FS := Lo -> Store -> Option Out
def FAt (K : PySem.W.Frag) (H : Hp) (a : Addr) (vs : List V) : Prop := (∃ o, H a = some (.frz o (.lst vs))) \/ SqL K (fun _ => none) a vs
mutual
def RelD (K : PySem.W.Frag) (H : Hp) : D -> V -> Prop
 | .non, v => v = .non
 | .bl b, v => v = .bl b
 | .int i, v => v = .int i
 | .str x, v => v = .str x
 | .tup xs, v => ∃ a vs, v = .ref a /\ SqT K H a vs /\ RelDs K H xs vs
 | .fl xs, v => ∃ a vs, v = .ref a /\ FAt K H a vs /\ RelDs K H xs vs
 | .fd ks ds, v => ∃ a o es, v = .ref a /\ H a = some (.frz o (.dK es)) /\ es.map (·.1) = ks /\ RelDs K H ds (es.map (·.2))
 | .key ks, v => ∃ a, v = .ref a /\ H a = some (.tup (ks.map V.int))
def RelDs (K : PySem.W.Frag) (H : Hp) : List D -> List V -> Prop
 | [], vs => vs = []
 | x :: xs, vs => ∃ v r, vs = v :: r /\ RelD K H x v /\ RelDs K H xs r
end
structure LamR (K : PySem.W.Frag) (H : Hp) (L : LamD) (ds : List D) (a : Addr) (cl : List (Str × Addr)) (pm ctv : Value) (c' : Addr) : Prop where
 fn : H a = some (.frz (PySem.W.kla_obj "<lambda>" L.qual L.params L.body L.scope cl pm c' ctv) (.ext fun _ => True))
 code : ∃ oc vs t, H c' = some (.frz oc (.ext fun _ => True)) /\ oc.data = .fields vs /\ vs[1]? = some (.str L.qual t)
 len : ds.length = L.caps.length
 cell : ∀ y c, cl.lookup y = some c -> ∃ z o, H c = some (.frz o (.ext fun _ => True)) /\ o.data = .cell z
 cap : ∀ (i : Nat) y d, L.caps[i]? = some y -> ds[i]? = some d -> ∃ c o u vy, L.scope.names.lookup y = some .free /\ cl.lookup y = some c /\ H c = some (.frz o (.ext fun _ => True)) /\ o.data = .cell (some u) /\ RelV vy u /\ RelD K H d vy
 sc : LamScope L.x L.caps L.scope cl
def RelR (K : PySem.W.Frag) (m : List Addr) (H : Hp) : R -> V -> Prop
 | .v d, v => RelD K H d v
 | .p n, v => ∃ a, v = .ref a /\ m[n]? = some a
 | .s b xs, v => ∃ a o, v = .ref a /\ H a = some (.frz o (.ext fun _ => True)) /\ HS.SetG b o xs
 | .x c, v => ∃ a vs C, v = .ref a /\ H a = some (.frz { cls := .ref C, dict := none, data := .fields vs, slots := #[] } (.ext fun _ => True)) /\ PySem.W.nsIn K mainGlobals c = some (some (.ref C))
 | .f L ds, v => ∃ a cl pm ctv c', v = .ref a /\ LamR K H L ds a cl pm ctv c'
def RelRs (K : PySem.W.Frag) (m : List Addr) (H : Hp) : List R -> List V -> Prop
 | [], vs => vs = []
 | x :: xs, vs => ∃ v r, vs = v :: r /\ RelR K m H x v /\ RelRs K m H xs r
def CellR (K : PySem.W.Frag) (m : List Addr) (H : Hp) : Cell -> Addr -> Prop
 | .lst xs, a => ∃ vs, H a = some (.lst vs) /\ RelDs K H xs vs
 | .fz xs, a => ∃ o vs, H a = some (.frz o (.lst vs)) /\ RelDs K H xs vs
 | .dct kvs, a => ∃ es, H a = some (.dK es) /\ es.map (·.1) = kvs.map (·.1) /\ RelDs K H (kvs.map (·.2)) (es.map (·.2))
 | .fzd kvs, a => ∃ o es, H a = some (.frz o (.dK es)) /\ es.map (·.1) = kvs.map (·.1) /\ RelDs K H (kvs.map (·.2)) (es.map (·.2))
 | .dr kvs, a => ∃ es, H a = some (.dK es) /\ es.map (·.1) = kvs.map (·.1) /\ RelRs K m H (kvs.map (·.2)) (es.map (·.2))
 | .lr xs, a => ∃ vs, H a = some (.lst vs) /\ RelRs K m H xs vs
 | .tb P q, a => a = P /\ ∃ ps, H P = some (.tbl ps) /\ LamGood H q ps
 | .ob c fs, a => ∃ C dx es, PySem.W.nsIn K mainGlobals c = some (some (.ref C)) /\ H a = some (.ins C dx es) /\ es.map (·.1) = fs.map (·.1) /\ RelRs K m H (fs.map (·.2)) (es.map (·.2))
 | .tr xs, a => ∃ vs, H a = some (.tup vs) /\ RelRs K m H xs vs
 | .dt kvs, a => ∃ es, H a = some (.dT es) /\ es.map (·.1) = kvs.map (fun p => p.1.map Sum.inl) /\ RelDs K H (kvs.map (·.2)) (es.map (·.2))
structure SRel (K : PySem.W.Frag) (m : List Addr) (H : Hp) (μ : Store) : Prop where
 nd : m.Nodup
 len : m.length = μ.length
 cell : ∀ (i : Nat) c a, μ[i]? = some c -> m[i]? = some a -> CellR K m H c a
structure TF (H H' : Hp) : Prop where
 tup : ∀ a xs, H a = some (.tup xs) -> H' a = some (.tup xs)
 frz : ∀ a o u, H a = some (.frz o u) -> H' a = some (.frz o u)
structure Ext (m : List Addr) (H : Hp) (m' : List Addr) (H' : Hp) : Prop where
 ext : ∃ e, m' = m ++ e /\ ∀ a ∈ e, H a = none
 tf : TF H H'
 keep : ∀ a o, H a = some o -> a ∉ m -> H' a = some o
 live : ∀ a, H' a = none -> H a = none
def LRel (K : PySem.W.Frag) (m : List Addr) (H : Hp) (ρ : Lo) (σ : St) : Prop :=
 ρ.length = σ.length /\ ∀ (i : Nat) d, ρ[i]? = some (some d) -> ∃ v, σ[i]? = some (some v) /\ RelR K m H d v
section
variable {K : PySem.W.Frag} {m m' m1 m2 : List Addr} {H H' H1 H2 : Hp} {μ μ' : Store} {ρ : Lo} {σ : St}
theorem TF.refl : TF H H := ⟨fun _ _ h => h, fun _ _ _ h => h⟩
theorem TF.trans (a : TF H H1) (b : TF H1 H2) : TF H H2 := ⟨fun _ _ h => b.tup _ _ (a.tup _ _ h), fun _ _ _ h => b.frz _ _ _ (a.frz _ _ _ h)⟩
theorem TF.of (h : ∀ a o, H a = some o -> H' a = some o) : TF H H' := ⟨fun _ _ e => h _ _ e, fun _ _ _ e => h _ _ e⟩
theorem SqT.tf {a vs} (t : TF H H') (h : SqT K H a vs) : SqT K H' a vs := by
 rcases h with (h | ⟨o, h⟩) | h
 ·exact .inl (.inl (t.tup _ _ h))
 ·exact .inl (.inr ⟨o, t.frz _ _ _ h⟩)
 ·exact .inr h
theorem FAt.tf {a vs} (t : TF H H') (h : FAt K H a vs) : FAt K H' a vs := by
 rcases h with ⟨o, h⟩ | h
 ·exact .inl ⟨o, t.frz _ _ _ h⟩
 ·exact .inr h
theorem FAt.sq {a vs} (h : FAt K H a vs) : SqL K H a vs := by
 rcases h with ⟨o, h⟩ | (h | ⟨_, h⟩) | h
 ·exact .inl (.inr ⟨o, h⟩)
 ·cases h
 ·cases h
 ·exact .inr h
mutual
theorem RelD.tf (t : TF H H') : ∀ (d : D) (v : V), RelD K H d v -> RelD K H' d v
 | .non, _, h => by simpa only [RelD] using h
 | .bl _, _, h => by simpa only [RelD] using h
 | .int _, _, h => by simpa only [RelD] using h
 | .str _, _, h => by simpa only [RelD] using h
 | .tup xs, v, h => by
  simp only [RelD] at h ⊢
  obtain ⟨a, vs, e, s, r⟩ := h
  exact ⟨a, vs, e, SqT.tf t s, RelDs.tf t xs vs r⟩
 | .fl xs, v, h => by
  simp only [RelD] at h ⊢
  obtain ⟨a, vs, e, s, r⟩ := h
  exact ⟨a, vs, e, s.tf t, RelDs.tf t xs vs r⟩
 | .fd ks ds, v, h => by
  simp only [RelD] at h ⊢
  obtain ⟨a, o, es, e, s, k, r⟩ := h
  exact ⟨a, o, es, e, t.frz _ _ _ s, k, RelDs.tf t ds _ r⟩
 | .key ks, v, h => by
  simp only [RelD] at h ⊢
  obtain ⟨a, e, q⟩ := h
  exact ⟨a, e, t.tup _ _ q⟩
theorem RelDs.tf (t : TF H H') : ∀ (ds : List D) (vs : List V), RelDs K H ds vs -> RelDs K H' ds vs
 | [], _, h => by simpa only [RelDs] using h
 | d :: ds, vs, h => by
  simp only [RelDs] at h ⊢
  obtain ⟨v, r, e, h1, h2⟩ := h
  exact ⟨v, r, e, RelD.tf t d v h1, RelDs.tf t ds r h2⟩
end
theorem LamR.tf {L ds a cl pm ctv c'} (t : TF H H') (h : LamR K H L ds a cl pm ctv c') : LamR K H' L ds a cl pm ctv c' :=
 ⟨t.frz _ _ _ h.fn, let ⟨oc, vs, u, e, r⟩ := h.code; ⟨oc, vs, u, t.frz _ _ _ e, r⟩, h.len, fun y c e => let ⟨z, o, q, r⟩ := h.cell y c e; ⟨z, o, t.frz _ _ _ q, r⟩,
  fun i y d e1 e2 => let ⟨c, o, u, vy, k1, k2, k3, k4, k5, k6⟩ := h.cap i y d e1 e2; ⟨c, o, u, vy, k1, k2, t.frz _ _ _ k3, k4, k5, RelD.tf t _ _ k6⟩, h.sc⟩
theorem Ext.refl : Ext m H m H := ⟨⟨[], by simp⟩, .refl, fun _ _ h _ => h, fun _ h => h⟩
theorem Ext.trans (x : Ext m H m1 H1) (y : Ext m1 H1 m2 H2) : Ext m H m2 H2 := by
 obtain ⟨e1, rfl, f1⟩ := x.ext
 obtain ⟨e2, rfl, f2⟩ := y.ext
 refine ⟨⟨e1 ++ e2, by simp, fun a ha => ?_⟩, x.tf.trans y.tf, fun a o h n => ?_, fun a h => x.live a (y.live a h)⟩
 ·rcases List.mem_append.mp ha with h | h
  ·exact f1 a h
  ·exact x.live a (f2 a h)
 ·refine y.keep a o (x.keep a o h n) fun z => ?_
  rcases List.mem_append.mp z with z | z
  ·exact n z
  ·rw [f1 a z] at h; cases h
theorem RelR.ext (x : Ext m H m' H') {d : R} {v : V} (h : RelR K m H d v) : RelR K m' H' d v := by
 cases d with
 | v d => exact RelD.tf x.tf d v h
 | p n =>
  obtain ⟨a, e, q⟩ := h
  obtain ⟨e1, rfl, _⟩ := x.ext
  refine ⟨a, e, ?_⟩
  obtain ⟨hl, hq⟩ := List.getElem?_eq_some_iff.mp q
  rw [List.getElem?_append_left hl]; exact q
 | s b xs =>
  obtain ⟨a, o, e, q, r⟩ := h
  exact ⟨a, o, e, x.tf.frz _ _ _ q, r⟩
 | x c =>
  obtain ⟨a, vs, C, e, q, r⟩ := h
  exact ⟨a, vs, C, e, x.tf.frz _ _ _ q, r⟩
 | f L ds =>
  obtain ⟨a, cl, pm, ctv, c', e, q⟩ := h
  exact ⟨a, cl, pm, ctv, c', e, q.tf x.tf⟩
theorem RelRs.ext (x : Ext m H m' H') : ∀ {ds : List R} {vs : List V}, RelRs K m H ds vs -> RelRs K m' H' ds vs
 | [], _, h => h
 | _ :: _, _, ⟨v, r, e, h1, h2⟩ => ⟨v, r, e, h1.ext x, RelRs.ext x h2⟩
theorem LRel.ext (x : Ext m H m' H') (h : LRel K m H ρ σ) : LRel K m' H' ρ σ :=
 ⟨h.1, fun i d e => let ⟨v, q, r⟩ := h.2 i d e; ⟨v, q, r.ext x⟩⟩
theorem RelR.tfm (t : TF H H') (y : ∃ e, m' = m ++ e) {d : R} {v : V} (h : RelR K m H d v) : RelR K m' H' d v := by
 cases d with
 | v d => exact RelD.tf t d v h
 | p n =>
  obtain ⟨a, e, q⟩ := h
  obtain ⟨e1, rfl⟩ := y
  refine ⟨a, e, ?_⟩
  obtain ⟨hl, hq⟩ := List.getElem?_eq_some_iff.mp q
  rw [List.getElem?_append_left hl]; exact q
 | s b xs =>
  obtain ⟨a, o, e, q, r⟩ := h
  exact ⟨a, o, e, t.frz _ _ _ q, r⟩
 | x c =>
  obtain ⟨a, vs, C, e, q, r⟩ := h
  exact ⟨a, vs, C, e, t.frz _ _ _ q, r⟩
 | f L ds =>
  obtain ⟨a, cl, pm, ctv, c', e, q⟩ := h
  exact ⟨a, cl, pm, ctv, c', e, q.tf t⟩
theorem RelRs.tfm (t : TF H H') (y : ∃ e, m' = m ++ e) : ∀ {ds : List R} {vs : List V}, RelRs K m H ds vs -> RelRs K m' H' ds vs
 | [], _, h => h
 | _ :: _, _, ⟨v, r, e, h1, h2⟩ => ⟨v, r, e, h1.tfm t y, RelRs.tfm t y h2⟩
theorem CellR.same (s : ∀ a o, H a = some o -> H' a = some o) (y : ∃ e, m' = m ++ e) {c : Cell} {a : Addr} (h : CellR K m H c a) : CellR K m' H' c a := by
 cases c with
 | lst xs => obtain ⟨vs, e, r⟩ := h; exact ⟨vs, s _ _ e, RelDs.tf (.of s) _ _ r⟩
 | fz xs => obtain ⟨o, vs, e, r⟩ := h; exact ⟨o, vs, s _ _ e, RelDs.tf (.of s) _ _ r⟩
 | dct kvs => obtain ⟨es, e, k, r⟩ := h; exact ⟨es, s _ _ e, k, RelDs.tf (.of s) _ _ r⟩
 | fzd kvs => obtain ⟨o, es, e, k, r⟩ := h; exact ⟨o, es, s _ _ e, k, RelDs.tf (.of s) _ _ r⟩
 | dr kvs => obtain ⟨es, e, k, r⟩ := h; exact ⟨es, s _ _ e, k, RelRs.tfm (.of s) y r⟩
 | lr xs => obtain ⟨vs, e, r⟩ := h; exact ⟨vs, s _ _ e, RelRs.tfm (.of s) y r⟩
 | dt kvs => obtain ⟨es, e, k, r⟩ := h; exact ⟨es, s _ _ e, k, RelDs.tf (.of s) _ _ r⟩
 | tb P q => obtain ⟨e, ps, k, r⟩ := h; exact ⟨e, ps, s _ _ k, r.mono fun b o u g => s _ _ g⟩
 | ob c fs => obtain ⟨C, dx, es, n, e, k, r⟩ := h; exact ⟨C, dx, es, n, s _ _ e, k, RelRs.tfm (.of s) y r⟩
 | tr xs => obtain ⟨vs, e, r⟩ := h; exact ⟨vs, s _ _ e, RelRs.tfm (.of s) y r⟩
theorem CellR.some {c : Cell} {a : Addr} (h : CellR K m H c a) : ∃ o, H a = some o := by
 cases c with
 | lst xs => obtain ⟨vs, e, r⟩ := h; exact ⟨_, e⟩
 | fz xs => obtain ⟨o, vs, e, r⟩ := h; exact ⟨_, e⟩
 | dct kvs => obtain ⟨es, e, k, r⟩ := h; exact ⟨_, e⟩
 | fzd kvs => obtain ⟨o, es, e, k, r⟩ := h; exact ⟨_, e⟩
 | dr kvs => obtain ⟨es, e, k, r⟩ := h; exact ⟨_, e⟩
 | lr xs => obtain ⟨vs, e, r⟩ := h; exact ⟨_, e⟩
 | dt kvs => obtain ⟨es, e, k, r⟩ := h; exact ⟨_, e⟩
 | tb P q => obtain ⟨e, ps, k, r⟩ := h; exact ⟨_, e ▸ k⟩
 | ob c fs => obtain ⟨C, dx, es, n, e, k, r⟩ := h; exact ⟨_, e⟩
 | tr xs => obtain ⟨vs, e, r⟩ := h; exact ⟨_, e⟩
theorem SRel.same (h : SRel K m H μ) (s : ∀ a o, H a = some o -> H' a = some o) : SRel K m H' μ :=
 ⟨h.nd, h.len, fun i c a e1 e2 => (h.cell i c a e1 e2).same s ⟨[], by simp⟩⟩
theorem SRel.mem (h : SRel K m H μ) {a : Addr} (ha : a ∈ m) : ∃ o, H a = some o := by
 obtain ⟨i, hi, e⟩ := List.getElem_of_mem ha
 have hi' : i < μ.length := by rw [← h.len]; exact hi
 exact (h.cell i μ[i] a (List.getElem?_eq_getElem hi') (by rw [← e]; exact List.getElem?_eq_getElem hi)).some
theorem SRel.fresh (h : SRel K m H μ) {p : Addr} (hp : H p = none) : p ∉ m := fun z => by
 obtain ⟨o, e⟩ := h.mem z
 rw [hp] at e; cases e
theorem SRel.nil : SRel K [] H [] := ⟨.nil, rfl, fun i c a e => by simp at e⟩
theorem upd_keeps {p : Addr} {o : HO} (hp : H p = none) : ∀ a u, H a = some u -> upd H p o a = some u := fun a u e => by
 unfold upd; rw [if_neg (fun z => by rw [z, hp] at e; cases e)]; exact e
theorem upd_live {p : Addr} {o : HO} {a : Addr} (h : upd H p o a = none) : H a = none := by
 unfold upd at h; split at h
 ·cases h
 ·exact h
theorem upd_at {p : Addr} {o : HO} : upd H p o p = some o := by unfold upd; rw [if_pos rfl]
theorem Ext.new {p : Addr} {o : HO} (hp : H p = none) : Ext m H m (upd H p o) :=
 ⟨⟨[], by simp⟩, .of (upd_keeps hp), fun a u e _ => upd_keeps hp a u e, fun _ h => upd_live h⟩
theorem Ext.newH {p : Addr} {o : HO} (hp : H p = none) : Ext m H (m ++ [p]) (upd H p o) :=
 ⟨⟨[p], rfl, fun a h => by rw [List.mem_singleton.mp h]; exact hp⟩, .of (upd_keeps hp), fun a u e _ => upd_keeps hp a u e, fun _ h => upd_live h⟩
theorem SRel.newH {p : Addr} {o : HO} {c : Cell} (h : SRel K m H μ) (hp : H p = none) (hc : CellR K (m ++ [p]) (upd H p o) c p) : SRel K (m ++ [p]) (upd H p o) (μ ++ [c]) := by
 refine ⟨?_, by simp [h.len], fun i c' a e1 e2 => ?_⟩
 ·refine List.nodup_append.mpr ⟨h.nd, by simp, fun a ha b hb => ?_⟩
  rw [List.mem_singleton.mp hb]
  rintro rfl
  exact h.fresh hp ha
 ·by_cases hi : i < m.length
  ·rw [List.getElem?_append_left hi] at e2
   rw [List.getElem?_append_left (by rw [← h.len]; exact hi)] at e1
   exact (h.cell i c' a e1 e2).same (upd_keeps hp) ⟨[p], rfl⟩
  ·rw [List.getElem?_append_right (by omega)] at e2
   rw [List.getElem?_append_right (by have := h.len; omega)] at e1
   have hl := h.len
   have : i - m.length = 0 := by
    cases q : i - m.length with
    | zero => rfl
    | succ k => rw [q] at e2; simp at e2
   have e3 : i - μ.length = 0 := by omega
   rw [this] at e2; rw [e3] at e1
   simp at e1 e2
   subst e1 e2
   exact hc
theorem Ext.put {a : Addr} {o o' : HO} (ha : a ∈ m) (e : H a = some o) (ho : ∀ xs, o ≠ .tup xs) (hf : ∀ x u, o ≠ .frz x u) : Ext m H m (upd H a o') := by
 have ne : ∀ b u, H b = some u -> u ≠ o -> b ≠ a := fun b u q n z => by rw [z, e] at q; exact n (Option.some.inj q).symm
 refine ⟨⟨[], by simp⟩, ⟨fun b xs q => ?_, fun b x u q => ?_⟩, fun b u q n => ?_, fun b h => upd_live h⟩
 ·unfold upd; rw [if_neg (ne b _ q fun z => ho xs z.symm)]; exact q
 ·unfold upd; rw [if_neg (ne b _ q fun z => hf x u z.symm)]; exact q
 ·unfold upd; rw [if_neg (fun z : b = a => n (by rw [z]; exact ha))]; exact q
theorem SRel.put {n : Nat} {a : Addr} {o o' : HO} {c : Cell} (h : SRel K m H μ) (hn : m[n]? = some a) (e : H a = some o) (ho : ∀ xs, o ≠ .tup xs) (hf : ∀ x u, o ≠ .frz x u) (hc : CellR K m (upd H a o') c a) : SRel K m (upd H a o') (μ.set n c) := by
 have ha : a ∈ m := List.mem_of_getElem? hn
 have x : Ext m H m (upd H a o') := .put ha e ho hf
 refine ⟨h.nd, by simp [h.len], fun i c' b e1 e2 => ?_⟩
 by_cases hi : i = n
 ·subst hi
  rw [hn] at e2; cases e2
  rw [List.getElem?_set_self (by have := (List.getElem?_eq_some_iff.mp hn).1; have := h.len; omega)] at e1
  cases e1
  exact hc
 ·rw [List.getElem?_set_ne (Ne.symm hi)] at e1
  have nb : b ≠ a := by
   rintro rfl
   obtain ⟨h1, q1⟩ := List.getElem?_eq_some_iff.mp e2
   obtain ⟨h2, q2⟩ := List.getElem?_eq_some_iff.mp hn
   exact hi ((List.getElem_inj h.nd).mp (q1.trans q2.symm))
  have at' : ∀ u, H b = some u -> upd H a o' b = some u := fun u q => by unfold upd; rw [if_neg nb]; exact q
  have z := h.cell i c' b e1 e2
  cases c' with
  | lst xs => obtain ⟨vs, e, r⟩ := z; exact ⟨vs, at' _ e, RelDs.tf x.tf _ _ r⟩
  | fz xs => obtain ⟨o, vs, e, r⟩ := z; exact ⟨o, vs, at' _ e, RelDs.tf x.tf _ _ r⟩
  | dct kvs => obtain ⟨es, e, k, r⟩ := z; exact ⟨es, at' _ e, k, RelDs.tf x.tf _ _ r⟩
  | fzd kvs => obtain ⟨o, es, e, k, r⟩ := z; exact ⟨o, es, at' _ e, k, RelDs.tf x.tf _ _ r⟩
  | dr kvs => obtain ⟨es, e, k, r⟩ := z; exact ⟨es, at' _ e, k, RelRs.tfm x.tf ⟨[], by simp⟩ r⟩
  | lr xs => obtain ⟨vs, e, r⟩ := z; exact ⟨vs, at' _ e, RelRs.tfm x.tf ⟨[], by simp⟩ r⟩
  | dt kvs => obtain ⟨es, e, k, r⟩ := z; exact ⟨es, at' _ e, k, RelDs.tf x.tf _ _ r⟩
  | tb P q => obtain ⟨e, ps, k, r⟩ := z; subst e; exact ⟨rfl, ps, at' _ k, r.mono x.tf.frz⟩
  | ob c fs => obtain ⟨C, dx, es, n, e, k, r⟩ := z; exact ⟨C, dx, es, n, at' _ e, k, RelRs.tfm x.tf ⟨[], by simp⟩ r⟩
  | tr xs => obtain ⟨vs, e, r⟩ := z; exact ⟨vs, at' _ e, RelRs.tfm x.tf ⟨[], by simp⟩ r⟩
end
def rdE (K : PySem.W.Frag) (f : FE) : TE := fun σ H Q => ∃ ρ μ m d μ', LRel K m H ρ σ /\ SRel K m H μ /\ f ρ μ = some (d, μ') /\
 ∀ v H' m', Ext m H m' H' -> SRel K m' H' μ' -> RelR K m' H' d v -> Q v H'
def rdT (K : PySem.W.Frag) (f : FT) : TT := fun σ H Q => ∃ ρ μ m b μ', LRel K m H ρ σ /\ SRel K m H μ /\ f ρ μ = some (b, μ') /\
 ∀ H' m', Ext m H m' H' -> SRel K m' H' μ' -> Q b H'
def rdA (K : PySem.W.Frag) (f : FA) : TA := fun σ H Q => ∃ ρ μ m ds μ', LRel K m H ρ σ /\ SRel K m H μ /\ f ρ μ = some (ds, μ') /\
 ∀ vs H' m', Ext m H m' H' -> SRel K m' H' μ' -> RelRs K m' H' ds vs -> Q vs H'
def Ends.of (K : PySem.W.Frag) (m : List Addr) (H : Hp) (D : Ends) : Out -> Prop
 | .nx ρ μ => ∀ σ H' m', Ext m H m' H' -> SRel K m' H' μ -> LRel K m' H' ρ σ -> D.nx σ H'
 | .bk ρ μ => ∀ σ H' m', Ext m H m' H' -> SRel K m' H' μ -> LRel K m' H' ρ σ -> D.bk σ H'
 | .ct ρ μ => ∀ σ H' m', Ext m H m' H' -> SRel K m' H' μ -> LRel K m' H' ρ σ -> D.ct σ H'
 | .rt d μ => ∀ v H' m', Ext m H m' H' -> SRel K m' H' μ -> RelR K m' H' d v -> D.rt v H'
def rdS (K : PySem.W.Frag) (f : FS) : TS := fun D σ H => ∃ ρ μ m out, LRel K m H ρ σ /\ SRel K m H μ /\ f ρ μ = some out /\ Ends.of K m H D out
noncomputable def fVar (i : Nat) : FE := fun ρ μ => match ρ[i]? with | some (some d) => some (d, μ) | _ => none
noncomputable def fK (d : D) : FE := fun _ μ => some (.v d, μ)
noncomputable def fOp (g : R -> R -> Store -> Option (R × Store)) (fa fb : FE) : FE := fun ρ μ => (fa ρ μ).bind fun a => (fb ρ a.2).bind fun b => g a.1 b.1 b.2
noncomputable def fUn (g : R -> Store -> Option (R × Store)) (fa : FE) : FE := fun ρ μ => (fa ρ μ).bind fun a => g a.1 a.2
def GOp (K : PySem.W.Frag) (g : R -> R -> Store -> Option (R × Store)) (r : R2) : Prop :=
 ∀ m H μ x y d μ' v u Q, SRel K m H μ -> RelR K m H x v -> RelR K m H y u -> g x y μ = some (d, μ') -> (∀ w H' m', Ext m H m' H' -> SRel K m' H' μ' -> RelR K m' H' d w -> Q w H') -> r v u H Q
def GAr (K : PySem.W.Frag) (g : List R -> Store -> Option (R × Store)) (r : List V -> Hp -> VK -> Prop) : Prop :=
 ∀ m H μ xs d μ' vs Q, SRel K m H μ -> RelRs K m H xs vs -> g xs μ = some (d, μ') -> (∀ w H' m', Ext m H m' H' -> SRel K m' H' μ' -> RelR K m' H' d w -> Q w H') -> r vs H Q
noncomputable def fNil : FA := fun _ μ => some ([], μ)
noncomputable def fCons (fa : FE) (fr : FA) : FA := fun ρ μ => (fa ρ μ).bind fun a => (fr ρ a.2).bind fun r => some (a.1 :: r.1, r.2)
noncomputable def fAr (g : List R -> Store -> Option (R × Store)) (fa : FA) : FE := fun ρ μ => (fa ρ μ).bind fun a => g a.1 a.2
section
variable {K : PySem.W.Frag} {σ : St} {H : Hp} {Q : VK}
theorem rd_var {i : Nat} (h : rdE K (fVar i) σ H Q) : tVar i σ H Q := by
 obtain ⟨ρ, μ, m, d, μ', hl, hs, e, k⟩ := h
 unfold fVar at e
 split at e
 ·rename_i d' q
  cases e
  obtain ⟨v, q1, q2⟩ := hl.2 i _ q
  exact ⟨v, q1, k v H m .refl hs q2⟩
 ·cases e
theorem rd_const {d : D} {v : V} (hv : ∀ m H, RelR K m H (.v d) v) (h : rdE K (fK d) σ H Q) : tC v σ H Q := by
 obtain ⟨ρ, μ, m, d', μ', hl, hs, e, k⟩ := h
 cases e
 exact k v H m .refl hs (hv _ _)
theorem rd_op {g r fa fb} (hg : GOp K g r) (h : rdE K (fOp g fa fb) σ H Q) : tOp r (rdE K fa) (rdE K fb) σ H Q := by
 obtain ⟨ρ, μ, m, d, μ', hl, hs, e, k⟩ := h
 obtain ⟨⟨x, μ1⟩, e1, e⟩ := Option.bind_eq_some_iff.mp e
 obtain ⟨⟨y, μ2⟩, e2, e⟩ := Option.bind_eq_some_iff.mp e
 refine ⟨ρ, μ, m, x, μ1, hl, hs, e1, fun v H1 m1 x1 s1 r1 => ?_⟩
 refine ⟨ρ, μ1, m1, y, μ2, hl.ext x1, s1, e2, fun u H2 m2 x2 s2 r2 => ?_⟩
 exact hg m2 H2 μ2 x y d μ' v u Q s2 (r1.ext x2) r2 e fun w H3 m3 x3 s3 r3 => k w H3 m3 ((x1.trans x2).trans x3) s3 r3
theorem rd_nil {Q : List V -> Hp -> Prop} (h : rdA K fNil σ H Q) : tNil σ H Q := by
 obtain ⟨ρ, μ, m, ds, μ', hl, hs, e, k⟩ := h
 cases e
 exact k [] H m .refl hs rfl
theorem rd_cons {fa fr} {Q : List V -> Hp -> Prop} (h : rdA K (fCons fa fr) σ H Q) : tCons (rdE K fa) (rdA K fr) σ H Q := by
 obtain ⟨ρ, μ, m, ds, μ', hl, hs, e, k⟩ := h
 obtain ⟨⟨x, μ1⟩, e1, e⟩ := Option.bind_eq_some_iff.mp e
 obtain ⟨⟨xs, μ2⟩, e2, e⟩ := Option.bind_eq_some_iff.mp e
 cases e
 refine ⟨ρ, μ, m, x, μ1, hl, hs, e1, fun v H1 m1 x1 s1 r1 => ?_⟩
 refine ⟨ρ, μ1, m1, xs, μ2, hl.ext x1, s1, e2, fun vs H2 m2 x2 s2 r2 => ?_⟩
 exact k (v :: vs) H2 m2 (x1.trans x2) s2 ⟨v, vs, rfl, r1.ext x2, r2⟩
theorem rd_ar {g r fa} (hg : GAr K g r) (h : rdE K (fAr g fa) σ H Q) : tCB r (rdA K fa) σ H Q := by
 obtain ⟨ρ, μ, m, d, μ', hl, hs, e, k⟩ := h
 obtain ⟨⟨xs, μ1⟩, e1, e⟩ := Option.bind_eq_some_iff.mp e
 refine ⟨ρ, μ, m, xs, μ1, hl, hs, e1, fun vs H1 m1 x1 s1 r1 => ?_⟩
 exact hg m1 H1 μ1 xs d μ' vs Q s1 r1 e fun w H3 m3 x3 s3 r3 => k w H3 m3 (x1.trans x3) s3 r3
end
noncomputable def fB (fa : FE) : FT := fun ρ μ => (fa ρ μ).bind fun a => match a.1 with | .v (.bl b) => some (b, a.2) | _ => none
noncomputable def truD : R -> Store -> Option Bool
 | .v .non, _ => some false
 | .v (.bl b), _ => some b
 | .v (.int i), _ => some (i != 0)
 | .v (.str x), _ => if x.length <= sizeLine then some ((x.length : Int) != 0) else none
 | .v (.tup xs), _ => some (!xs.isEmpty)
 | .v (.fl xs), _ => some (!xs.isEmpty)
 | .v (.fd _ _), _ => none
 | .v (.key _), _ => none
 | .s _ _, _ => none
 | .x _, _ => none
 | .f _ _, _ => none
 | .p n, μ => match μ[n]? with | some (.lst xs) => some (!xs.isEmpty) | some (.fz xs) => some (!xs.isEmpty) | some (.dct kvs) => some (!kvs.isEmpty) | _ => none
noncomputable def fTru (fa : FE) : FT := fun ρ μ => (fa ρ μ).bind fun a => (truD a.1 a.2).bind fun b => some (b, a.2)
noncomputable def tAndF (t u : FT) : FT := fun ρ μ => (t ρ μ).bind fun c => if c.1 = true then u ρ c.2 else some (false, c.2)
noncomputable def tOrF (t u : FT) : FT := fun ρ μ => (t ρ μ).bind fun c => if c.1 = true then some (true, c.2) else u ρ c.2
noncomputable def tNotF (t : FT) : FT := fun ρ μ => (t ρ μ).bind fun c => some (!c.1, c.2)
noncomputable def fAnd (fa fb : FE) : FE := fun ρ μ => (fa ρ μ).bind fun a => match a.1 with | .v (.bl c) => if c = true then fb ρ a.2 else some (.v (.bl false), a.2) | _ => none
noncomputable def fOr (fa fb : FE) : FE := fun ρ μ => (fa ρ μ).bind fun a => match a.1 with | .v (.bl c) => if c = true then some (.v (.bl true), a.2) else fb ρ a.2 | _ => none
noncomputable def fNot (fa : FE) : FE := fun ρ μ => (fa ρ μ).bind fun a => match a.1 with | .v (.bl c) => some (.v (.bl (!c)), a.2) | _ => none
noncomputable def fIf (t : FT) (fa fb : FE) : FE := fun ρ μ => (t ρ μ).bind fun c => if c.1 = true then fa ρ c.2 else fb ρ c.2
theorem RelDs.length {K : PySem.W.Frag} {H : Hp} : ∀ {ds : List D} {vs : List V}, RelDs K H ds vs -> ds.length = vs.length
 | [], _, h => by simp only [RelDs] at h; subst h; rfl
 | _ :: _, _, h => by
  simp only [RelDs] at h
  obtain ⟨v, r, rfl, _, h2⟩ := h
  simp [RelDs.length h2]
section
variable {K : PySem.W.Frag} {σ : St} {H : Hp} {Q : VK} {B : Bool -> Hp -> Prop}
theorem rd_B {fa} (h : rdT K (fB fa) σ H B) : tB (rdE K fa) σ H B := by
 obtain ⟨ρ, μ, m, d, μ', hl, hs, e, k⟩ := h
 obtain ⟨⟨x, μ1⟩, e1, e⟩ := Option.bind_eq_some_iff.mp e
 split at e
 ·rename_i b q
  cases e
  subst q
  exact ⟨ρ, μ, m, _, μ1, hl, hs, e1, fun v H1 m1 x1 s1 r1 => ⟨_, by simpa only [RelR, RelD] using r1, k H1 m1 x1 s1⟩⟩
 ·cases e
theorem rd_Test {fa} (h : rdT K (fB fa) σ H B) : tTest (rdE K fa) σ H B := rd_B h
theorem rd_tand {t u} (h : rdT K (tAndF t u) σ H B) : tAnd (rdT K t) (rdT K u) σ H B := by
 obtain ⟨ρ, μ, m, d, μ', hl, hs, e, k⟩ := h
 obtain ⟨⟨c, μ1⟩, e1, e⟩ := Option.bind_eq_some_iff.mp e
 refine ⟨ρ, μ, m, c, μ1, hl, hs, e1, fun H1 m1 x1 s1 => ?_⟩
 cases c with
 | true => exact ⟨ρ, μ1, m1, d, μ', hl.ext x1, s1, e, fun H2 m2 x2 s2 => k H2 m2 (x1.trans x2) s2⟩
 | false => cases e; exact k H1 m1 x1 s1
theorem rd_tor {t u} (h : rdT K (tOrF t u) σ H B) : tOr (rdT K t) (rdT K u) σ H B := by
 obtain ⟨ρ, μ, m, d, μ', hl, hs, e, k⟩ := h
 obtain ⟨⟨c, μ1⟩, e1, e⟩ := Option.bind_eq_some_iff.mp e
 refine ⟨ρ, μ, m, c, μ1, hl, hs, e1, fun H1 m1 x1 s1 => ?_⟩
 cases c with
 | false => exact ⟨ρ, μ1, m1, d, μ', hl.ext x1, s1, e, fun H2 m2 x2 s2 => k H2 m2 (x1.trans x2) s2⟩
 | true => cases e; exact k H1 m1 x1 s1
theorem rd_and {fa fb} (h : rdE K (fAnd fa fb) σ H Q) : tAndV (rdE K fa) (rdE K fb) σ H Q := by
 obtain ⟨ρ, μ, m, d, μ', hl, hs, e, k⟩ := h
 obtain ⟨⟨x, μ1⟩, e1, e⟩ := Option.bind_eq_some_iff.mp e
 split at e
 ·rename_i c q
  subst q
  refine ⟨ρ, μ, m, _, μ1, hl, hs, e1, fun v H1 m1 x1 s1 r1 => ⟨c, by simpa only [RelR, RelD] using r1, ?_⟩⟩
  cases c with
  | true => exact ⟨ρ, μ1, m1, d, μ', hl.ext x1, s1, e, fun w H2 m2 x2 s2 r2 => k w H2 m2 (x1.trans x2) s2 r2⟩
  | false => cases e; exact k _ H1 m1 x1 s1 (by simp only [RelR, RelD])
 ·cases e
end
noncomputable def vals : List R -> Option (List D)
 | [] => some []
 | .v d :: r => (vals r).bind fun ds => some (d :: ds)
 | .p _ :: _ => none
 | .s _ _ :: _ => none
 | .x _ :: _ => none
 | .f _ _ :: _ => none
theorem vals_rel {K : PySem.W.Frag} {m : List Addr} {H : Hp} : ∀ {rs : List R} {ds : List D} {vs : List V}, vals rs = some ds -> RelRs K m H rs vs -> RelDs K H ds vs
 | [], _, _, e, h => by cases e; simp only [RelDs]; exact h
 | .v d :: r, _, _, e, ⟨v, vs, rfl, h1, h2⟩ => by
  obtain ⟨ds, e1, e⟩ := Option.bind_eq_some_iff.mp e
  cases e
  simp only [RelDs]
  exact ⟨v, vs, rfl, h1, vals_rel e1 h2⟩
 | .p _ :: _, _, _, e, _ => by cases e
 | .s _ _ :: _, _, _, e, _ => by cases e
 | .x _ :: _, _, _, e, _ => by cases e
 | .f _ _ :: _, _, _, e, _ => by cases e
noncomputable def fTup (fa : FA) : FE := fun ρ μ => (fa ρ μ).bind fun a => (vals a.1).bind fun ds => if ds.length <= sizeLine then some (.v (.tup ds), a.2) else none
noncomputable def fLst (fa : FA) : FE := fun ρ μ => (fa ρ μ).bind fun a => (vals a.1).bind fun ds => if ds.length <= sizeLine then some (.p a.2.length, a.2 ++ [.lst ds]) else none
section
variable {K : PySem.W.Frag} {m : List Addr} {σ : St} {H : Hp} {Q : VK} {μ : Store}
theorem new_tup {ds : List D} {vs : List V} {p : Addr} (s : SRel K m H μ) (r : RelDs K H ds vs) (hp : H p = none) : Ext m H m (upd H p (.tup vs)) /\ SRel K m (upd H p (.tup vs)) μ /\ RelR K m (upd H p (.tup vs)) (.v (.tup ds)) (.ref p) := by
 refine ⟨.new hp, s.same (upd_keeps hp), ?_⟩
 simp only [RelR, RelD]
 exact ⟨p, vs, rfl, .inl (.inl upd_at), RelDs.tf (.of (upd_keeps hp)) _ _ r⟩
theorem new_lst {ds : List D} {vs : List V} {p : Addr} (s : SRel K m H μ) (r : RelDs K H ds vs) (hp : H p = none) : Ext m H (m ++ [p]) (upd H p (.lst vs)) /\ SRel K (m ++ [p]) (upd H p (.lst vs)) (μ ++ [.lst ds]) /\ RelR K (m ++ [p]) (upd H p (.lst vs)) (.p μ.length) (.ref p) := by
 refine ⟨.newH hp, s.newH hp ⟨vs, upd_at, RelDs.tf (.of (upd_keeps hp)) _ _ r⟩, p, rfl, ?_⟩
 rw [← s.len]; simp
theorem rd_tup {fa} (h : rdE K (fTup fa) σ H Q) : tTup (rdA K fa) σ H Q := by
 obtain ⟨ρ, μ, m, d, μ', hl, hs, e, k⟩ := h
 obtain ⟨⟨xs, μ1⟩, e1, e⟩ := Option.bind_eq_some_iff.mp e
 obtain ⟨ds, e2, e⟩ := Option.bind_eq_some_iff.mp e
 split at e
 ·rename_i z
  cases e
  refine ⟨ρ, μ, m, xs, _, hl, hs, e1, fun vs H1 m1 x1 s1 r1 => ?_⟩
  have r2 := vals_rel e2 r1
  refine ⟨by rw [← r2.length]; exact z, fun p hp => ?_⟩
  obtain ⟨a, b, c⟩ := new_tup s1 r2 hp
  exact k _ _ _ (x1.trans a) b c
 ·cases e
theorem rd_lst {fa} (h : rdE K (fLst fa) σ H Q) : tLst (rdA K fa) σ H Q := by
 obtain ⟨ρ, μ, m, d, μ', hl, hs, e, k⟩ := h
 obtain ⟨⟨xs, μ1⟩, e1, e⟩ := Option.bind_eq_some_iff.mp e
 obtain ⟨ds, e2, e⟩ := Option.bind_eq_some_iff.mp e
 split at e
 ·rename_i z
  cases e
  refine ⟨ρ, μ, m, xs, _, hl, hs, e1, fun vs H1 m1 x1 s1 r1 => ?_⟩
  have r2 := vals_rel e2 r1
  refine ⟨by rw [← r2.length]; exact z, fun p hp => ?_⟩
  obtain ⟨a, b, c⟩ := new_lst s1 r2 hp
  exact k _ _ _ (x1.trans a) b c
 ·cases e
end
noncomputable def sNext : FS := fun ρ μ => some (.nx ρ μ)
noncomputable def sSeq (a b : FS) : FS := fun ρ μ => (a ρ μ).bind fun o => match o with | .nx ρ' μ' => b ρ' μ' | o => some o
noncomputable def sBreak : FS := fun ρ μ => some (.bk ρ μ)
noncomputable def sCont : FS := fun ρ μ => some (.ct ρ μ)
noncomputable def sDrop (f : FE) : FS := fun ρ μ => (f ρ μ).bind fun a => some (.nx ρ a.2)
noncomputable def sRet (f : FE) : FS := fun ρ μ => (f ρ μ).bind fun a => some (.rt a.1 a.2)
noncomputable def sRetN : FS := fun _ μ => some (.rt (.v .non) μ)
noncomputable def sIf (t : FT) (a b : FS) : FS := fun ρ μ => (t ρ μ).bind fun c => if c.1 = true then a ρ c.2 else b ρ c.2
noncomputable def sSet (i : Nat) (f : FE) : FS := fun ρ μ => (f ρ μ).bind fun a => some (.nx (ρ.set i (some a.1)) a.2)
section
variable {K : PySem.W.Frag} {m m' m1 : List Addr} {σ : St} {H H' H1 : Hp} {D : Ends} {μ : Store} {ρ : Lo}
theorem Ends.of_ext {o : Out} (x : Ext m H m1 H1) (h : Ends.of K m H D o) : Ends.of K m1 H1 D o := by
 cases o with
 | nx ρ μ => exact fun σ H' m' y => h σ H' m' (x.trans y)
 | bk ρ μ => exact fun σ H' m' y => h σ H' m' (x.trans y)
 | ct ρ μ => exact fun σ H' m' y => h σ H' m' (x.trans y)
 | rt d μ => exact fun σ H' m' y => h σ H' m' (x.trans y)
theorem LRel.set {d : R} {v : V} (h : LRel K m H ρ σ) (r : RelR K m H d v) (i : Nat) : LRel K m H (ρ.set i (some d)) (σ.set i (some v)) := by
 refine ⟨by simp [h.1], fun j d' e => ?_⟩
 by_cases hj : j = i
 ·subst hj
  by_cases hi : j < ρ.length
  ·rw [List.getElem?_set_self hi] at e
   cases e
   exact ⟨v, List.getElem?_set_self (by rw [← h.1]; exact hi), r⟩
  ·rw [List.getElem?_eq_none (by simp; omega)] at e
   cases e
 ·rw [List.getElem?_set_ne (Ne.symm hj)] at e
  obtain ⟨u, q1, q2⟩ := h.2 j d' e
  exact ⟨u, by rw [List.getElem?_set_ne (Ne.symm hj)]; exact q1, q2⟩
theorem rd_next (h : rdS K sNext D σ H) : tNext D σ H := by
 obtain ⟨ρ, μ, m, o, hl, hs, e, k⟩ := h
 cases e
 exact k σ H m .refl hs hl
theorem rd_seq {a b} (h : rdS K (sSeq a b) D σ H) : tSeq (rdS K a) (rdS K b) D σ H := by
 obtain ⟨ρ, μ, m, o, hl, hs, e, k⟩ := h
 obtain ⟨o1, e1, e⟩ := Option.bind_eq_some_iff.mp e
 refine ⟨ρ, μ, m, o1, hl, hs, e1, ?_⟩
 cases o1 with
 | nx ρ1 μ1 => exact fun σ1 H1 m1 x1 s1 l1 => ⟨ρ1, μ1, m1, o, l1, s1, e, Ends.of_ext x1 k⟩
 | bk ρ1 μ1 => cases e; exact k
 | ct ρ1 μ1 => cases e; exact k
 | rt d μ1 => cases e; exact k
theorem rd_drop {f} (h : rdS K (sDrop f) D σ H) : tDrop (rdE K f) D σ H := by
 obtain ⟨ρ, μ, m, o, hl, hs, e, k⟩ := h
 obtain ⟨⟨x, μ1⟩, e1, e⟩ := Option.bind_eq_some_iff.mp e
 cases e
 exact ⟨ρ, μ, m, x, μ1, hl, hs, e1, fun v H1 m1 x1 s1 r1 => k σ H1 m1 x1 s1 (hl.ext x1)⟩
theorem rd_ret {f} (h : rdS K (sRet f) D σ H) : tRet (rdE K f) D σ H := by
 obtain ⟨ρ, μ, m, o, hl, hs, e, k⟩ := h
 obtain ⟨⟨x, μ1⟩, e1, e⟩ := Option.bind_eq_some_iff.mp e
 cases e
 exact ⟨ρ, μ, m, x, μ1, hl, hs, e1, k⟩
theorem rd_ifS {t a b} (h : rdS K (sIf t a b) D σ H) : tIfS (rdT K t) (rdS K a) (rdS K b) D σ H := by
 obtain ⟨ρ, μ, m, o, hl, hs, e, k⟩ := h
 obtain ⟨⟨c, μ1⟩, e1, e⟩ := Option.bind_eq_some_iff.mp e
 refine ⟨ρ, μ, m, c, μ1, hl, hs, e1, fun H1 m1 x1 s1 => ?_⟩
 cases c with
 | true => exact ⟨ρ, μ1, m1, o, hl.ext x1, s1, e, Ends.of_ext x1 k⟩
 | false => exact ⟨ρ, μ1, m1, o, hl.ext x1, s1, e, Ends.of_ext x1 k⟩
theorem rd_set {i f} (h : rdS K (sSet i f) D σ H) : tAsg (rdE K f) (gName i) D σ H := by
 obtain ⟨ρ, μ, m, o, hl, hs, e, k⟩ := h
 obtain ⟨⟨x, μ1⟩, e1, e⟩ := Option.bind_eq_some_iff.mp e
 cases e
 exact ⟨ρ, μ, m, x, μ1, hl, hs, e1, fun v H1 m1 x1 s1 r1 => k _ H1 m1 x1 s1 ((hl.ext x1).set r1 i)⟩
end
noncomputable abbrev FG := R -> Lo -> Store -> Option (Lo × Store)
def rdG (K : PySem.W.Frag) (g : FG) : TG := fun v σ H Q => ∃ ρ μ m d ρ' μ', LRel K m H ρ σ /\ SRel K m H μ /\ RelR K m H d v /\ g d ρ μ = some (ρ', μ') /\
 ∀ σ' H' m', Ext m H m' H' -> SRel K m' H' μ' -> LRel K m' H' ρ' σ' -> Q σ' H'
noncomputable abbrev FGs := List R -> Lo -> Store -> Option (Lo × Store)
def rdGs (K : PySem.W.Frag) (g : FGs) : TGs := fun vs σ H Q => ∃ ρ μ m ds ρ' μ', LRel K m H ρ σ /\ SRel K m H μ /\ RelRs K m H ds vs /\ g ds ρ μ = some (ρ', μ') /\
 ∀ σ' H' m', Ext m H m' H' -> SRel K m' H' μ' -> LRel K m' H' ρ' σ' -> Q σ' H'
noncomputable def gNm (i : Nat) : FG := fun d ρ μ => some (ρ.set i (some d), μ)
noncomputable def gsNil : FGs := fun ds ρ μ => match ds with | [] => some (ρ, μ) | _ => none
noncomputable def gsCons (g : FG) (r : FGs) : FGs := fun ds ρ μ => match ds with | [] => none | d :: ds => (g d ρ μ).bind fun a => r ds a.1 a.2
noncomputable def gTp (n : Nat) (g : FGs) : FG := fun d ρ μ => match d with | .v (.tup xs) => if xs.length = n then g (xs.map .v) ρ μ else none | _ => none
noncomputable def sAsg (f : FE) (g : FG) : FS := fun ρ μ => (f ρ μ).bind fun a => (g a.1 ρ a.2).bind fun b => some (.nx b.1 b.2)
section
variable {K : PySem.W.Frag} {m m' m1 : List Addr} {σ : St} {H H' H1 : Hp} {D : Ends} {μ : Store} {ρ : Lo} {v : V} {Q : St -> Hp -> Prop}
theorem rd_gNm {i} (h : rdG K (gNm i) v σ H Q) : gName i v σ H Q := by
 obtain ⟨ρ, μ, m, d, ρ', μ', hl, hs, r, e, k⟩ := h
 cases e
 exact k _ H m .refl hs (hl.set r i)
theorem rd_gsNil {vs} (h : rdGs K gsNil vs σ H Q) : gNil vs σ H Q := by
 obtain ⟨ρ, μ, m, ds, ρ', μ', hl, hs, r, e, k⟩ := h
 cases ds with
 | nil => cases e; exact ⟨r, k σ H m .refl hs hl⟩
 | cons d ds => cases e
theorem rd_gsCons {g r vs} (h : rdGs K (gsCons g r) vs σ H Q) : gCons (rdG K g) (rdGs K r) vs σ H Q := by
 obtain ⟨ρ, μ, m, ds, ρ', μ', hl, hs, rr, e, k⟩ := h
 cases ds with
 | nil => cases e
 | cons d ds =>
  obtain ⟨v, vr, rfl, r1, r2⟩ := rr
  obtain ⟨⟨ρ1, μ1⟩, e1, e⟩ := Option.bind_eq_some_iff.mp e
  refine ⟨v, vr, rfl, ρ, μ, m, d, ρ1, μ1, hl, hs, r1, e1, fun σ1 H1 m1 x1 s1 l1 => ?_⟩
  exact ⟨ρ1, μ1, m1, ds, ρ', μ', l1, s1, r2.ext x1, e, fun σ2 H2 m2 x2 s2 l2 => k σ2 H2 m2 (x1.trans x2) s2 l2⟩
theorem RelDs.rs : ∀ {ds : List HW.D} {vs : List V}, RelDs K H ds vs -> RelRs K m H (ds.map .v) vs
 | [], _, h => by simp only [RelDs] at h; exact h
 | d :: ds, _, h => by
  simp only [RelDs] at h
  obtain ⟨v, r, rfl, h1, h2⟩ := h
  exact ⟨v, r, rfl, h1, RelDs.rs h2⟩
theorem rd_gTp {n g} (h : rdG K (gTp n g) v σ H Q) : gTup K n (rdGs K g) v σ H Q := by
 obtain ⟨ρ, μ, m, d, ρ', μ', hl, hs, r, e, k⟩ := h
 unfold gTp at e
 split at e
 ·rename_i xs
  split at e
  ·rename_i hn
   simp only [RelR, RelD] at r
   obtain ⟨a, vs, rfl, q, rr⟩ := r
   exact ⟨a, vs, rfl, q, by rw [← rr.length]; exact hn, ρ, μ, m, _, ρ', μ', hl, hs, rr.rs, e, k⟩
  ·cases e
 ·cases e
theorem rd_asg {f g} (h : rdS K (sAsg f g) D σ H) : tAsg (rdE K f) (rdG K g) D σ H := by
 obtain ⟨ρ, μ, m, o, hl, hs, e, k⟩ := h
 obtain ⟨⟨x, μ1⟩, e1, e⟩ := Option.bind_eq_some_iff.mp e
 obtain ⟨⟨ρ2, μ2⟩, e2, e⟩ := Option.bind_eq_some_iff.mp e
 cases e
 exact ⟨ρ, μ, m, x, μ1, hl, hs, e1, fun v H1 m1 x1 s1 r1 => ⟨ρ, μ1, m1, x, ρ2, μ2, hl.ext x1, s1, r1, e2, fun σ2 H2 m2 x2 s2 l2 => k σ2 H2 m2 (x1.trans x2) s2 l2⟩⟩
end
def FzOk : HO -> Prop
 | .lst _ => True
 | .set _ _ => True
 | .dK _ => True
 | _ => False
def tFz (t : TE) : TE := fun σ H Q => t σ H fun v H1 => Q v H1 \/ ∃ a u, H1 a = some u /\ FzOk u /\ ∀ o, Q v (upd H1 a (.frz o u))
noncomputable def fzD : R -> Store -> Option (D × Store)
 | .v d, μ => some (d, μ)
 | .s _ _, _ => none
 | .x _, _ => none
 | .f _ _, _ => none
 | .p n, μ => match μ[n]? with | some (.lst xs) => some (.fl xs, μ.set n (.fz xs)) | some (.fz xs) => some (.fl xs, μ) | some (.dct kvs) => some (.fd (kvs.map (·.1)) (kvs.map (·.2)), μ.set n (.fzd kvs)) | some (.fzd kvs) => some (.fd (kvs.map (·.1)) (kvs.map (·.2)), μ) | _ => none
noncomputable def fFz (f : FE) : FE := fun ρ μ => (f ρ μ).bind fun a => (fzD a.1 a.2).bind fun b => some (.v b.1, b.2)
section
variable {K : PySem.W.Frag} {m : List Addr} {σ : St} {H : Hp} {μ : Store} {Q : VK}
theorem fz_ok {x : R} {d : D} {μ' : Store} {v : V} {B : Hp -> Prop} (hs : SRel K m H μ) (r : RelR K m H x v) (e : fzD x μ = some (d, μ'))
  (k : ∀ H', Ext m H m H' -> SRel K m H' μ' -> RelD K H' d v -> B H') : B H \/ ∃ a u, H a = some u /\ FzOk u /\ ∀ o, B (upd H a (.frz o u)) := by
 cases x with
 | v d' => cases e; exact .inl (k H .refl hs r)
 | s b xs => cases e
 | x _ => cases e
 | f _ _ => cases e
 | p n =>
  obtain ⟨a, rfl, ha⟩ := r
  simp only [fzD] at e
  split at e
  ·rename_i xs q
   cases e
   obtain ⟨vs, ea, rr⟩ := hs.cell n _ a q ha
   refine .inr ⟨a, _, ea, trivial, fun o => ?_⟩
   have x : Ext m H m (upd H a (.frz o (.lst vs))) := .put (List.mem_of_getElem? ha) ea (by simp) (by simp)
   refine k _ x (hs.put ha ea (by simp) (by simp) ⟨o, vs, upd_at, RelDs.tf x.tf _ _ rr⟩) ?_
   simp only [RelD]
   exact ⟨a, vs, rfl, .inl ⟨o, upd_at⟩, RelDs.tf x.tf _ _ rr⟩
  ·rename_i xs q
   cases e
   obtain ⟨o, vs, ea, rr⟩ := hs.cell n _ a q ha
   refine .inl (k H .refl hs ?_)
   simp only [RelD]
   exact ⟨a, vs, rfl, .inl ⟨o, ea⟩, rr⟩
  ·rename_i kvs q
   cases e
   obtain ⟨es, ea, ke, rr⟩ := hs.cell n _ a q ha
   refine .inr ⟨a, _, ea, trivial, fun o => ?_⟩
   have x : Ext m H m (upd H a (.frz o (.dK es))) := .put (List.mem_of_getElem? ha) ea (by simp) (by simp)
   refine k _ x (hs.put ha ea (by simp) (by simp) ⟨o, es, upd_at, ke, RelDs.tf x.tf _ _ rr⟩) ?_
   simp only [RelD]
   exact ⟨a, o, es, rfl, upd_at, ke, RelDs.tf x.tf _ _ rr⟩
  ·rename_i kvs q
   cases e
   obtain ⟨o, es, ea, ke, rr⟩ := hs.cell n _ a q ha
   refine .inl (k H .refl hs ?_)
   simp only [RelD]
   exact ⟨a, o, es, rfl, ea, ke, rr⟩
  ·cases e
theorem rd_fz {f} (h : rdE K (fFz f) σ H Q) : tFz (rdE K f) σ H Q := by
 obtain ⟨ρ, μ, m, d, μ', hl, hs, e, k⟩ := h
 obtain ⟨⟨x, μ1⟩, e1, e⟩ := Option.bind_eq_some_iff.mp e
 obtain ⟨⟨d1, μ2⟩, e2, e⟩ := Option.bind_eq_some_iff.mp e
 cases e
 refine ⟨ρ, μ, m, x, μ1, hl, hs, e1, fun v H1 m1 x1 s1 r1 => ?_⟩
 exact fz_ok (B := fun H' => Q v H') s1 r1 e2 fun H' y s2 r2 => k v H' m1 (x1.trans y) s2 r2
end
noncomputable abbrev FI := Lo -> Store -> Option (List D × Store)
structure ItOk (K : PySem.W.Frag) (J : It) (xs : List D) (P : Hp -> Prop) : Prop where
 st : ∀ H H', TF H H' -> P H -> P H'
 stop : ∀ i H, P H -> xs.length <= i -> J.stop i H
 go : ∀ (i : Nat) d H, xs[i]? = some d -> P H -> J.go i H
 yld : ∀ (i : Nat) d H x H', xs[i]? = some d -> P H -> J.yld i H x H' -> H' = H /\ RelD K H d x
def rdI (K : PySem.W.Frag) (f : FI) : TI := fun σ H R => ∃ ρ μ m xs μ', LRel K m H ρ σ /\ SRel K m H μ /\ f ρ μ = some (xs, μ') /\
 ∀ J P H' m', Ext m H m' H' -> SRel K m' H' μ' -> ItOk K J xs P -> P H' -> R J H'
noncomputable def loop (g : FG) (b : FS) : List D -> Lo -> Store -> Option Out
 | [], ρ, μ => some (.nx ρ μ)
 | x :: xs, ρ, μ => (g (.v x) ρ μ).bind fun a => (b a.1 a.2).bind fun o => match o with
  | .nx ρ' μ' => loop g b xs ρ' μ'
  | .ct ρ' μ' => loop g b xs ρ' μ'
  | .bk ρ' μ' => some (.nx ρ' μ')
  | .rt d μ' => some (.rt d μ')
noncomputable def sFor (i : FI) (g : FG) (b : FS) : FS := fun ρ μ => (i ρ μ).bind fun a => loop g b a.1 ρ a.2
section
variable {K : PySem.W.Frag} {m : List Addr} {σ : St} {H : Hp} {μ : Store} {D : Ends}
theorem rd_for {fi g b} (h : rdS K (sFor fi g b) D σ H) : tFor (rdI K fi) (rdG K g) (rdS K b) D σ H := by
 obtain ⟨ρ, μ, m, o, hl, hs, e, k⟩ := h
 obtain ⟨⟨xs, μ1⟩, e1, e⟩ := Option.bind_eq_some_iff.mp e
 refine ⟨ρ, μ, m, xs, μ1, hl, hs, e1, fun J P H1 m1 x1 s1 ok p1 => ?_⟩
 refine ⟨fun i n σ H => n = xs.length - i /\ i <= xs.length /\ P H /\ ∃ ρ μ m, LRel K m H ρ σ /\ SRel K m H μ /\ loop g b (xs.drop i) ρ μ = some o /\ Ends.of K m H D o,
  ⟨_, rfl, Nat.zero_le _, p1, ρ, μ1, m1, hl.ext x1, s1, by simpa using e, Ends.of_ext x1 k⟩, ?_⟩
 rintro i n σ H ⟨rfl, hi, p, ρ, μ, m, hl, hs, e, k⟩
 by_cases hlt : i < xs.length
 ·have hx : xs[i]? = some xs[i] := List.getElem?_eq_getElem hlt
  rw [List.drop_eq_getElem_cons hlt, loop] at e
  obtain ⟨⟨ρ1, μ1⟩, e1, e⟩ := Option.bind_eq_some_iff.mp e
  obtain ⟨o1, e2, e⟩ := Option.bind_eq_some_iff.mp e
  refine .inr ⟨ok.go i _ H hx p, fun σ H => i + 1 <= xs.length /\ P H /\ ∃ ρ μ m, LRel K m H ρ σ /\ SRel K m H μ /\ loop g b (xs.drop (i + 1)) ρ μ = some o /\ Ends.of K m H D o,
   fun σ' H' z => ⟨xs.length - (i + 1), by omega, rfl, z⟩, fun x H' y => ?_⟩
  obtain ⟨rfl, rx⟩ := ok.yld i _ H x H' hx p y
  refine ⟨ρ, μ, m, .v xs[i], ρ1, μ1, hl, hs, rx, e1, fun σ1 H1 m1 x1 s1 l1 => ?_⟩
  refine ⟨ρ1, μ1, m1, o1, l1, s1, e2, ?_⟩
  cases o1 with
  | nx ρ2 μ2 => exact fun σ2 H2 m2 x2 s2 l2 => ⟨hlt, ok.st _ _ (x1.trans x2).tf p, ρ2, μ2, m2, l2, s2, e, Ends.of_ext (x1.trans x2) k⟩
  | ct ρ2 μ2 => exact fun σ2 H2 m2 x2 s2 l2 => ⟨hlt, ok.st _ _ (x1.trans x2).tf p, ρ2, μ2, m2, l2, s2, e, Ends.of_ext (x1.trans x2) k⟩
  | bk ρ2 μ2 => cases e; exact fun σ2 H2 m2 x2 s2 l2 => k σ2 H2 m2 (x1.trans x2) s2 l2
  | rt d μ2 => cases e; exact fun v H2 m2 x2 s2 l2 => k v H2 m2 (x1.trans x2) s2 l2
 ·have : i = xs.length := by omega
  subst this
  rw [List.drop_length, loop] at e
  cases e
  exact .inl ⟨ok.stop _ H p (Nat.le_refl _), k σ H m .refl hs hl⟩
end
noncomputable def fiSeq (f : FE) : FI := fun ρ μ => (fFz f ρ μ).bind fun a => match a.1 with | .v (.fl xs) => some (xs, a.2) | .v (.tup xs) => some (xs, a.2) | _ => none
def iSeq (K : PySem.W.Frag) (tl : TE) : TI := fun σ H R => tl σ H fun x H1 => ∃ a, x = .ref a /\ (((∃ xs, SqL K H1 a xs) /\ R (Itl K a) H1) \/ ((∃ xs, SqT K H1 a xs) /\ R (Itt K a) H1))
noncomputable def fiR1 (f : FE) : FI := fun ρ μ => (f ρ μ).bind fun a => match a.1 with | .v (.int j) => if -(2 ^ 62) <= j /\ j < 2 ^ 62 then some ((List.range j.toNat).map fun i => .int (i : Nat), a.2) else none | _ => none
noncomputable def fiR2 (f g : FE) : FI := fun ρ μ => (f ρ μ).bind fun a => (g ρ a.2).bind fun b => match a.1, b.1 with
 | .v (.int i), .v (.int j) => if -(2 ^ 62) <= i /\ i < 2 ^ 62 /\ -(2 ^ 62) <= j /\ j < 2 ^ 62 then some ((List.range (j - i).toNat).map fun k => .int (i + (k : Nat)), b.2) else none | _, _ => none
section
variable {K : PySem.W.Frag} {m : List Addr} {σ : St} {H : Hp} {μ : Store} {R : It -> Hp -> Prop}
theorem RelDs.get : ∀ {ds : List D} {vs : List V} {i : Nat} {d : D}, RelDs K H ds vs -> ds[i]? = some d -> ∃ v, vs[i]? = some v /\ RelD K H d v
 | [], _, _, _, _, e => by simp at e
 | x :: xs, vs, 0, d, h, e => by
  simp only [RelDs] at h
  obtain ⟨v, r, rfl, h1, h2⟩ := h
  simp at e; subst e
  exact ⟨v, rfl, h1⟩
 | x :: xs, vs, i + 1, d, h, e => by
  simp only [RelDs] at h
  obtain ⟨v, r, rfl, h1, h2⟩ := h
  obtain ⟨u, q1, q2⟩ := RelDs.get (i := i) h2 (by simpa using e)
  exact ⟨u, by simpa using q1, q2⟩
theorem itr_ok (lo : Int) (n : Nat) : ItOk K (Itr lo n) ((List.range n).map fun k => .int (lo + (k : Nat))) (fun _ => True) where
 st := fun _ _ _ _ => trivial
 stop := fun i H _ hi => by show n <= i; simpa using hi
 go := fun i d H e _ => by
  have := (List.getElem?_eq_some_iff.mp e).1
  show i < n; simpa using this
 yld := fun i d H x H' e _ ⟨e1, e2⟩ => by
  have hi := (List.getElem?_eq_some_iff.mp e).1
  have hi' : i < n := by simpa using hi
  refine ⟨e1, ?_⟩
  simp [hi'] at e
  subst e e2
  simp only [RelD]
theorem rd_iR1 {f} (h : rdI K (fiR1 f) σ H R) : iRng1 (rdA K (fCons f fNil)) σ H R := by
 obtain ⟨ρ, μ, m, xs, μ', hl, hs, e, k⟩ := h
 obtain ⟨⟨x, μ1⟩, e1, e⟩ := Option.bind_eq_some_iff.mp e
 refine ⟨ρ, μ, m, [x], μ1, hl, hs, by simp [fCons, fNil, e1], fun vs H1 m1 x1 s1 r1 => ?_⟩
 split at e
 ·rename_i j q
  split at e
  ·rename_i z
   cases e
   simp only at q
   subst q
   obtain ⟨v, r, rfl, r1, r2⟩ := r1
   have r2 : r = [] := r2
   simp only [RelR, RelD] at r1
   subst r1 r2
   have := itr_ok (K := K) 0 j.toNat
   simp only [Int.zero_add] at this
   exact ⟨j, rfl, z.1, z.2, k _ _ H1 m1 x1 s1 this trivial⟩
  ·cases e
 ·cases e
end
end HW
namespace HW
open PySem L2
noncomputable abbrev MF := List D -> Option D
def Sam (H H' : Hp) : Prop := ∀ a o, H a = some o -> H' a = some o
noncomputable def spP (K : PySem.W.Frag) (n : Nat) (f : MF) : Sp := fun vs H Q _ => ∃ ds d, ds.length = n /\ RelDs K H ds vs /\ f ds = some d /\ ∀ v H', Sam H H' -> RelD K H' d v -> Q v H'
noncomputable def fin : Out -> Option D
 | .rt r μ => (fzD r μ).bind fun a => some a.1
 | .nx _ _ => some .non
 | _ => none
noncomputable def runP (k : Nat) (b : FS) : MF := fun ds => (b (ds.map (fun d => some (.v d)) ++ List.replicate (k - ds.length) none) []).bind fin
noncomputable def fCall (f : MF) (n : Nat) (fa : FA) : FE := fun ρ μ => (fa ρ μ).bind fun a => (vals a.1).bind fun ds => if ds.length = n then (f ds).bind fun d => some (.v d, a.2) else none
section
variable {K : PySem.W.Frag} {m : List Addr} {σ : St} {H H' : Hp} {μ : Store} {Q : VK}
theorem Sam.ext (s : Sam H H') : Ext m H m H' := ⟨⟨[], by simp⟩, .of s, fun a o e _ => s a o e, fun a h => by
 cases q : H a with
 | none => rfl
 | some o => rw [s a o q] at h; cases h⟩
theorem rd_call {f n fa} {E : XK} (h : rdE K (fCall f n fa) σ H Q) : tCall (spP K n f) [] E (rdA K fa) σ H Q := by
 obtain ⟨ρ, μ, m, d, μ', hl, hs, e, k⟩ := h
 obtain ⟨⟨xs, μ1⟩, e1, e⟩ := Option.bind_eq_some_iff.mp e
 obtain ⟨ds, e2, e⟩ := Option.bind_eq_some_iff.mp e
 split at e
 ·rename_i hn
  obtain ⟨d1, e3, e⟩ := Option.bind_eq_some_iff.mp e
  cases e
  refine ⟨ρ, μ, m, xs, _, hl, hs, e1, fun vs H1 m1 x1 s1 r1 => ?_⟩
  refine ⟨ds, d1, hn, by simpa using vals_rel e2 r1, e3, fun v H2 z r2 => ?_⟩
  exact k v H2 m1 (x1.trans z.ext) (s1.same z) r2
 ·cases e
theorem start_rel {N : List Str} {ds : List D} {vs : List V} (r : RelDs K H ds vs) : LRel K [] H (ds.map (fun d => some (.v d)) ++ List.replicate (N.length - ds.length) none) (L2.start N vs) := by
 have hl := r.length
 unfold L2.start
 refine ⟨by simp [hl], fun i d e => ?_⟩
 by_cases hi : i < ds.length
 ·rw [List.getElem?_append_left (by simpa using hi), List.getElem?_map] at e
  cases q : ds[i]? with
  | none => rw [q] at e; cases e
  | some d' =>
   rw [q] at e
   cases e
   obtain ⟨v, q1, q2⟩ := r.get q
   exact ⟨v, by rw [List.getElem?_append_left (by simp; omega), List.getElem?_map, q1]; rfl, q2⟩
 ·rw [List.getElem?_append_right (by simpa using hi), List.getElem?_replicate] at e
  split at e <;> cases e
def orFz (Q : VK) : VK := fun v H => Q v H \/ ∃ a u, H a = some u /\ FzOk u /\ ∀ o, Q v (upd H a (.frz o u))
theorem Ext.sam (x : Ext [] H m H') : Sam H H' := fun a o e => x.keep a o e (by simp)
theorem run_ok {N : List Str} {b : FS} {ds : List D} {vs : List V} {d : D} {E : XK} (r : RelDs K H ds vs) (e : runP N.length b ds = some d) (k : ∀ v H', Sam H H' -> RelD K H' d v -> Q v H') :
  rdS K b { nx := fun _ H' => orFz Q .non H', rt := orFz Q } (L2.start N vs) H := by
 obtain ⟨o, e1, e⟩ := Option.bind_eq_some_iff.mp e
 refine ⟨_, [], [], o, start_rel r, .nil, e1, ?_⟩
 cases o with
 | nx ρ μ =>
  cases e
  exact fun σ H' m' x _ _ => .inl (k _ _ x.sam (by simp only [RelD]))
 | bk ρ μ => cases e
 | ct ρ μ => cases e
 | rt q μ =>
  obtain ⟨⟨d1, μ1⟩, e2, e⟩ := Option.bind_eq_some_iff.mp e
  cases e
  intro v H' m' x s r'
  exact fz_ok (B := fun H' => Q v H') s r' e2 fun H2 y s2 r2 => k v H2 (x.trans y).sam r2
end
noncomputable def iOp (C : Int -> Int -> Bool) (f : Int -> Int -> D) : R -> R -> Store -> Option (R × Store)
 | .v (.int i), .v (.int j), μ => if C i j = true then some (.v (f i j), μ) else none
 | _, _, _ => none
theorem gI {K : PySem.W.Frag} {C : Int -> Int -> Bool} {C' : Int -> Int -> Prop} {f : Int -> Int -> D} {g : Int -> Int -> V} (hC : ∀ i j, C i j = true -> C' i j) (hg : ∀ H i j, RelD K H (f i j) (g i j)) : GOp K (iOp C f) (rI C' g) := by
 intro m H μ x y d μ' v u Q s rx ry e k
 unfold iOp at e
 split at e
 ·rename_i i j
  split at e
  ·rename_i z
   cases e
   simp only [RelR, RelD] at rx ry
   subst rx ry
   exact ⟨i, j, rfl, rfl, hC i j z, k _ H m .refl s (hg H i j)⟩
  ·cases e
 ·cases e
theorem gI0 {K : PySem.W.Frag} {f : Int -> Int -> D} {g : Int -> Int -> V} (hg : ∀ H i j, RelD K H (f i j) (g i j)) : GOp K (iOp (fun _ _ => true) f) (rI0 g) := by
 intro m H μ x y d μ' v u Q s rx ry e k
 unfold iOp at e
 split at e
 ·rename_i i j
  split at e
  ·cases e
   simp only [RelR, RelD] at rx ry
   subst rx ry
   exact ⟨i, j, rfl, rfl, k _ H m .refl s (hg H i j)⟩
  ·cases e
 ·cases e
noncomputable abbrev subD := iOp (fun _ _ => true) fun i j => .int (i - j)
noncomputable abbrev mulD := iOp (fun i j => decide (-(2 ^ 64) < i /\ i < 2 ^ 64) || decide (-(2 ^ 64) < j /\ j < 2 ^ 64)) fun i j => .int (i * j)
noncomputable abbrev divD := iOp (fun _ j => decide (0 < j /\ j < 1073741824)) fun i j => .int (i / j)
noncomputable abbrev modD := iOp (fun _ j => decide (0 < j)) fun i j => .int (i % j)
noncomputable abbrev ltD := iOp (fun _ _ => true) fun i j => .bl (decide (i < j))
noncomputable abbrev leD := iOp (fun _ _ => true) fun i j => .bl (decide (i <= j))
noncomputable abbrev gtD := iOp (fun _ _ => true) fun i j => .bl (decide (j < i))
noncomputable abbrev geD := iOp (fun _ _ => true) fun i j => .bl (decide (j <= i))
noncomputable def negD : R -> Store -> Option (R × Store)
 | .v (.int i), μ => some (.v (.int (-i)), μ)
 | _, _ => none
section
variable {K : PySem.W.Frag}
theorem rInt {H : Hp} {i : Int} : RelD K H (.int i) (.int i) := by simp only [RelD]
theorem rBl {H : Hp} {i : Bool} : RelD K H (.bl i) (.bl i) := by simp only [RelD]
theorem g_mul : GOp K mulD (rI CMul fun i j => .int (i * j)) := gI (fun i j h => by simpa [CMul] using h) fun _ _ _ => rInt
theorem g_div : GOp K divD (rI CDiv fun i j => .int (i / j)) := gI (fun i j h => by simpa [CDiv] using h) fun _ _ _ => rInt
theorem g_mod : GOp K modD (rI (fun _ j => 0 < j) fun i j => .int (i % j)) := gI (fun i j h => by simpa using h) fun _ _ _ => rInt
theorem g_lt : GOp K ltD (rI0 fun i j => .bl (decide (i < j))) := gI0 fun _ _ _ => rBl
end
noncomputable def addD : R -> R -> Store -> Option (R × Store)
 | .v (.int i), .v (.int j), μ => some (.v (.int (i + j)), μ)
 | .v (.str x), .v (.str y), μ => if x.length + y.length <= sizeLine then some (.v (.str (x ++ y)), μ) else none
 | .v (.tup xs), .v (.tup ys), μ => if xs ≠ [] /\ xs.length + ys.length <= sizeLine then some (.v (.tup (xs ++ ys)), μ) else none
 | .p a, .p b, μ => match μ[a]?, μ[b]? with | some (.lst xs), some (.lst ys) => if xs.length + ys.length <= sizeLine then some (.p μ.length, μ ++ [.lst (xs ++ ys)]) else none | _, _ => none
 | _, _, _ => none
noncomputable def rAddS : R2 := fun x y H Q => ∃ i j, x = .str i /\ y = .str j /\ i.length + j.length <= sizeLine /\ Q (.str (i ++ j)) H
noncomputable def rOr (r r' : R2) : R2 := fun x y H Q => r x y H Q \/ r' x y H Q
noncomputable def rAdd' (K : PySem.W.Frag) : R2 := rOr (rI0 fun i j => .int (i + j)) (rOr rAddS (rOr (rCatT K) rCat))
theorem RelDs.append {K : PySem.W.Frag} {H : Hp} : ∀ {xs ys : List D} {vs ws : List V}, RelDs K H xs vs -> RelDs K H ys ws -> RelDs K H (xs ++ ys) (vs ++ ws)
 | [], _, _, _, h, h' => by simp only [RelDs] at h; subst h; exact h'
 | x :: xs, _, _, _, h, h' => by
  simp only [RelDs] at h
  obtain ⟨v, r, rfl, h1, h2⟩ := h
  show RelDs K H (x :: (xs ++ _)) _
  simp only [RelDs]
  exact ⟨v, r ++ _, rfl, h1, RelDs.append h2 h'⟩
theorem RelDs.nil_iff {K : PySem.W.Frag} {H : Hp} {xs : List D} {vs : List V} (h : RelDs K H xs vs) : xs = [] ↔ vs = [] := by
 have := h.length
 cases xs <;> cases vs <;> simp_all
theorem g_add {K : PySem.W.Frag} : GOp K addD (rAdd' K) := by
 intro m H μ x y d μ' v u Q s rx ry e k
 unfold addD at e
 split at e
 ·cases e
  simp only [RelR, RelD] at rx ry
  subst rx ry
  exact .inl ⟨_, _, rfl, rfl, k _ H m .refl s (by simp only [RelR, RelD])⟩
 ·split at e
  ·rename_i z
   cases e
   simp only [RelR, RelD] at rx ry
   subst rx ry
   exact .inr (.inl ⟨_, _, rfl, rfl, z, k _ H m .refl s (by simp only [RelR, RelD])⟩)
  ·cases e
 ·split at e
  ·rename_i z
   cases e
   simp only [RelR, RelD] at rx ry
   obtain ⟨a, vs, rfl, qa, ra⟩ := rx
   obtain ⟨b, ws, rfl, qb, rb⟩ := ry
   refine .inr (.inr (.inl ⟨a, b, vs, ws, rfl, rfl, qa, qb, fun h => z.1 (ra.nil_iff.mpr h), by rw [← ra.length, ← rb.length]; exact z.2, fun h => ?_, fun h p hp => ?_⟩))
   ·refine k _ H m .refl s ?_
    have := rb.nil_iff.mpr h
    subst this
    simp only [RelR, RelD, List.append_nil]
    exact ⟨a, vs, rfl, qa, ra⟩
   ·obtain ⟨x1, x2, x3⟩ := new_tup s (ra.append rb) hp
    exact k _ _ _ x1 x2 x3
  ·cases e
 ·split at e
  ·rename_i xs ys qa qb
   split at e
   ·rename_i z
    cases e
    obtain ⟨a', rfl, ha⟩ := rx
    obtain ⟨b', rfl, hb⟩ := ry
    obtain ⟨vs, ea, ra⟩ := s.cell _ _ a' qa ha
    obtain ⟨ws, eb, rb⟩ := s.cell _ _ b' qb hb
    refine .inr (.inr (.inr ⟨a', b', vs, ws, rfl, rfl, ea, eb, by rw [← ra.length, ← rb.length]; exact z, fun p hp => ?_⟩))
    obtain ⟨x1, x2, x3⟩ := new_lst s (ra.append rb) hp
    exact k _ _ _ x1 x2 x3
   ·cases e
  ·cases e
 ·cases e
noncomputable def itemsD : R -> Store -> Option (List D)
 | .v (.tup xs), _ => some xs
 | .v (.fl xs), _ => some xs
 | .p n, μ => match μ[n]? with | some (.lst xs) => some xs | some (.fz xs) => some xs | _ => none
 | _, _ => none
noncomputable def lstD : R -> Store -> Option (List D)
 | .v (.fl xs), _ => some xs
 | .p n, μ => match μ[n]? with | some (.lst xs) => some xs | some (.fz xs) => some xs | _ => none
 | _, _ => none
section
variable {K : PySem.W.Frag} {m : List Addr} {H : Hp} {μ : Store}
theorem lst_ok {x : R} {xs : List D} {v : V} (s : SRel K m H μ) (r : RelR K m H x v) (e : lstD x μ = some xs) : ∃ a vs, v = .ref a /\ SqL K H a vs /\ RelDs K H xs vs := by
 unfold lstD at e
 split at e
 ·cases e
  simp only [RelR, RelD] at r
  obtain ⟨a, vs, rfl, q, r⟩ := r
  exact ⟨a, vs, rfl, q.sq, r⟩
 ·obtain ⟨a, rfl, ha⟩ := r
  split at e
  ·rename_i q
   cases e
   obtain ⟨vs, e, r⟩ := s.cell _ _ a q ha
   exact ⟨a, vs, rfl, .inl (.inl e), r⟩
  ·rename_i q
   cases e
   obtain ⟨o, vs, e, r⟩ := s.cell _ _ a q ha
   exact ⟨a, vs, rfl, .inl (.inr ⟨o, e⟩), r⟩
  ·cases e
 ·cases e
theorem items_ok {x : R} {xs : List D} {v : V} (s : SRel K m H μ) (r : RelR K m H x v) (e : itemsD x μ = some xs) : ∃ a vs, v = .ref a /\ (SqL K H a vs \/ SqT K H a vs) /\ RelDs K H xs vs := by
 cases x with
 | v d =>
  cases d with
  | tup ys =>
   cases e
   simp only [RelR, RelD] at r
   obtain ⟨a, vs, rfl, q, r⟩ := r
   exact ⟨a, vs, rfl, .inr q, r⟩
  | fl ys => obtain ⟨a, vs, q1, q2, q3⟩ := lst_ok s r (xs := xs) e; exact ⟨a, vs, q1, .inl q2, q3⟩
  | non => cases e
  | bl _ => cases e
  | int _ => cases e
  | str _ => cases e
  | fd _ _ => cases e
  | key _ => cases e
 | p n => obtain ⟨a, vs, q1, q2, q3⟩ := lst_ok s r (xs := xs) e; exact ⟨a, vs, q1, .inl q2, q3⟩
 | s _ _ => cases e
 | x _ => cases e
 | f _ _ => cases e
end
noncomputable def ixD : R -> R -> Store -> Option (R × Store)
 | x, .v (.int i), μ => (itemsD x μ).bind fun xs => (atI xs i).bind fun d => some (.v d, μ)
 | _, _, _ => none
noncomputable def lenD : List R -> Store -> Option (R × Store)
 | [x], μ => (itemsD x μ).bind fun xs => some (.v (.int xs.length), μ)
 | _, _ => none
theorem atI_rel {K : PySem.W.Frag} {H : Hp} {xs : List D} {vs : List V} {i : Int} {d : D} (r : RelDs K H xs vs) (e : atI xs i = some d) : ∃ v, atI vs i = some v /\ RelD K H d v := by
 obtain ⟨j, e1, e2⟩ := Option.bind_eq_some_iff.mp e
 obtain ⟨v, q1, q2⟩ := r.get e2
 exact ⟨v, by unfold atI; rw [← r.length, e1]; exact q1, q2⟩
theorem g_ix {K : PySem.W.Frag} : GOp K ixD (rIx K) := by
 intro m H μ x y d μ' v u Q s rx ry e k
 unfold ixD at e
 split at e
 ·rename_i i
  obtain ⟨xs, e1, e⟩ := Option.bind_eq_some_iff.mp e
  obtain ⟨d1, e2, e⟩ := Option.bind_eq_some_iff.mp e
  cases e
  simp only [RelR, RelD] at ry
  subst ry
  obtain ⟨a, vs, rfl, q, r⟩ := items_ok s rx e1
  obtain ⟨w, q1, q2⟩ := atI_rel r e2
  rcases q with q | q
  ·exact .inl ⟨a, vs, i, w, rfl, rfl, q, q1, k _ H m .refl s q2⟩
  ·exact .inr (.inl ⟨a, vs, i, w, rfl, rfl, q, q1, k _ H m .refl s q2⟩)
 ·cases e
def rLen (K : PySem.W.Frag) : List V -> Hp -> VK -> Prop := fun xs H Q => ∃ p ys, xs = [.ref p] /\ (SqL K H p ys \/ SqT K H p ys) /\ Q (.int ys.length) H
theorem rel1 {K : PySem.W.Frag} {m : List Addr} {H : Hp} {x : R} {vs : List V} (r : RelRs K m H [x] vs) : ∃ v, vs = [v] /\ RelR K m H x v := by
 obtain ⟨v, r, rfl, h1, h2⟩ := r
 have h2 : r = [] := h2
 subst h2
 exact ⟨v, rfl, h1⟩
theorem g_len {K : PySem.W.Frag} : GAr K lenD (rLen K) := by
 intro m H μ xs d μ' vs Q s r e k
 unfold lenD at e
 split at e
 ·rename_i x
  obtain ⟨ys, e1, e⟩ := Option.bind_eq_some_iff.mp e
  cases e
  obtain ⟨v, rfl, r1⟩ := rel1 r
  obtain ⟨a, ws, rfl, q, r⟩ := items_ok s r1 e1
  exact ⟨a, ws, rfl, q, k _ H m .refl s (by simp only [RelR, RelD]; rw [r.length])⟩
 ·cases e
noncomputable def listD : List R -> Store -> Option (R × Store)
 | [x], μ => (itemsD x μ).bind fun xs => some (.p μ.length, μ ++ [.lst xs])
 | _, _ => none
def rList (K : PySem.W.Frag) : List V -> Hp -> VK -> Prop := fun xs H Q => ∃ p ys, xs = [.ref p] /\ (SqL K H p ys \/ SqT K H p ys) /\ ∀ l, H l = none -> Q (.ref l) (upd H l (.lst ys))
theorem g_list {K : PySem.W.Frag} : GAr K listD (rList K) := by
 intro m H μ xs d μ' vs Q s r e k
 unfold listD at e
 split at e
 ·rename_i x
  obtain ⟨ys, e1, e⟩ := Option.bind_eq_some_iff.mp e
  cases e
  obtain ⟨v, rfl, r1⟩ := rel1 r
  obtain ⟨a, ws, rfl, q, r⟩ := items_ok s r1 e1
  refine ⟨a, ws, rfl, q, fun p hp => ?_⟩
  obtain ⟨x1, x2, x3⟩ := new_lst s r hp
  exact k _ _ _ x1 x2 x3
 ·cases e
noncomputable def tupD : List R -> Store -> Option (R × Store)
 | [x], μ => (itemsD x μ).bind fun xs => some (.v (.tup xs), μ)
 | _, _ => none
noncomputable def appD : R -> List R -> Store -> Option (R × Store)
 | .p n, [.v d], μ => match μ[n]? with | some (.lst xs) => if xs.length < sizeLine then some (.v .non, μ.set n (.lst (xs ++ [d]))) else none | _ => none
 | _, _, _ => none
def GMt (K : PySem.W.Frag) (g : R -> List R -> Store -> Option (R × Store)) (r : V -> List V -> Hp -> VK -> Prop) : Prop :=
 ∀ m H μ x xs d μ' v vs Q, SRel K m H μ -> RelR K m H x v -> RelRs K m H xs vs -> g x xs μ = some (d, μ') -> (∀ w H' m', Ext m H m' H' -> SRel K m' H' μ' -> RelR K m' H' d w -> Q w H') -> r v vs H Q
theorem g_app {K : PySem.W.Frag} : GMt K appD rAppend := by
 intro m H μ x xs d μ' v vs Q s rx rs e k
 unfold appD at e
 split at e
 ·split at e
  ·rename_i ys q
   split at e
   ·rename_i z
    cases e
    obtain ⟨a, rfl, ha⟩ := rx
    obtain ⟨w, rfl, rw'⟩ := rel1 rs
    obtain ⟨ws, ea, ra⟩ := s.cell _ _ a q ha
    have x : Ext m H m (upd H a (.lst (ws ++ [w]))) := .put (List.mem_of_getElem? ha) ea (by simp) (by simp)
    refine ⟨a, ws, w, rfl, rfl, ea, by rw [← ra.length]; exact z, k _ _ m x (s.put ha ea (by simp) (by simp) ⟨_, upd_at, ?_⟩) (by simp only [RelR, RelD])⟩
    refine RelDs.tf x.tf _ _ (ra.append ?_)
    simp only [RelDs]
    exact ⟨w, [], rfl, rw', rfl⟩
   ·cases e
  ·cases e
 ·cases e
noncomputable def compL (g : FG) (c : FT) (f : FE) : List D -> Lo -> Store -> Option (List D × Store)
 | [], _, μ => some ([], μ)
 | x :: xs, ρ, μ => (g (.v x) ρ μ).bind fun a => (c a.1 a.2).bind fun b => if b.1 = true then (f a.1 b.2).bind fun y => match y.1 with
   | .v d => (compL g c f xs a.1 y.2).bind fun r => some (d :: r.1, r.2)
   | _ => none
  else compL g c f xs a.1 b.2
noncomputable def blockLo (k : Nat) (ix : List Nat) (ρ : Lo) : Lo := List.replicate k none ++ ix.map fun i => (ρ[i]?).join
noncomputable def fComp (ix : List Nat) (k : Nat) (i : FI) (g : FG) (c : FT) (f : FE) : FE := fun ρ μ => (i ρ μ).bind fun a => if a.1.length <= sizeLine then
 (compL g c f a.1 (blockLo k ix ρ) a.2).bind fun r => some (.p r.2.length, r.2 ++ [.lst r.1]) else none
noncomputable def cYes : FT := fun _ μ => some (true, μ)
end HW
namespace HW
open PySem PySem.Spec PyProof.Rows L2
section
variable {X : Cx}
theorem PE.imp {e : Expr} {t t' : TE} (h : PE X e t) (k : ∀ {σ H Q}, t' σ H Q -> t σ H Q) : PE X e t' := fun pins s σ H Q I q => h pins s σ H Q I (k q)
theorem PT.imp {e : Expr} {t t' : TT} (h : PT X e t) (k : ∀ {σ H Q}, t' σ H Q -> t σ H Q) : PT X e t' := fun pins s σ H Q I q => h pins s σ H Q I (k q)
theorem PW.imp {e : Expr} {t t' : TT} (h : PW X e t) (k : ∀ {σ H Q}, t' σ H Q -> t σ H Q) : PW X e t' := fun wh pins s σ H Q I q => h wh pins s σ H Q I (k q)
theorem PA.imp {e : List Expr} {t t' : TA} (h : PA X e t) (k : ∀ {σ H Q}, t' σ H Q -> t σ H Q) : PA X e t' := fun pos pins s σ H Q I q => h pos pins s σ H Q I (k q)
theorem PS.imp {e : Stmt} {t t' : TS} (h : PS X e t) (k : ∀ {D σ H}, t' D σ H -> t D σ H) : PS X e t' := fun pins s σ H Q I q => h pins s σ H Q I (k q)
theorem PSs.imp {e : List Stmt} {t t' : TS} (h : PSs X e t) (k : ∀ {D σ H}, t' D σ H -> t D σ H) : PSs X e t' := fun pins s σ H Q I q => h pins s σ H Q I (k q)
theorem PI.imp {tg e : Expr} {t t' : TI} (h : PI X tg e t) (k : ∀ {σ H R}, t' σ H R -> t σ H R) : PI X tg e t' := fun pins s σ H R I q => h pins s σ H R I (k q)
theorem PG.imp {e : Expr} {t t' : TG} (h : PG X e t) (k : ∀ {v σ H Q}, t' v σ H Q -> t v σ H Q) : PG X e t' := fun pins s σ H v u Q I r q => h pins s σ H v u Q I r (k q)
theorem PGs.imp {e : List Expr} {t t' : TGs} (h : PGs X e t) (k : ∀ {v σ H Q}, t' v σ H Q -> t v σ H Q) : PGs X e t' := fun pins s σ H v u Q I r q => h pins s σ H v u Q I r (k q)
end
section
variable {P : Program} {w : World} {H H0 : Hp} {h h0 : Heap} {a : Addr} {u : HO} {fs ex : List Addr}
theorem FzOk.ne {b : Addr} {v : HO} (e : H a = some u) (hu : FzOk u) (q : H b = some v) (n : ¬ FzOk v) : b ≠ a := fun z => by
 rw [z, e] at q; cases q; exact n hu
theorem HOk.frz (ok : HOk P w H h) (e : H a = some u) (hu : FzOk u) : ∃ o, HOk P w (upd H a (.frz o u)) h := by
 have ho : ∃ o, h.get? a = some o := by
  have z := ok a u e
  cases u with
  | lst xs => obtain ⟨_, _, _, _, q⟩ := z; exact ⟨_, q⟩
  | set S n => obtain ⟨o, _, _, _, q, _⟩ := z; exact ⟨_, q⟩
  | dK kvs => obtain ⟨_, _, _, _, o, _, _, q, _⟩ := z; exact ⟨_, q⟩
  | _ => exact hu.elim
 obtain ⟨o, ho⟩ := ho
 refine ⟨o, fun b v q => ?_⟩
 have own : ∀ c y, H c = some (.own y) -> upd H a (.frz o u) c = some (.own y) := fun c y r => by rw [L2.upd_ne (FzOk.ne e hu r fun z => z)]; exact r
 have tup : ∀ c xs, H c = some (.tup xs) -> upd H a (.frz o u) c = some (.tup xs) := fun c xs r => by rw [L2.upd_ne (FzOk.ne e hu r fun z => z)]; exact r
 by_cases hb : b = a
 ·subst hb
  rw [L2.upd_same] at q
  cases q
  exact ⟨ho, (ok b u e).stay (fun c v _ q => q) (fun c r => own c _ r) tup⟩
 ·rw [L2.upd_ne hb] at q
  exact (ok b v q).stay (fun c v _ q => q) (fun c r => own c _ r) tup
theorem Un.frz {o : Obj} (un : Un fs ex H0 H h0 h) (e : H a = some u) (hu : FzOk u) : Un fs ex H0 (upd H a (.frz o u)) h0 h where
 keep := un.keep
 slot := un.slot
 free := fun b ob q n hx => by
  have z := un.free b ob q n hx
  rw [L2.upd_ne (fun y => by rw [y, e] at z; cases z)]; exact z
 there := un.there
 tups := fun b xs q => by rw [L2.upd_ne (FzOk.ne e hu (un.tups b xs q) fun z => z)]; exact un.tups b xs q
 frzs := fun b ob v q => by rw [L2.upd_ne (FzOk.ne e hu (un.frzs b ob v q) fun z => z)]; exact un.frzs b ob v q
 tbls := fun b ps q => by
  obtain ⟨more, r⟩ := un.tbls b ps q
  exact ⟨more, by rw [L2.upd_ne (FzOk.ne e hu r fun z => z)]; exact r⟩
theorem Inv.frz {X : Cx} {pins : List (Addr × Obj)} {σ : L2.St} {s : Shared} (I : Inv X pins σ H s) (e : H a = some u) (hu : FzOk u) : ∃ o, Inv X pins σ (upd H a (.frz o u)) s := by
 obtain ⟨o, ok⟩ := HOk.frz I.hok e hu
 have nn : ∀ b, H b = none -> upd H a (.frz o u) b = none := fun b z => by rw [L2.upd_ne (fun y => by rw [y, e] at z; cases z)]; exact z
 refine ⟨o, I.ok, I.os, I.bare, Un.frz I.base e hu, I.loc, I.cell, nn _ I.free, fun x c q => nn _ (I.freeC x c q), fun p hp => ?_, ok, I.len⟩
 obtain ⟨q1, q2, q3⟩ := I.pin p hp
 exact ⟨q1, nn _ q2, q3⟩
end
theorem pe_fz0 {X : Cx} {e : Expr} {t : TE} (h : PE X e t) : PE X e (tFz t) := fun pins s σ H Q I q => by
 refine thn (h pins s σ H _ I q) fun v s1 ⟨x, H1, I1, r1, q1⟩ => ?_
 rcases q1 with q1 | ⟨a, u, e, hu, q1⟩
 ·exact ⟨x, H1, I1, r1, q1⟩
 ·obtain ⟨o, I2⟩ := Inv.frz I1 e hu
  exact ⟨x, _, I2, r1, q1 o⟩
theorem FnOk.fz {P : Program} {w : World} {K : PySem.W.Frag} {mg : Str -> Option Value} {base : Heap} {CX : CXT} {k : Nat} {f : Addr} {fd : FuncData} {ps : List Str} {sp : Sp} (F : FnOk P w K mg base CX k f fd ps sp) :
  FnOk P w K mg base CX k f fd ps (fun vs H Q E => sp vs H (orFz Q) E) := by
 refine ⟨fun vs H Q E h => F.len vs H _ E h, fun A outer s H args us vs Q E hr he hb hv hs => ?_⟩
 refine codeAny_mono (F.run A outer s H args us vs (orFz Q) E hr he hb hv hs) fun r s' hq => ?_
 cases r with
 | error e => exact hq
 | ok fl =>
  cases fl with
  | next => exact hq
  | brk => exact hq
  | cont => exact hq
  | ret u =>
   obtain ⟨v, H', os, bare, un, hok, rv, q⟩ := hq
   rcases q with q | ⟨a, u', e, hu, q⟩
   ·exact ⟨v, H', os, bare, un, hok, rv, q⟩
   ·obtain ⟨o, ok⟩ := HOk.frz hok e hu
    exact ⟨v, _, os, bare, Un.frz un e hu, ok, rv, q o⟩
theorem Fun.okP {P : Program} {w : World} {K : PySem.W.Frag} {mg : Str -> Option Value} {base : Heap} {x qual : Str} {st : Stmt} {f : Addr} {fd : FuncData} {N ps : List Str} {k : Nat} {b : FS} (F : Fun K x qual st f fd) (S : FnScope N ps (defScope st))
  (hbody : ∀ (cdv : Value) (A : Around) (outer : List Env) (s : Shared) (H : Hp) (E : XK), Room k (A.deeper (envOfC qual (defScope st) s.heap.objs.size f cdv)) -> PSs (cxOf CX0 P w K mg base N qual (defScope st) f cdv A outer s H E).nox (defBody st) (rdS K b)) :
  FnOk P w K mg base CX0 (k + 1) f fd ps (spP K ps.length (runP N.length b)) := by
 have G : FnOk P w K mg base CX0 (k + 1) f fd ps (fun vs H Q _ => vs.length = ps.length /\ rdS K b { nx := fun _ H' => Q .non H', rt := Q } (L2.start N vs) H) :=
  L2.Fun.ok F S (fun vs H Q E h => h.1) fun cdv A outer s H vs Q E hr h => ⟨_, hbody cdv A outer s H E hr, h.2⟩
 refine (FnOk.fz G).imp fun vs H Q E ⟨ds, d, hn, r, e, k⟩ => ⟨by rw [← r.length]; exact hn, run_ok (E := E) r e k⟩
theorem pi_seq0 {X : Cx} {tg l : Expr} {tl : TE} (hl : PE X l tl) : PI X tg l (iSeq X.K tl) := by
 intro pins s σ H R I h
 refine thn (hl pins s σ H _ I h) fun v s1 ⟨x, H1, I1, r1, q1⟩ => ?_
 obtain ⟨a, e, q1⟩ := q1
 subst e
 cases r1
 rcases q1 with ⟨⟨xs, hq⟩, q⟩ | ⟨⟨xs, hq⟩, q⟩
 ·obtain ⟨its, rv, p, hz⟩ := I1.list hq
  refine wpAny_pyIter_list p.isList ?_
  refine ⟨s1.heap.objs.size, [s1.heap.objs.size], _, _, H1, rfl, I1.kept (t' := s1.toks) fun b o e => Heap.get?_push_of_some _ e, turn_list a _, ⟨_, Heap.get?_push_size _ rfl, rfl, rfl⟩, fun b hb => ?_, q⟩
  have e : b = s1.heap.objs.size := by simpa using hb
  subst e
  exact I1.fpOk (Nat.le_refl _) (I1.hok.fresh (Nat.le_refl _))
 ·obtain ⟨its, rv, p, hz⟩ := I1.tuple hq
  refine wpAny_pyIter_tuple (show s1.heap.IsTuple a its.toArray from p) ?_
  refine ⟨s1.heap.objs.size, [s1.heap.objs.size], _, _, H1, rfl, I1.kept (t' := s1.toks) fun b o e => Heap.get?_push_of_some _ e, turn_tuple a _, ⟨_, Heap.get?_push_size _ rfl, rfl, rfl⟩, fun b hb => ?_, q⟩
  have e : b = s1.heap.objs.size := by simpa using hb
  subst e
  exact I1.fpOk (Nat.le_refl _) (I1.hok.fresh (Nat.le_refl _))
end HW
namespace HW
open PySem PySem.Spec PyProof.Rows L2
open Classical in
noncomputable def loopL (n : Nat) (xs : List D) (g : FG) (b : FS) : List D -> Lo -> Store -> Option Out
 | [], ρ, μ => some (.nx ρ μ)
 | x :: r, ρ, μ => (g (.v x) ρ μ).bind fun a => (b a.1 a.2).bind fun o => match o with
  | .nx ρ' μ' => if μ'[n]? = some (.lst xs) then loopL n xs g b r ρ' μ' else none
  | .ct ρ' μ' => if μ'[n]? = some (.lst xs) then loopL n xs g b r ρ' μ' else none
  | .bk ρ' μ' => some (.nx ρ' μ')
  | .rt d μ' => some (.rt d μ')
noncomputable def sForL (f : FE) (g : FG) (b : FS) : FS := fun ρ μ => (f ρ μ).bind fun a => match a.1 with | .p n => (match a.2[n]? with | some (.lst xs) => loopL n xs g b xs ρ a.2 | _ => none) | _ => none
theorem rd_forL {K : PySem.W.Frag} {σ : L2.St} {H : Hp} {D : Ends} {f g b} (h : rdS K (sForL f g b) D σ H) : tFor (iSeq K (rdE K f)) (rdG K g) (rdS K b) D σ H := by
 obtain ⟨ρ, μ, m, o, hl, hs, e, k⟩ := h
 obtain ⟨⟨x, μ1⟩, e1, e⟩ := Option.bind_eq_some_iff.mp e
 dsimp only at e
 split at e
 ·rename_i n
  split at e
  ·rename_i xs q
   refine ⟨ρ, μ, m, .p n, μ1, hl, hs, e1, fun v H1 m1 x1 s1 r1 => ?_⟩
   obtain ⟨a, rfl, ha⟩ := r1
   obtain ⟨vs, ea, ra⟩ := s1.cell _ _ a q ha
   refine ⟨a, rfl, .inl ⟨⟨vs, SqL.of ea⟩, ?_⟩⟩
   refine ⟨fun i c σ H => c = xs.length - i /\ i <= xs.length /\ ∃ ρ μ m, LRel K m H ρ σ /\ SRel K m H μ /\ μ[n]? = some (.lst xs) /\ m[n]? = some a /\ loopL n xs g b (xs.drop i) ρ μ = some o /\ Ends.of K m H D o,
    ⟨_, rfl, Nat.zero_le _, ρ, μ1, m1, hl.ext x1, s1, q, ha, by simpa using e, Ends.of_ext x1 k⟩, ?_⟩
   clear ea ra
   rintro i c σ H ⟨rfl, hi, ρ, μ, m, hl, hs, q, ha, e, k⟩
   obtain ⟨vs, ea, ra⟩ := hs.cell _ _ a q ha
   have hvl := ra.length
   by_cases hlt : i < xs.length
   ·have hx : xs[i]? = some xs[i] := List.getElem?_eq_getElem hlt
    obtain ⟨v, hv, rv⟩ := ra.get hx
    rw [List.drop_eq_getElem_cons hlt, loopL] at e
    obtain ⟨⟨ρ1, μ1⟩, e1, e⟩ := Option.bind_eq_some_iff.mp e
    obtain ⟨o1, e2, e⟩ := Option.bind_eq_some_iff.mp e
    refine .inr ⟨⟨vs, v, SqL.of ea, hv⟩, fun σ H => i + 1 <= xs.length /\ ∃ ρ μ m, LRel K m H ρ σ /\ SRel K m H μ /\ μ[n]? = some (.lst xs) /\ m[n]? = some a /\ loopL n xs g b (xs.drop (i + 1)) ρ μ = some o /\ Ends.of K m H D o,
     fun σ' H' z => ⟨xs.length - (i + 1), by omega, rfl, z⟩, fun x H' y => ?_⟩
    obtain ⟨rfl, y⟩ := y
    have hxv : x = v := by have := y vs (SqL.of ea); rw [hv] at this; exact (Option.some.inj this).symm
    subst hxv
    refine ⟨ρ, μ, m, .v xs[i], ρ1, μ1, hl, hs, rv, e1, fun σ1 H1 m1 x1 s1 l1 => ?_⟩
    refine ⟨ρ1, μ1, m1, o1, l1, s1, e2, ?_⟩
    have keep : ∀ {m2 : List Addr} {H2 : Hp}, Ext m1 H1 m2 H2 -> m2[n]? = some a := fun x2 => by
     obtain ⟨r, hr, _⟩ := (x1.trans x2).1
     rw [hr, List.getElem?_append_left (List.getElem?_eq_some_iff.mp ha).1]
     exact ha
    cases o1 with
    | nx ρ2 μ2 =>
     dsimp only at e
     split at e
     ·rename_i q2
      exact fun σ2 H2 m2 x2 s2 l2 => ⟨hlt, ρ2, μ2, m2, l2, s2, q2, keep x2, e, Ends.of_ext (x1.trans x2) k⟩
     ·cases e
    | ct ρ2 μ2 =>
     dsimp only at e
     split at e
     ·rename_i q2
      exact fun σ2 H2 m2 x2 s2 l2 => ⟨hlt, ρ2, μ2, m2, l2, s2, q2, keep x2, e, Ends.of_ext (x1.trans x2) k⟩
     ·cases e
    | bk ρ2 μ2 => cases e; exact fun σ2 H2 m2 x2 s2 l2 => k σ2 H2 m2 (x1.trans x2) s2 l2
    | rt d μ2 => cases e; exact fun v H2 m2 x2 s2 l2 => k v H2 m2 (x1.trans x2) s2 l2
   ·have : i = xs.length := by omega
    subst this
    rw [List.drop_length, loopL] at e
    cases e
    exact .inl ⟨⟨vs, SqL.of ea, by omega⟩, k σ H m .refl hs hl⟩
  ·cases e
 ·cases e
end HW
namespace HW
open PySem PySem.Spec PyProof.Rows L2
theorem relabel_lookup {env : Env} : ∀ {names : List (Str × NameKind)} {x : Str},
  (names.map fun (n, k) => if (k == NameKind.free && env.scope.kind == .function && env.kindOf n == some .cell) then (n, NameKind.cell) else (n, k)).lookup x =
   (names.lookup x).map fun k => if (k == NameKind.free && env.scope.kind == .function && env.kindOf x == some .cell) then NameKind.cell else k
 | [], _ => rfl
 | (n, k) :: r, x => by
  have ih := @relabel_lookup env r x
  show List.lookup x ((if (k == NameKind.free && env.scope.kind == .function && env.kindOf n == some .cell) = true then (n, NameKind.cell) else (n, k)) :: _) = _
  cases hx : x == n with
  | true =>
   have : x = n := eq_of_beq hx
   subst this
   simp only [List.lookup_cons, hx, Option.map_some]
   by_cases hc : (k == NameKind.free && env.scope.kind == .function && env.kindOf x == some .cell) = true
   ·simp [hc]
   ·simp [hc]
  | false =>
   by_cases hc : (k == NameKind.free && env.scope.kind == .function && env.kindOf n == some .cell) = true
   ·rw [if_pos hc]; simp only [List.lookup_cons, hx]; exact ih
   ·rw [if_neg hc]; simp only [List.lookup_cons, hx]; exact ih
theorem closure_loop {env : Env} : ∀ (names : List (Str × NameKind)) (acc : List (Str × Addr)), (∀ x c, acc.lookup x = some c -> env.cells.lookup x = some c) ->
  (∀ y ∈ names, y.2 = .free -> ∃ c, env.cells.lookup y.1 = some c) ->
  ∃ cl : List (Str × Addr), (forIn names acc fun (x : Str × NameKind) (r : List (Str × Addr)) => (if (x.2 == NameKind.free) = true then do let a ← cellOf env x.1; pure (ForInStep.yield ((x.1, a) :: r)) else pure (ForInStep.yield r) : Sem (ForInStep (List (Str × Addr))))) = pure cl /\
   (∀ x c, cl.lookup x = some c -> env.cells.lookup x = some c) /\ (∀ x c, acc.lookup x = some c -> ∃ c', cl.lookup x = some c') /\ ∀ y ∈ names, y.2 = .free -> ∃ c, cl.lookup y.1 = some c
 | [], acc, h1, _ => ⟨acc, rfl, h1, fun x c e => ⟨c, e⟩, fun y hy => by simp at hy⟩
 | (n, k) :: r, acc, h1, h2 => by
  by_cases hk : k = .free
  ·subst hk
   obtain ⟨c, hc⟩ := h2 (n, .free) List.mem_cons_self rfl
   have step : ∀ x c', List.lookup x ((n, c) :: acc) = some c' -> env.cells.lookup x = some c' := fun x c' e => by
    rw [List.lookup_cons] at e
    cases hx : x == n with
    | true => rw [hx] at e; have : x = n := eq_of_beq hx; subst this; rw [hc]; exact e
    | false => rw [hx] at e; exact h1 x c' e
   obtain ⟨cl, e, p1, p2, p3⟩ := closure_loop r ((n, c) :: acc) step fun y hy => h2 y (List.mem_cons_of_mem _ hy)
   have hn : ∃ c', List.lookup n ((n, c) :: acc) = some c' := ⟨c, by rw [List.lookup_cons]; simp⟩
   refine ⟨cl, ?_, p1, fun x c' e' => ?_, fun y hy hf => ?_⟩
   ·rw [List.forIn_cons]
    show ((cellOf env n >>= fun a => pure (ForInStep.yield ((n, a) :: acc))) >>= _) = _
    unfold cellOf
    rw [hc]
    exact e
   ·cases hx : x == n with
    | true => have : x = n := eq_of_beq hx; subst this; obtain ⟨c'', q⟩ := hn; exact p2 _ _ q
    | false => exact p2 x c' (by rw [List.lookup_cons, hx]; exact e')
   ·rcases List.mem_cons.mp hy with rfl | hy
    ·obtain ⟨c'', q⟩ := hn; exact p2 _ _ q
    ·exact p3 y hy hf
  ·obtain ⟨cl, e, p1, p2, p3⟩ := closure_loop r acc h1 fun y hy => h2 y (List.mem_cons_of_mem _ hy)
   have hb : (k == NameKind.free) = false := by simpa using hk
   refine ⟨cl, ?_, p1, p2, fun y hy hf => ?_⟩
   ·rw [List.forIn_cons]
    simp only [hb, Bool.false_eq_true, if_false]
    exact e
   ·rcases List.mem_cons.mp hy with rfl | hy
    ·exact absurd hf hk
    ·exact p3 y hy hf
theorem closure_ok {env : Env} {scope : Scope} (h : ∀ y ∈ scope.names, y.2 = .free -> ∃ c, env.cells.lookup y.1 = some c) :
  ∃ cl, closureFor scope env = pure cl /\ (∀ x c, cl.lookup x = some c -> env.cells.lookup x = some c) /\ ∀ y ∈ scope.names, y.2 = .free -> ∃ c, cl.lookup y.1 = some c := by
 obtain ⟨cl, e, p1, _, p3⟩ := closure_loop (env := env) scope.names [] (fun x c e => by simp at e) h
 refine ⟨cl, ?_, p1, p3⟩
 unfold closureFor
 first
  | (show (forIn scope.names [] _ >>= fun r => pure r) = _; rw [e]; rfl)
  | (simp only [bind_pure]; exact e)
structure CompNames (osc scope : Scope) (own : List Str) (caps : List Str) : Prop where
 kind : scope.kind = .function
 cell : ∀ y ∈ scope.names, y.2 ≠ .cell
 loc : ∀ y ∈ scope.names, y.2 = .local -> scope.names.lookup y.1 = some .local
 free : ∀ y ∈ scope.names, y.2 = .free -> osc.names.lookup y.1 = some .cell \/ osc.names.lookup y.1 = some .free
 cap : ∀ y ∈ caps, (y, NameKind.free) ∈ scope.names /\ scope.names.lookup y = some .free
 nd : (own ++ caps).Nodup
def blockCx (X : Cx) (scope : Scope) (cl : List (Str × Addr)) (C : Addr) (s₂ : Shared) (H₂ : Hp) (fp : List Addr) (N : List Str) : Cx :=
 { X with N := N, s₀ := s₂, H₀ := H₂, env := compEnvC scope cl C X.env, outer := X.stack, stack := X.stack, ex := fp, fn := fun _ => false, pn := [], xe := fun _ _ => False }
theorem lookup_mem {names : List (Str × NameKind)} {x : Str} {k : NameKind} (h : names.lookup x = some k) : (x, k) ∈ names := PySem.mem_of_lookup h
theorem block_kind {X : Cx} {scope : Scope} {own caps : List Str} (n : CompNames X.env.scope scope own caps) {cl : List (Str × Addr)} {C : Addr} {x : Str} {k : NameKind} (h : (compEnvC scope cl C X.env).kindOf x = some k) (hk : k = .cell \/ k = .free) :
  (x, NameKind.free) ∈ scope.names := by
 have h' : (relabel scope X.env).names.lookup x = some k := h
 unfold relabel at h'
 rw [relabel_lookup] at h'
 cases q : scope.names.lookup x with
 | none => rw [q] at h'; cases h'
 | some k0 =>
  rw [q, Option.map_some] at h'
  have m := lookup_mem q
  have h2 := Option.some.inj h'
  by_cases hf : k0 = .free
  ·subst hf; exact m
  ·exfalso
   have hb : (k0 == NameKind.free) = false := by simpa using hf
   simp only [hb, Bool.false_and, Bool.false_eq_true, if_false] at h2
   rcases hk with hk | hk
   ·exact n.cell _ m (h2.trans hk)
   ·exact hf (h2.trans hk)
theorem block_free {X : Cx} {scope : Scope} {cl : List (Str × Addr)} {C : Addr} {x : Str} (h : scope.names.lookup x = some .free) :
  (compEnvC scope cl C X.env).kindOf x = some .cell \/ (compEnvC scope cl C X.env).kindOf x = some .free := by
 show (relabel scope X.env).names.lookup x = some .cell \/ (relabel scope X.env).names.lookup x = some .free
 unfold relabel
 rw [relabel_lookup, h]
 simp only [Option.map_some]
 split
 ·exact .inl rfl
 ·exact .inr rfl
theorem block_ok {X : Cx} {pins : List (Addr × Obj)} {σ : L2.St} {H₂ : Hp} {s₂ : Shared} {scope : Scope} {own caps : List Str} {cl : List (Str × Addr)} {C : Addr} {fp : List Addr} (I : Inv X pins σ H₂ s₂) (n : CompNames X.env.scope scope own caps)
  (hcl : ∀ x c, cl.lookup x = some c -> X.env.cells.lookup x = some c) (hcl2 : ∀ y ∈ scope.names, y.2 = .free -> ∃ c, cl.lookup y.1 = some c) (hC : s₂.heap.objs.size <= C) (hfs : ∀ b ∈ fp, b < C) (hf : ∀ b ∈ fp, FpOk X pins H₂ b) :
  (blockCx X scope cl C s₂ H₂ fp (own ++ caps)).Ok := by
 refine ⟨I.ok.mod, n.kind, I.ok.glob, I.ok.blt, hC, fun x y c h1 h2 => I.ok.inj x y c (hcl x c h1) (hcl y c h2), fun x hx => ?_, fun x c h _ => ?_, I.ok.hd, I.ok.frames, .inl rfl, fun b hb => ⟨Nat.ne_of_lt (hfs b hb), fun x c e => (hf b hb).2.2.2.2.1 x c (hcl x c e)⟩,
  I.bs, Nat.le_trans I.ok.bsz I.sz, fun b o e hb => ?_, fun b hb z => ?_, I.stack, I.stkFree⟩
 ·rcases hx with hx | hx
  ·obtain ⟨c, e⟩ := hcl2 _ (block_kind n hx (.inl rfl)) rfl; exact ⟨c, e⟩
  ·obtain ⟨c, e⟩ := hcl2 _ (block_kind n hx (.inr rfl)) rfl; exact ⟨c, e⟩
 ·exact absurd h (by simp [blockCx])
 ·rcases (hf b hb).2.2.2.1 with z | z
  ·exact I.ok.noex b o e z
  ·exact absurd (Nat.lt_of_lt_of_le (Nat.lt_of_lt_of_le (Heap.lt_size e) I.ok.bsz) z) (Nat.lt_irrefl _)
 ·rcases List.mem_cons.mp (I.stkSub b z) with e | e
  ·exact (hf b hb).2.1 e
  ·exact (hf b hb).2.2.1 e
noncomputable def blockSt (own : L2.St) (ix : List Nat) (σ : L2.St) : L2.St := own ++ ix.map fun i => (σ[i]?).join
theorem block_start {X : Cx} {pins : List (Addr × Obj)} {σ : L2.St} {H₂ : Hp} {s₂ : Shared} {scope : Scope} {own caps : List Str} {ix : List Nat} {cl : List (Str × Addr)} {C : Addr} {fp : List Addr} {h₁ : Heap} {tk : Nat} (I : Inv X pins σ H₂ s₂) (n : CompNames X.env.scope scope own caps)
  (hcl : ∀ x c, cl.lookup x = some c -> X.env.cells.lookup x = some c) (hcl2 : ∀ y ∈ scope.names, y.2 = .free -> ∃ c, cl.lookup y.1 = some c) (hC : s₂.heap.objs.size <= C) (hfs : ∀ b ∈ fp, b < C) (hf : ∀ b ∈ fp, FpOk X pins H₂ b)
  (hix : ix.length = caps.length) (hix2 : ∀ (j i : Nat) y, ix[j]? = some i -> caps[j]? = some y -> X.N[i]? = some y)
  (old : ∀ b o, s₂.heap.get? b = some o -> h₁.get? b = some o) {m : Str -> Option Value} (hns : h₁.Ns C m) :
  Inv (blockCx X scope cl C s₂ H₂ fp (own ++ caps)) [] (blockSt (own.map fun _ => none) ix σ) H₂ { s₂ with heap := h₁, toks := tk } := by
 refine ⟨block_ok I n hcl hcl2 hC hfs hf, rfl, I.bare, Un.kept old, ⟨m, hns, fun i x v e1 e2 hv => ?_⟩, fun x c e => ?_, I.hok.fresh hC, fun x c e => I.freeC x c (hcl x c e), fun p hp => ?_, I.hok.kept old, ?_⟩
 ·have e1 : (own ++ caps)[i]? = some x := e1
  unfold blockSt at e2
  by_cases hi : i < own.length
  ·rw [List.getElem?_append_left (by simpa using hi), List.getElem?_map] at e2
   cases q : own[i]? with
   | none => rw [q] at e2; cases e2
   | some y => rw [q] at e2; cases e2
  ·rw [List.getElem?_append_right (by simpa using hi)] at e2
   rw [List.getElem?_append_right (by omega)] at e1
   simp only [List.length_map] at e2
   generalize i - own.length = j at e1 e2
   rw [List.getElem?_map] at e2
   cases q : ix[j]? with
   | none => rw [q] at e2; cases e2
   | some i' =>
    rw [q] at e2
    have e3 : (σ[i']?).join = some v := Option.some.inj e2
    have e4 : σ[i']? = some (some v) := by
     cases z : σ[i']? with
     | none => rw [z] at e3; cases e3
     | some w' => rw [z] at e3; cases w' with
      | none => cases e3
      | some _ => cases e3; rfl
    have hN := hix2 j i' x q e1
    obtain ⟨mm, hl⟩ := n.cap x (List.mem_of_getElem? e1)
    have hk : X.env.kindOf x = some .cell \/ X.env.kindOf x = some .free := n.free _ mm rfl
    obtain ⟨m0, hn0, hl0⟩ := I.loc
    have vis : Vis X.env.scope x := by
     rcases hk with hk | hk
     ·exact .inr (.inl hk)
     ·exact .inr (.inr hk)
    obtain ⟨u, r, l⟩ := hl0 i' x v hN e4 vis
    refine ⟨u, r, .inr ⟨block_free hl, ?_⟩⟩
    obtain ⟨c, hc⟩ := hcl2 _ mm rfl
    rcases l with ⟨l, _⟩ | ⟨_, c', hc', z⟩
    ·exfalso
     rcases hk with hk | hk <;> rw [hk] at l <;> cases l
    ·have := hcl x c hc
     rw [hc'] at this; cases this
     obtain ⟨o, ho, hd⟩ := z
     exact ⟨_, hc, o, old _ _ ho, hd⟩
 ·obtain ⟨v, o, ho, hd⟩ := I.cell x c (hcl x c e)
  exact ⟨v, o, old _ _ ho, hd⟩
 ·exact absurd (show p ∈ ([] : List (Addr × Obj)) from hp) (by simp)
 ·show (blockSt _ ix σ).length = (own ++ caps).length
  unfold blockSt
  simp [hix]
def PIfs (X : Cx) (ifs : List Expr) (t : TT) : Prop :=
 ∀ (pins : List (Addr × Obj)) (s : Shared) (σ : L2.St) (H : Hp) (Q : Bool -> Hp -> Prop), Inv X pins σ H s -> t σ H Q ->
  wpAny (model X.prog X.w) X.A (forIn ifs true fun c r => if r = true then do let ok ← isTrue c X.env (eval c X.env); pure (ForInStep.yield ok) else pure (ForInStep.yield r)) (TP X pins σ Q) X.xe s
def tYes : TT := fun _ H Q => Q true H
theorem pifs_nil {X : Cx} : PIfs X [] tYes := fun pins s σ H Q I h => wpAny_tests_nil ⟨H, I, h⟩
theorem compLoop_go {prog : Program} {w : World} {A : Around} {R : Result -> Shared -> Prop} {s : Shared} {elt target iter : Expr} {ifs : List Expr} {scope : Scope} {pos : Pos} {it acc : Value} {env : Env} (I : Nat -> Shared -> Prop)
  (turn : ∀ n s, I n s -> wpAny (model prog w) A (pyNext it) (fun r s₁ => match r with
   | none => R (.ok .next) s₁
   | some v => wpAny (model prog w) A (letOwnedTupleGo target it v) (fun _ s₁' => wpAny (model prog w) A (assign target env v) (fun _ s₂ =>
     wpAny (model prog w) A (forIn ifs true fun c r => if r = true then do let ok ← isTrue c env (eval c env); pure (ForInStep.yield ok) else pure (ForInStep.yield r)) (fun ok s₃ =>
      if ok = true then wpAny (model prog w) A (eval elt env) (fun x s₄ =>
       wpAny (model prog w) A (call (.builtin "list.append") [acc, x]) (fun _ s₅ => ∃ m, m < n /\ I m s₅) (fun _ _ => False) s₄) (fun _ _ => False) s₃
      else ∃ m, m < n /\ I m s₃) (fun _ _ => False) s₂) (fun _ _ => False) s₁') (fun _ _ => False) s₁) (fun _ _ => False) s)
  (n : Nat) (h : I n s) : codeAny (model prog w) A (.compLoop (.ListComp elt [⟨target, iter, ifs, 0⟩] scope pos) 0 it acc env) R s := by
 refine codeAny_loop rfl I (fun n s hI => ?_) n h
 show wpAny _ A ((compTurn (.ListComp elt [⟨target, iter, ifs, 0⟩] scope pos) 0 it acc env).onRaise (fun x => do noteFrame x env; theTreesLotGoes x)) _ _ s
 refine wpAny_noted ?_
 rw [compTurn_list]
 refine wpAny_bind (wpAny_standAt (wpAny_bind (wpAny_mono (turn n s hI) (fun r s₁ h₁ => ?_) fun _ _ h' => h'.elim)))
 cases r with
 | none => exact wpAny_pure h₁
 | some v =>
  refine wpAny_bind (wpAny_mono h₁ (fun _ s₁' h₁' => ?_) fun _ _ h' => h'.elim)
  refine wpAny_bind (wpAny_mono h₁' (fun _ s₂ h₂ => wpAny_bind (wpAny_mono h₂ (fun ok s₃ h₃ => ?_) fun _ _ h' => h'.elim)) fun _ _ h' => h'.elim)
  cases ok with
  | false => exact wpAny_pure ⟨rfl, h₃⟩
  | true =>
   exact wpAny_bind (wpAny_bind (wpAny_mono h₃ (fun x s₄ h₄ => wpAny_bind (wpAny_mono h₄ (fun _ s₅ h₅ => wpAny_pure (wpAny_pure ⟨rfl, h₅⟩)) fun _ _ h' => h'.elim)) fun _ _ h' => h'.elim))
theorem Inv.adopt {X : Cx} {pins : List (Addr × Obj)} {σ : L2.St} {H : Hp} {s : Shared} {a : Addr} {o : HO} (I : Inv X pins σ H s) (f : FpOk X pins H a) (hs : X.s₀.heap.objs.size <= a) (new : ObjOk X.prog X.w (upd H a o) s.heap a o) : Inv X pins σ (upd H a o) s := by
 obtain ⟨f0, f1, f2, f3, f4, f5⟩ := f
 have ne : ∀ b u, H b = some u -> b ≠ a := fun b u e z => by rw [z, f0] at e; cases e
 refine ⟨I.ok, I.os, I.bare, ⟨I.base.keep, I.base.slot, fun b ob q n hx' => ?_, I.base.there, fun b xs q => ?_, fun b ob u q => ?_, fun b ps q => ?_⟩, I.loc, I.cell, ?_, fun x c q => ?_, fun p hp => ?_, fun b u q => ?_, I.len⟩
 ·rw [L2.upd_ne (Nat.ne_of_lt (Nat.lt_of_lt_of_le (Heap.lt_size q) hs))]; exact I.base.free b ob q n hx'
 ·rw [L2.upd_ne (ne _ _ (I.base.tups b xs q))]; exact I.base.tups b xs q
 ·rw [L2.upd_ne (ne _ _ (I.base.frzs b ob u q))]; exact I.base.frzs b ob u q
 ·obtain ⟨more, r⟩ := I.base.tbls b ps q
  exact ⟨more, by rw [L2.upd_ne (ne _ _ r)]; exact r⟩
 ·rw [L2.upd_ne (Ne.symm f1)]; exact I.free
 ·rw [L2.upd_ne (f4 x c q)]; exact I.freeC x c q
 ·obtain ⟨q1, q2, q3⟩ := I.pin p hp
  exact ⟨q1, by rw [L2.upd_ne (f5 p hp)]; exact q2, q3⟩
 ·by_cases hb : b = a
  ·subst hb; rw [L2.upd_same] at q; cases q; exact new
  ·rw [L2.upd_ne hb] at q
   exact (I.hok b u q).stay (fun c v _ q => q) (fun c r => by rw [L2.upd_ne (ne _ _ r)]; exact r) fun c xs r => by rw [L2.upd_ne (ne _ _ r)]; exact r
def tComp (ix : List Nat) (own : List Str) (wi : TI) (g : TG) (tc : TT) (te : TE) : TE := fun σ H Q => wi σ H fun J H1 =>
 ∃ W : Nat -> Nat -> List V -> L2.St -> Hp -> Prop, (∃ n, W 0 n [] (blockSt (own.map fun _ => none) ix σ) H1) /\ ∀ i n ys τ H, W i n ys τ H ->
  (J.stop i H /\ ∀ p, H p = none -> Q (.ref p) (upd H p (.lst ys))) \/
  (J.go i H /\ ys.length < sizeLine /\ ∀ x H', J.yld i H x H' -> g x τ H' fun τ2 H2 => tc τ2 H2 fun b H3 => if b = true then te τ2 H3 fun y H4 => ∃ n', n' < n /\ W (i + 1) n' (ys ++ [y]) τ2 H4 else ∃ n', n' < n /\ W (i + 1) n' ys τ2 H3)
theorem block_run {X : Cx} {pins : List (Addr × Obj)} {σ : L2.St} {s₂ : Shared} {H₂ : Hp} {E : Value -> Shared -> Prop} {elt tg iter : Expr} {ifs : List Expr} {scope : Scope} {pos : Pos} {own caps : List Str} {ix : List Nat} {g : TG} {tc : TT} {te : TE} {Q : VK} {cl : List (Str × Addr)}
  {it : Addr} {fp : List Addr} {tn : Nat -> Heap -> Prop} {J : It} {RR : Value -> Addr -> Result -> Shared -> Prop}
  (hc : X.calm = true) (I : Inv X pins σ H₂ s₂) (T : Turn X.prog X.w X.K tg J fp it tn) (st : tn 0 s₂.heap) (hf : ∀ b ∈ fp, FpOk X pins H₂ b) (n : CompNames X.env.scope scope own caps)
  (hcl : ∀ x c, cl.lookup x = some c -> X.env.cells.lookup x = some c) (hcl2 : ∀ y ∈ scope.names, y.2 = .free -> ∃ c, cl.lookup y.1 = some c)
  (hix : ix.length = caps.length) (hix2 : ∀ (j i : Nat) y, ix[j]? = some i -> caps[j]? = some y -> X.N[i]? = some y)
  (hg : ∀ C, PG (blockCx X scope cl C s₂ H₂ fp (own ++ caps)) tg g) (ht : ∀ C, PIfs (blockCx X scope cl C s₂ H₂ fp (own ++ caps)) ifs tc) (he : ∀ C, PE (blockCx X scope cl C s₂ H₂ fp (own ++ caps)) elt te)
  (W : Nat -> Nat -> List V -> L2.St -> Hp -> Prop) (hW0 : ∃ n, W 0 n [] (blockSt (own.map fun _ => none) ix σ) H₂)
  (hW : ∀ i n ys τ H, W i n ys τ H -> (J.stop i H /\ ∀ p, H p = none -> Q (.ref p) (upd H p (.lst ys))) \/
   (J.go i H /\ ys.length < sizeLine /\ ∀ x H', J.yld i H x H' -> g x τ H' fun τ2 H2 => tc τ2 H2 fun b H3 => if b = true then te τ2 H3 fun y H4 => ∃ n', n' < n /\ W (i + 1) n' (ys ++ [y]) τ2 H4 else ∃ n', n' < n /\ W (i + 1) n' ys τ2 H3))
  (hRR : ∀ (D C : Addr) (s' : Shared) m H' ys, s'.heap.Ns C m -> Inv X pins σ (upd H' D (.lst ys)) s' -> FpOk X pins (upd H' D (.lst ys)) C -> Q (.ref D) (upd H' D (.lst ys)) -> RR (.ref D) C (.ok .next) s') :
  wpAny (model X.prog X.w) X.A (newList []) (fun acc s₃ => wpAny (model X.prog X.w) X.A (newFunctionEnv scope X.env.globals cl [] X.env.qual none .none (some X.env)) (fun cenv s₄ =>
   codeAny (model X.prog X.w) X.A (.compStart (.ListComp elt [⟨tg, iter, ifs, 0⟩] scope pos) 0 (.ref it) acc { cenv with scope := relabel scope X.env }) (RR acc cenv.locals) s₄) E s₃) E s₂ := by
 refine wpAny_newObj_type (wpAny_newFunctionEnv n.cell (by intro y hy; simp at hy) (fun h₁ hns₁ hsb₁ => ?_) n.kind)
 dsimp only at hns₁ hsb₁ ⊢
 generalize hH2 : s₂.heap.push { cls := .type "list", dict := none, data := .seq ([] : List Value).toArray } = H2 at hns₁ hsb₁ ⊢
 have hC : H2.objs.size = s₂.heap.objs.size + 1 := by rw [← hH2, Heap.size_push]
 have below : ∀ b, b < s₂.heap.objs.size -> b ≠ H2.objs.size /\ b ≠ s₂.heap.objs.size := fun b hb => ⟨by rw [hC]; exact Nat.ne_of_lt (Nat.lt_succ_of_lt hb), Nat.ne_of_lt hb⟩
 have hDC : s₂.heap.objs.size ≠ H2.objs.size := by rw [hC]; exact Nat.ne_of_lt (Nat.lt_succ_self _)
 have old : ∀ b o, s₂.heap.get? b = some o -> h₁.get? b = some o := fun b o e => hsb₁.extBut b o (below b (Heap.lt_size e)).1 (Heap.get?_push_of_some _ (hH2 ▸ Heap.get?_push_of_some _ e))
 have hacc : h₁.get? s₂.heap.objs.size = some { cls := .type "list", data := .seq ([] : List Value).toArray } := hsb₁.extBut _ _ hDC (Heap.get?_push_of_some _ (hH2 ▸ Heap.get?_push_size _ rfl))
 have fplt : ∀ b ∈ fp, b < s₂.heap.objs.size := fun b hb => by obtain ⟨o, e, _⟩ := T.obj _ _ st b hb; exact Heap.lt_size e
 have hCle : s₂.heap.objs.size <= H2.objs.size := by rw [hC]; exact Nat.le_succ _
 have hfC : ∀ b ∈ fp, b < H2.objs.size := fun b hb => Nat.lt_of_lt_of_le (fplt b hb) hCle
 have st₁ : tn 0 h₁ := T.keep 0 _ _ st fun b _ o e => old b o e
 have I₀ := block_start (tk := s₂.toks + ([] : List (Str × Value)).length) I n hcl hcl2 hCle hfC hf hix hix2 old hns₁
 clear hns₁ hsb₁
 -- the list's own place
 have cellD : ∀ x c, cl.lookup x = some c -> c < s₂.heap.objs.size := fun x c e => by
  obtain ⟨v, o, q, _⟩ := I.cell x c (hcl x c e); exact Heap.lt_size q
 have stkD : ∀ b ∈ frs X.stack, b < s₂.heap.objs.size := fun b hb => by
  rcases List.mem_cons.mp (I.stkSub b hb) with e | e
  ·rw [e]; exact I.lt
  ·obtain ⟨_, o, q, _⟩ := I.funs.mem e; exact Heap.lt_size q
 have fpok : ∀ {ps : List (Addr × Obj)} {H : Hp}, (∀ b ∈ fp, H b = none) -> (∀ p ∈ ps, p.1 ∉ fp) -> ∀ b ∈ fp, FpOk (blockCx X scope cl H2.objs.size s₂ H₂ fp (own ++ caps)) ps H b := fun {ps H} hn hp b hb =>
  ⟨hn b hb, Nat.ne_of_lt (hfC b hb), fun z => by
   rcases List.mem_cons.mp (I.stkSub b z) with e | e
   ·exact (hf b hb).2.1 e
   ·exact (hf b hb).2.2.1 e, .inl hb, fun x c e => (hf b hb).2.2.2.2.1 x c (hcl x c e), fun p hp' z => hp p (by simpa [blockCx] using hp') (z ▸ hb)⟩
 have Dfp : s₂.heap.objs.size ∉ fp := fun z => Nat.lt_irrefl _ (fplt _ z)
 have pinD : ∀ {H : Hp} {h : Heap} {its : List Value} {k : Nat}, H s₂.heap.objs.size = none -> h.get? s₂.heap.objs.size = some { cls := .type "list", data := .seq its.toArray k } ->
   ∀ p ∈ [((s₂.heap.objs.size, { cls := .type "list", data := .seq its.toArray k }) : Addr × Obj)], h.get? p.1 = some p.2 /\ H p.1 = none /\ p.1 ≠ H2.objs.size /\ p.1 ∉ frs X.stack /\ ∀ v, p.2.data ≠ .cell v := fun {H h its k} hn e p hp => by
  rw [List.mem_singleton.mp hp]
  exact ⟨e, hn, hDC, fun z => Nat.lt_irrefl _ (stkD _ z), fun v z => by cases z⟩
 have loop : ∀ s₃ : Shared, s₃ = { s₂ with heap := h₁, toks := s₂.toks + ([] : List (Str × Value)).length } ->
   codeAny (model X.prog X.w) X.A (.compLoop (.ListComp elt [⟨tg, iter, ifs, 0⟩] scope pos) 0 (.ref it) (.ref s₂.heap.objs.size) (compEnvC scope cl H2.objs.size X.env)) (RR (.ref s₂.heap.objs.size) H2.objs.size) s₃ := by
  rintro s₃ rfl
  obtain ⟨n0, hW0⟩ := hW0
  refine compLoop_go (fun n s' => ∃ i ys its k τ H, Inv (blockCx X scope cl H2.objs.size s₂ H₂ fp (own ++ caps)) [(s₂.heap.objs.size, { cls := .type "list", data := .seq its.toArray k })] τ H s' /\ tn i s'.heap /\ (∀ b ∈ fp, H b = none) /\ Vals ys its /\ ys.length <= sizeLine /\ W i n ys τ H) ?_ n0
   ⟨0, [], [], 0, _, H₂, I₀.pins_of (pinD (I.hok.fresh (Nat.le_refl _)) hacc), st₁, fun b hb => (hf b hb).1, .nil, Nat.zero_le _, hW0⟩
  rintro n s3 ⟨i, ys, its, k, τ, H, I3, st3, fr3, rv, hz, w3⟩
  have hD3 := I3.pin _ (List.mem_append_right _ List.mem_cons_self)
  have pfp : ∀ p ∈ [((s₂.heap.objs.size, { cls := .type "list", data := .seq its.toArray k }) : Addr × Obj)], p.1 ∉ fp := fun p hp => by rw [List.mem_singleton.mp hp]; exact Dfp
  rcases hW i n ys τ H w3 with ⟨stop, q⟩ | ⟨go, hlt, step⟩
  ·refine thn (T.done (blockCx X scope cl H2.objs.size s₂ H₂ fp (own ++ caps)) rfl rfl rfl hc i _ s3 τ H (fun _ _ => False) I3 (fpok fr3 pfp) st3 stop) fun r s4 ⟨hr, I4⟩ => ?_
   subst hr
   have hD4 := I4.pin _ (List.mem_append_right _ List.mem_cons_self)
   obtain ⟨m, hm, _⟩ := id I4.loc
   have IX : Inv X pins σ H s4 := I.call' (ch := fp) I4.os I4.base I4.hok I4.bare fun b hb => ⟨(hf b hb).2.2.2.1, (hf b hb).2.1, (hf b hb).2.2.2.2⟩
   have fD : FpOk X pins H s₂.heap.objs.size := I.fpOk (Nat.le_refl _) hD4.2.1
   have IY := Inv.adopt (o := .lst ys) IX fD I.sz ⟨hz, its, k, rv, hD4.1⟩
   exact hRR _ _ s4 m H ys hm IY (I.fpOk hCle (by rw [L2.upd_ne (Ne.symm hDC)]; exact I4.free)) (q _ hD4.2.1)
  ·refine thn (T.item (blockCx X scope cl H2.objs.size s₂ H₂ fp (own ++ caps)) rfl rfl rfl hc i _ s3 τ H (fun _ _ => False) I3 (fpok fr3 pfp) st3 go) fun r s4 ⟨u, hr, h4⟩ => ?_
   subst hr
   refine thn h4 fun _ s5 ⟨x, H5, I5, r5, y5, st5, fr5⟩ => ?_
   have I5' := I5.pinned (fpok fr5 pfp) (T.obj _ _ st5)
   refine thn (hg _ _ s5 τ H5 x u _ I5' r5 (step x H5 y5)) fun _ s6 ⟨σ6, H6, I6, q6⟩ => ?_
   refine thn (ht _ _ s6 σ6 H6 _ I6 q6) fun ok s7 ⟨H7, I7, q7⟩ => ?_
   have memD : ∀ p ∈ pinsAt fp s5.heap, p.1 ≠ s₂.heap.objs.size := fun p hp z => Dfp (z ▸ (of_pinsAt hp).1)
   cases ok with
   | true =>
    refine thn (he _ _ s7 σ6 H7 _ I7 q7) fun u8 s8 ⟨y, H8, I8, r8, n', hn', w8⟩ => ?_
    have hD8 := I8.pin (s₂.heap.objs.size, _) (List.mem_append_right _ (List.mem_append_left _ List.mem_cons_self))
    refine append_at (hsz := by rw [List.size_toArray, ← rv.length]; exact hz) hD8.1 fun h9 sb hD9 => ?_
    have I8' : Inv (blockCx X scope cl H2.objs.size s₂ H₂ fp (own ++ caps)) (pinsAt fp s5.heap) σ6 H8 s8 := I8.pins_of fun p hp => I8.pin p (List.mem_append_right _ (List.mem_append_right _ hp))
    have I9 : Inv (blockCx X scope cl H2.objs.size s₂ H₂ fp (own ++ caps)) (pinsAt fp s5.heap) σ6 H8 { s8 with heap := h9 } := I8'.turned (t' := s8.toks) (it := s₂.heap.objs.size) (fun b o hb e => sb.extBut b o hb e) hD8.2.1 hDC (.inr (Nat.le_refl _))
     (fun x c e => Nat.ne_of_lt (cellD x c e)) fun p hp => memD p (by simpa [blockCx] using hp)
    have e9 : (its.toArray.push u8) = (its ++ [u8]).toArray := by simp
    rw [e9] at hD9
    refine ⟨n', hn', i + 1, ys ++ [y], its ++ [u8], k + 1, σ6, H8, I9.pins_of (pinD hD8.2.1 hD9), T.keep _ _ _ st5 fun b hb o e => (I9.pin (b, o) (List.mem_append_right _ (mem_pinsAt hb e))).1, fun b hb => ?_, rv.append (.cons r8 .nil), by rw [List.length_append]; exact hlt, w8⟩
    obtain ⟨o, e, d⟩ := T.obj _ _ st5 b hb
    exact (I9.pin (b, o) (List.mem_append_right _ (mem_pinsAt hb e))).2.1
   | false =>
    obtain ⟨n', hn', w8⟩ := q7
    have hD7 := I7.pin (s₂.heap.objs.size, _) (List.mem_append_right _ (List.mem_append_left _ List.mem_cons_self))
    refine ⟨n', hn', i + 1, ys, its, k, σ6, H7, I7.pins_of (pinD hD7.2.1 hD7.1), T.keep _ _ _ st5 fun b hb o e => (I7.pin (b, o) (List.mem_append_right _ (List.mem_append_right _ (mem_pinsAt hb e)))).1, fun b hb => ?_, rv, hz, w8⟩
    obtain ⟨o, e, d⟩ := T.obj _ _ st5 b hb
    exact (I7.pin (b, o) (List.mem_append_right _ (List.mem_append_right _ (mem_pinsAt hb e)))).2.1
 exact codeAny_compStart_list (loop _ rfl) (T.self _ 0 _ _ _ st₁ (loop _ rfl))
theorem pe_comp0 {X : Cx} {elt tg iter : Expr} {ifs : List Expr} {scope : Scope} {pos : Pos} {own caps : List Str} {ix : List Nat} {wi : TI} {g : TG} {tc : TT} {te : TE} (hc : X.calm = true) (n : CompNames X.env.scope scope own caps)
  (hix : ix.length = caps.length) (hix2 : ∀ (j i : Nat) y, ix[j]? = some i -> caps[j]? = some y -> X.N[i]? = some y) (hi : PI X tg iter wi)
  (hb : ∀ cl C s₂ H₂ fp, PG (blockCx X scope cl C s₂ H₂ fp (own ++ caps)) tg g /\ PIfs (blockCx X scope cl C s₂ H₂ fp (own ++ caps)) ifs tc /\ PE (blockCx X scope cl C s₂ H₂ fp (own ++ caps)) elt te)
  (hs : ∀ x, foldedSetIterable iter X.env x = pure x := by intro _; rfl) : PE X (.ListComp elt [⟨tg, iter, ifs, 0⟩] scope pos) (tComp ix own wi g tc te) := by
 intro pins s σ H Q I h
 obtain ⟨cl, hclos, hcl, hcl2⟩ := closure_ok (env := X.env) (scope := scope) fun y hy hf => I.ok.has y.1 (n.free y hy hf)
 rw [eval_ListComp]
 refine wpAny_comprehension_free (use := none) rfl hs hclos n.kind n.loc (thn (hi pins s σ H _ I h) fun v s1 h1 => thn h1 fun itv s2 h2 => ?_)
 obtain ⟨it, fp, tn, J, H2, e, I2, T, st2, f2, W, w0, turn⟩ := h2
 subst e
 refine block_run (RR := fun acc C => compPost (model X.prog X.w) X.A X.xe none (EP X pins σ Q) acc C) hc I2 T st2 f2 n hcl hcl2 hix hix2 (fun C => (hb cl C s2 H2 fp).1) (fun C => (hb cl C s2 H2 fp).2.1) (fun C => (hb cl C s2 H2 fp).2.2) W w0 turn ?_
 intro D C s' m H' ys hm IY fC q
 refine ⟨m, hm, fun h' sb => ⟨.ref D, _, IY.turned (t' := s'.toks) (it := C) (fun b o hb e => sb.extBut b o hb e) fC.1 fC.2.1 fC.2.2.2.1 fC.2.2.2.2.1 fC.2.2.2.2.2, rfl, q⟩⟩
theorem ps_comp0 {X : Cx} {elt tg iter : Expr} {ifs : List Expr} {scope : Scope} {pos spos py : Pos} {own caps : List Str} {ix : List Nat} {wi : TI} {g : TG} {tc : TT} {te : TE} {i : Nat} {y : Str} (hc : X.calm = true) (n : CompNames X.env.scope scope own caps)
  (hN : X.N.Nodup) (hy : X.N[i]? = some y) (hyl : Loc X.env.scope y)
  (hix : ix.length = caps.length) (hix2 : ∀ (j i : Nat) y, ix[j]? = some i -> caps[j]? = some y -> X.N[i]? = some y) (hi : PI X tg iter wi)
  (hb : ∀ cl C s₂ H₂ fp, PG (blockCx X scope cl C s₂ H₂ fp (own ++ caps)) tg g /\ PIfs (blockCx X scope cl C s₂ H₂ fp (own ++ caps)) ifs tc /\ PE (blockCx X scope cl C s₂ H₂ fp (own ++ caps)) elt te)
  (hsw : swapsWith (.ListComp elt [⟨tg, iter, ifs, 0⟩] scope pos) (some (.Name y py)) spos.line X.env = pure true)
  (hs : ∀ x, foldedSetIterable iter X.env x = pure x := by intro _; rfl) (hf : X.fn y = true \/ X.env.scope.names.lookup y = some .local := by first | exact .inl rfl | exact .inr rfl | assumption) :
  PS X (.Assign [.Name y py] (.ListComp elt [⟨tg, iter, ifs, 0⟩] scope pos) spos) (tAsg (tComp ix own wi g tc te) (gName i)) := by
 intro pins s σ H Z I h
 obtain ⟨cl, hclos, hcl, hcl2⟩ := closure_ok (env := X.env) (scope := scope) fun y hy hf => I.ok.has y.1 (n.free y hy hf)
 rw [exec_Assign_Name_used _ _ _ _ hsw]
 refine wpAny_bind (wpAny_standAt (wpAny_bind ?_))
 show wpAny _ X.A (do let _ ← comprehension (.ListComp elt [⟨tg, iter, ifs, 0⟩] scope pos) scope X.env _ (newList []) false (eval iter X.env) (some (assign (.Name y py) X.env))) _ _ s
 refine wpAny_bind (wpAny_mono (wpAny_comprehension_free (use := some (assign (.Name y py) X.env)) (Q := fun _ s' => SP X pins Z .next s') rfl hs hclos n.kind n.loc (thn (hi pins s σ H _ I h) fun v s1 h1 => thn h1 fun itv s2 h2 => ?_)) (fun _ s' hq => wpAny_pure (wpAny_pure hq)) fun _ _ e => e)
 obtain ⟨it, fp, tn, J, H2, e, I2, T, st2, f2, W, w0, turn⟩ := h2
 subst e
 refine block_run (Q := fun x H1 => gName i x σ H1 Z.nx) (RR := fun acc C => compPost (model X.prog X.w) X.A X.xe (some (assign (.Name y py) X.env)) (fun _ s' => SP X pins Z .next s') acc C) hc I2 T st2 f2 n hcl hcl2 hix hix2 (fun C => (hb cl C s2 H2 fp).1) (fun C => (hb cl C s2 H2 fp).2.1) (fun C => (hb cl C s2 H2 fp).2.2) W w0 turn ?_
 intro D C s' m H' ys hm IY fC q
 show wpAny _ X.A (assign (.Name y py) X.env (.ref D)) _ _ _
 refine wpAny_assign_Name (store_ok2 (v := .ref D) IY hN hy hyl rfl (fun s'' IZ ⟨a, sa, ha⟩ => ?_) hf)
 have nC : C ≠ a := by
  rcases ha with ha | ha
  ·rw [ha]; exact fC.2.1
  ·exact Ne.symm (fC.2.2.2.2.1 _ _ ha)
 refine ⟨m, hm.sameBut sa nC, fun h' sb => ⟨_, _, IZ.turned (t' := s''.toks) (it := C) (fun b o hb e => sb.extBut b o hb e) fC.1 fC.2.1 fC.2.2.2.1 fC.2.2.2.2.1 fC.2.2.2.2.2, q⟩⟩
section
variable {K : PySem.W.Frag} {m : List Addr} {σ : L2.St} {H : Hp} {Q : VK} {μ : Store}
theorem rd_yes {B : Bool -> Hp -> Prop} (h : rdT K cYes σ H B) : tYes σ H B := by
 obtain ⟨ρ, μ, m, d, μ', hl, hs, e, k⟩ := h
 cases e
 exact k H m .refl hs
theorem block_rel {ρ : Lo} {k : Nat} {ix : List Nat} {own : List Str} (hk : own.length = k) (h : LRel K m H ρ σ) : LRel K m H (blockLo k ix ρ) (blockSt (own.map fun _ => none) ix σ) := by
 subst hk
 unfold blockLo blockSt
 refine ⟨by simp, fun i d e => ?_⟩
 by_cases hi : i < own.length
 ·rw [List.getElem?_append_left (by simpa using hi), List.getElem?_replicate] at e
  split at e <;> cases e
 ·rw [List.getElem?_append_right (by simpa using hi)] at e
  rw [List.getElem?_append_right (by simpa using hi)]
  simp only [List.length_replicate, List.length_map] at e ⊢
  generalize i - own.length = j at e ⊢
  rw [List.getElem?_map] at e ⊢
  cases q : ix[j]? with
  | none => rw [q] at e; cases e
  | some i' =>
   rw [q] at e
   have e3 : (ρ[i']?).join = some d := Option.some.inj e
   have e4 : ρ[i']? = some (some d) := by
    cases z : ρ[i']? with
    | none => rw [z] at e3; cases e3
    | some w' => rw [z] at e3; cases w' with
     | none => cases e3
     | some _ => cases e3; rfl
   obtain ⟨v, q1, q2⟩ := h.2 i' d e4
   exact ⟨v, by simp [q1], q2⟩
end
end HW
namespace HW
open PySem PySem.Spec PyProof.Rows L2
mutual
noncomputable def toPy : D -> PyData
 | .non => .none
 | .bl b => .bool b
 | .int i => .int i
 | .str x => .str x
 | .tup xs => .tuple (toPys xs)
 | .fl xs => .list (toPys xs)
 | .fd _ _ => .none
 | .key _ => .none
noncomputable def toPys : List D -> List PyData
 | [] => []
 | x :: xs => toPy x :: toPys xs
end
mutual
noncomputable def okD : Nat -> D -> Bool
 | _, .non => true
 | _, .bl _ => true
 | _, .int _ => true
 | _, .str x => PyData.strOk x
 | _, .fd _ _ => false
 | _, .key _ => false
 | 0, .tup _ => false
 | 0, .fl _ => false
 | n + 1, .tup xs => okDs n xs
 | n + 1, .fl xs => okDs n xs
noncomputable def okDs : Nat -> List D -> Bool
 | _, [] => true
 | n, x :: xs => okD n x && okDs n xs
end
mutual
noncomputable def eqD : D -> D -> Bool
 | .non, .non => true
 | .bl a, .bl b => a == b
 | .bl a, .int j => (if a then 1 else 0) == j
 | .int i, .bl b => i == (if b then 1 else 0)
 | .int i, .int j => i == j
 | .str x, .str y => x == y
 | .tup xs, .tup ys => eqDs xs ys
 | .fl xs, .fl ys => eqDs xs ys
 | .fd _ _, .fd _ _ => true
 | .fd _ _, .non => true
 | .non, .fd _ _ => true
 | .key _, .key _ => true
 | .key _, .fd _ _ => true
 | .fd _ _, .key _ => true
 | .key _, .non => true
 | .non, .key _ => true
 | _, _ => false
noncomputable def eqDs : List D -> List D -> Bool
 | [], [] => true
 | x :: xs, y :: ys => eqD x y && eqDs xs ys
 | _, _ => false
end
mutual
theorem eqD_py : ∀ a b : D, PyData.eqv (toPy a) (toPy b) = eqD a b
 | .non, b => by cases b <;> simp [toPy, PyData.eqv, eqD]
 | .bl _, b => by cases b <;> simp [toPy, PyData.eqv, eqD]
 | .int _, b => by cases b <;> simp [toPy, PyData.eqv, eqD]
 | .str _, b => by cases b <;> simp [toPy, PyData.eqv, eqD]
 | .tup xs, b => by
  cases b with
  | tup ys => simp only [toPy, PyData.eqv, eqD]; exact eqDs_py xs ys
  | _ => simp [toPy, PyData.eqv, eqD]
 | .fl xs, b => by
  cases b with
  | fl ys => simp only [toPy, PyData.eqv, eqD]; exact eqDs_py xs ys
  | _ => simp [toPy, PyData.eqv, eqD]
 | .fd _ _, b => by cases b <;> simp [toPy, PyData.eqv, eqD]
 | .key _, b => by cases b <;> simp [toPy, PyData.eqv, eqD]
theorem eqDs_py : ∀ a b : List D, PyData.eqvAll (toPys a) (toPys b) = eqDs a b
 | [], b => by cases b <;> simp [toPys, PyData.eqvAll, eqDs]
 | x :: xs, b => by
  cases b with
  | nil => simp [toPys, PyData.eqvAll, eqDs]
  | cons y ys => simp only [toPys, PyData.eqvAll, eqDs, eqD_py x y, eqDs_py xs ys]
end
mutual
theorem okD_py : ∀ (n : Nat) (d : D), okD n d = true -> (toPy d).canLay0 = true /\ (toPy d).depth <= n
 | _, .non, _ => by simp [toPy, PyData.canLay0, PyData.depth]
 | _, .bl _, _ => by simp [toPy, PyData.canLay0, PyData.depth]
 | _, .int _, _ => by simp [toPy, PyData.canLay0, PyData.depth]
 | n, .str x, h => by
  have h : PyData.strOk x = true := by cases n <;> simpa [okD] using h
  simp [toPy, PyData.canLay0, PyData.depth, h]
 | n, .fd _ _, h => by cases n <;> simp [okD] at h
 | n, .key _, h => by cases n <;> simp [okD] at h
 | 0, .tup _, h => by simp [okD] at h
 | 0, .fl _, h => by simp [okD] at h
 | n + 1, .tup xs, h => by
  obtain ⟨a, b⟩ := okDs_py n xs (by simpa [okD] using h)
  simp only [toPy, PyData.canLay0, PyData.depth]
  exact ⟨a, by omega⟩
 | n + 1, .fl xs, h => by
  obtain ⟨a, b⟩ := okDs_py n xs (by simpa [okD] using h)
  simp only [toPy, PyData.canLay0, PyData.depth]
  exact ⟨a, by omega⟩
theorem okDs_py : ∀ (n : Nat) (ds : List D), okDs n ds = true -> PyData.canLayAll0 (toPys ds) = true /\ PyData.depthAll (toPys ds) <= n
 | _, [], _ => by simp [toPys, PyData.canLayAll0, PyData.depthAll]
 | n, x :: xs, h => by
  have h' : okD n x = true /\ okDs n xs = true := by cases n <;> simpa [okDs] using h
  obtain ⟨a1, b1⟩ := okD_py n x h'.1
  obtain ⟨a2, b2⟩ := okDs_py n xs h'.2
  simp only [toPys, PyData.canLayAll0, PyData.depthAll, a1, a2, Bool.and_self, true_and]
  omega
end
theorem shaped_of {d : D} (h : okD 60 d = true) : SeqAt.shaped (toPy d) = true := by
 obtain ⟨a, b⟩ := okD_py 60 d h
 unfold SeqAt.shaped
 rw [a, Bool.true_and]
 exact decide_eq_true (by omega)
section
variable {X : Cx} {pins : List (Addr × Obj)} {σ : L2.St} {H : Hp} {s : Shared}
mutual
theorem reads_of (I : Inv X pins σ H s) : ∀ (k : Nat) (d : D) (v : V) (u : Value), okD k d = true -> RelD X.K H d v -> RelV v u -> ∃ as, Reads s.heap u (toPy d) as
 | _, .non, v, u, _, h, r => by simp only [RelD] at h; subst h; cases r; exact ⟨_, .none⟩
 | _, .bl b, v, u, _, h, r => by simp only [RelD] at h; subst h; cases r; exact ⟨_, .bool b⟩
 | _, .int i, v, u, _, h, r => by simp only [RelD] at h; subst h; obtain ⟨t, rfl⟩ := r; exact ⟨_, .int i t⟩
 | _, .str x, v, u, _, h, r => by simp only [RelD] at h; subst h; obtain ⟨t, rfl⟩ := r; exact ⟨_, .str x t⟩
 | _, .fd _ _, v, u, hk, h, r => by simp [okD] at hk
 | _, .key _, v, u, hk, h, r => by simp [okD] at hk
 | 0, .tup xs, v, u, hk, h, r => by simp [okD] at hk
 | 0, .fl xs, v, u, hk, h, r => by simp [okD] at hk
 | k + 1, .tup xs, v, u, hk, h, r => by
  simp only [RelD] at h
  obtain ⟨a, vs, rfl, q, h⟩ := h
  cases r
  obtain ⟨its, rv, ⟨o, e, c, n, hd⟩, _⟩ := I.tuple q
  obtain ⟨as, ra⟩ := readss_of I k xs vs its (by simpa [okD] using hk) h rv
  exact ⟨_, .tuple e c hd (by simpa using ra)⟩
 | k + 1, .fl xs, v, u, hk, h, r => by
  simp only [RelD] at h
  obtain ⟨a, vs, rfl, q, h⟩ := h
  cases r
  obtain ⟨its, rv, ⟨o, n, e, c, _, hd⟩, _⟩ := I.list q.sq
  obtain ⟨as, ra⟩ := readss_of I k xs vs its (by simpa [okD] using hk) h rv
  exact ⟨_, .list e c hd (by simpa using ra)⟩
theorem readss_of (I : Inv X pins σ H s) : ∀ (k : Nat) (ds : List D) (vs : List V) (us : List Value), okDs k ds = true -> RelDs X.K H ds vs -> Vals vs us -> ∃ as, ReadsAll s.heap us (toPys ds) as
 | _, [], vs, us, _, h, r => by simp only [RelDs] at h; subst h; cases r; exact ⟨_, .nil⟩
 | k, d :: ds, vs, us, hk, h, r => by
  have hk : okD k d = true /\ okDs k ds = true := by cases k <;> simpa [okDs] using hk
  simp only [RelDs] at h
  obtain ⟨v, vr, rfl, h1, h2⟩ := h
  cases r with
  | cons r1 r2 =>
   obtain ⟨as, q1⟩ := reads_of I k d v _ hk.1 h1 r1
   obtain ⟨bs, q2⟩ := readss_of I k ds vr _ hk.2 h2 r2
   exact ⟨_, .cons q1 q2⟩
end
end
noncomputable def viewD : R -> Store -> Option D
 | .v d, _ => some d
 | .p n, μ => match μ[n]? with | some (.lst xs) => some (.fl xs) | some (.fz xs) => some (.fl xs) | _ => none
 | _, _ => none
noncomputable def eqR (neg : Bool) : R -> R -> Store -> Option (R × Store) := fun x y μ => (viewD x μ).bind fun a => (viewD y μ).bind fun b => if (okD 60 a && okD 60 b) = true then some (.v (.bl (if neg then !eqD a b else eqD a b)), μ) else none
noncomputable def rEqD (K : PySem.W.Frag) (neg : Bool) : R2 := fun v u H Q => ∃ m μ x y d, SRel K m H μ /\ RelR K m H x v /\ RelR K m H y u /\ eqR neg x y μ = some (.v (.bl d), μ) /\ Q (.bl d) H
theorem g_eq {K : PySem.W.Frag} {neg : Bool} : GOp K (eqR neg) (rEqD K neg) := by
 intro m H μ x y d μ' v u Q s rx ry e k
 have e0 := e
 unfold eqR at e
 obtain ⟨a, e1, e⟩ := Option.bind_eq_some_iff.mp e
 obtain ⟨b, e2, e⟩ := Option.bind_eq_some_iff.mp e
 split at e
 ·cases e
  exact ⟨m, μ, x, y, _, s, rx, ry, e0, k _ H m .refl s (by simp only [RelR, RelD])⟩
 ·cases e
theorem view_reads {X : Cx} {pins : List (Addr × Obj)} {σ : L2.St} {H : Hp} {s : Shared} {m : List Addr} {μ : Store} {x : R} {d : D} {v : V} {u : Value} (I : Inv X pins σ H s) (S : SRel X.K m H μ) (r : RelR X.K m H x v) (ru : RelV v u) (e : viewD x μ = some d) (hk : okD 60 d = true) : ∃ as, Reads s.heap u (toPy d) as := by
 cases x with
 | v d' => cases e; exact reads_of I 60 _ _ _ hk r ru
 | s _ _ => cases e
 | x _ => cases e
 | f _ _ => cases e
 | p n =>
  have hl : ∃ xs, d = .fl xs /\ lstD (.p n) μ = some xs := by
   simp only [viewD] at e
   split at e
   ·rename_i xs q; cases e; exact ⟨xs, rfl, by simp [lstD, q]⟩
   ·rename_i xs q; cases e; exact ⟨xs, rfl, by simp [lstD, q]⟩
   ·cases e
  obtain ⟨xs, rfl, e2⟩ := hl
  obtain ⟨a, vs, rfl, q, rr⟩ := lst_ok S r e2
  cases ru
  obtain ⟨its, rv, ⟨o, n', e, c, _, hd⟩, _⟩ := I.list q
  obtain ⟨as, ra⟩ := readss_of I 59 xs vs its (by simpa [okD] using hk) rr rv
  exact ⟨_, .list e c hd (by simpa using ra)⟩
theorem op_eqD {X : Cx} (hu : X.A.units + 64 < cLine) : OpR X (compareOp .Eq) (rEqD X.K false) := by
 intro pins s σ H v u v' u' Q I rv ru q
 obtain ⟨m, μ, x, y, d, S, rx, ry, e, q⟩ := q
 unfold eqR at e
 obtain ⟨a, e1, e⟩ := Option.bind_eq_some_iff.mp e
 obtain ⟨b, e2, e⟩ := Option.bind_eq_some_iff.mp e
 split at e
 ·rename_i z
  rw [Bool.and_eq_true] at z
  cases e
  obtain ⟨as, r1⟩ := view_reads I S rx rv e1 z.1
  obtain ⟨bs, r2⟩ := view_reads I S ry ru e2 z.2
  exact eq_dataH r1 r2 (shaped_of z.1) (shaped_of z.2) hu ⟨_, H, I, by rw [eqD_py]; rfl, q⟩
 ·cases e
theorem op_neD {X : Cx} (hu : X.A.units + 64 < cLine) : OpR X (compareOp .NotEq) (rEqD X.K true) := by
 intro pins s σ H v u v' u' Q I rv ru q
 obtain ⟨m, μ, x, y, d, S, rx, ry, e, q⟩ := q
 unfold eqR at e
 obtain ⟨a, e1, e⟩ := Option.bind_eq_some_iff.mp e
 obtain ⟨b, e2, e⟩ := Option.bind_eq_some_iff.mp e
 split at e
 ·rename_i z
  rw [Bool.and_eq_true] at z
  cases e
  obtain ⟨as, r1⟩ := view_reads I S rx rv e1 z.1
  obtain ⟨bs, r2⟩ := view_reads I S ry ru e2 z.2
  exact ne_dataH r1 r2 (shaped_of z.1) (shaped_of z.2) hu ⟨_, H, I, by rw [eqD_py]; rfl, q⟩
 ·cases e
noncomputable def isK (neg : Bool) (c : D) : R -> Store -> Option (R × Store) := fun x μ => match c, x with
 | .non, .v .non => some (.v (.bl (!neg)), μ)
 | .bl b, .v (.bl a) => some (.v (.bl (if neg then !(a == b) else a == b)), μ)
 | _, _ => some (.v (.bl neg), μ)
noncomputable def rIsK (neg : Bool) (c : V) : R2 := fun x y H Q => y = c /\ Q (.bl (if neg then !decide (x = c) else decide (x = c))) H
section
variable {X : Cx}
theorem op_isNon : OpR X (compareOp .Is) (rIsK false .non) := op_isN
theorem op_isNotNon : OpR X (compareOp .IsNot) (rIsK true .non) := op_notN
end
theorem isK_ok {K : PySem.W.Frag} {m : List Addr} {H : Hp} {neg : Bool} {c : D} {cv v : V} {x d : R} {μ μ' : Store} (hc : (c = .non /\ cv = .non) \/ ∃ b, c = .bl b /\ cv = .bl b) (r : RelR K m H x v) (e : isK neg c x μ = some (d, μ')) :
  μ' = μ /\ d = .v (.bl (if neg then !decide (v = cv) else decide (v = cv))) := by
 have nn : ∀ d0, d0 ≠ .non -> RelD K H d0 v -> v ≠ .non := fun d0 h1 h2 z => by
  subst z
  cases d0 <;> simp only [RelD] at h2 <;> first | exact h1 rfl | (obtain ⟨_, _, _, h, _⟩ := h2; cases h; done) | (obtain ⟨_, _, h, _⟩ := h2; cases h; done) | (obtain ⟨_, h, _⟩ := h2; cases h; done) | cases h2
 have nb : ∀ d0 b, (∀ a, d0 ≠ .bl a) -> RelD K H d0 v -> v ≠ .bl b := fun d0 b h1 h2 z => by
  subst z
  cases d0 <;> simp only [RelD] at h2 <;> first | exact h1 _ rfl | (obtain ⟨_, _, _, h, _⟩ := h2; cases h; done) | (obtain ⟨_, _, h, _⟩ := h2; cases h; done) | (obtain ⟨_, h, _⟩ := h2; cases h; done) | cases h2
 have np : ∀ n, RelR K m H (.p n) v -> v ≠ .non /\ ∀ b, v ≠ .bl b := fun n ⟨a, e, _⟩ => ⟨fun z => (by rw [e] at z; cases z), fun b z => (by rw [e] at z; cases z)⟩
 have ns : ∀ b' n, RelR K m H (.s b' n) v -> v ≠ .non /\ ∀ b, v ≠ .bl b := fun b' n ⟨a, _, e, _⟩ => ⟨fun z => (by rw [e] at z; cases z), fun b z => (by rw [e] at z; cases z)⟩
 have nx : ∀ c, RelR K m H (.x c) v -> v ≠ .non /\ ∀ b, v ≠ .bl b := fun c ⟨a, _, _, e, _⟩ => ⟨fun z => (by rw [e] at z; cases z), fun b z => (by rw [e] at z; cases z)⟩
 have nf : ∀ L ds, RelR K m H (.f L ds) v -> v ≠ .non /\ ∀ b, v ≠ .bl b := fun L ds ⟨a, _, _, _, _, e, _⟩ => ⟨fun z => (by rw [e] at z; cases z), fun b z => (by rw [e] at z; cases z)⟩
 rcases hc with ⟨rfl, rfl⟩ | ⟨b, rfl, rfl⟩
 ·cases x with
  | v d0 =>
   by_cases h0 : d0 = .non
   ·subst h0
    have r : v = .non := by simpa only [RelR, RelD] using r
    subst r
    cases e
    cases neg <;> simp
   ·have := nn d0 h0 r
    cases d0 <;> first | exact absurd rfl h0 | (cases e; cases neg <;> simp [this])
  | p n => have := (np n r).1; cases e; cases neg <;> simp [this]
  | s b' n => have := (ns b' n r).1; cases e; cases neg <;> simp [this]
  | x c => have := (nx c r).1; cases e; cases neg <;> simp [this]
  | f L ds => have := (nf L ds r).1; cases e; cases neg <;> simp [this]
 ·cases x with
  | v d0 =>
   by_cases h0 : ∃ a, d0 = .bl a
   ·obtain ⟨a, rfl⟩ := h0
    have r : v = .bl a := by simpa only [RelR, RelD] using r
    subst r
    cases e
    cases neg <;> cases a <;> cases b <;> simp
   ·have := nb d0 b (fun a z => h0 ⟨a, z⟩) r
    cases d0 <;> first | exact absurd ⟨_, rfl⟩ h0 | (cases e; cases neg <;> simp [this])
  | p n => have := (np n r).2 b; cases e; cases neg <;> simp [this]
  | s b' n => have := (ns b' n r).2 b; cases e; cases neg <;> simp [this]
  | x c => have := (nx c r).2 b; cases e; cases neg <;> simp [this]
  | f L ds => have := (nf L ds r).2 b; cases e; cases neg <;> simp [this]
theorem rd_is {K : PySem.W.Frag} {σ : L2.St} {H : Hp} {Q : VK} {fa : FE} {neg : Bool} {c : D} {cv : V} (hc : (c = .non /\ cv = .non) \/ ∃ b, c = .bl b /\ cv = .bl b) (h : rdE K (fUn (isK neg c) fa) σ H Q) : tOp (rIsK neg cv) (rdE K fa) (tC cv) σ H Q := by
 obtain ⟨ρ, μ, m, d, μ', hl, hs, e, k⟩ := h
 obtain ⟨⟨x, μ1⟩, e1, e⟩ := Option.bind_eq_some_iff.mp e
 refine ⟨ρ, μ, m, x, μ1, hl, hs, e1, fun v H1 m1 x1 s1 r1 => ⟨rfl, ?_⟩⟩
 obtain ⟨rfl, rfl⟩ := isK_ok hc r1 e
 exact k _ H1 m1 x1 s1 (by simp only [RelR, RelD])
def Kinds (K : PySem.W.Frag) (T : String) : Prop := ∀ t ∈ ["NoneType", "bool", "int", "str", "tuple", "list", "dict"], PySem.W.kitOne K (.type t) (.type T) = some (t == T || (t == "bool" && T == "int"))
noncomputable def boolsD : List D -> Option (List Bool)
 | [] => some []
 | .bl b :: r => (boolsD r).bind fun bs => some (b :: bs)
 | _ :: _ => none
noncomputable def allD (any : Bool) : List R -> Store -> Option (R × Store)
 | [x], μ => (lstD x μ).bind fun xs => (boolsD xs).bind fun bs => some (.v (.bl (if any then bs.any id else bs.all id)), μ)
 | _, _ => none
end HW
namespace HW
open PySem PySem.Spec PyProof.Rows L2 HS
noncomputable def insI (x : Int) : List Int -> List Int
 | [] => [x]
 | y :: ys => if x <= y then x :: y :: ys else y :: insI x ys
noncomputable def isort : List Int -> List Int
 | [] => []
 | x :: xs => insI x (isort xs)
theorem vals_ints : ∀ {ns : List Int} {its : List Value}, Vals (ns.map V.int) its -> IntsAre its ns
 | [], its, h => by cases h; exact .nil
 | n :: ns, its, h => by
  cases h with
  | cons r t => obtain ⟨tk, rfl⟩ := r; exact .cons n tk (vals_ints t)
noncomputable def intsD : List D -> Option (List Int)
 | [] => some []
 | .int n :: r => (intsD r).map (n :: ·)
 | _ => none
noncomputable def minD : List R -> Store -> Option (R × Store)
 | [.v (.int i), .v (.int j)], μ => some (.v (.int (if j < i then j else i)), μ)
 | _, _ => none
theorem rel2 {K : PySem.W.Frag} {m : List Addr} {H : Hp} {x y : R} {vs : List V} (r : RelRs K m H [x, y] vs) : ∃ v w, vs = [v, w] /\ RelR K m H x v /\ RelR K m H y w := by
 obtain ⟨v, r, rfl, h1, h2⟩ := r
 obtain ⟨w, r, rfl, h2, h3⟩ := h2
 have h3 : r = [] := h3
 subst h3
 exact ⟨v, w, rfl, h1, h2⟩
theorem g_min {K : PySem.W.Frag} : GAr K minD (fun xs H Q => ∃ i j, xs = [.int i, .int j] /\ Q (.int (if j < i then j else i)) H) := by
 intro m H μ xs d μ' vs Q s r e k
 unfold minD at e
 split at e
 ·cases e
  obtain ⟨v, w, rfl, r1, r2⟩ := rel2 r
  simp only [RelR, RelD] at r1 r2
  subst r1; subst r2
  exact ⟨_, _, rfl, k _ H m .refl s (by simp only [RelR, RelD])⟩
 ·cases e
end HW
namespace HW
open PySem PySem.Spec PyProof.Rows L2 HS
noncomputable def setQ (b : Bool) : List R -> Store -> Option (R × Store)
 | [x], μ => (itemsD x μ).bind fun ds => (intsD ds).bind fun ns => if ns.length < 4000 then some (.s b (metOf [] ns), μ) else none
 | _, _ => none
noncomputable def sortedQ (b : Bool) : List R -> Store -> Option (R × Store)
 | [.s c xs], μ => if c = b /\ xs.length < 64 then some (.p μ.length, μ ++ [.lst ((isort xs).map D.int)]) else none
 | [x], μ => (lstD x μ).bind fun ds => (intsD ds).bind fun ns => if ns.length < 64 then some (.p μ.length, μ ++ [.lst ((isort ns).map D.int)]) else none
 | _, _ => none
end HW
namespace HW
open PySem PySem.Spec PyProof.Rows L2 HS
noncomputable def pairsD : List D -> Option (List (Key × D))
 | [] => some []
 | .tup [.int i, d] :: r => (pairsD r).map ((.inl i, d) :: ·)
 | _ => none
noncomputable def putKD (kvs : List (Key × D)) (k : Key) (v : D) : List (Key × D) := if (kvs.any fun kv => decide (kv.1 = k)) = true then kvs.map (fun kv => if kv.1 = k then (kv.1, v) else kv) else kvs ++ [(k, v)]
noncomputable def putAllD (kvs ps : List (Key × D)) : List (Key × D) := ps.foldl (fun a p => putKD a p.1 p.2) kvs
noncomputable def dictD : List R -> Store -> Option (R × Store)
 | [.p n], μ => match μ[n]? with
  | some (.lst ds) => (pairsD ds).bind fun kvs => some (.p μ.length, μ ++ [.dct (putAllD [] kvs)])
  | _ => none
 | _, _ => none
end HW
namespace HW
open PySem PySem.Spec PyProof.Rows L2
mutual
noncomputable def flatD : D -> Bool
 | .tup xs => flatDs xs
 | .fl _ => false
 | .fd _ _ => false
 | .key _ => false
 | _ => true
noncomputable def flatDs : List D -> Bool
 | [] => true
 | x :: xs => flatD x && flatDs xs
end
noncomputable def asD : R -> Store -> Option D
 | .v d, _ => some d
 | .p n, μ => match μ[n]? with
  | some (.lst xs) => some (.fl xs) | some (.fz xs) => some (.fl xs)
  | some (.dct kvs) => some (.fd (kvs.map (·.1)) (kvs.map (·.2))) | some (.fzd kvs) => some (.fd (kvs.map (·.1)) (kvs.map (·.2)))
  | _ => none
 | .s _ _, _ => none
 | .x _, _ => none
 | .f _ _, _ => none
noncomputable def valsB : List R -> Store -> Option (List D)
 | [], _ => some []
 | x :: xs, μ => (asD x μ).bind fun d => (valsB xs μ).bind fun ds => some (d :: ds)
noncomputable def fCallQ (f : MF) (n : Nat) (fa : FA) : FE := fun ρ μ => (fa ρ μ).bind fun a => (valsB a.1 a.2).bind fun ds => if ds.length = n then (f ds).bind fun d => if flatD d = true then some (.v d, a.2) else none else none
noncomputable abbrev MC := List D -> Option Cell
noncomputable def flatC : Cell -> Bool
 | .lst xs => flatDs xs
 | .dct kvs => flatDs (kvs.map (·.2))
 | _ => false
noncomputable def finN : Out -> Option Cell
 | .rt (.p n) μ => match μ[n]? with | some (.lst xs) => some (.lst xs) | some (.dct kvs) => some (.dct kvs) | _ => none
 | _ => none
noncomputable def fCallN (f : MC) (n : Nat) (fa : FA) : FE := fun ρ μ => (fa ρ μ).bind fun a => (valsB a.1 a.2).bind fun ds => if ds.length = n then (f ds).bind fun c => if flatC c = true then some (.p a.2.length, a.2 ++ [c]) else none else none
noncomputable def clrD : R -> List R -> Store -> Option (R × Store)
 | .p n, [], μ => match μ[n]? with | some (.lst _) => some (.v .non, μ.set n (.lst [])) | _ => none
 | _, _, _ => none
noncomputable def extD : R -> List R -> Store -> Option (R × Store)
 | .p n, [.v (.tup ys)], μ => match μ[n]? with | some (.lst xs) => if xs.length + ys.length <= sizeLine then some (.v .non, μ.set n (.lst (xs ++ ys))) else none | _ => none
 | _, _, _ => none
section
variable {P : Program} {w : World} {H H0 : Hp} {h h0 : Heap} {a : Addr} {u : HO} {o : Obj} {fs ex : List Addr}
end
section
variable {K : PySem.W.Frag} {H H1 H2 H' : Hp}
end
section
variable {K : PySem.W.Frag} {m : List Addr} {σ : L2.St} {H H0 : Hp} {μ : Store} {Q : VK}
end
end HW
namespace HW
open PySem PySem.Spec PyProof.Rows L2
noncomputable def rAdd0 (K : PySem.W.Frag) : R2 := fun x y H Q => ∃ a b ys, x = .ref a /\ y = .ref b /\ SqT K H a [] /\ SqT K H b ys /\ ys.length <= sizeLine /\ Q (.ref b) H
theorem op_add0 {X : Cx} : OpR X (binaryOp .Add) (rAdd0 X.K) := by
 intro pins s σ H x y v u Q I rx ry h
 obtain ⟨a, b, ys, rfl, rfl, ha, hb, hz, q⟩ := h
 cases rx
 cases ry
 obtain ⟨its, r1, p1, _⟩ := I.tuple ha
 obtain ⟨its2, r2, p2, _⟩ := I.tuple hb
 cases r1
 obtain ⟨⟨cls, dd, data, sl⟩, ho, hc, n, hd⟩ := id p1
 obtain ⟨⟨cls2, dd2, data2, sl2⟩, ho2, hc2, n2, hd2⟩ := id p2
 simp only at hc hd hc2 hd2
 subst hc hd hc2 hd2
 exact concat_meets ⟨_, ho, rfl⟩ ⟨_, ho2, rfl⟩ noFill_tuple_add seq_tuple_add PySem.F.slot_tuple_add PySem.F.entry_tuple_add (PySem.F.args_tuple_add_2 _ _)
  (tuple_addW0 a b #[] its2.toArray n n2 dd dd2 sl sl2 (by simp)) ⟨ho, ho2, ⟨.ref b, H, I, rfl, q⟩⟩
noncomputable def addQ : R -> R -> Store -> Option (R × Store)
 | .v (.tup []), .v (.tup ys), μ => if ys.length <= sizeLine then some (.v (.tup ys), μ) else none
 | x, y, μ => addD x y μ
theorem g_addQ {K : PySem.W.Frag} : GOp K addQ (fun x y H Q => rAdd' K x y H Q \/ rAdd0 K x y H Q) := by
 intro m H μ x y d μ' v u Q s rx ry e k
 unfold addQ at e
 split at e
 ·split at e
  ·rename_i z
   cases e
   have ry' := ry
   simp only [RelR, RelD] at rx ry
   obtain ⟨a, vs, rfl, qa, ra⟩ := rx
   obtain ⟨b, ws, rfl, qb, rb⟩ := ry
   have ra : vs = [] := by simpa only [RelDs] using ra
   subst ra
   exact .inr ⟨a, b, ws, rfl, rfl, qa, qb, by rw [← rb.length]; exact z, k _ H m .refl s ry'⟩
  ·cases e
 ·exact .inl (g_add m H μ _ _ d μ' v u Q s rx ry e k)
noncomputable def intD : List R -> Store -> Option (R × Store)
 | [.v (.int i)], μ => some (.v (.int i), μ)
 | [.v (.bl b)], μ => some (.v (.int (if b then 1 else 0)), μ)
 | _, _ => none
noncomputable def strD : List R -> Store -> Option (R × Store)
 | [.v (.int i)], μ => if i.natAbs.log2 < 1920 then some (.v (.str (toString i)), μ) else none
 | _, _ => none
theorem g_str {K : PySem.W.Frag} : GAr K strD (fun xs H Q => ∃ i, xs = [.int i] /\ i.natAbs.log2 < 1920 /\ Q (.str (toString i)) H) := by
 intro m H μ xs d μ' vs Q s r e k
 unfold strD at e
 split at e
 ·split at e
  ·rename_i z
   cases e
   obtain ⟨v, rfl, r1⟩ := rel1 r
   simp only [RelR, RelD] at r1
   subst r1
   exact ⟨_, rfl, z, k _ H m .refl s (by simp only [RelR, RelD])⟩
  ·cases e
 ·cases e
noncomputable def keyOf : R -> Option Key
 | .v (.int i) => some (.inl i)
 | .v (.str x) => some (.inr x)
 | _ => none
noncomputable def putC (o i : R) (dv : D) (μ : Store) : Option Store := match o with
 | .p n => match μ[n]? with
  | some (.lst xs) => (match i with | .v (.int k) => (ixN xs.length k).bind fun j => some (μ.set n (.lst (xs.set j dv))) | _ => none)
  | some (.dct kvs) => if kvs.length < sizeLine then (keyOf i).bind fun k => some (μ.set n (.dct (putKD kvs k dv))) else none
  | _ => none
 | _ => none
noncomputable def gSub (fo fi : FE) : FG := fun d ρ μ => match d with | .v dv => (fo ρ μ).bind fun o => (fi ρ o.2).bind fun i => (putC o.1 i.1 dv i.2).bind fun μ' => some (ρ, μ') | _ => none
end HW
namespace HW
open PySem PySem.Spec PyProof.Rows L2
noncomputable def bestOf (lt : Int -> Int -> Bool) (ns : List Int) : Int := ns.getD (argBest (fun i j => lt (ns.getD i 0) (ns.getD j 0)) (ns.length - 1)) 0
noncomputable def bestD (lt : Int -> Int -> Bool) : List R -> Store -> Option (R × Store)
 | [x], μ => (lstD x μ).bind fun ds => (intsD ds).bind fun ns => if ns = [] then none else some (.v (.int (bestOf lt ns)), μ)
 | _, _ => none
end HW
namespace HS
open PySem PySem.Spec PyProof.Rows L2
section
variable {prog : Program} {w : World} {A : Around} {E : Value -> Shared -> Prop} {s : Shared}
end
end HS
namespace HW
open PySem PySem.Spec PyProof.Rows L2 HS
noncomputable def intKeys : List Key -> Option (List Int)
 | [] => some []
 | .inl n :: r => (intKeys r).map (n :: ·)
 | _ => none
noncomputable def srtK (b : Bool) : List R -> Store -> Option (R × Store)
 | [.p n], μ => match μ[n]? with
  | some (.dct kvs) => (intKeys (kvs.map (·.1))).bind fun ns => if ns.length < 64 then some (.p μ.length, μ ++ [.lst ((isort ns).map D.int)]) else none
  | some (.fzd kvs) => (intKeys (kvs.map (·.1))).bind fun ns => if ns.length < 64 then some (.p μ.length, μ ++ [.lst ((isort ns).map D.int)]) else none
  | _ => sortedQ b [.p n] μ
 | xs, μ => sortedQ b xs μ
noncomputable def fPairs : List (FE × FE) -> Lo -> Store -> Option (List (R × R) × Store)
 | [], _, μ => some ([], μ)
 | (fk, fv) :: r, ρ, μ => (fk ρ μ).bind fun a => (fv ρ a.2).bind fun b => (fPairs r ρ b.2).bind fun c => some ((a.1, b.1) :: c.1, c.2)
noncomputable def kvsOf : List (R × R) -> Option (List (Key × D))
 | [] => some []
 | (x, .v d) :: r => (keyOf x).bind fun k => (kvsOf r).bind fun kvs => some ((k, d) :: kvs)
 | _ => none
noncomputable def fDisp (prs : List (FE × FE)) : FE := fun ρ μ => (fPairs prs ρ (μ ++ [.dct []])).bind fun a => (kvsOf a.1).bind fun kvs => if kvs.length <= 15 then
 (match a.2[μ.length]? with | some (.dct []) => some (.p μ.length, a.2.set μ.length (.dct (putAllD [] kvs))) | _ => none) else none
section
variable {K : PySem.W.Frag} {σ : L2.St}
end
end HW
namespace HW
open PySem PySem.Spec PyProof.Rows L2
noncomputable def stepV {α : Type} (xs : List α) (lo hi : Option Int) (k : Int) : List α := (let b := sliceBounds lo hi (some k) xs.length; sliceRange b.1 b.2.1 b.2.2).filterMap fun i => xs[i]?
end HW
namespace HW
open PySem PySem.Spec PyProof.Rows L2
def stepOk (i j c : Int) : Prop := -(2 ^ 61) <= i /\ i < 2 ^ 61 /\ -(2 ^ 61) <= j /\ j < 2 ^ 61 /\ c ≠ 0 /\ -(2 ^ 30) < c /\ c < 2 ^ 30
instance {i j c : Int} : Decidable (stepOk i j c) := by unfold stepOk; infer_instance
section
variable {X : Cx} {tg : Expr}
end
end HW
namespace HW
open PySem PySem.Spec PyProof.Rows L2
end HW
namespace HW
open PySem PySem.Spec PyProof.Rows L2
end HW
namespace L2
open PySem PySem.Spec PyProof.Rows
section
variable {X : Cx} {pins : List (Addr × Obj)} {σ : St} {H : Hp} {s : Shared} {h' : Heap}
end
section
variable {X : Cx}
end
end L2
namespace HW
open PySem PySem.Spec PyProof.Rows L2
section
variable {K : PySem.W.Frag} {m : List Addr} {σ : L2.St} {H : Hp} {μ : Store} {D : Ends}
end
end HW
namespace HW
open PySem PySem.Spec PyProof.Rows L2
end HW
namespace HW
open PySem PySem.Spec PyProof.Rows L2
end HW
namespace HW
open PySem PySem.Spec PyProof.Rows L2
noncomputable def valD (kvs : List (Key × D)) (k : Key) : Option D := (kvs.find? fun kv => decide (kv.1 = k)).map (·.2)
noncomputable def kvsD (x : R) (μ : Store) : Option (List (Key × D)) := match x with
 | .p n => match μ[n]? with | some (.dct kvs) => some kvs | some (.fzd kvs) => some kvs | _ => none
 | _ => none
noncomputable def fGet (fo fk fx : FE) : FE := fun ρ μ => (fo ρ μ).bind fun o => if (kvsD o.1 o.2).isSome = true then (fk ρ o.2).bind fun k => (fx ρ k.2).bind fun x => (kvsD o.1 x.2).bind fun kvs => (keyOf k.1).bind fun key => some ((match valD kvs key with | some d => .v d | none => x.1), x.2) else none
end HW
namespace HS
open PySem PySem.Spec PyProof.Rows
section
variable {prog : Program} {w : World} {A : Around} {E : Value -> Shared -> Prop} {h : Heap} {g : Array GenState} {d : Drawn} {t : Nat} {os : OsState} {a : Addr} {its : Array Value} {n : Nat} {sl : Array (Option Value)}
end
section
variable {prog : Program} {w : World} {A : Around} {E : Value -> Shared -> Prop} {s : Shared}
end
end HS
namespace HW
open PySem PySem.Spec PyProof.Rows L2 HS
noncomputable def dictQ : List R -> Store -> Option (R × Store)
 | [.v (.tup ds)], μ => (pairsD ds).bind fun ps => if ps.length <= sizeLine then some (.p μ.length, μ ++ [.dct (putAllD [] ps)]) else none
 | xs, μ => dictD xs μ
end HW
namespace HS
open PySem PySem.Spec PyProof.Rows
section
variable {prog : Program} {w : World} {A : Around} {E : Value -> Shared -> Prop} {s : Shared}
end
end HS
namespace HW
open PySem PySem.Spec PyProof.Rows L2 HS
noncomputable def setKs (b : Bool) : List R -> Store -> Option (R × Store)
 | [.p n], μ => match μ[n]? with
  | some (.dct kvs) => (intKeys (kvs.map (·.1))).bind fun ns => if ns.length < 60 then some (.s b (metOf [] ns), μ) else none
  | some (.fzd kvs) => (intKeys (kvs.map (·.1))).bind fun ns => if ns.length < 60 then some (.s b (metOf [] ns), μ) else none
  | _ => setQ b [.p n] μ
 | xs, μ => setQ b xs μ
end HW
namespace HX
open PySem
noncomputable abbrev eO (C : Value) (vs : Array Value) : Obj := { cls := C, dict := none, data := .fields vs, slots := #[] }
structure Fl (G : Addr -> Prop) (h : Heap) (e : Addr) (C fl : Value) : Prop where
 is : ∃ vs T ts c, ¬ G e /\ ¬ G T /\ T ≠ e /\ h.get? e = some (eO C vs) /\ vs[1]? = some (.ref T) /\ h.get? T = some (eO c ts) /\ ts[3]? = some fl
 all : ∀ b, G b -> ∃ o, h.get? b = some o
section
variable {prog : Program} {w : World} {A : Around} {E : Value -> Shared -> Prop} {s : Shared} {G : Addr -> Prop} {e : Addr} {C fl : Value} {Q : Unit -> Shared -> Prop}
end
end HX
namespace HW
open PySem PySem.Spec PyProof.Rows L2
abbrev clsAt (K : PySem.W.Frag) (c : Str) (C : Addr) : Prop := PySem.W.nsIn K mainGlobals c = some (some (.ref C))
section
variable {P : Program} {w : World} {H H0 H1 : Hp} {h h0 h1 h2 : Heap} {a : Addr} {o : HO} {fs fs' S : List Addr} {G : Addr -> Prop}
end
section
variable {P : Program} {w : World} {K : PySem.W.Frag} {mg : Str -> Option Value} {base : Heap} {N : List Str} {qual : Str} {scope : Scope} {f : Addr} {cd : Value} {A : Around} {outer : List Env} {s0 : Shared} {H0 : Hp} {E : XK}
end
end HW
namespace HW
open PySem PySem.Spec PyProof.Rows L2
structure ClsX (K : PySem.W.Frag) (D : Addr) : Prop where
 dc : PySem.W.hasDictIn K D = true
 ga : PySem.W.findIn K (.ref D) "__getattribute__" = some (some (.builtin "BaseException.__getattribute__"))
 gn : PySem.W.findIn K (.ref D) "__getattr__" = some none
 fi : PySem.W.findIn K (.ref D) "__class__" = some (some (.builtin "object.__class__"))
 mr : PySem.W.mroIn K D (.type "object") = some true
 mb : PySem.W.mroIn K D (.type "BaseException") = some true
 gt : PySem.W.specialIn K (.builtin "object.__class__") "__get__" = some (some (.builtin "getset_descriptor.__get__"))
 tk : PySem.W.takesIn K (.builtin "object.__class__") = some true
section
variable {K : PySem.W.Frag} {σ : L2.St} {H : Hp} {Q : VK} {fa : FE} {tbl : Str -> Option Bool}
end
end HW
namespace HW
open PySem PySem.Spec PyProof.Rows L2
section
variable {X : Cx} {pins : List (Addr × Obj)} {σ : L2.St} {H : Hp} {s : Shared} {ea : Addr}
end
end HW
namespace HW
open PySem L2
section
variable {K : PySem.W.Frag} {mg : Str -> Option Value} {a : Str} {q CH : Addr} {b : Bool} {l : List (Str × Bool)} {cs : List Str} {u : Value} {us : List Value}
end
end HW
namespace HX
open PySem
section
variable {prog : Program} {w : World} {A : Around} {E : Value -> Shared -> Prop} {s : Shared} {G : Addr -> Prop} {e L : Addr} {C fl : Value} {Q : Unit -> Shared -> Prop} {env : Env}
end
end HX
namespace HW
open PySem PySem.Spec PyProof.Rows L2
section
variable {P : Program} {w : World} {K : PySem.W.Frag} {mg : Str -> Option Value} {base : Heap} {N : List Str} {qual : Str} {scope : Scope} {f : Addr} {cd : Value} {A : Around} {outer : List Env} {s0 : Shared} {H0 : Hp} {E : XK}
end
end HW
namespace HW
open PySem PySem.Spec PyProof.Rows L2
section
variable {X : Cx} {a x : Str} {i j : Nat} {p1 p2 p3 pos : Pos}
end
end HW
namespace HW
open PySem PySem.Spec PyProof.Rows L2
def rSlS : V -> Option Int -> Option Int -> Hp -> VK -> Prop := fun x lo hi H Q => ∃ z, x = .str z /\ z.length <= sizeLine /\ Q (.str (Txt.slice z lo hi)) H
theorem sl_str {X : Cx} : SlR X rSlS := by
 intro pins s σ H x v vl vu lo hi sl Q I rx hs pl pu h
 obtain ⟨z, rfl, hz, q⟩ := h
 obtain ⟨t, rfl⟩ := rx
 refine ⟨"str", _, PySem.F.slot_str_getitem.lookup, typeIs_str _ _ _, ?_⟩
 have fin : ∀ (l u : Option (Int × Tok)), lo = l.map (·.1) -> hi = u.map (·.1) -> s.heap.IsSlice sl l u none -> wpAny (model X.prog X.w) X.A (getItem (.str z t) (.ref sl)) (EP X pins σ Q) X.xe s := fun l u e1 e2 hS => by
  subst e1 e2
  refine wpAny_getItem_str_slice (l := l) (u := u) (st := none) hS rfl ?_
  exact post_val_or_str ⟨Nat.le_trans (Txt.slice_le z _ _) hz, fun t' k => ⟨.str _, H, I.tok k, ⟨_, rfl⟩, q⟩⟩
 cases pl with
 | none =>
  cases pu with
  | none => exact fin none none rfl rfl hs
  | int j tj => exact fin none (some (j, tj)) rfl rfl hs
 | int i ti =>
  cases pu with
  | none => exact fin (some (i, ti)) none rfl rfl hs
  | int j tj => exact fin (some (i, ti)) (some (j, tj)) rfl rfl hs
noncomputable def signs (x : Str) : List D := x.cps.toList.map fun c => D.str ⟨#[c]⟩
section
variable {K : PySem.W.Frag} {σ : L2.St} {H : Hp} {Q : VK} {RR : It -> Hp -> Prop}
noncomputable def slS (x : R) (lo hi : Option Int) (μ : Store) : Option (R × Store) := match x with
 | .v (.str z) => if z.length <= sizeLine then some (.v (.str (Txt.slice z lo hi)), μ) else none
 | _ => none
end
end HW
namespace HW
open PySem PySem.Spec PyProof.Rows L2
section
variable {K : PySem.W.Frag} {σ : L2.St} {H : Hp} {Q : VK}
end
end HW
namespace HS
open PySem PyProof.Rows
def Srt (xs : Array Keyed) (lo hi : Nat) : Prop := ∀ i j, lo <= i -> i <= j -> j < hi -> K xs i <= K xs j
def Out (lo hi : Nat) (xs ys : Array Keyed) : Prop := ∀ k, ¬ (lo <= k /\ k < hi) -> ys[k]? = xs[k]?
structure SB (a₀ : Array Keyed) (st : SortSt) : Prop where
 perm : (arrOf st).Perm a₀
 kind : kindOf st = oneType'
 ok : failedOf st = none
structure Stp (a₀ : Array Keyed) (lo hi : Nat) (st st' : SortSt) : Prop where
 b : SB a₀ st'
 pend : pendingOf st' = pendingOf st
 out : Out lo hi (arrOf st) (arrOf st')
section
variable {prog : Program} {w : World} {A : Around} {E : Value -> Shared -> Prop} {s : Shared} {a₀ : Array Keyed}
end
end HS
namespace HS
open PySem PyProof.Rows
section
variable {prog : Program} {w : World} {A : Around} {E : Value -> Shared -> Prop} {s : Shared} {a₀ : Array Keyed}
def IK (xs : Array Keyed) : Prop := ∀ i, i < xs.size -> ∃ t q, xs[i]? = some (.int (K xs i) t, q)
end
end HS
namespace HS
open PySem PyProof.Rows
noncomputable def kk (p : Keyed) : Int := numOf p.1
def Le (x y : Keyed) : Prop := kk x <= kk y
structure Mg (A B O : List Keyed) (ia ib : Nat) : Prop where
 perm : (O ++ A.drop ia ++ B.drop ib).Perm (A ++ B)
 srt : O.Pairwise Le
 toA : ∀ x ∈ O, ∀ y ∈ A.drop ia, Le x y
 toB : ∀ x ∈ O, ∀ y ∈ B.drop ib, Le x y
 len : O.length = ia + ib
structure SameG (st st' : SortSt) : Prop where
 kind : kindOf st' = kindOf st
 arr : arrOf st' = arrOf st
 pend : pendingOf st' = pendingOf st
 ok : failedOf st' = failedOf st
end HS
namespace HS
open PySem PyProof.Rows
section
variable {prog : Program} {w : World} {A : Around} {E : Value -> Shared -> Prop} {s : Shared} {a₀ : Array Keyed}
structure Pre (a b : Array Keyed) : Prop where
 ka : IK a
 kb : IK b
 sa : Srt a 0 a.size
 sb : Srt b 0 b.size
 na : 0 < a.size
 nb : 0 < b.size
end
end HS
namespace HS
open PySem PyProof.Rows
structure Mh (A B O : List Keyed) (na nb : Nat) : Prop where
 perm : (A.take na ++ B.take nb ++ O).Perm (A ++ B)
 srt : O.Pairwise Le
 toA : ∀ x ∈ A.take na, ∀ y ∈ O, Le x y
 toB : ∀ x ∈ B.take nb, ∀ y ∈ O, Le x y
section
variable {prog : Program} {w : World} {A : Around} {E : Value -> Shared -> Prop} {s : Shared} {a₀ : Array Keyed}
end
end HS
namespace HS
open PySem PyProof.Rows
section
variable {prog : Program} {w : World} {A : Around} {E : Value -> Shared -> Prop} {s : Shared} {a₀ : Array Keyed}
end
end HS
namespace HS
open PySem PyProof.Rows
def Runs (xs : Array Keyed) : List (Nat × Nat × Nat) -> Nat -> Nat -> Prop
 | [], b, e => b = e
 | (a, n, _) :: r, b, e => a = b /\ 0 < n /\ Srt xs a (a + n) /\ Runs xs r (b + n) e
section
variable {prog : Program} {w : World} {A : Around} {E : Value -> Shared -> Prop} {s : Shared} {a₀ : Array Keyed}
end
end HS
namespace HS
open PySem PySem.Spec PyProof.Rows L2
section
variable {prog : Program} {w : World} {A : Around} {E : Value -> Shared -> Prop} {s : Shared}
end
end HS
namespace HW
open PySem PySem.Spec PyProof.Rows L2 HS
end HW
namespace HS
open PySem PySem.Spec PyProof.Rows
section
variable {prog : Program} {w : World} {A : Around} {E : Value -> Shared -> Prop} {s : Shared}
end
end HS
namespace HW
open PySem PySem.Spec PyProof.Rows L2 HS
end HW
namespace HW
open PySem PySem.Spec PyProof.Rows L2
section
variable {K : PySem.W.Frag} {m m' : List Addr} {H H' : Hp}
end
section
variable {K : PySem.W.Frag} {m : List Addr}
end
section
variable {K : PySem.W.Frag} {σ : L2.St} {H : Hp} {Q : VK}
end
end HW
namespace HT2
open PySem PySem.W PyProof.Rows
section
variable {r : Nat -> Int} {n : Nat} {s : Shared} {cmp : Nat -> Nat -> (Bool -> Shared -> Prop) -> Shared -> Prop}
noncomputable abbrev key (r : Nat -> Int) (p : Array Nat) (k : Nat) : Int := r (p.getD k 0)
structure Pm (n : Nat) (p : Array Nat) : Prop where
 pm : p.toList.Perm (List.range n)
structure Rk (r : Nat -> Int) (n : Nat) (s : Shared) (cmp : Nat -> Nat -> (Bool -> Shared -> Prop) -> Shared -> Prop) : Prop where
 inj : ∀ i j, i < n -> j < n -> r i = r j -> i = j
 ask : ∀ i j, i < n -> j < n -> ∀ C : Bool -> Shared -> Prop, C (decide (r i < r j)) s -> cmp i j C s
end
end HT2
namespace HT2
open PySem PySem.W PyProof.Rows
section
variable {prog : Program} {w : World} {A : Around} {E : Value -> Shared -> Prop} {s : Shared}
end
end HT2
namespace HK
open PySem PySem.Spec PyProof.Rows L2
section
variable {prog : Program} {w : World} {A : Around} {E : Value -> Shared -> Prop} {s : Shared} {d it : Addr} {es : Array DictEntry} {ep i : Nat}
end
end HK
namespace HK
open PySem PySem.Spec PyProof.Rows L2 HT2
section
variable {prog : Program} {w : World} {A : Around} {E : Value -> Shared -> Prop} {s : Shared}
end
end HK
namespace HW
open PySem PySem.Spec PyProof.Rows L2 HS HT2 HK
noncomputable abbrev kk (k : List Int) : List Key := k.map Sum.inl
end HW
namespace HW
open PySem PySem.Spec PyProof.Rows L2 HS HT2 HK
theorem isL_of {X : Cx} {pins : List (Addr × Obj)} {σ : L2.St} {H : Hp} {s : Shared} (I : Inv X pins σ H s) {b : Addr} {zs : List V} (h : SqL X.K H b zs) : ∃ (its : List Value) (n : Nat), Vals zs its /\ s.heap.get? b = some { cls := .type "list", data := .seq its.toArray n } := by
 rcases h with h | ⟨o, its, n, hk, hc, hd, hs, hz, r⟩
 ·obtain ⟨z, its, n, r, e⟩ := h.ok I.hok
  exact ⟨its, n, r, e⟩
 ·refine ⟨its.toList, n, r, ?_⟩
  have e := I.kIn b o hk
  obtain ⟨c, d, dt, sl⟩ := o
  simp only at hc hd hs
  obtain ⟨hd, hl⟩ := hd
  subst hc hd hs hl
  simpa using e
noncomputable def rCatF (K : PySem.W.Frag) : R2 := fun x y H Q => ∃ l b xs zs, x = .ref l /\ y = .ref b /\ SqL K H l xs /\ SqL K H b zs /\ xs.length + zs.length <= sizeLine /\ ∀ p, H p = none -> Q (.ref p) (upd H p (.lst (xs ++ zs)))
theorem op_catF {X : Cx} : OpR X (binaryOp .Add) (rCatF X.K) := by
 intro pins s σ H x y v u Q I rx ry h
 obtain ⟨l, b, xs, zs, rfl, rfl, hH, hB, hz, q⟩ := h
 cases rx
 cases ry
 obtain ⟨its, n, r, e⟩ := isL_of I hH
 obtain ⟨its2, n2, r2, e2⟩ := isL_of I hB
 have l1 := r.length
 have l2 := r2.length
 refine PySem.P.add_list e e2 ?_ (by rw [List.size_toArray, List.size_toArray]; omega)
 rw [show its.toArray ++ its2.toArray = (its ++ its2).toArray by simp]
 exact ⟨.ref _, _, I.lnew (t' := s.toks) (r.append r2) (by rw [List.length_append]; omega), rfl, q _ I.fresh⟩
noncomputable def seqL : R -> Store -> Option (List D)
 | .p a, μ => (match μ[a]? with | some (.lst xs) => some xs | _ => none)
 | .v (.fl xs), _ => some xs
 | _, _ => none
theorem seqL_ok {K : PySem.W.Frag} {m : List Addr} {H : Hp} {μ : Store} (s : SRel K m H μ) {x : R} {v : V} {xs : List D} (e : seqL x μ = some xs) (r : RelR K m H x v) : ∃ a vs, v = .ref a /\ SqL K H a vs /\ RelDs K H xs vs := by
 unfold seqL at e
 split at e
 ·split at e
  ·rename_i q
   cases e
   obtain ⟨b, rfl, hb⟩ := r
   obtain ⟨vs, ea, r1⟩ := s.cell _ _ b q hb
   exact ⟨b, vs, rfl, SqL.of ea, r1⟩
  ·cases e
 ·cases e
  simp only [RelR, RelD] at r
  obtain ⟨c, ws, rfl, f, r2⟩ := r
  exact ⟨c, ws, rfl, f.sq, r2⟩
 ·cases e
noncomputable def addF (x y : R) (μ : Store) : Option (R × Store) := (seqL x μ).bind fun xs => (seqL y μ).bind fun ys => if xs.length + ys.length <= sizeLine then some (.p μ.length, μ ++ [.lst (xs ++ ys)]) else none
theorem g_addF {K : PySem.W.Frag} : GOp K addF (rCatF K) := by
 intro m H μ x y d μ' v u Q s rx ry e k
 unfold addF at e
 obtain ⟨xs, e1, e⟩ := Option.bind_eq_some_iff.mp e
 obtain ⟨ys, e2, e⟩ := Option.bind_eq_some_iff.mp e
 split at e
 ·rename_i hz
  cases e
  obtain ⟨b, vs, rfl, ea, r1⟩ := seqL_ok s e1 rx
  obtain ⟨c, ws, rfl, f, r2⟩ := seqL_ok s e2 ry
  refine ⟨b, c, vs, ws, rfl, rfl, ea, f, by rw [← r1.length, ← r2.length]; exact hz, fun p hp => ?_⟩
  obtain ⟨x1, x2, x3⟩ := new_lst s (r1.append r2) hp
  exact k _ _ _ x1 x2 x3
 ·cases e
end HW
namespace HS
open PySem PySem.Spec PyProof.Rows
noncomputable def fr (m i p : Nat) : SetTable.Probe := { j := i, more := SetTable.runEnd m i - i, i := i, perturb := p, dummy := none }
end HS
namespace HS
open PySem PySem.Spec PyProof.Rows
section
variable {prog : Program} {w : World} {A : Around} {E : Value -> Shared -> Prop} {s : Shared}
abbrev IsT (prog : Program) (w : World) (h : Heap) (ks : List Int) (a : Addr) : Prop := IsTupleKey (intKind prog w) h ks a
theorem items_int {prog : Program} {w : World} {ks : List Int} {vs : List Value} (h : ItemsAre (intKind prog w) ks vs) : ∀ v ∈ vs, ∃ n t, v = .int n t := by
 induction h with
 | nil => intro v hv; simp at hv
 | @cons k v' ks vs h1 _ ih =>
  intro v hv
  rcases List.mem_cons.mp hv with rfl | hv
  ·cases v with
   | int n t => exact ⟨n, t, rfl⟩
   | _ => simp [intKind, Value.isInt] at h1
  ·exact ih v hv
structure TabT (prog : Program) (w : World) (led : Bool) (h : Heap) (es : Array (Int × Value)) (t : SetTable) (vs : List Value) : Prop where
 W : TabW led es t
 ms : t.mask ∈ masks
 dm : t.dummies = #[]
 pl : t.plain = true
 lo : t.place.size * 5 < t.mask * 3
 pm : (es.toList.map (·.2)).Perm vs
 el : ∀ e ∈ es.toList, ∃ b ls, e.2 = .ref b /\ IsT prog w h ls b
end
end HS
namespace HS
open PySem PySem.Spec PyProof.Rows
section
variable {prog : Program} {w : World} {A : Around} {R : Result -> Shared -> Prop} {I : Addr} {fp wr : List Addr} {G : Array GenState -> Array GenState -> Prop} {n : Nat} {P : Nat -> Value -> Prop} {St : Nat -> Shared -> Prop}
end
section
variable {prog : Program} {w : World} {A : Around} {E : Value -> Shared -> Prop} {s : Shared}
end
end HS
namespace HW
open PySem PySem.Spec PyProof.Rows L2 HS HT2
noncomputable def tupI : D -> Option (List Int)
 | .tup xs => intsD xs
 | .key ks => some ks
 | _ => none
end HW
namespace HW
open PySem PySem.Spec PyProof.Rows L2
section
variable {X : Cx} {pins : List (Addr × Obj)} {σ : L2.St} {H : Hp} {s : Shared}
end
end HW
namespace HW
open PySem PySem.Spec PyProof.Rows L2
end HW
namespace HW
open PySem PySem.Spec PyProof.Rows L2
structure SamT (P : Addr) (q : Str) (H H' : Hp) : Prop where
 keep : ∀ b o, b ≠ P -> H b = some o -> H' b = some o
 tab : ∃ ps, H' P = some (.tbl ps) /\ LamGood H' q ps
section
variable {K : PySem.W.Frag} {m : List Addr} {σ : L2.St} {H H' : Hp} {μ : Store} {Q : VK}
end
structure FunC (K : PySem.W.Frag) (x : Str) (st : Stmt) (f : Addr) (fd : FuncData) (c : Addr) : Prop where
 ex : ∃ (oc : Value) (od : Option Addr) (kV doc pm : Value) (an : Option Addr) (ct : Value) (osl : Array (Option Value)),
  fd = PySem.W.fnOf x x (defArgs st) (defBody st) (defScope st) .none kV doc pm an (.ref c) ct /\ K.lookup f = some ⟨oc, od, .func fd, osl⟩ /\ PySem.W.codeIn K (.ref c) x = true
 kp : PySem.W.keepIn K (.ref f) = true
section
variable {P : Program} {w : World} {K : PySem.W.Frag} {mg : Str -> Option Value} {base : Heap} {x : Str} {st : Stmt} {f : Addr} {fd : FuncData} {N ps : List Str} {k : Nat} {tP : Nat} {tQ : Str} {b : FS} {c : Addr}
end
end HW
namespace HW
open PySem PySem.Spec PyProof.Rows L2
section
variable {K : PySem.W.Frag} {m : List Addr} {σ : L2.St} {H : Hp} {Q : VK} {μ : Store}
theorem RelRs.length : ∀ {ds : List R} {vs : List V}, RelRs K m H ds vs -> ds.length = vs.length
 | [], _, h => by cases (show _ = [] from h); rfl
 | _ :: _, _, ⟨v, r, e, h1, h2⟩ => by subst e; simp [RelRs.length h2]
theorem RelRs.get : ∀ {ds : List R} {vs : List V} {i : Nat} {d : R}, RelRs K m H ds vs -> ds[i]? = some d -> ∃ v, vs[i]? = some v /\ RelR K m H d v
 | [], _, _, _, _, e => by simp at e
 | _ :: _, _, 0, _, ⟨v, r, e, h1, h2⟩, q => by subst e; simp at q; subst q; exact ⟨v, rfl, h1⟩
 | _ :: _, _, i + 1, _, ⟨v, r, e, h1, h2⟩, q => by subst e; simp at q; obtain ⟨w, a, b⟩ := RelRs.get h2 q; exact ⟨w, by simpa using a, b⟩
theorem RelRs.append : ∀ {xs ys : List R} {vs ws : List V}, RelRs K m H xs vs -> RelRs K m H ys ws -> RelRs K m H (xs ++ ys) (vs ++ ws)
 | [], _, _, _, h, g => by cases (show _ = [] from h); exact g
 | _ :: _, _, _, _, ⟨v, r, e, h1, h2⟩, g => by subst e; exact ⟨v, _, rfl, h1, RelRs.append h2 g⟩
theorem RelRs.setAt {d : R} {v : V} (h : RelR K m H d v) : ∀ {ds : List R} {vs : List V} (j : Nat), RelRs K m H ds vs -> RelRs K m H (ds.set j d) (vs.set j v)
 | [], vs, j, r => by have r : vs = [] := r; subst r; exact rfl
 | _ :: _, _, 0, ⟨v', r, e, h1, h2⟩ => by subst e; exact ⟨v, r, rfl, h, h2⟩
 | _ :: _, _, j + 1, ⟨v', r, e, h1, h2⟩ => by subst e; exact ⟨v', _, rfl, h1, RelRs.setAt h j h2⟩
theorem atI_relR {xs : List R} {vs : List V} {i : Int} {d : R} (r : RelRs K m H xs vs) (e : atI xs i = some d) : ∃ v, atI vs i = some v /\ RelR K m H d v := by
 obtain ⟨j, e1, e2⟩ := Option.bind_eq_some_iff.mp e
 obtain ⟨v, q1, q2⟩ := r.get e2
 exact ⟨v, by unfold atI; rw [← r.length, e1]; exact q1, q2⟩
end
noncomputable def lrOf (μ : Store) (n : Nat) : Option (List R) := match μ[n]? with | some (.lr xs) => some xs | _ => none
theorem lr_ok {K : PySem.W.Frag} {m : List Addr} {H : Hp} {μ : Store} {n : Nat} {a : Addr} {xs : List R} (s : SRel K m H μ) (ha : m[n]? = some a) (e : lrOf μ n = some xs) : ∃ vs, H a = some (.lst vs) /\ RelRs K m H xs vs := by
 unfold lrOf at e
 split at e
 ·rename_i q; cases e; exact s.cell _ _ a q ha
 ·cases e
noncomputable def fLR (fa : FA) : FE := fun ρ μ => (fa ρ μ).bind fun a => if a.1.length <= sizeLine then some (.p a.2.length, a.2 ++ [.lr a.1]) else none
noncomputable def ixR : R -> R -> Store -> Option (R × Store)
 | .p n, .v (.int i), μ => (lrOf μ n).bind fun xs => (atI xs i).bind fun d => some (d, μ)
 | _, _, _ => none
noncomputable def putR : R -> R -> R -> Store -> Option Store
 | .p n, .v (.int i), d, μ => (lrOf μ n).bind fun xs => (ixN xs.length i).bind fun j => some (μ.set n (.lr (xs.set j d)))
 | _, _, _, _ => none
noncomputable def gSubR (fo fi : FE) : FG := fun d ρ μ => (fo ρ μ).bind fun o => (fi ρ o.2).bind fun i => (putR o.1 i.1 d i.2).bind fun μ' => some (ρ, μ')
section
variable {K : PySem.W.Frag} {m : List Addr} {σ : L2.St} {H : Hp} {Q : VK} {μ : Store}
theorem rd_LR {fa} (h : rdE K (fLR fa) σ H Q) : tLst (rdA K fa) σ H Q := by
 obtain ⟨ρ, μ, m, d, μ', hl, hs, e, k⟩ := h
 obtain ⟨⟨xs, μ1⟩, e1, e⟩ := Option.bind_eq_some_iff.mp e
 split at e
 ·rename_i z
  cases e
  refine ⟨ρ, μ, m, xs, _, hl, hs, e1, fun vs H1 m1 x1 s1 r1 => ?_⟩
  refine ⟨by rw [← r1.length]; exact z, fun p hp => ?_⟩
  have x2 : Ext m1 H1 (m1 ++ [p]) (upd H1 p (.lst vs)) := .newH hp
  exact k _ _ _ (x1.trans x2) (s1.newH hp ⟨vs, upd_at, r1.ext x2⟩) ⟨p, rfl, by rw [← s1.len]; simp⟩
 ·cases e
theorem g_ixR : GOp K ixR (rIx K) := by
 intro m H μ x y d μ' v u Q s rx ry e k
 unfold ixR at e
 split at e
 ·rename_i n i
  obtain ⟨xs, e1, e⟩ := Option.bind_eq_some_iff.mp e
  obtain ⟨d1, e2, e⟩ := Option.bind_eq_some_iff.mp e
  cases e
  simp only [RelR, RelD] at ry
  subst ry
  obtain ⟨a, rfl, ha⟩ := rx
  obtain ⟨vs, ea, r⟩ := lr_ok s ha e1
  obtain ⟨w, q1, q2⟩ := atI_relR r e2
  exact .inl ⟨a, vs, i, w, rfl, rfl, SqL.of ea, q1, k _ H m .refl s q2⟩
 ·cases e
theorem putR_ok {o i d : R} {μ μ' : Store} (e : putR o i d μ = some μ') : ∃ n j xs w, o = .p n /\ i = .v (.int j) /\ lrOf μ n = some xs /\ ixN xs.length j = some w /\ μ' = μ.set n (.lr (xs.set w d)) := by
 unfold putR at e
 split at e
 ·obtain ⟨xs, q1, e3⟩ := Option.bind_eq_some_iff.mp e
  obtain ⟨w, q2, e4⟩ := Option.bind_eq_some_iff.mp e3
  cases e4
  exact ⟨_, _, xs, w, rfl, rfl, q1, q2, rfl⟩
 ·cases e
theorem rd_gSubR {fo fi : FE} {v : V} {Q : L2.St -> Hp -> Prop} (h : rdG K (gSubR fo fi) v σ H Q) : L2.gSub (rdE K fo) (rdE K fi) rSetL v σ H Q := by
 obtain ⟨ρ, μ, m, d, ρ', μ', hl, hs, r, e, k⟩ := h
 obtain ⟨⟨o, μ1⟩, e1, e⟩ := Option.bind_eq_some_iff.mp e
 obtain ⟨⟨i, μ2⟩, e2, e⟩ := Option.bind_eq_some_iff.mp e
 obtain ⟨μ3, e3, e⟩ := Option.bind_eq_some_iff.mp e
 cases e
 refine ⟨ρ, μ, m, o, μ1, hl, hs, e1, fun vo H1 m1 x1 s1 r1 => ?_⟩
 refine ⟨ρ, μ1, m1, i, μ2, hl.ext x1, s1, e2, fun vi H2 m2 x2 s2 r2 => ?_⟩
 obtain ⟨n, j, xs, w, z1, z2, q1, q2, z3⟩ := putR_ok e3
 dsimp only at z1 z2 q1 z3
 subst z1 z2 z3
 obtain ⟨a, rfl, ha⟩ := r1.ext x2
 have r2 : vi = .int j := by simpa only [RelR, RelD] using r2
 subst r2
 obtain ⟨ws, ea, ra⟩ := lr_ok s2 ha q1
 have x : Ext m2 H2 m2 (upd H2 a (.lst (ws.set w v))) := .put (List.mem_of_getElem? ha) ea (by simp) (by simp)
 refine ⟨a, ws, j, w, rfl, rfl, ea, by rw [← ra.length]; exact q2, ?_⟩
 have x3 := (x1.trans x2).trans x
 exact k _ _ m2 x3 (s2.put ha ea (by simp) (by simp) ⟨_, upd_at, RelRs.ext x (RelRs.setAt (r.ext (x1.trans x2)) w ra)⟩) (hl.ext x3)
end
noncomputable abbrev MW := List R -> Store -> Option (R × Store)
noncomputable def finW : Out -> Option (R × Store)
 | .rt r μ => some (r, μ)
 | .nx _ μ => some (.v .non, μ)
 | _ => none
noncomputable def runW (k : Nat) (b : FS) : MW := fun rs μ => (b (rs.map some ++ List.replicate (k - rs.length) none) μ).bind finW
noncomputable def spW (K : PySem.W.Frag) (n : Nat) (f : MW) : Sp := fun vs H Q _ => ∃ μ m rs d μ', rs.length = n /\ SRel K m H μ /\ RelRs K m H rs vs /\ f rs μ = some (d, μ') /\
 ∀ v H' m', Ext m H m' H' -> SRel K m' H' μ' -> RelR K m' H' d v -> Q v H'
theorem start_rs {K : PySem.W.Frag} {m : List Addr} {H : Hp} {N : List Str} {rs : List R} {vs : List V} (r : RelRs K m H rs vs) : LRel K m H (rs.map some ++ List.replicate (N.length - rs.length) none) (L2.start N vs) := by
 have hl := r.length
 refine ⟨by simp [L2.start, hl], fun i d e => ?_⟩
 by_cases hi : i < rs.length
 ·rw [List.getElem?_append_left (by simpa using hi), List.getElem?_map] at e
  cases q : rs[i]? with
  | none => rw [q] at e; cases e
  | some x =>
   rw [q] at e; cases e
   obtain ⟨v, q1, q2⟩ := r.get q
   refine ⟨v, ?_, q2⟩
   unfold L2.start
   rw [List.getElem?_append_left (by simp; omega), List.getElem?_map, q1]; rfl
 ·rw [List.getElem?_append_right (by simpa using hi), List.getElem?_replicate] at e
  split at e <;> cases e
theorem Fun.okW {P : Program} {w : World} {K : PySem.W.Frag} {mg : Str -> Option Value} {base : Heap} {x qual : Str} {st : Stmt} {f : Addr} {fd : FuncData} {N ps : List Str} {k : Nat} {b : FS} (F : Fun K x qual st f fd) (S : FnScope N ps (defScope st))
  (hbody : ∀ (cdv : Value) (A : Around) (outer : List Env) (s : Shared) (H : Hp) (E : XK), Room k (A.deeper (envOfC qual (defScope st) s.heap.objs.size f cdv)) -> PSs (cxOf CX0 P w K mg base N qual (defScope st) f cdv A outer s H E).nox (defBody st) (rdS K b)) :
  FnOk P w K mg base CX0 (k + 1) f fd ps (spW K ps.length (runW N.length b)) := by
 have G : FnOk P w K mg base CX0 (k + 1) f fd ps (fun vs H Q _ => vs.length = ps.length /\ rdS K b { nx := fun _ H' => Q .non H', rt := Q } (L2.start N vs) H) :=
  L2.Fun.ok F S (fun vs H Q E h => h.1) fun cdv A outer s H vs Q E hr h => ⟨_, hbody cdv A outer s H E hr, h.2⟩
 refine G.imp fun vs H Q E ⟨μ, m, rs, d, μ', hn, hs, r, e, k⟩ => ⟨by rw [← r.length]; exact hn, ?_⟩
 obtain ⟨o, e1, e⟩ := Option.bind_eq_some_iff.mp e
 refine ⟨_, μ, m, o, start_rs r, hs, e1, ?_⟩
 cases o with
 | nx ρ μ1 => cases e; exact fun σ H' m' x1 s1 _ => k _ H' m' x1 s1 (by simp only [RelR, RelD])
 | rt d μ1 => cases e; exact fun v H' m' x1 s1 r1 => k _ H' m' x1 s1 r1
 | bk ρ μ1 => cases e
 | ct ρ μ1 => cases e
noncomputable def fCallW (f : MW) (n : Nat) (fa : FA) : FE := fun ρ μ => (fa ρ μ).bind fun a => if a.1.length = n then f a.1 a.2 else none
structure ClsN (K : PySem.W.Frag) (mg : Str -> Option Value) (c : Str) (C : Addr) : Prop where
 ns : PySem.W.nsIn K mainGlobals c = some (some (.ref C))
 mg : mg c = some (.ref C)
 cl : Cls K C
noncomputable def obOf (c : Str) (μ : Store) (x : R) : Option (List (Str × R)) := match x with
 | .p n => (match μ[n]? with | some (.ob c' fs) => if c' = c then some fs else none | _ => none)
 | _ => none
noncomputable def putFR (f : Str) (v : R) : List (Str × R) -> List (Str × R)
 | [] => [(f, v)]
 | (g, x) :: r => if g = f then (g, v) :: r else (g, x) :: putFR f v r
def FR (K : PySem.W.Frag) (m : List Addr) (H : Hp) (fs : List (Str × R)) (es : List (Str × V)) : Prop := es.map (·.1) = fs.map (·.1) /\ RelRs K m H (fs.map (·.2)) (es.map (·.2))
section
variable {K : PySem.W.Frag} {m m' : List Addr} {H H' : Hp}
theorem FR.cons {k k' : Str} {d : R} {v : V} {fs : List (Str × R)} {es : List (Str × V)} : FR K m H ((k, d) :: fs) ((k', v) :: es) ↔ k' = k /\ RelR K m H d v /\ FR K m H fs es := by
 constructor
 ·rintro ⟨h1, h2⟩
  simp only [List.map_cons, List.cons.injEq] at h1
  obtain ⟨w, r, e, h3, h4⟩ := h2
  simp only [List.map_cons, List.cons.injEq] at e
  obtain ⟨rfl, rfl⟩ := e
  exact ⟨h1.1, h3, h1.2, h4⟩
 ·rintro ⟨rfl, h1, h2, h3⟩
  exact ⟨by simp [h2], ⟨_, _, rfl, h1, h3⟩⟩
theorem FR.look : ∀ {fs : List (Str × R)} {es : List (Str × V)} (f : Str), FR K m H fs es -> (fs.lookup f = none /\ es.lookup f = none) \/ ∃ d v, fs.lookup f = some d /\ es.lookup f = some v /\ RelR K m H d v
 | [], es, f, h => by
  have : es = [] := by simpa using h.1
  subst this
  exact .inl ⟨rfl, rfl⟩
 | (a, d) :: fs, [], f, h => by have := h.1; simp at this
 | (a, d) :: fs, (b, v) :: es, f, h => by
  obtain ⟨rfl, h1, h2⟩ := FR.cons.mp h
  simp only [List.lookup_cons]
  cases q : f == b with
  | true => exact .inr ⟨d, v, rfl, rfl, h1⟩
  | false => exact FR.look f h2
theorem FR.put {f : Str} {d : R} {v : V} (rd : RelR K m H d v) : ∀ {fs : List (Str × R)} {es : List (Str × V)}, FR K m H fs es -> FR K m H (putFR f d fs) (putF f v es)
 | [], es, h => by
  have : es = [] := by simpa using h.1
  subst this
  exact FR.cons.mpr ⟨rfl, rd, rfl, rfl⟩
 | (a, x) :: fs, [], h => by have := h.1; simp at this
 | (a, x) :: fs, (b, y) :: es, h => by
  obtain ⟨rfl, h1, h2⟩ := FR.cons.mp h
  unfold putFR putF
  by_cases q : b = f
  ·rw [if_pos q, if_pos q]; exact FR.cons.mpr ⟨rfl, rd, h2⟩
  ·rw [if_neg q, if_neg q]; exact FR.cons.mpr ⟨rfl, h1, FR.put rd h2⟩
theorem FR.ext (x : Ext m H m' H') {fs : List (Str × R)} {es : List (Str × V)} (h : FR K m H fs es) : FR K m' H' fs es := ⟨h.1, RelRs.ext x h.2⟩
theorem FR.len {fs : List (Str × R)} {es : List (Str × V)} (h : FR K m H fs es) : es.length = fs.length := by simpa using congrArg List.length h.1
theorem ob_ok {mg : Str -> Option Value} {c : Str} {C : Addr} {μ : Store} {x : R} {v : V} {fs : List (Str × R)} (N : ClsN K mg c C) (s : SRel K m H μ) (r : RelR K m H x v) (e : obOf c μ x = some fs) :
  ∃ n a dx es, x = .p n /\ m[n]? = some a /\ v = .ref a /\ H a = some (.ins C dx es) /\ FR K m H fs es := by
 unfold obOf at e
 split at e
 ·rename_i n
  split at e
  ·rename_i c' gs q
   split at e
   ·rename_i hc
    cases e
    subst hc
    obtain ⟨a, rfl, ha⟩ := r
    obtain ⟨C', dx, es, h1, h2, h3, h4⟩ := s.cell _ _ a q ha
    rw [N.ns] at h1
    cases h1
    exact ⟨n, a, dx, es, rfl, ha, rfl, h2, h3, h4⟩
   ·cases e
  ·cases e
 ·cases e
end
noncomputable def fFld (c f : Str) (fo : FE) : FE := fun ρ μ => (fo ρ μ).bind fun o => (obOf c o.2 o.1).bind fun fs => (fs.lookup f).bind fun d => some (d, o.2)
noncomputable def sFldF (c f : Str) (fo fv : FE) : FS := fun ρ μ => (fv ρ μ).bind fun v => (fo ρ v.2).bind fun o => (obOf c o.2 o.1).bind fun fs => if fs.length < 1000 then (match o.1 with | .p n => some (.nx ρ (o.2.set n (.ob c (putFR f v.1 fs)))) | _ => none) else none
noncomputable def fMeth (c nm : Str) (f : MW) (n : Nat) (fo : FE) (fa : FA) : FE := fun ρ μ => (fo ρ μ).bind fun o => (obOf c o.2 o.1).bind fun fs => if (fs.lookup nm).isNone = true then (fa ρ o.2).bind fun a => if a.1.length + 1 = n then f (o.1 :: a.1) a.2 else none else none
noncomputable def fMake (c : Str) (f : MW) : FE := fun _ μ => (f [.p μ.length] (μ ++ [.ob c []])).bind fun r => match r.1 with | .v .non => some (.p μ.length, r.2) | _ => none
section
variable {K : PySem.W.Frag} {σ : L2.St} {H : Hp} {Q : VK} {mg : Str -> Option Value} {c : Str} {C : Addr}
theorem rd_callW {f : MW} {n : Nat} {fa} {E : XK} (h : rdE K (fCallW f n fa) σ H Q) : tCall (spW K n f) [] E (rdA K fa) σ H Q := by
 obtain ⟨ρ, μ, m, d, μ', hl, hs, e, k⟩ := h
 obtain ⟨⟨xs, μ1⟩, e1, e⟩ := Option.bind_eq_some_iff.mp e
 split at e
 ·rename_i hn
  refine ⟨ρ, μ, m, xs, μ1, hl, hs, e1, fun vs H1 m1 x1 s1 r1 => ?_⟩
  exact ⟨μ1, m1, xs, d, μ', hn, s1, by rw [List.append_nil]; exact r1, e, fun v H' m' x2 s2 r2 => k v H' m' (x1.trans x2) s2 r2⟩
 ·cases e
theorem rd_fld {f : Str} {fo} (N : ClsN K mg c C) (hf : NoAttr K C f) (h : rdE K (fFld c f fo) σ H Q) : tFld K (rdE K fo) f σ H Q := by
 obtain ⟨ρ, μ, m, d, μ', hl, hs, e, k⟩ := h
 obtain ⟨⟨o, μ1⟩, e1, e⟩ := Option.bind_eq_some_iff.mp e
 obtain ⟨fs, e2, e⟩ := Option.bind_eq_some_iff.mp e
 obtain ⟨d', e3, e⟩ := Option.bind_eq_some_iff.mp e
 cases e
 refine ⟨ρ, μ, m, o, μ1, hl, hs, e1, fun v H1 m1 x1 s1 r1 => ?_⟩
 obtain ⟨n, a, dx, es, rfl, ha, rfl, ea, fr⟩ := ob_ok N s1 r1 e2
 rcases fr.look f with ⟨z, _⟩ | ⟨d0, v0, z1, z2, z3⟩
 ·rw [z] at e3; cases e3
 ·rw [z1] at e3; cases e3
  exact ⟨a, C, dx, es, v0, rfl, ea, N.cl, hf, z2, k _ H1 m1 x1 s1 z3⟩
theorem rd_sfld {f : Str} {fo fv} {D : Ends} (N : ClsN K mg c C) (hf : NoAttr K C f) (h : rdS K (sFldF c f fo fv) D σ H) : sFld K (rdE K fo) (rdE K fv) f D σ H := by
 obtain ⟨ρ, μ, m, o, hl, hs, e, k⟩ := h
 obtain ⟨⟨v, μ1⟩, e1, e⟩ := Option.bind_eq_some_iff.mp e
 obtain ⟨⟨ob, μ2⟩, e2, e⟩ := Option.bind_eq_some_iff.mp e
 obtain ⟨fs, e3, e⟩ := Option.bind_eq_some_iff.mp e
 split at e
 ·rename_i hlt
  refine ⟨ρ, μ, m, v, μ1, hl, hs, e1, fun y H1 m1 x1 s1 r1 => ?_⟩
  refine ⟨ρ, μ1, m1, ob, μ2, hl.ext x1, s1, e2, fun vo H2 m2 x2 s2 r2 => ?_⟩
  obtain ⟨n, a, dx, es, rfl, ha, rfl, ea, fr⟩ := ob_ok N s2 r2 e3
  dsimp only at e
  cases e
  have x : Ext m2 H2 m2 (upd H2 a (.ins C dx (putF f y es))) := .put (List.mem_of_getElem? ha) ea (by simp) (by simp)
  refine ⟨a, C, dx, es, rfl, ea, N.cl, hf, by rw [fr.len]; exact hlt, ?_⟩
  have x3 := (x1.trans x2).trans x
  have fr2 := (FR.put (f := f) (r1.ext x2) fr).ext x
  exact k _ _ m2 x3 (s2.put ha ea (by simp) (by simp) ⟨C, dx, _, N.ns, upd_at, fr2.1, fr2.2⟩) (hl.ext x3)
 ·cases e
theorem rd_meth {nm : Str} {f : MW} {n : Nat} {fo fa} {E : XK} (N : ClsN K mg c C) (h : rdE K (fMeth c nm f n fo fa) σ H Q) : tMeth C nm (spW K n f) [] E (rdE K fo) (rdA K fa) σ H Q := by
 obtain ⟨ρ, μ, m, d, μ', hl, hs, e, k⟩ := h
 obtain ⟨⟨o, μ1⟩, e1, e⟩ := Option.bind_eq_some_iff.mp e
 obtain ⟨fs, e2, e⟩ := Option.bind_eq_some_iff.mp e
 split at e
 ·rename_i hno
  obtain ⟨⟨xs, μ2⟩, e3, e⟩ := Option.bind_eq_some_iff.mp e
  split at e
  ·rename_i hn
   refine ⟨ρ, μ, m, o, μ1, hl, hs, e1, fun v H1 m1 x1 s1 r1 => ?_⟩
   obtain ⟨i, a, dx, es, rfl, ha, rfl, ea, fr⟩ := ob_ok N s1 r1 e2
   have hlook : es.lookup nm = none := by
    rcases fr.look nm with ⟨_, z⟩ | ⟨d0, v0, z1, z2, z3⟩
    ·exact z
    ·rw [z1] at hno; cases hno
   refine ⟨a, dx, es, rfl, ea, hlook, ?_⟩
   refine ⟨ρ, μ1, m1, xs, μ2, hl.ext x1, s1, e3, fun vs H2 m2 x2 s2 r2 => ?_⟩
   exact ⟨μ2, m2, .p i :: xs, d, μ', by simpa using hn, s2, ⟨_, _, rfl, r1.ext x2, by rw [List.append_nil]; exact r2⟩, e, fun v H' m' x3 s3 r3 => k v H' m' ((x1.trans x2).trans x3) s3 r3⟩
  ·cases e
 ·cases e
theorem rd_make {f : MW} {E : XK} (N : ClsN K mg c C) (h : rdE K (fMake c f) σ H Q) : tMake C (spW K 1 f) [] E tNil σ H Q := by
 obtain ⟨ρ, μ, m, d, μ', hl, hs, e, k⟩ := h
 obtain ⟨⟨r, μ1⟩, e1, e⟩ := Option.bind_eq_some_iff.mp e
 dsimp only at e
 split at e
 ·cases e
  intro x dx hx hdx hne
  have x1 : Ext m H m (upd H dx (.own x)) := .new hdx
  have s1 := hs.same (upd_keeps hdx (o := HO.own x))
  have hx1 : upd H dx (.own x) x = none := by unfold upd; rw [if_neg (Ne.symm hne)]; exact hx
  have x2 : Ext m (upd H dx (.own x)) (m ++ [x]) (upd (upd H dx (.own x)) x (.ins C dx [])) := .newH hx1
  have s2 := s1.newH (c := .ob c []) hx1 ⟨C, dx, [], N.ns, upd_at, rfl, rfl⟩
  have hp : (m ++ [x])[μ.length]? = some x := by rw [← hs.len]; simp
  refine ⟨_, _, [.p μ.length], _, _, rfl, s2, ⟨_, _, rfl, ⟨x, rfl, hp⟩, rfl⟩, e1, fun v H' m' x3 s3 r3 => ?_⟩
  refine ⟨by simpa only [RelR, RelD] using r3, k _ H' m' ((x1.trans x2).trans x3) s3 ?_⟩
  exact RelR.ext x3 (show RelR K (m ++ [x]) _ (.p μ.length) (.ref x) from ⟨x, rfl, hp⟩)
 ·cases e
end
open Classical in
noncomputable def compR (n : Nat) (xs : List R) (g : FG) (f : FE) : List R -> Lo -> Store -> Option (List R × Store)
 | [], _, μ => some ([], μ)
 | x :: r, ρ, μ => (g x ρ μ).bind fun a => (f a.1 a.2).bind fun y => if y.2[n]? = some (.lr xs) then (compR n xs g f r a.1 y.2).bind fun z => some (y.1 :: z.1, z.2) else none
noncomputable def fCompR (ix : List Nat) (k : Nat) (fo : FE) (g : FG) (f : FE) : FE := fun ρ μ => (fo ρ μ).bind fun a => match a.1 with
 | .p n => (match a.2[n]? with | some (.lr xs) => if xs.length <= sizeLine then (compR n xs g f xs (blockLo k ix ρ) a.2).bind fun r => some (.p r.2.length, r.2 ++ [.lr r.1]) else none | _ => none)
 | _ => none
theorem rd_compR {K : PySem.W.Frag} {σ : L2.St} {H : Hp} {Q : VK} {ix : List Nat} {k : Nat} {own : List Str} {fo : FE} {g : FG} {f : FE} (hk : own.length = k) (h : rdE K (fCompR ix k fo g f) σ H Q) : tComp ix own (iSeq K (rdE K fo)) (rdG K g) (rdT K cYes) (rdE K f) σ H Q := by
 obtain ⟨ρ, μ, m, d, μ', hl, hs, e, kk⟩ := h
 obtain ⟨⟨x, μ1⟩, e1, e⟩ := Option.bind_eq_some_iff.mp e
 dsimp only at e
 split at e
 ·rename_i n
  split at e
  ·rename_i xs q
   split at e
   ·rename_i hz
    obtain ⟨⟨r, μr⟩, e2, e⟩ := Option.bind_eq_some_iff.mp e
    cases e
    refine ⟨ρ, μ, m, .p n, μ1, hl, hs, e1, fun v H1 m1 x1 s1 r1 => ?_⟩
    obtain ⟨a, rfl, ha⟩ := r1
    obtain ⟨vs, ea, ra⟩ := s1.cell _ _ a q ha
    refine ⟨a, rfl, .inl ⟨⟨vs, SqL.of ea⟩, ?_⟩⟩
    refine ⟨fun i c ys τ H => c = xs.length - i /\ i <= xs.length /\ ys.length <= i /\ ∃ ρ μ m ds r', LRel K m H ρ τ /\ SRel K m H μ /\ μ[n]? = some (.lr xs) /\ m[n]? = some a /\ RelRs K m H ds ys /\ compR n xs g f (xs.drop i) ρ μ = some (r', μr) /\ r = ds ++ r' /\
     ∀ v H' m', Ext m H m' H' -> SRel K m' H' (μr ++ [.lr r]) -> RelR K m' H' (.p μr.length) v -> Q v H',
     ⟨_, rfl, Nat.zero_le _, Nat.le_refl _, _, μ1, m1, [], r, block_rel hk (hl.ext x1), s1, q, ha, rfl, by simpa using e2, rfl, fun v H' m' x2 s2 r2 => kk v H' m' (x1.trans x2) s2 r2⟩, ?_⟩
    clear ea ra
    rintro i c ys τ H ⟨rfl, hi, hy, ρ, μ, m, ds, r', hl, hs, q, ha, rs, e, er, kk⟩
    obtain ⟨vs, ea, ra⟩ := hs.cell _ _ a q ha
    have hvl := ra.length
    by_cases hlt : i < xs.length
    ·have hx : xs[i]? = some xs[i] := List.getElem?_eq_getElem hlt
     obtain ⟨v, hv, rv⟩ := ra.get hx
     rw [List.drop_eq_getElem_cons hlt, compR] at e
     obtain ⟨⟨ρ1, μ2⟩, q1, e⟩ := Option.bind_eq_some_iff.mp e
     obtain ⟨⟨y', μ4⟩, q3, e⟩ := Option.bind_eq_some_iff.mp e
     split at e
     ·rename_i q4
      obtain ⟨⟨r1, μ5⟩, q5, e⟩ := Option.bind_eq_some_iff.mp e
      cases e
      refine .inr ⟨⟨vs, v, SqL.of ea, hv⟩, Nat.lt_of_le_of_lt hy (Nat.lt_of_lt_of_le hlt hz), fun x H' y => ?_⟩
      obtain ⟨rfl, y⟩ := y
      have hxv : x = v := by have := y vs (SqL.of ea); rw [hv] at this; exact (Option.some.inj this).symm
      subst hxv
      refine ⟨ρ, μ, m, xs[i], ρ1, μ2, hl, hs, rv, q1, fun σ1 H1 m1 x1 s1 l1 => ?_⟩
      refine ⟨ρ1, μ2, m1, true, μ2, l1, s1, rfl, fun H2 m2 x2 s2 => ?_⟩
      simp only [if_true]
      refine ⟨ρ1, μ2, m2, y', μ4, l1.ext x2, s2, q3, fun w H3 m3 x3 s3 r3 => ?_⟩
      have x4 := (x1.trans x2).trans x3
      have ha3 : m3[n]? = some a := by
       obtain ⟨r, hr, _⟩ := x4.1
       rw [hr, List.getElem?_append_left (List.getElem?_eq_some_iff.mp ha).1]
       exact ha
      exact ⟨_, (by omega : xs.length - (i + 1) < xs.length - i), rfl, hlt, by rw [List.length_append]; exact Nat.succ_le_succ hy, ρ1, μ4, m3, ds ++ [y'], r1, l1.ext (x2.trans x3), s3, q4, ha3,
       (RelRs.ext x4 rs).append ⟨w, [], rfl, r3, rfl⟩, q5, by rw [er, List.append_assoc]; rfl, fun v H' m' x5 s5 r5 => kk v H' m' (x4.trans x5) s5 r5⟩
     ·cases e
    ·have : i = xs.length := by omega
     subst this
     rw [List.drop_length, compR] at e
     cases e
     refine .inl ⟨⟨vs, SqL.of ea, by omega⟩, fun p hp => ?_⟩
     rw [List.append_nil] at er
     subst er
     have x2 : Ext m H (m ++ [p]) (upd H p (.lst ys)) := .newH hp
     exact kk _ _ _ x2 (hs.newH hp ⟨ys, upd_at, rs.ext x2⟩) ⟨p, rfl, by rw [← hs.len]; simp⟩
   ·cases e
  ·cases e
 ·cases e
noncomputable def viewLs (μ : Store) : List R -> Option (List D)
 | [] => some []
 | x :: xs => (viewD x μ).bind fun d => if okD 60 d = true then (viewLs μ xs).bind fun ds => some (d :: ds) else none
noncomputable def viewL : R -> Store -> Option (List D)
 | .p n, μ => (lrOf μ n).bind fun xs => viewLs μ xs
 | _, _ => none
noncomputable def eqL (neg : Bool) : R -> R -> Store -> Option (R × Store) := fun x y μ => (viewL x μ).bind fun a => (viewL y μ).bind fun b => if (okDs 59 a && okDs 59 b) = true then some (.v (.bl (if neg then !eqDs a b else eqDs a b)), μ) else none
noncomputable def rEqL (K : PySem.W.Frag) (neg : Bool) : R2 := fun v u H Q => ∃ m μ x y d, SRel K m H μ /\ RelR K m H x v /\ RelR K m H y u /\ eqL neg x y μ = some (.v (.bl d), μ) /\ Q (.bl d) H
theorem g_eqL {K : PySem.W.Frag} {neg : Bool} : GOp K (eqL neg) (rEqL K neg) := by
 intro m H μ x y d μ' v u Q s rx ry e k
 have e0 := e
 unfold eqL at e
 obtain ⟨a, e1, e⟩ := Option.bind_eq_some_iff.mp e
 obtain ⟨b, e2, e⟩ := Option.bind_eq_some_iff.mp e
 split at e
 ·cases e
  exact ⟨m, μ, x, y, _, s, rx, ry, e0, k _ H m .refl s (by simp only [RelR, RelD])⟩
 ·cases e
theorem viewLs_reads {X : Cx} {pins : List (Addr × Obj)} {σ : L2.St} {H : Hp} {s : Shared} {m : List Addr} {μ : Store} (I : Inv X pins σ H s) (S : SRel X.K m H μ) : ∀ {xs : List R} {ds : List D} {vs : List V} {us : List Value}, RelRs X.K m H xs vs -> Vals vs us -> viewLs μ xs = some ds -> ∃ as, ReadsAll s.heap us (toPys ds) as
 | [], _, _, _, h, r, e => by cases e; cases (show _ = [] from h); cases r; exact ⟨_, .nil⟩
 | x :: xs, _, _, _, ⟨v, vr, rfl, h1, h2⟩, r, e => by
  obtain ⟨d, e1, e⟩ := Option.bind_eq_some_iff.mp e
  split at e
  ·rename_i hk
   obtain ⟨ds, e2, e⟩ := Option.bind_eq_some_iff.mp e
   cases e
   cases r with
   | cons r1 r2 =>
    obtain ⟨as, q1⟩ := view_reads I S h1 r1 e1 hk
    obtain ⟨bs, q2⟩ := viewLs_reads I S h2 r2 e2
    exact ⟨_, .cons q1 q2⟩
  ·cases e
theorem viewL_reads {X : Cx} {pins : List (Addr × Obj)} {σ : L2.St} {H : Hp} {s : Shared} {m : List Addr} {μ : Store} {x : R} {ds : List D} {v : V} {u : Value} (I : Inv X pins σ H s) (S : SRel X.K m H μ) (r : RelR X.K m H x v) (ru : RelV v u) (e : viewL x μ = some ds) : ∃ as, Reads s.heap u (toPy (.fl ds)) as := by
 unfold viewL at e
 split at e
 ·rename_i n
  obtain ⟨xs, e1, e⟩ := Option.bind_eq_some_iff.mp e
  obtain ⟨a, rfl, ha⟩ := r
  obtain ⟨vs, ea, rr⟩ := lr_ok S ha e1
  cases ru
  obtain ⟨its, rv, ⟨o, n', e', c, _, hd⟩, _⟩ := I.list (SqL.of ea)
  obtain ⟨as, ra⟩ := viewLs_reads I S rr rv e
  exact ⟨_, .list e' c hd (by simpa using ra)⟩
 ·cases e
theorem op_eqL {X : Cx} (hu : X.A.units + 64 < cLine) : OpR X (compareOp .Eq) (rEqL X.K false) := by
 intro pins s σ H v u v' u' Q I rv ru q
 obtain ⟨m, μ, x, y, d, S, rx, ry, e, q⟩ := q
 unfold eqL at e
 obtain ⟨a, e1, e⟩ := Option.bind_eq_some_iff.mp e
 obtain ⟨b, e2, e⟩ := Option.bind_eq_some_iff.mp e
 split at e
 ·rename_i z
  rw [Bool.and_eq_true] at z
  cases e
  obtain ⟨as, r1⟩ := viewL_reads I S rx rv e1
  obtain ⟨bs, r2⟩ := viewL_reads I S ry ru e2
  exact eq_dataH r1 r2 (shaped_of (d := .fl a) z.1) (shaped_of (d := .fl b) z.2) hu ⟨_, H, I, by rw [eqD_py]; rfl, q⟩
 ·cases e
theorem op_neL {X : Cx} (hu : X.A.units + 64 < cLine) : OpR X (compareOp .NotEq) (rEqL X.K true) := by
 intro pins s σ H v u v' u' Q I rv ru q
 obtain ⟨m, μ, x, y, d, S, rx, ry, e, q⟩ := q
 unfold eqL at e
 obtain ⟨a, e1, e⟩ := Option.bind_eq_some_iff.mp e
 obtain ⟨b, e2, e⟩ := Option.bind_eq_some_iff.mp e
 split at e
 ·rename_i z
  rw [Bool.and_eq_true] at z
  cases e
  obtain ⟨as, r1⟩ := viewL_reads I S rx rv e1
  obtain ⟨bs, r2⟩ := viewL_reads I S ry ru e2
  exact ne_dataH r1 r2 (shaped_of (d := .fl a) z.1) (shaped_of (d := .fl b) z.2) hu ⟨_, H, I, by rw [eqD_py]; rfl, q⟩
 ·cases e
theorem rdE_mono {K : PySem.W.Frag} {f : FE} {σ : L2.St} {H : Hp} {Q Q' : VK} (h : rdE K f σ H Q) (k : ∀ v H', Q v H' -> Q' v H') : rdE K f σ H Q' :=
 let ⟨ρ, μ, m, d, μ', hl, hs, e, q⟩ := h
 ⟨ρ, μ, m, d, μ', hl, hs, e, fun v H' m' x s r => k v H' (q v H' m' x s r)⟩
end HW
namespace HW
open PySem PySem.Spec PyProof.Rows L2
noncomputable def isStar : Expr -> Bool
 | .Starred .. => true
 | _ => false
theorem star_cons {e : Expr} {es : List Expr} {env : Env} (h : isStar e = false) : starEach (e :: es) env = (false, eval e env) :: starEach es env := by
 cases e <;> first | rfl | (simp [isStar] at h)
theorem star_any {env : Env} {pos : Pos} : ∀ {es : List Expr}, es.any isStar = false -> (backTo pos (starEach es env)).any (·.1) = false
 | [], _ => rfl
 | e :: es, h => by
  rw [List.any_cons, Bool.or_eq_false_iff] at h
  rw [star_cons h.1]
  have ih := star_any (env := env) (pos := pos) h.2
  unfold backTo at ih ⊢
  rw [List.map_cons, List.any_cons, ih]
  rfl
theorem assign_cons {e : Expr} {es : List Expr} {env : Env} (h : isStar e = false) : (assignEach (e :: es) env).map (·.2) = assign e env :: (assignEach es env).map (·.2) := by
 cases e <;> first | rfl | (simp [isStar] at h)
theorem getItem_tuple_whole {prog : Program} {w : World} {A : Around} {E : Value -> Shared -> Prop} {s : Shared} {t sl : Addr} {items : Array Value} {vl vu : Value} {lo hi : Option Int} {Q : Value -> Shared -> Prop} (ht : IsTup s.heap t items) (hs : s.heap.IsSliceOf sl vl vu .none) (pl : IsPart vl lo) (pu : IsPart vu hi)
  (hw : HT.sIx items.size 0 lo = 0 /\ HT.sIx items.size items.size hi = items.size)
  (h : Q (.ref t) s) : wpAny (model prog w) A (getItem (.ref t) (.ref sl)) Q E s := by
 obtain ⟨os, hos, hcs, hds⟩ := id hs
 have hTs : s.TypeIs (.ref sl) "slice" := ⟨os, hos, hcs⟩
 unfold getItem
 try with_reducible refine wpAny_holding ?_
 first | refine wpAny_bind (wpAny_pure ?_) | skip
 refine wpAny_bind (wpAny_sequenceKey ht.typeIs (by decide) ?_)
 refine wpAny_bind (wpAny_callSpecial?_slot (name := Str.ofString "__getitem__") ht.typeIs PyProof.Rows.slot_tuple_getitem
  (wpAny_call_entry PyProof.Rows.slot_tuple_getitem ht.typeIs entry_tuple_getitem ?_ (args_tuple_getitem _ _)))
 show wpAny _ _ (Builtin.Tuple.tupleItemsOf (.ref t) >>= _) _ _ s
 refine wpAny_bind (tupleItemsOf_ ht ?_)
 refine wpAny_bind (wpAny_typeOf hTs ?_)
 rw [if_pos (by decide)]
 refine wpAny_bind (HT.sliceApplied_gen hs pl pu ?_)
 have hyes : ((((HT.sIx items.size 0 lo : Nat) : Int) == 0 && (1 : Int) == 1 && (HT.sIx items.size items.size hi - HT.sIx items.size 0 lo) == items.size) = true) := by
  rw [hw.1, hw.2]; simp
 show wpAny _ _ (if (((HT.sIx items.size 0 lo : Nat) : Int) == 0 && (1 : Int) == 1 && (HT.sIx items.size items.size hi - HT.sIx items.size 0 lo) == items.size) = true then _ else _) _ _ s
 rw [if_pos hyes]
 refine wpAny_bind (m := Builtin.Tuple.tupleIsExact (.ref t)) (wpAny_bind (wpAny_typeOf ht.typeIs (wpAny_pure ?_)))
 rw [if_pos (by decide)]
 refine wpAny_bind (wpAny_rule ?_)
 first
  | exact wpAny_pure ⟨_, rfl, wpAny_pure h⟩
  | exact wpAny_bind (wpAny_pure (wpAny_pure ⟨_, rfl, wpAny_pure h⟩))
  | exact wpAny_bind (wpAny_pure ⟨_, rfl, wpAny_pure h⟩)
noncomputable def cutD (xs : List D) (lo hi : Option Int) : List D := (xs.drop (HT.sIx xs.length 0 lo)).take (HT.sIx xs.length xs.length hi - HT.sIx xs.length 0 lo)
def rSl (K : PySem.W.Frag) : V -> Option Int -> Option Int -> Hp -> VK -> Prop := fun x lo hi H Q => rSlL K x lo hi H Q \/ rSlT K x lo hi H Q \/
 ∃ a xs, x = .ref a /\ SqT K H a xs /\ (HT.sIx xs.length 0 lo = 0 /\ HT.sIx xs.length xs.length hi = xs.length) /\ Q (.ref a) H
theorem sl_whole {X : Cx} : SlR X (fun x lo hi H Q => ∃ a xs, x = .ref a /\ SqT X.K H a xs /\ (HT.sIx xs.length 0 lo = 0 /\ HT.sIx xs.length xs.length hi = xs.length) /\ Q (.ref a) H) := by
 intro pins s σ H x v vl vu lo hi sl Q I rx hs pl pu h
 obtain ⟨a, xs, rfl, hx, hw, q⟩ := h
 cases rx
 obtain ⟨its, r, ht, hz⟩ := I.tuple hx
 have hlen : its.toArray.size = xs.length := by rw [List.size_toArray]; exact r.length.symm
 refine ⟨"tuple", _, PyProof.Rows.slot_tuple_getitem.lookup, ht.typeIs, ?_⟩
 exact getItem_tuple_whole ht hs pl pu (by rw [hlen]; exact hw) ⟨.ref a, H, I, rfl, q⟩
theorem sl_any {X : Cx} : SlR X (rSl X.K) := SlR.or sl_list (SlR.or sl_tup sl_whole)
noncomputable abbrev FO := Lo -> Store -> Option (Option Int × Store)
def rdO (K : PySem.W.Frag) (f : FO) : TO := fun σ H Q => ∃ ρ μ m o μ', LRel K m H ρ σ /\ SRel K m H μ /\ f ρ μ = some (o, μ') /\ ∀ H' m', Ext m H m' H' -> SRel K m' H' μ' -> Q o H'
noncomputable def oNone : FO := fun _ μ => some (none, μ)
noncomputable def oSome (f : FE) : FO := fun ρ μ => (f ρ μ).bind fun a => match a.1 with | .v (.int i) => some (some i, a.2) | _ => none
noncomputable def slD (x : R) (lo hi : Option Int) (μ : Store) : Option (R × Store) := match x with
 | .v (.tup xs) => some (.v (.tup (cutD xs lo hi)), μ)
 | x => (lstD x μ).bind fun xs => some (.p μ.length, μ ++ [.lst (cutD xs lo hi)])
noncomputable def fSl (fa : FE) (fl fh : FO) : FE := fun ρ μ => (fa ρ μ).bind fun a => (fl ρ a.2).bind fun l => (fh ρ l.2).bind fun h => slD a.1 l.1 h.1 h.2
theorem RelDs.drop {K : PySem.W.Frag} {H : Hp} : ∀ {xs : List D} {vs : List V} (n : Nat), RelDs K H xs vs -> RelDs K H (xs.drop n) (vs.drop n)
 | _, _, 0, h => h
 | [], _, n + 1, h => by simp only [RelDs] at h; subst h; simp only [List.drop_nil, RelDs]
 | x :: xs, _, n + 1, h => by
  simp only [RelDs] at h
  obtain ⟨v, r, rfl, _, h2⟩ := h
  exact RelDs.drop n h2
theorem RelDs.take {K : PySem.W.Frag} {H : Hp} : ∀ {xs : List D} {vs : List V} (n : Nat), RelDs K H xs vs -> RelDs K H (xs.take n) (vs.take n)
 | _, _, 0, h => by simp only [List.take_zero, RelDs]
 | [], _, n + 1, h => by simp only [RelDs] at h; subst h; simp only [List.take_nil, RelDs]
 | x :: xs, _, n + 1, h => by
  simp only [RelDs] at h
  obtain ⟨v, r, rfl, h1, h2⟩ := h
  simp only [List.take_succ_cons, RelDs]
  exact ⟨v, _, rfl, h1, RelDs.take n h2⟩
theorem RelDs.cut {K : PySem.W.Frag} {H : Hp} {xs : List D} {vs : List V} {lo hi : Option Int} (h : RelDs K H xs vs) : RelDs K H (cutD xs lo hi) (cutV vs lo hi) := by
 unfold cutD cutV
 rw [h.length]
 exact (h.drop _).take _
section
variable {K : PySem.W.Frag} {σ : L2.St} {H : Hp} {Q : VK}
theorem rd_oNone {Q : Option Int -> Hp -> Prop} (h : rdO K oNone σ H Q) : tNoPart σ H Q := by
 obtain ⟨ρ, μ, m, o, μ', hl, hs, e, k⟩ := h
 cases e
 exact k H m .refl hs
theorem rd_oSome {f} {Q : Option Int -> Hp -> Prop} (h : rdO K (oSome f) σ H Q) : tPart (rdE K f) σ H Q := by
 obtain ⟨ρ, μ, m, o, μ', hl, hs, e, k⟩ := h
 obtain ⟨⟨x, μ1⟩, e1, e⟩ := Option.bind_eq_some_iff.mp e
 split at e
 ·rename_i i q
  cases e
  simp only at q
  subst q
  exact ⟨ρ, μ, m, _, μ1, hl, hs, e1, fun v H1 m1 x1 s1 r1 => ⟨i, by simpa only [RelR, RelD] using r1, k H1 m1 x1 s1⟩⟩
 ·cases e
theorem sl_ok {m : List Addr} {μ μ' : Store} {x d : R} {v : V} {lo hi : Option Int} (s : SRel K m H μ) (r : RelR K m H x v) (e : slD x lo hi μ = some (d, μ')) (k : ∀ w H' m', Ext m H m' H' -> SRel K m' H' μ' -> RelR K m' H' d w -> Q w H') : rSl K v lo hi H Q := by
 have lst : ∀ xs, lstD x μ = some xs -> (some (R.p μ.length, μ ++ [Cell.lst (cutD xs lo hi)]) : Option (R × Store)) = some (d, μ') -> rSl K v lo hi H Q := fun xs e1 e2 => by
  cases e2
  obtain ⟨a, vs, rfl, q, rr⟩ := lst_ok s r e1
  refine .inl ⟨a, vs, rfl, q, fun p hp => ?_⟩
  obtain ⟨x1, x2, x3⟩ := new_lst s (rr.cut (lo := lo) (hi := hi)) hp
  exact k _ _ _ x1 x2 x3
 have gen : (lstD x μ).bind (fun xs => some (R.p μ.length, μ ++ [Cell.lst (cutD xs lo hi)])) = some (d, μ') -> rSl K v lo hi H Q := fun e => by
  obtain ⟨xs, e1, e⟩ := Option.bind_eq_some_iff.mp e
  exact lst xs e1 e
 cases x with
 | p n => exact gen e
 | s _ n => exact gen e
 | x n => exact gen e
 | f L ds => exact gen e
 | v d0 =>
  cases d0 with
  | tup xs =>
   cases e
   simp only [RelR, RelD] at r
   obtain ⟨a, vs, rfl, q, rr⟩ := r
   by_cases hw : HT.sIx vs.length 0 lo = 0 /\ HT.sIx vs.length vs.length hi = vs.length
   ·refine .inr (.inr ⟨a, vs, rfl, q, hw, k _ H m .refl s ?_⟩)
    simp only [RelR, RelD]
    refine ⟨a, vs, rfl, q, ?_⟩
    have := rr.cut (lo := lo) (hi := hi)
    unfold cutV at this
    rw [hw.1, hw.2] at this
    simpa using this
   ·refine .inr (.inl ⟨a, vs, rfl, q, hw, fun p hp => ?_⟩)
    obtain ⟨x1, x2, x3⟩ := new_tup s (rr.cut (lo := lo) (hi := hi)) hp
    exact k _ _ _ x1 x2 x3
  | non => exact gen e
  | bl _ => exact gen e
  | int _ => exact gen e
  | str _ => exact gen e
  | fl _ => exact gen e
  | fd _ _ => exact gen e
  | key _ => exact gen e
theorem rd_sl {fa fl fh} (h : rdE K (fSl fa fl fh) σ H Q) : tSl (rSl K) (rdE K fa) (rdO K fl) (rdO K fh) σ H Q := by
 obtain ⟨ρ, μ, m, d, μ', hl, hs, e, k⟩ := h
 obtain ⟨⟨x, μ1⟩, e1, e⟩ := Option.bind_eq_some_iff.mp e
 obtain ⟨⟨l, μ2⟩, e2, e⟩ := Option.bind_eq_some_iff.mp e
 obtain ⟨⟨u, μ3⟩, e3, e⟩ := Option.bind_eq_some_iff.mp e
 refine ⟨ρ, μ, m, x, μ1, hl, hs, e1, fun v H1 m1 x1 s1 r1 => ?_⟩
 refine ⟨ρ, μ1, m1, l, μ2, hl.ext x1, s1, e2, fun H2 m2 x2 s2 => ?_⟩
 refine ⟨ρ, μ2, m2, u, μ3, hl.ext (x1.trans x2), s2, e3, fun H3 m3 x3 s3 => ?_⟩
 exact sl_ok s3 (r1.ext (x2.trans x3)) e fun w H4 m4 x4 s4 r4 => k w H4 m4 (((x1.trans x2).trans x3).trans x4) s4 r4
noncomputable def fSlS (fa : FE) (fl fh : FO) : FE := fun ρ μ => (fa ρ μ).bind fun a => (fl ρ a.2).bind fun l => (fh ρ l.2).bind fun h => slS a.1 l.1 h.1 h.2
theorem slS_ok {x : R} {lo hi : Option Int} {μ μ' : Store} {d : R} (e : slS x lo hi μ = some (d, μ')) : ∃ z, x = .v (.str z) /\ z.length <= sizeLine /\ d = .v (.str (Txt.slice z lo hi)) /\ μ' = μ := by
 unfold slS at e
 split at e
 ·split at e
  ·rename_i hz
   cases e
   exact ⟨_, rfl, hz, rfl, rfl⟩
  ·cases e
 ·cases e
theorem rd_slS {fa fl fh} (h : rdE K (fSlS fa fl fh) σ H Q) : tSl rSlS (rdE K fa) (rdO K fl) (rdO K fh) σ H Q := by
 obtain ⟨ρ, μ, m, d, μ', hl, hs, e, k⟩ := h
 obtain ⟨⟨x, μ1⟩, e1, e⟩ := Option.bind_eq_some_iff.mp e
 obtain ⟨⟨l, μ2⟩, e2, e⟩ := Option.bind_eq_some_iff.mp e
 obtain ⟨⟨u, μ3⟩, e3, e⟩ := Option.bind_eq_some_iff.mp e
 refine ⟨ρ, μ, m, x, μ1, hl, hs, e1, fun v H1 m1 x1 s1 r1 => ?_⟩
 refine ⟨ρ, μ1, m1, l, μ2, hl.ext x1, s1, e2, fun H2 m2 x2 s2 => ?_⟩
 refine ⟨ρ, μ2, m2, u, μ3, hl.ext (x1.trans x2), s2, e3, fun H3 m3 x3 s3 => ?_⟩
 obtain ⟨z, rfl, hz, rfl, rfl⟩ := slS_ok e
 simp only [RelR, RelD] at r1
 exact ⟨z, r1, hz, k _ H3 m3 ((x1.trans x2).trans x3) s3 (by simp only [RelR, RelD])⟩
end
theorem PO.imp {X : Cx} {e : Option Expr} {t t' : TO} (h : PO X e t) (k : ∀ {σ H Q}, t' σ H Q -> t σ H Q) : PO X e t' := fun pins s σ H Q I q => h pins s σ H Q I (k q)
noncomputable def fStep (fa : FE) (fl fh : FO) (k : Int) : FE := fun ρ μ => (fa ρ μ).bind fun a => (fl ρ a.2).bind fun l => (fh ρ l.2).bind fun h => if k = 0 then none else (lstD a.1 h.2).bind fun xs => some (.p h.2.length, h.2 ++ [.lst (stepV xs l.1 h.1 k)])
noncomputable def fDnew : FE := fun _ μ => some (.p μ.length, μ ++ [.dct []])
namespace R
section
variable {X : Cx} {a b e o : Expr} {es : List Expr} {fa fb : FE} {ga : FA} {pos p p2 apos : Pos} {x : Str}
theorem q_var (i : Nat) (hN : X.N[i]? = some x := by rfl) (hv : Vis X.env.scope x := by first | exact Or.inl rfl | exact Or.inr (Or.inl rfl) | exact Or.inr (Or.inr rfl)) (hd : (x == ("__debug__" : Str)) = false := by decide)
  (hcd : (x == ("__classdict__" : Str)) = false := by decide) : PE X (.Name x pos) (rdE X.K (fVar i)) := PE.imp (pe_var hN hv hd hcd) rd_var
theorem q_int {i j} : PE X (.Constant (.int i) j pos) (rdE X.K (fK (.int i))) := PE.imp pe_int (rd_const fun _ _ => by simp only [RelR, RelD])
theorem q_bl {i j} : PE X (.Constant (.bool i) j pos) (rdE X.K (fK (.bl i))) := PE.imp pe_bl (rd_const fun _ _ => by simp only [RelR, RelD])
theorem q_str {i j} : PE X (.Constant (.str i) j pos) (rdE X.K (fK (.str i))) := PE.imp pe_str (rd_const fun _ _ => by simp only [RelR, RelD])
theorem q_non {j} : PE X (.Constant .none j pos) (rdE X.K (fK .non)) := PE.imp pe_non (rd_const fun _ _ => by simp only [RelR, RelD])
theorem q_addQ (ha : PE X a (rdE X.K fa)) (hb : PE X b (rdE X.K fb)) : PE X (.BinOp a .Add b pos) (rdE X.K (fOp addQ fa fb)) := PE.imp (pe_op ((op_add.or (op_add_str.or (op_catT.or op_cat))).or op_add0) ha hb) (rd_op g_addQ)
theorem q_mul (ha : PE X a (rdE X.K fa)) (hb : PE X b (rdE X.K fb)) : PE X (.BinOp a .Mult b pos) (rdE X.K (fOp mulD fa fb)) := PE.imp (pe_op op_mul ha hb) (rd_op g_mul)
theorem q_div (ha : PE X a (rdE X.K fa)) (hb : PE X b (rdE X.K fb)) : PE X (.BinOp a .FloorDiv b pos) (rdE X.K (fOp divD fa fb)) := PE.imp (pe_op op_fdiv ha hb) (rd_op g_div)
theorem q_mod (ha : PE X a (rdE X.K fa)) (hb : PE X b (rdE X.K fb)) : PE X (.BinOp a .Mod b pos) (rdE X.K (fOp modD fa fb)) := PE.imp (pe_op op_mod ha hb) (rd_op g_mod)
theorem q_eq (hu : X.A.units + 64 < cLine) (ha : PE X a (rdE X.K fa)) (hb : PE X b (rdE X.K fb)) : PE X (.Compare a [.Eq] [b] pos) (rdE X.K (fOp (eqR false) fa fb)) := PE.imp (pe_cmpR (op_eqD hu) ha hb (nomark _)) (rd_op g_eq)
theorem q_and {rest : List Expr} (ha : PE X a (rdE X.K fa)) (hb : PE X (.BoolOp .And (b :: rest) pos) (rdE X.K fb)) : PE X (.BoolOp .And (a :: b :: rest) pos) (rdE X.K (fAnd fa fb)) := PE.imp (pe_and ha hb) rd_and
theorem q_one {op} (ha : PE X a (rdE X.K fa)) : PE X (.BoolOp op [a] pos) (rdE X.K fa) := pe_one ha
theorem q_nil : PA X [] (rdA X.K fNil) := PA.imp pa_nil rd_nil
theorem q_cons (ha : PE X e (rdE X.K fa)) (hr : PA X es (rdA X.K ga)) (hs : starEach (e :: es) X.env = (false, eval e X.env) :: starEach es X.env := by exact star_cons rfl) : PA X (e :: es) (rdA X.K (fCons fa ga)) := PA.imp (pa_cons ha hr hs) rd_cons
theorem q_tup {x1} (h : PA X es (rdA X.K ga)) : PE X (.Tuple es x1 pos) (rdE X.K (fTup ga)) := PE.imp (pe_tup h) rd_tup
theorem q_lst (h : PA X es (rdA X.K ga)) : PE X (.List es pos) (rdE X.K (fLst ga)) := PE.imp (pe_lst h) rd_lst
theorem q_fz (ha : PE X a (rdE X.K fa)) : PE X a (rdE X.K (fFz fa)) := PE.imp (pe_fz0 ha) rd_fz
theorem q_ix (ha : PE X a (rdE X.K fa)) (hb : PE X b (rdE X.K fb)) (hs : PlainIx b := by intro _ _; rfl) : PE X (.Subscript a b pos) (rdE X.K (fOp ixD fa fb)) := PE.imp (pe_ix ix_seq ha hb hs) (rd_op g_ix)
theorem q_oN : PO X none (rdO X.K oNone) := PO.imp po_none rd_oNone
theorem q_oS (ha : PE X a (rdE X.K fa)) : PO X (some a) (rdO X.K (oSome fa)) := PO.imp (po_some ha) rd_oSome
theorem q_sl {lo hi : Option Expr} {fl fh : FO} (ha : PE X a (rdE X.K fa)) (hl : PO X lo (rdO X.K fl)) (hh : PO X hi (rdO X.K fh)) : PE X (.Subscript a (.Slice lo hi none p2) pos) (rdE X.K (fSl fa fl fh)) := PE.imp (pe_slice sl_any ha hl hh) rd_sl
theorem q_call {k : Nat} {f : Addr} {fd : FuncData} {ps : List Str} {n : Nat} {mf : MF} (F : FnOk X.prog X.w X.K X.mg X.base CX0 k f fd ps (spP X.K n mf)) (hr : Room k X.A) (hg : Gl X x) (hm : X.mg x = some (.ref f)) (hk : PySem.W.keepIn X.K (.ref f) = true) (hb : Binds X.K fd ps [])
  (ha : PA X (e :: es) (rdA X.K ga)) (hdb : (x == ("__debug__" : Str)) = false := by decide) (he : starEach (e :: es) X.env = (false, eval e X.env) :: starEach es X.env := by exact star_cons rfl) (hpl : (backTo pos (starEach es X.env)).any (·.1) = false := by exact star_any rfl) :
  PE X (.Call (.Name x p) (e :: es) [] pos) (rdE X.K (fCall mf n ga)) := PE.imp (pe_call F hr hg hm hk hb .nil pass0 ha hdb he hpl) rd_call
theorem q_len (hg : Gl X "len") (hm : X.mg "len" = none) (ha : PA X (e :: es) (rdA X.K ga)) (he : starEach (e :: es) X.env = (false, eval e X.env) :: starEach es X.env := by exact star_cons rfl) (hpl : (backTo pos (starEach es X.env)).any (·.1) = false := by exact star_any rfl) :
  PE X (.Call (.Name "len" p) (e :: es) [] pos) (rdE X.K (fAr lenD ga)) := PE.imp (pe_callB call_len_seq hg hm PySem.boot_len ha (he := he) (hpl := hpl)) (rd_ar g_len)
theorem q_min (hc : X.calm = true) (hg : Gl X "min") (hm : X.mg "min" = none) (ha : PA X (e :: es) (rdA X.K ga)) (he : starEach (e :: es) X.env = (false, eval e X.env) :: starEach es X.env := by exact star_cons rfl) (hpl : (backTo pos (starEach es X.env)).any (·.1) = false := by exact star_any rfl) :
  PE X (.Call (.Name "min" p) (e :: es) [] pos) (rdE X.K (fAr minD ga)) := PE.imp (pe_callB (call_min2 hc) hg hm (by decide +kernel) ha (he := he) (hpl := hpl)) (rd_ar g_min)
theorem q_strc (hg : Gl X "str") (hm : X.mg "str" = none) (ha : PA X (e :: es) (rdA X.K ga)) (he : starEach (e :: es) X.env = (false, eval e X.env) :: starEach es X.env := by exact star_cons rfl) (hpl : (backTo pos (starEach es X.env)).any (·.1) = false := by exact star_any rfl) :
  PE X (.Call (.Name "str" p) (e :: es) [] pos) (rdE X.K (fAr strD ga)) := PE.imp (pe_callTy call_str_int hg hm (by decide +kernel) ha (he := he) (hpl := hpl)) (rd_ar g_str)
theorem q_list (hg : Gl X "list") (hm : X.mg "list" = none) (ha : PA X (e :: es) (rdA X.K ga)) (he : starEach (e :: es) X.env = (false, eval e X.env) :: starEach es X.env := by exact star_cons rfl) (hpl : (backTo pos (starEach es X.env)).any (·.1) = false := by exact star_any rfl) :
  PE X (.Call (.Name "list" p) (e :: es) [] pos) (rdE X.K (fAr listD ga)) := PE.imp (pe_callTy call_list_of hg hm (by decide +kernel) ha (he := he) (hpl := hpl)) (rd_ar g_list)
theorem t_cmp {op : CmpOp} {r : R2} {g : R -> R -> Store -> Option (R × Store)} (ho : OpR X (compareOp op) r) (hg : GOp X.K g r) (ha : PE X a (rdE X.K fa)) (hb : PE X b (rdE X.K fb)) (hm : behindInMarks op b = false) : PT X (.Compare a [op] [b] pos) (rdT X.K (fB (fOp g fa fb))) :=
 PT.imp (pt_cmpR ho ha hb hm) fun h => by
  obtain ⟨ρ, μ, m, d, μ', hl, hs, e, k⟩ := rd_Test h
  exact rd_op hg ⟨ρ, μ, m, d, μ', hl, hs, e, k⟩
theorem t_lt (ha : PE X a (rdE X.K fa)) (hb : PE X b (rdE X.K fb)) : PT X (.Compare a [.Lt] [b] pos) (rdT X.K (fB (fOp ltD fa fb))) := t_cmp op_lt g_lt ha hb (nomark _)
theorem t_eq (hu : X.A.units + 64 < cLine) (ha : PE X a (rdE X.K fa)) (hb : PE X b (rdE X.K fb)) : PT X (.Compare a [.Eq] [b] pos) (rdT X.K (fB (fOp (eqR false) fa fb))) := t_cmp (op_eqD hu) g_eq ha hb (nomark _)
theorem t_ne (hu : X.A.units + 64 < cLine) (ha : PE X a (rdE X.K fa)) (hb : PE X b (rdE X.K fb)) : PT X (.Compare a [.NotEq] [b] pos) (rdT X.K (fB (fOp (eqR true) fa fb))) := t_cmp (op_neD hu) g_eq ha hb (nomark _)
theorem t_is {op : CmpOp} {neg : Bool} {c : D} {cv : V} (hc : (c = .non /\ cv = .non) \/ ∃ b, c = .bl b /\ cv = .bl b) (ho : OpR X (compareOp op) (rIsK neg cv)) (ha : PE X a (rdE X.K fa)) (hb : PE X b (tC cv)) (hm : behindInMarks op b = false) : PT X (.Compare a [op] [b] pos) (rdT X.K (fB (fUn (isK neg c) fa))) :=
 PT.imp (pt_cmpR ho ha hb hm) fun h => by
  obtain ⟨ρ, μ, m, d, μ', hl, hs, e, k⟩ := rd_Test h
  exact rd_is hc ⟨ρ, μ, m, d, μ', hl, hs, e, k⟩
theorem t_isN {j} (ha : PE X a (rdE X.K fa)) : PT X (.Compare a [.Is] [.Constant .none j p] pos) (rdT X.K (fB (fUn (isK false .non) fa))) := t_is (.inl ⟨rfl, rfl⟩) op_isNon ha pe_non (nomark _)
theorem t_notN {j} (ha : PE X a (rdE X.K fa)) : PT X (.Compare a [.IsNot] [.Constant .none j p] pos) (rdT X.K (fB (fUn (isK true .non) fa))) := t_is (.inl ⟨rfl, rfl⟩) op_isNotNon ha pe_non (nomark _)
variable {ta tb : FT} {rest : List Expr}
theorem w_and (ha : PT X a (rdT X.K ta)) (hb : PW X (.BoolOp .And (b :: rest) pos) (rdT X.K tb)) : PW X (.BoolOp .And (a :: b :: rest) pos) (rdT X.K (tAndF ta tb)) := PW.imp (pw_and ha hb) rd_tand
theorem w_or (ha : PT X a (rdT X.K ta)) (hb : PW X (.BoolOp .Or (b :: rest) pos) (rdT X.K tb)) : PW X (.BoolOp .Or (a :: b :: rest) pos) (rdT X.K (tOrF ta tb)) := PW.imp (pw_or ha hb) rd_tor
theorem w_and1 (ha : PT X a (rdT X.K ta)) : PW X (.BoolOp .And [a] pos) (rdT X.K ta) := pw_and1 ha
theorem w_or1 (ha : PT X a (rdT X.K ta)) : PW X (.BoolOp .Or [a] pos) (rdT X.K ta) := pw_or1 ha
theorem t_w (h : PW X a (rdT X.K ta)) : PT X a (rdT X.K ta) := h.pt
variable {st : Stmt} {sts aa bb : List Stmt} {sa sb : FS} {c tg iter : Expr}
theorem s_nil : PSs X [] (rdS X.K sNext) := PSs.imp pss_nil rd_next
theorem s_cons (h1 : PS X st (rdS X.K sa)) (h2 : PSs X sts (rdS X.K sb)) : PSs X (st :: sts) (rdS X.K (sSeq sa sb)) := PSs.imp (pss_cons h1 h2) rd_seq
theorem s_one (h1 : PS X st (rdS X.K sa)) : PSs X [st] (rdS X.K sa) := pss_one h1
theorem s_expr (he : PE X e (rdE X.K fa)) (hs : swapsWith e none pos.line X.env = pure false := by rfl) : PS X (.Expr e pos) (rdS X.K (sDrop fa)) := PS.imp (ps_expr he hs) rd_drop
theorem s_ret (he : PE X e (rdE X.K fa)) : PS X (.Return (some e) pos) (rdS X.K (sRet fa)) := PS.imp (ps_ret he) rd_ret
theorem s_if (hc : PT X c (rdT X.K ta)) (ha : PSs X aa (rdS X.K sa)) (hb : PSs X bb (rdS X.K sb)) : PS X (.If c aa bb pos) (rdS X.K (sIf ta sa sb)) := PS.imp (ps_if hc ha hb) rd_ifS
theorem s_set (i : Nat) {pos' : Pos} (hN : X.N.Nodup) (he : PE X e (rdE X.K fa)) (hi : X.N[i]? = some x := by rfl) (hx : Loc X.env.scope x := by first | exact Or.inl rfl | exact Or.inr rfl) (hs : swapsWith e (some (.Name x pos')) pos.line X.env = pure false := by rfl) (hf : X.fn x = true \/ X.env.scope.names.lookup x = some .local := by first | exact .inl rfl | exact .inr rfl) :
  PS X (.Assign [.Name x pos'] e pos) (rdS X.K (sSet i fa)) := PS.imp (ps_set hN hi hx he hs hf) rd_set
variable {g : FG} {gs : FGs} {fi : FI}
theorem g_nm (i : Nat) (hN : X.N.Nodup) (hi : X.N[i]? = some x := by rfl) (hx : Loc X.env.scope x := by first | exact Or.inl rfl | exact Or.inr rfl) (hf : X.fn x = true \/ X.env.scope.names.lookup x = some .local := by first | exact .inl rfl | exact .inr rfl) : PG X (.Name x pos) (rdG X.K (gNm i)) := PG.imp (pg_name hN hi hx hf) rd_gNm
theorem gs_nil : PGs X [] (rdGs X.K gsNil) := PGs.imp pgs_nil rd_gsNil
theorem gs_cons (h1 : PG X e (rdG X.K g)) (h2 : PGs X es (rdGs X.K gs)) (hs : (assignEach (e :: es) X.env).map (·.2) = assign e X.env :: (assignEach es X.env).map (·.2) := by exact assign_cons rfl) : PGs X (e :: es) (rdGs X.K (gsCons g gs)) := PGs.imp (pgs_cons h1 h2 hs) rd_gsCons
theorem g_tp {k n : Nat} (hc : X.calm = true) (h : PGs X es (rdGs X.K gs)) (hn : (assignEach es X.env).length = n := by rfl) (hst : (assignEach es X.env).findIdx? (·.1) = none := by rfl) : PG X (.Tuple es k pos) (rdG X.K (gTp n gs)) := PG.imp (pg_tup hc h hn hst) rd_gTp
theorem i_r1 (hg : Gl X "range") (hm : X.mg "range" = none) (ha : PE X a (rdE X.K fa)) (hs : starEach [a] X.env = [(false, eval a X.env)] := by exact star_cons rfl) : PI X tg (.Call (.Name "range" p) [a] [] pos) (rdI X.K (fiR1 fa)) := PI.imp (pi_range1 hg hm (q_cons ha q_nil hs) hs) rd_iR1
theorem s_for (hc : X.calm = true) (hi : PI X tg iter (rdI X.K fi)) (hg : PG X tg (rdG X.K g)) (hb : PSs X aa (rdS X.K sa)) (hp : PassesOwn (model X.prog X.w) X.A X.env X.xe) (hs : ∀ x, foldedSetIterable iter X.env x = pure x := by intro _; rfl) : PS X (.For tg iter aa [] pos) (rdS X.K (sFor fi g sa)) := PS.imp (ps_for hp hc hi hg hb hs) rd_for
theorem s_forL (hc : X.calm = true) (ha : PE X iter (rdE X.K fa)) (hg : PG X tg (rdG X.K g)) (hb : PSs X aa (rdS X.K sa)) (hp : PassesOwn (model X.prog X.w) X.A X.env X.xe) (hs : ∀ x, foldedSetIterable iter X.env x = pure x := by intro _; rfl) : PS X (.For tg iter aa [] pos) (rdS X.K (sForL fa g sa)) := PS.imp (ps_for hp hc (pi_seq0 ha) hg hb hs) rd_forL
theorem s_asg (he : PE X e (rdE X.K fa)) (hg : PG X tg (rdG X.K g)) (hs : swapsWithSole [tg] e pos.line X.env = pure false := by rfl) (hw : swappedStores [tg] e X.env = pure none := by rfl) (h1 : (assignEach [tg] X.env).map (·.2) = [assign tg X.env] := by rfl) : PS X (.Assign [tg] e pos) (rdS X.K (sAsg fa g)) := PS.imp (ps_asg he hg hs hw h1) rd_asg
theorem PIfs.imp {ifs : List Expr} {t t' : TT} (h : PIfs X ifs t) (k : ∀ {σ H Q}, t' σ H Q -> t σ H Q) : PIfs X ifs t' := fun pins s σ H Q I q => h pins s σ H Q I (k q)
theorem f_nil : PIfs X [] (rdT X.K cYes) := PIfs.imp pifs_nil rd_yes
end
end R
noncomputable def isLst (x : R) (μ : Store) : Bool := match x with | .v (.fl _) => true | .p n => (match μ[n]? with | some (.lst _) => true | some (.fz _) => true | _ => false) | _ => false
noncomputable def fMt (g : R -> List R -> Store -> Option (R × Store)) (fa : FE) (ga : FA) : FE := fun ρ μ => (fa ρ μ).bind fun a => if isLst a.1 a.2 = true then (ga ρ a.2).bind fun b => g a.1 b.1 b.2 else none
theorem isLst_ok {K : PySem.W.Frag} {m : List Addr} {H : Hp} {μ : Store} {x : R} {v : V} (s : SRel K m H μ) (r : RelR K m H x v) (e : isLst x μ = true) : tyV K "list" v H := by
 have : ∃ xs, lstD x μ = some xs := by
  cases x with
  | v d => cases d <;> simp_all [isLst, lstD]
  | s _ _ => simp [isLst] at e
  | x _ => simp [isLst] at e
  | f _ _ => simp [isLst] at e
  | p n =>
   simp only [isLst] at e
   simp only [lstD]
   split at e
   ·rename_i xs q; exact ⟨xs, by first | rfl | rw [q]⟩
   ·rename_i xs q; exact ⟨xs, by first | rfl | rw [q]⟩
   ·cases e
 obtain ⟨xs, e⟩ := this
 obtain ⟨a, vs, rfl, q, _⟩ := lst_ok s r e
 exact .inl ⟨rfl, vs, q⟩
theorem rd_mt {K : PySem.W.Frag} {σ : L2.St} {H : Hp} {Q : VK} {g r fa ga} (hg : GMt K g r) (h : rdE K (fMt g fa ga) σ H Q) : tBM K "list" r (rdE K fa) (rdA K ga) σ H Q := by
 obtain ⟨ρ, μ, m, d, μ', hl, hs, e, k⟩ := h
 obtain ⟨⟨x, μ1⟩, e1, e⟩ := Option.bind_eq_some_iff.mp e
 split at e
 ·rename_i hx
  obtain ⟨⟨ys, μ2⟩, e2, e⟩ := Option.bind_eq_some_iff.mp e
  refine ⟨ρ, μ, m, x, μ1, hl, hs, e1, fun v H1 m1 x1 s1 r1 => ⟨isLst_ok s1 r1 hx, ?_⟩⟩
  refine ⟨ρ, μ1, m1, ys, μ2, hl.ext x1, s1, e2, fun vs H2 m2 x2 s2 r2 => ?_⟩
  exact hg m2 H2 μ2 x ys d μ' v vs Q s2 (r1.ext x2) r2 e fun w H3 m3 x3 s3 r3 => k w H3 m3 ((x1.trans x2).trans x3) s3 r3
 ·cases e
structure DefAt (K : PySem.W.Frag) (mg : Str -> Option Value) (x : Str) (st : Stmt) (ps : List Str) : Prop where
 ex : ∃ f fd, Fun K x x st f fd /\ Binds K fd ps [] /\ mg x = some (.ref f)
structure DefAtC (K : PySem.W.Frag) (mg : Str -> Option Value) (x : Str) (st : Stmt) (ps : List Str) (c : Addr) : Prop where
 ex : ∃ f fd, FunC K x st f fd c /\ Binds K fd ps [] /\ mg x = some (.ref f)
def Kept (P : Program) (w : World) (K : PySem.W.Frag) (mg : Str -> Option Value) (base : Heap) (k : Nat) (x : Str) (ps : List Str) (mf : MF) : Prop :=
 ∃ f fd, FnOk P w K mg base CX0 k f fd ps (spP K ps.length mf) /\ PySem.W.keepIn K (.ref f) = true /\ Binds K fd ps [] /\ mg x = some (.ref f)
def KeptW (P : Program) (w : World) (K : PySem.W.Frag) (mg : Str -> Option Value) (base : Heap) (k : Nat) (x : Str) (ps : List Str) (mf : MW) : Prop :=
 ∃ f fd, FnOk P w K mg base CX0 k f fd ps (spW K ps.length mf) /\ PySem.W.keepIn K (.ref f) = true /\ Binds K fd ps [] /\ mg x = some (.ref f)
structure MethAt (K : PySem.W.Frag) (C : Addr) (nm qual : Str) (st : Stmt) (ps : List Str) : Prop where
 ex : ∃ f fd, Fun K nm qual st f fd /\ Binds K fd ps [] /\ Meth K C nm f
def KeptM (P : Program) (w : World) (K : PySem.W.Frag) (mg : Str -> Option Value) (base : Heap) (k : Nat) (nm : Str) (C : Addr) (ps : List Str) (mf : MW) : Prop :=
 ∃ f fd, FnOk P w K mg base CX0 k f fd ps (spW K ps.length mf) /\ Binds K fd ps [] /\ Meth K C nm f
namespace R
theorem okP {P : Program} {w : World} {K : PySem.W.Frag} {mg : Str -> Option Value} {base : Heap} {x : Str} {st : Stmt} {N ps : List Str} {k : Nat} {b : FS} (d : DefAt K mg x st ps) (S : FnScope N ps (defScope st))
  (hbody : ∀ (f : Addr) (cdv : Value) (A : Around) (outer : List Env) (s : Shared) (H : Hp) (E : XK), Room k (A.deeper (envOfC x (defScope st) s.heap.objs.size f cdv)) -> PSs (cxOf CX0 P w K mg base N x (defScope st) f cdv A outer s H E).nox (defBody st) (rdS K b)) :
  Kept P w K mg base (k + 1) x ps (runP N.length b) := by
 obtain ⟨f, fd, F, B, M⟩ := d.ex
 exact ⟨f, fd, Fun.okP F S (hbody f), F.kp, B, M⟩
theorem q_callK {X : Cx} {k : Nat} {x : Str} {ps : List Str} {mf : MF} {e : Expr} {es : List Expr} {ga : FA} {p pos : Pos} {n : Nat} (F : Kept X.prog X.w X.K X.mg X.base k x ps mf) (hr : Room k X.A) (ha : PA X (e :: es) (rdA X.K ga)) (hg : Gl X x := by rfl) (hn : ps.length = n := by rfl)
  (hdb : (x == ("__debug__" : Str)) = false := by decide) (he : starEach (e :: es) X.env = (false, eval e X.env) :: starEach es X.env := by exact star_cons rfl) (hpl : (backTo pos (starEach es X.env)).any (·.1) = false := by exact star_any rfl) :
  PE X (.Call (.Name x p) (e :: es) [] pos) (rdE X.K (fCall mf n ga)) := by
 subst hn
 obtain ⟨f, fd, F, kp, B, M⟩ := F
 exact q_call F hr hg M kp B ha hdb he hpl
theorem okW {P : Program} {w : World} {K : PySem.W.Frag} {mg : Str -> Option Value} {base : Heap} {x : Str} {st : Stmt} {N ps : List Str} {k : Nat} {b : FS} (d : DefAt K mg x st ps) (S : FnScope N ps (defScope st))
  (hbody : ∀ (f : Addr) (cdv : Value) (A : Around) (outer : List Env) (s : Shared) (H : Hp) (E : XK), Room k (A.deeper (envOfC x (defScope st) s.heap.objs.size f cdv)) -> PSs (cxOf CX0 P w K mg base N x (defScope st) f cdv A outer s H E).nox (defBody st) (rdS K b)) :
  KeptW P w K mg base (k + 1) x ps (runW N.length b) := by
 obtain ⟨f, fd, F, B, M⟩ := d.ex
 exact ⟨f, fd, Fun.okW F S (hbody f), F.kp, B, M⟩
theorem okM {P : Program} {w : World} {K : PySem.W.Frag} {mg : Str -> Option Value} {base : Heap} {nm qual : Str} {C : Addr} {st : Stmt} {N ps : List Str} {k : Nat} {b : FS} (d : MethAt K C nm qual st ps) (S : FnScope N ps (defScope st))
  (hbody : ∀ (f : Addr) (cdv : Value) (A : Around) (outer : List Env) (s : Shared) (H : Hp) (E : XK), Room k (A.deeper (envOfC qual (defScope st) s.heap.objs.size f cdv)) -> PSs (cxOf CX0 P w K mg base N qual (defScope st) f cdv A outer s H E).nox (defBody st) (rdS K b)) :
  KeptM P w K mg base (k + 1) nm C ps (runW N.length b) := by
 obtain ⟨f, fd, F, B, M⟩ := d.ex
 exact ⟨f, fd, Fun.okW F S (hbody f), B, M⟩
theorem q_callW {X : Cx} {k : Nat} {x : Str} {ps : List Str} {mf : MW} {e : Expr} {es : List Expr} {ga : FA} {p pos : Pos} {n : Nat} (F : KeptW X.prog X.w X.K X.mg X.base k x ps mf) (hr : Room k X.A) (ha : PA X (e :: es) (rdA X.K ga)) (hg : Gl X x := by rfl) (hn : ps.length = n := by rfl)
  (hdb : (x == ("__debug__" : Str)) = false := by decide) (he : starEach (e :: es) X.env = (false, eval e X.env) :: starEach es X.env := by exact star_cons rfl) (hpl : (backTo pos (starEach es X.env)).any (·.1) = false := by exact star_any rfl) :
  PE X (.Call (.Name x p) (e :: es) [] pos) (rdE X.K (fCallW mf n ga)) := by
 subst hn
 obtain ⟨f, fd, F, kp, B, M⟩ := F
 exact PE.imp (pe_call F hr hg M kp B .nil pass0 ha hdb he hpl) rd_callW
theorem q_meth {X : Cx} {k : Nat} {c nm : Str} {C : Addr} {ps : List Str} {mf : MW} {o e : Expr} {es : List Expr} {fo : FE} {ga : FA} {apos pos : Pos} {n : Nat} {pl : Sem Bool} (N : ClsN X.K X.mg c C) (F : KeptM X.prog X.w X.K X.mg X.base k nm C ps mf) (hr : Room k X.A) (ho : PE X o (rdE X.K fo)) (ha : PA X (e :: es) (rdA X.K ga)) (hn : ps.length = n := by rfl)
  (he : starEach (e :: es) X.env = (false, eval e X.env) :: starEach es X.env := by exact star_cons rfl) (hpl : (backTo pos (starEach es X.env)).any (·.1) = false := by exact star_any rfl)
  (ht : eval (.Call (.Attribute o nm apos) (e :: es) [] pos) X.env = (do
   let ov ← eval o X.env
   standAt apos.atName
   let (mth, first) ← holding [ov] (getMethod ov nm pl)
   callWith pos mth first (backTo pos (starEach (e :: es) X.env)) (backToKw pos (keywordEach [] X.env))) := by rfl) :
  PE X (.Call (.Attribute o nm apos) (e :: es) [] pos) (rdE X.K (fMeth c nm mf n fo ga)) := by
 subst hn
 obtain ⟨f, fd, F, B, M⟩ := F
 exact PE.imp (pe_meth ho N.cl M F hr B .nil pass0 ha he hpl ht) (rd_meth N)
theorem q_meth0 {X : Cx} {k : Nat} {c nm : Str} {C : Addr} {ps : List Str} {mf : MW} {o : Expr} {fo : FE} {apos pos : Pos} {n : Nat} {pl : Sem Bool} (N : ClsN X.K X.mg c C) (F : KeptM X.prog X.w X.K X.mg X.base k nm C ps mf) (hr : Room k X.A) (ho : PE X o (rdE X.K fo)) (hn : ps.length = n := by rfl)
  (ht : eval (.Call (.Attribute o nm apos) [] [] pos) X.env = (do
   let ov ← eval o X.env
   standAt apos.atName
   let (mth, first) ← holding [ov] (getMethod ov nm pl)
   callWith pos mth first (backTo pos (starEach [] X.env)) (backToKw pos (keywordEach [] X.env))) := by rfl) :
  PE X (.Call (.Attribute o nm apos) [] [] pos) (rdE X.K (fMeth c nm mf n fo fNil)) := by
 subst hn
 obtain ⟨f, fd, F, B, M⟩ := F
 exact PE.imp (pe_meth0 ho N.cl M F hr B .nil pass0 ht) fun h => rdE_mono (rd_meth N h) fun x H1 ⟨a, dx, fs, e, ea, l, t⟩ => ⟨a, dx, fs, e, ea, l, rd_nil t⟩
theorem q_make {X : Cx} {k : Nat} {c : Str} {C : Addr} {ps : List Str} {mf : MW} {p pos : Pos} (N : ClsN X.K X.mg c C) (hk : PySem.W.makesIn X.K C = true) (hp : PySem.W.keepIn X.K (.ref C) = true) (F : KeptM X.prog X.w X.K X.mg X.base k "__init__" C ps mf) (hr : Room (k + 1) X.A) (hg : Gl X c := by rfl) (hn : ps.length = 1 := by rfl)
  (hdb : (c == ("__debug__" : Str)) = false := by decide) : PE X (.Call (.Name c p) [] [] pos) (rdE X.K (fMake c mf)) := by
 obtain ⟨f, fd, F, B, M⟩ := F
 rw [hn] at F
 exact PE.imp (pe_make0 ⟨hk, M.at_, M.fn, hp⟩ F hr hg N.mg B .nil pass0 hdb) (rd_make N)
theorem q_fld {X : Cx} {c f : Str} {C : Addr} {o : Expr} {fo : FE} {pos : Pos} (N : ClsN X.K X.mg c C) (hf : NoAttr X.K C f) (ho : PE X o (rdE X.K fo)) (hb : attributeBase o f X.env (eval o X.env) = eval o X.env := by rfl) : PE X (.Attribute o f pos) (rdE X.K (fFld c f fo)) := PE.imp (pe_fld ho hb) (rd_fld N hf)
theorem s_fld {X : Cx} {c f : Str} {C : Addr} {o e : Expr} {fo fv : FE} {pos pos' : Pos} (N : ClsN X.K X.mg c C) (hf : NoAttr X.K C f) (ho : PE X o (rdE X.K fo)) (hv : PE X e (rdE X.K fv)) (hs : swapsWith e (some (.Attribute o f pos')) pos.line X.env = pure false := by rfl) : PS X (.Assign [.Attribute o f pos'] e pos) (rdS X.K (sFldF c f fo fv)) := PS.imp (ps_fld ho hv hs) (rd_sfld N hf)
theorem q_LR {X : Cx} {es : List Expr} {ga : FA} {pos : Pos} (h : PA X es (rdA X.K ga)) : PE X (.List es pos) (rdE X.K (fLR ga)) := PE.imp (pe_lst h) rd_LR
theorem q_ixR {X : Cx} {a b : Expr} {fa fb : FE} {pos : Pos} (ha : PE X a (rdE X.K fa)) (hb : PE X b (rdE X.K fb)) (hs : PlainIx b := by intro _ _; rfl) : PE X (.Subscript a b pos) (rdE X.K (fOp ixR fa fb)) := PE.imp (pe_ix ix_seq ha hb hs) (rd_op g_ixR)
theorem g_sbR {X : Cx} {a b : Expr} {fa fb : FE} {pos : Pos} (ha : PE X a (rdE X.K fa)) (hb : PE X b (rdE X.K fb)) (hq : ∀ v, assign (.Subscript a b pos) X.env v = (do
      let ov ← holding [v] (eval a X.env)
      let iv ← holding [v, ov] (eval b X.env)
      standAt pos
      holding [v, ov, iv] (setItem ov iv v)
      release [v, ov, iv] []) := by intro _; rfl) : PG X (.Subscript a b pos) (rdG X.K (gSubR fa fb)) := PG.imp (pg_sub ha hb set_list hq) rd_gSubR
theorem q_compR {X : Cx} {e iter tg : Expr} {fo fa : FE} {g : FG} {pos : Pos} {scope : Scope} (ix : List Nat) (own caps : List Str) (hc : X.calm = true) (n : CompNames X.env.scope scope own caps) (hi : PE X iter (rdE X.K fo))
  (hb : ∀ cl C s₂ H₂ fp, PG (blockCx X scope cl C s₂ H₂ fp (own ++ caps)) tg (rdG X.K g) /\ PIfs (blockCx X scope cl C s₂ H₂ fp (own ++ caps)) [] (rdT X.K cYes) /\ PE (blockCx X scope cl C s₂ H₂ fp (own ++ caps)) e (rdE X.K fa))
  (hix : ix.map (fun i => X.N[i]?) = caps.map some := by rfl)
  (hs : ∀ x, foldedSetIterable iter X.env x = pure x := by intro _; rfl) : PE X (.ListComp e [⟨tg, iter, [], 0⟩] scope pos) (rdE X.K (fCompR ix own.length fo g fa)) := by
 refine PE.imp (pe_comp0 (ix := ix) hc n (by simpa using congrArg List.length hix) (fun j i y h1 h2 => ?_) (pi_seq0 hi) hb hs) (rd_compR rfl)
 have := congrArg (fun l => l[j]?) hix
 simp only [List.getElem?_map, h1, h2, Option.map_some] at this
 exact Option.some.inj this
theorem s_compR (i : Nat) {X : Cx} {e iter tg : Expr} {x : Str} {fo fa : FE} {g : FG} {pos py spos : Pos} {scope : Scope} (ix : List Nat) (own caps : List Str) (hc : X.calm = true) (n : CompNames X.env.scope scope own caps) (hN : X.N.Nodup) (hi : PE X iter (rdE X.K fo))
  (hb : ∀ cl C s₂ H₂ fp, PG (blockCx X scope cl C s₂ H₂ fp (own ++ caps)) tg (rdG X.K g) /\ PIfs (blockCx X scope cl C s₂ H₂ fp (own ++ caps)) [] (rdT X.K cYes) /\ PE (blockCx X scope cl C s₂ H₂ fp (own ++ caps)) e (rdE X.K fa))
  (hsw : swapsWith (.ListComp e [⟨tg, iter, [], 0⟩] scope pos) (some (.Name x py)) spos.line X.env = pure true := by rfl)
  (hy : X.N[i]? = some x := by rfl) (hyl : Loc X.env.scope x := by first | exact Or.inl rfl | exact Or.inr rfl)
  (hix : ix.map (fun i => X.N[i]?) = caps.map some := by rfl)
  (hs : ∀ x, foldedSetIterable iter X.env x = pure x := by intro _; rfl) (hf : X.fn x = true \/ X.env.scope.names.lookup x = some .local := by first | exact .inl rfl | exact .inr rfl) :
  PS X (.Assign [.Name x py] (.ListComp e [⟨tg, iter, [], 0⟩] scope pos) spos) (rdS X.K (sSet i (fCompR ix own.length fo g fa))) := by
 refine PS.imp (ps_comp0 (i := i) (ix := ix) hc n hN hy hyl (by simpa using congrArg List.length hix) (fun j i y h1 h2 => ?_) (pi_seq0 hi) hb hsw hs hf) fun h => ?_
 ·have := congrArg (fun l => l[j]?) hix
  simp only [List.getElem?_map, h1, h2, Option.map_some] at this
  exact Option.some.inj this
 ·have h' := rd_set h
  obtain ⟨ρ, μ, m, d, μ', hl, hs, e, k⟩ := h'
  exact rd_compR rfl ⟨ρ, μ, m, d, μ', hl, hs, e, k⟩
theorem q_eqL {X : Cx} {a b : Expr} {fa fb : FE} {pos : Pos} (hu : X.A.units + 64 < cLine) (ha : PE X a (rdE X.K fa)) (hb : PE X b (rdE X.K fb)) : PE X (.Compare a [.Eq] [b] pos) (rdE X.K (fOp (eqL false) fa fb)) := PE.imp (pe_cmpR (op_eqL hu) ha hb (nomark _)) (rd_op g_eqL)
theorem t_neL {X : Cx} {a b : Expr} {fa fb : FE} {pos : Pos} (hu : X.A.units + 64 < cLine) (ha : PE X a (rdE X.K fa)) (hb : PE X b (rdE X.K fb)) : PT X (.Compare a [.NotEq] [b] pos) (rdT X.K (fB (fOp (eqL true) fa fb))) := t_cmp (op_neL hu) g_eqL ha hb (nomark _)
theorem q_slS {X : Cx} {a : Expr} {fa : FE} {p2 pos : Pos} {lo hi : Option Expr} {fl fh : FO} (ha : PE X a (rdE X.K fa)) (hl : PO X lo (rdO X.K fl)) (hh : PO X hi (rdO X.K fh)) : PE X (.Subscript a (.Slice lo hi none p2) pos) (rdE X.K (fSlS fa fl fh)) := PE.imp (pe_slice sl_str ha hl hh) rd_slS
theorem q_addF {X : Cx} {a b : Expr} {fa fb : FE} {pos : Pos} (ha : PE X a (rdE X.K fa)) (hb : PE X b (rdE X.K fb)) : PE X (.BinOp a .Add b pos) (rdE X.K (fOp addF fa fb)) := PE.imp (pe_op op_catF ha hb) (rd_op g_addF)
end R
theorem law_sp {K : PySem.W.Frag} {H : Hp} {a : Addr} {ns : List Int} {mf : MF} (hO : Only H) (hS : SqL K H a (ns.map V.int)) (h : mf [.fl (ns.map .int)] = some (.bl true)) : spP K 1 mf [.ref a] H (fun v _ => v = .bl true) fun _ _ _ => False := by
 refine ⟨_, _, rfl, ?_, h, fun v H' _ r => by simpa only [RelD] using r⟩
 have rInts : ∀ {ns : List Int}, RelDs K H (ns.map .int) (ns.map V.int) := fun {ns} => by
  induction ns with
  | nil => simp only [List.map_nil, RelDs]
  | cons n ns ih => simp only [List.map_cons, RelDs]; exact ⟨_, _, rfl, by simp only [RelD], ih⟩
 simp only [RelDs]
 refine ⟨_, _, rfl, ?_, rfl⟩
 simp only [RelD]
 refine ⟨a, _, rfl, ?_, rInts⟩
 rcases hS with (hS | ⟨o, hS⟩) | hS
 ·rcases hO a with z | ⟨o, xs, z⟩ <;> rw [hS] at z <;> cases z
 ·exact .inl ⟨o, hS⟩
 ·exact .inr (.inr hS)
namespace R
section
variable {X : Cx} {e o : Expr} {es : List Expr} {fa : FE} {ga : FA} {apos cpos : Pos}
theorem q_app (ho : PE X o (rdE X.K fa)) (ha : PA X (e :: es) (rdA X.K ga)) (hbase : attributeBase o "append" X.env (eval o X.env) = eval o X.env := by rfl)
  (hfew : ((backTo cpos (starEach (e :: es) X.env)).all (fun x => !x.1) && (backToKw cpos (keywordEach [] X.env)).all (fun x => x.1.isSome)
   && decide ((e :: es).length + ([] : List Keyword).length + (if ([] : List Keyword).isEmpty then 0 else 1) < 30)) = true := by rfl)
  (hline : (apos.endLine == cpos.line) = true := by rfl) (hs : starEach (e :: es) X.env = (false, eval e X.env) :: starEach es X.env := by exact star_cons rfl) (hplain : (backTo cpos (starEach es X.env)).any (·.1) = false := by exact star_any rfl) :
  PE X (.Call (.Attribute o "append" apos) (e :: es) [] cpos) (rdE X.K (fMt appD fa ga)) :=
 PE.imp (pe_bm PySem.F.plainAttrs_list PySem.F.slot_list_append PySem.F.type_list_append mt_append ho ha hbase hfew hline hs hplain) (rd_mt g_app)
end
end R
end HW
namespace HW
open PySem PySem.Spec PyProof.Rows L2
@[irreducible] def ZE (X : Cx) (e : Expr) (t : TE) : Prop := L2.PE X e t
@[irreducible] def ZT (X : Cx) (e : Expr) (t : TT) : Prop := L2.PT X e t
@[irreducible] def ZW (X : Cx) (e : Expr) (t : TT) : Prop := L2.PW X e t
@[irreducible] def ZA (X : Cx) (e : List Expr) (t : TA) : Prop := L2.PA X e t
@[irreducible] def ZS (X : Cx) (e : Stmt) (t : TS) : Prop := L2.PS X e t
@[irreducible] def ZSs (X : Cx) (e : List Stmt) (t : TS) : Prop := L2.PSs X e t
@[irreducible] def ZG (X : Cx) (e : Expr) (t : TG) : Prop := L2.PG X e t
@[irreducible] def ZGs (X : Cx) (e : List Expr) (t : TGs) : Prop := L2.PGs X e t
@[irreducible] def ZO (X : Cx) (e : Option Expr) (t : TO) : Prop := L2.PO X e t
@[irreducible] def ZIfs (X : Cx) (e : List Expr) (t : TT) : Prop := HW.PIfs X e t
@[irreducible] def ZI (X : Cx) (tg iter : Expr) (t : TI) : Prop := L2.PI X tg iter t
section
variable {X : Cx} {a b e o : Expr} {es : List Expr} {fa fb : FE} {ga : FA} {pos p p2 apos : Pos} {x : Str}
theorem q_var (i : Nat) (hN : X.N[i]? = some x := by rfl) (hv : Vis X.env.scope x := by first | exact Or.inl rfl | exact Or.inr (Or.inl rfl) | exact Or.inr (Or.inr rfl)) (hd : (x == ("__debug__" : Str)) = false := by decide)
  (hcd : (x == ("__classdict__" : Str)) = false := by decide) : ZE X (.Name x pos) (rdE X.K (fVar i)) := by
 with_unfolding_all exact R.q_var i hN hv hd hcd
theorem q_int {i j} : ZE X (.Constant (.int i) j pos) (rdE X.K (fK (.int i))) := by
 with_unfolding_all exact R.q_int
theorem q_bl {i j} : ZE X (.Constant (.bool i) j pos) (rdE X.K (fK (.bl i))) := by
 with_unfolding_all exact R.q_bl
theorem q_str {i j} : ZE X (.Constant (.str i) j pos) (rdE X.K (fK (.str i))) := by
 with_unfolding_all exact R.q_str
theorem q_non {j} : ZE X (.Constant .none j pos) (rdE X.K (fK .non)) := by
 with_unfolding_all exact R.q_non
theorem q_addQ (ha : ZE X a (rdE X.K fa)) (hb : ZE X b (rdE X.K fb)) : ZE X (.BinOp a .Add b pos) (rdE X.K (fOp addQ fa fb)) := by
 with_unfolding_all exact R.q_addQ ha hb
theorem q_mul (ha : ZE X a (rdE X.K fa)) (hb : ZE X b (rdE X.K fb)) : ZE X (.BinOp a .Mult b pos) (rdE X.K (fOp mulD fa fb)) := by
 with_unfolding_all exact R.q_mul ha hb
theorem q_div (ha : ZE X a (rdE X.K fa)) (hb : ZE X b (rdE X.K fb)) : ZE X (.BinOp a .FloorDiv b pos) (rdE X.K (fOp divD fa fb)) := by
 with_unfolding_all exact R.q_div ha hb
theorem q_mod (ha : ZE X a (rdE X.K fa)) (hb : ZE X b (rdE X.K fb)) : ZE X (.BinOp a .Mod b pos) (rdE X.K (fOp modD fa fb)) := by
 with_unfolding_all exact R.q_mod ha hb
theorem q_eq (hu : X.A.units + 64 < cLine) (ha : ZE X a (rdE X.K fa)) (hb : ZE X b (rdE X.K fb)) : ZE X (.Compare a [.Eq] [b] pos) (rdE X.K (fOp (eqR false) fa fb)) := by
 with_unfolding_all exact R.q_eq hu ha hb
theorem q_and {rest : List Expr} (ha : ZE X a (rdE X.K fa)) (hb : ZE X (.BoolOp .And (b :: rest) pos) (rdE X.K fb)) : ZE X (.BoolOp .And (a :: b :: rest) pos) (rdE X.K (fAnd fa fb)) := by
 with_unfolding_all exact R.q_and ha hb
theorem q_one {op} (ha : ZE X a (rdE X.K fa)) : ZE X (.BoolOp op [a] pos) (rdE X.K fa) := by
 with_unfolding_all exact R.q_one ha
theorem q_nil : ZA X [] (rdA X.K fNil) := by
 with_unfolding_all exact R.q_nil
theorem q_cons (ha : ZE X e (rdE X.K fa)) (hr : ZA X es (rdA X.K ga)) (hs : starEach (e :: es) X.env = (false, eval e X.env) :: starEach es X.env := by exact star_cons rfl) : ZA X (e :: es) (rdA X.K (fCons fa ga)) := by
 with_unfolding_all exact R.q_cons ha hr hs
theorem q_tup {x1} (h : ZA X es (rdA X.K ga)) : ZE X (.Tuple es x1 pos) (rdE X.K (fTup ga)) := by
 with_unfolding_all exact R.q_tup h
theorem q_lst (h : ZA X es (rdA X.K ga)) : ZE X (.List es pos) (rdE X.K (fLst ga)) := by
 with_unfolding_all exact R.q_lst h
theorem q_fz (ha : ZE X a (rdE X.K fa)) : ZE X a (rdE X.K (fFz fa)) := by
 with_unfolding_all exact R.q_fz ha
theorem q_ix (ha : ZE X a (rdE X.K fa)) (hb : ZE X b (rdE X.K fb)) (hs : PlainIx b := by intro _ _; rfl) : ZE X (.Subscript a b pos) (rdE X.K (fOp ixD fa fb)) := by
 with_unfolding_all exact R.q_ix ha hb hs
theorem q_oN : ZO X none (rdO X.K oNone) := by
 with_unfolding_all exact R.q_oN
theorem q_oS (ha : ZE X a (rdE X.K fa)) : ZO X (some a) (rdO X.K (oSome fa)) := by
 with_unfolding_all exact R.q_oS ha
theorem q_sl {lo hi : Option Expr} {fl fh : FO} (ha : ZE X a (rdE X.K fa)) (hl : ZO X lo (rdO X.K fl)) (hh : ZO X hi (rdO X.K fh)) : ZE X (.Subscript a (.Slice lo hi none p2) pos) (rdE X.K (fSl fa fl fh)) := by
 with_unfolding_all exact R.q_sl ha hl hh
theorem q_len (hg : Gl X "len") (hm : X.mg "len" = none) (ha : ZA X (e :: es) (rdA X.K ga)) (he : starEach (e :: es) X.env = (false, eval e X.env) :: starEach es X.env := by exact star_cons rfl) (hpl : (backTo pos (starEach es X.env)).any (·.1) = false := by exact star_any rfl) :
  ZE X (.Call (.Name "len" p) (e :: es) [] pos) (rdE X.K (fAr lenD ga)) := by
 with_unfolding_all exact R.q_len hg hm ha he hpl
theorem q_min (hc : X.calm = true) (hg : Gl X "min") (hm : X.mg "min" = none) (ha : ZA X (e :: es) (rdA X.K ga)) (he : starEach (e :: es) X.env = (false, eval e X.env) :: starEach es X.env := by exact star_cons rfl) (hpl : (backTo pos (starEach es X.env)).any (·.1) = false := by exact star_any rfl) :
  ZE X (.Call (.Name "min" p) (e :: es) [] pos) (rdE X.K (fAr minD ga)) := by
 with_unfolding_all exact R.q_min hc hg hm ha he hpl
theorem q_strc (hg : Gl X "str") (hm : X.mg "str" = none) (ha : ZA X (e :: es) (rdA X.K ga)) (he : starEach (e :: es) X.env = (false, eval e X.env) :: starEach es X.env := by exact star_cons rfl) (hpl : (backTo pos (starEach es X.env)).any (·.1) = false := by exact star_any rfl) :
  ZE X (.Call (.Name "str" p) (e :: es) [] pos) (rdE X.K (fAr strD ga)) := by
 with_unfolding_all exact R.q_strc hg hm ha he hpl
theorem q_list (hg : Gl X "list") (hm : X.mg "list" = none) (ha : ZA X (e :: es) (rdA X.K ga)) (he : starEach (e :: es) X.env = (false, eval e X.env) :: starEach es X.env := by exact star_cons rfl) (hpl : (backTo pos (starEach es X.env)).any (·.1) = false := by exact star_any rfl) :
  ZE X (.Call (.Name "list" p) (e :: es) [] pos) (rdE X.K (fAr listD ga)) := by
 with_unfolding_all exact R.q_list hg hm ha he hpl
theorem t_lt (ha : ZE X a (rdE X.K fa)) (hb : ZE X b (rdE X.K fb)) : ZT X (.Compare a [.Lt] [b] pos) (rdT X.K (fB (fOp ltD fa fb))) := by
 with_unfolding_all exact R.t_lt ha hb
theorem t_eq (hu : X.A.units + 64 < cLine) (ha : ZE X a (rdE X.K fa)) (hb : ZE X b (rdE X.K fb)) : ZT X (.Compare a [.Eq] [b] pos) (rdT X.K (fB (fOp (eqR false) fa fb))) := by
 with_unfolding_all exact R.t_eq hu ha hb
theorem t_ne (hu : X.A.units + 64 < cLine) (ha : ZE X a (rdE X.K fa)) (hb : ZE X b (rdE X.K fb)) : ZT X (.Compare a [.NotEq] [b] pos) (rdT X.K (fB (fOp (eqR true) fa fb))) := by
 with_unfolding_all exact R.t_ne hu ha hb
theorem t_isN {j} (ha : ZE X a (rdE X.K fa)) : ZT X (.Compare a [.Is] [.Constant .none j p] pos) (rdT X.K (fB (fUn (isK false .non) fa))) := by
 with_unfolding_all exact R.t_isN ha
theorem t_notN {j} (ha : ZE X a (rdE X.K fa)) : ZT X (.Compare a [.IsNot] [.Constant .none j p] pos) (rdT X.K (fB (fUn (isK true .non) fa))) := by
 with_unfolding_all exact R.t_notN ha
variable {ta tb : FT} {rest : List Expr}
theorem w_and (ha : ZT X a (rdT X.K ta)) (hb : ZW X (.BoolOp .And (b :: rest) pos) (rdT X.K tb)) : ZW X (.BoolOp .And (a :: b :: rest) pos) (rdT X.K (tAndF ta tb)) := by
 with_unfolding_all exact R.w_and ha hb
theorem w_or (ha : ZT X a (rdT X.K ta)) (hb : ZW X (.BoolOp .Or (b :: rest) pos) (rdT X.K tb)) : ZW X (.BoolOp .Or (a :: b :: rest) pos) (rdT X.K (tOrF ta tb)) := by
 with_unfolding_all exact R.w_or ha hb
theorem w_and1 (ha : ZT X a (rdT X.K ta)) : ZW X (.BoolOp .And [a] pos) (rdT X.K ta) := by
 with_unfolding_all exact R.w_and1 ha
theorem w_or1 (ha : ZT X a (rdT X.K ta)) : ZW X (.BoolOp .Or [a] pos) (rdT X.K ta) := by
 with_unfolding_all exact R.w_or1 ha
theorem t_w (h : ZW X a (rdT X.K ta)) : ZT X a (rdT X.K ta) := by
 with_unfolding_all exact R.t_w h
variable {st : Stmt} {sts aa bb : List Stmt} {sa sb : FS} {c tg iter : Expr}
theorem s_nil : ZSs X [] (rdS X.K sNext) := by
 with_unfolding_all exact R.s_nil
theorem s_cons (h1 : ZS X st (rdS X.K sa)) (h2 : ZSs X sts (rdS X.K sb)) : ZSs X (st :: sts) (rdS X.K (sSeq sa sb)) := by
 with_unfolding_all exact R.s_cons h1 h2
theorem s_one (h1 : ZS X st (rdS X.K sa)) : ZSs X [st] (rdS X.K sa) := by
 with_unfolding_all exact R.s_one h1
theorem s_expr (he : ZE X e (rdE X.K fa)) (hs : swapsWith e none pos.line X.env = pure false := by rfl) : ZS X (.Expr e pos) (rdS X.K (sDrop fa)) := by
 with_unfolding_all exact R.s_expr he hs
theorem s_ret (he : ZE X e (rdE X.K fa)) : ZS X (.Return (some e) pos) (rdS X.K (sRet fa)) := by
 with_unfolding_all exact R.s_ret he
theorem s_if (hc : ZT X c (rdT X.K ta)) (ha : ZSs X aa (rdS X.K sa)) (hb : ZSs X bb (rdS X.K sb)) : ZS X (.If c aa bb pos) (rdS X.K (sIf ta sa sb)) := by
 with_unfolding_all exact R.s_if hc ha hb
theorem s_set (i : Nat) {pos' : Pos} (hN : X.N.Nodup) (he : ZE X e (rdE X.K fa)) (hi : X.N[i]? = some x := by rfl) (hx : Loc X.env.scope x := by first | exact Or.inl rfl | exact Or.inr rfl) (hs : swapsWith e (some (.Name x pos')) pos.line X.env = pure false := by rfl) (hf : X.fn x = true \/ X.env.scope.names.lookup x = some .local := by first | exact .inl rfl | exact .inr rfl) :
  ZS X (.Assign [.Name x pos'] e pos) (rdS X.K (sSet i fa)) := by
 with_unfolding_all exact R.s_set i hN he hi hx hs hf
variable {g : FG} {gs : FGs} {fi : FI}
theorem g_nm (i : Nat) (hN : X.N.Nodup) (hi : X.N[i]? = some x := by rfl) (hx : Loc X.env.scope x := by first | exact Or.inl rfl | exact Or.inr rfl) (hf : X.fn x = true \/ X.env.scope.names.lookup x = some .local := by first | exact .inl rfl | exact .inr rfl) : ZG X (.Name x pos) (rdG X.K (gNm i)) := by
 with_unfolding_all exact R.g_nm i hN hi hx hf
theorem gs_nil : ZGs X [] (rdGs X.K gsNil) := by
 with_unfolding_all exact R.gs_nil
theorem gs_cons (h1 : ZG X e (rdG X.K g)) (h2 : ZGs X es (rdGs X.K gs)) (hs : (assignEach (e :: es) X.env).map (·.2) = assign e X.env :: (assignEach es X.env).map (·.2) := by exact assign_cons rfl) : ZGs X (e :: es) (rdGs X.K (gsCons g gs)) := by
 with_unfolding_all exact R.gs_cons h1 h2 hs
theorem g_tp {k n : Nat} (hc : X.calm = true) (h : ZGs X es (rdGs X.K gs)) (hn : (assignEach es X.env).length = n := by rfl) (hst : (assignEach es X.env).findIdx? (·.1) = none := by rfl) : ZG X (.Tuple es k pos) (rdG X.K (gTp n gs)) := by
 with_unfolding_all exact R.g_tp hc h hn hst
theorem i_r1 (hg : Gl X "range") (hm : X.mg "range" = none) (ha : ZE X a (rdE X.K fa)) (hs : starEach [a] X.env = [(false, eval a X.env)] := by exact star_cons rfl) : ZI X tg (.Call (.Name "range" p) [a] [] pos) (rdI X.K (fiR1 fa)) := by
 with_unfolding_all exact R.i_r1 hg hm ha hs
theorem s_for (hc : X.calm = true) (hi : ZI X tg iter (rdI X.K fi)) (hg : ZG X tg (rdG X.K g)) (hb : ZSs X aa (rdS X.K sa)) (hp : PassesOwn (model X.prog X.w) X.A X.env X.xe) (hs : ∀ x, foldedSetIterable iter X.env x = pure x := by intro _; rfl) : ZS X (.For tg iter aa [] pos) (rdS X.K (sFor fi g sa)) := by
 with_unfolding_all exact R.s_for hc hi hg hb hp hs
theorem s_forL (hc : X.calm = true) (ha : ZE X iter (rdE X.K fa)) (hg : ZG X tg (rdG X.K g)) (hb : ZSs X aa (rdS X.K sa)) (hp : PassesOwn (model X.prog X.w) X.A X.env X.xe) (hs : ∀ x, foldedSetIterable iter X.env x = pure x := by intro _; rfl) : ZS X (.For tg iter aa [] pos) (rdS X.K (sForL fa g sa)) := by
 with_unfolding_all exact R.s_forL hc ha hg hb hp hs
theorem s_asg (he : ZE X e (rdE X.K fa)) (hg : ZG X tg (rdG X.K g)) (hs : swapsWithSole [tg] e pos.line X.env = pure false := by rfl) (hw : swappedStores [tg] e X.env = pure none := by rfl) (h1 : (assignEach [tg] X.env).map (·.2) = [assign tg X.env] := by rfl) : ZS X (.Assign [tg] e pos) (rdS X.K (sAsg fa g)) := by
 with_unfolding_all exact R.s_asg he hg hs hw h1
theorem f_nil : ZIfs X [] (rdT X.K cYes) := by
 with_unfolding_all exact R.f_nil
end
theorem okP {P : Program} {w : World} {K : PySem.W.Frag} {mg : Str -> Option Value} {base : Heap} {x : Str} {st : Stmt} {N ps : List Str} {k : Nat} {b : FS} (d : DefAt K mg x st ps) (S : FnScope N ps (defScope st))
  (hbody : ∀ (f : Addr) (cdv : Value) (A : Around) (outer : List Env) (s : Shared) (H : Hp) (E : XK), Room k (A.deeper (envOfC x (defScope st) s.heap.objs.size f cdv)) -> ZSs (cxOf CX0 P w K mg base N x (defScope st) f cdv A outer s H E).nox (defBody st) (rdS K b)) :
  Kept P w K mg base (k + 1) x ps (runP N.length b) := by
 with_unfolding_all exact R.okP d S hbody
theorem q_callK {X : Cx} {k : Nat} {x : Str} {ps : List Str} {mf : MF} {e : Expr} {es : List Expr} {ga : FA} {p pos : Pos} {n : Nat} (F : Kept X.prog X.w X.K X.mg X.base k x ps mf) (hr : Room k X.A) (ha : ZA X (e :: es) (rdA X.K ga)) (hg : Gl X x := by rfl) (hn : ps.length = n := by rfl)
  (hdb : (x == ("__debug__" : Str)) = false := by decide) (he : starEach (e :: es) X.env = (false, eval e X.env) :: starEach es X.env := by exact star_cons rfl) (hpl : (backTo pos (starEach es X.env)).any (·.1) = false := by exact star_any rfl) :
  ZE X (.Call (.Name x p) (e :: es) [] pos) (rdE X.K (fCall mf n ga)) := by
 with_unfolding_all exact R.q_callK F hr ha hg hn hdb he hpl
theorem okW {P : Program} {w : World} {K : PySem.W.Frag} {mg : Str -> Option Value} {base : Heap} {x : Str} {st : Stmt} {N ps : List Str} {k : Nat} {b : FS} (d : DefAt K mg x st ps) (S : FnScope N ps (defScope st))
  (hbody : ∀ (f : Addr) (cdv : Value) (A : Around) (outer : List Env) (s : Shared) (H : Hp) (E : XK), Room k (A.deeper (envOfC x (defScope st) s.heap.objs.size f cdv)) -> ZSs (cxOf CX0 P w K mg base N x (defScope st) f cdv A outer s H E).nox (defBody st) (rdS K b)) :
  KeptW P w K mg base (k + 1) x ps (runW N.length b) := by
 with_unfolding_all exact R.okW d S hbody
theorem okM {P : Program} {w : World} {K : PySem.W.Frag} {mg : Str -> Option Value} {base : Heap} {nm qual : Str} {C : Addr} {st : Stmt} {N ps : List Str} {k : Nat} {b : FS} (d : MethAt K C nm qual st ps) (S : FnScope N ps (defScope st))
  (hbody : ∀ (f : Addr) (cdv : Value) (A : Around) (outer : List Env) (s : Shared) (H : Hp) (E : XK), Room k (A.deeper (envOfC qual (defScope st) s.heap.objs.size f cdv)) -> ZSs (cxOf CX0 P w K mg base N qual (defScope st) f cdv A outer s H E).nox (defBody st) (rdS K b)) :
  KeptM P w K mg base (k + 1) nm C ps (runW N.length b) := by
 with_unfolding_all exact R.okM d S hbody
theorem q_callW {X : Cx} {k : Nat} {x : Str} {ps : List Str} {mf : MW} {e : Expr} {es : List Expr} {ga : FA} {p pos : Pos} {n : Nat} (F : KeptW X.prog X.w X.K X.mg X.base k x ps mf) (hr : Room k X.A) (ha : ZA X (e :: es) (rdA X.K ga)) (hg : Gl X x := by rfl) (hn : ps.length = n := by rfl)
  (hdb : (x == ("__debug__" : Str)) = false := by decide) (he : starEach (e :: es) X.env = (false, eval e X.env) :: starEach es X.env := by exact star_cons rfl) (hpl : (backTo pos (starEach es X.env)).any (·.1) = false := by exact star_any rfl) :
  ZE X (.Call (.Name x p) (e :: es) [] pos) (rdE X.K (fCallW mf n ga)) := by
 with_unfolding_all exact R.q_callW F hr ha hg hn hdb he hpl
theorem q_meth {X : Cx} {k : Nat} {c nm : Str} {C : Addr} {ps : List Str} {mf : MW} {o e : Expr} {es : List Expr} {fo : FE} {ga : FA} {apos pos : Pos} {n : Nat} {pl : Sem Bool} (N : ClsN X.K X.mg c C) (F : KeptM X.prog X.w X.K X.mg X.base k nm C ps mf) (hr : Room k X.A) (ho : ZE X o (rdE X.K fo)) (ha : ZA X (e :: es) (rdA X.K ga)) (hn : ps.length = n := by rfl)
  (he : starEach (e :: es) X.env = (false, eval e X.env) :: starEach es X.env := by exact star_cons rfl) (hpl : (backTo pos (starEach es X.env)).any (·.1) = false := by exact star_any rfl)
  (ht : eval (.Call (.Attribute o nm apos) (e :: es) [] pos) X.env = (do
   let ov ← eval o X.env
   standAt apos.atName
   let (mth, first) ← holding [ov] (getMethod ov nm pl)
   callWith pos mth first (backTo pos (starEach (e :: es) X.env)) (backToKw pos (keywordEach [] X.env))) := by rfl) :
  ZE X (.Call (.Attribute o nm apos) (e :: es) [] pos) (rdE X.K (fMeth c nm mf n fo ga)) := by
 with_unfolding_all exact R.q_meth N F hr ho ha hn he hpl ht
theorem q_meth0 {X : Cx} {k : Nat} {c nm : Str} {C : Addr} {ps : List Str} {mf : MW} {o : Expr} {fo : FE} {apos pos : Pos} {n : Nat} {pl : Sem Bool} (N : ClsN X.K X.mg c C) (F : KeptM X.prog X.w X.K X.mg X.base k nm C ps mf) (hr : Room k X.A) (ho : ZE X o (rdE X.K fo)) (hn : ps.length = n := by rfl)
  (ht : eval (.Call (.Attribute o nm apos) [] [] pos) X.env = (do
   let ov ← eval o X.env
   standAt apos.atName
   let (mth, first) ← holding [ov] (getMethod ov nm pl)
   callWith pos mth first (backTo pos (starEach [] X.env)) (backToKw pos (keywordEach [] X.env))) := by rfl) :
  ZE X (.Call (.Attribute o nm apos) [] [] pos) (rdE X.K (fMeth c nm mf n fo fNil)) := by
 with_unfolding_all exact R.q_meth0 N F hr ho hn ht
theorem q_make {X : Cx} {k : Nat} {c : Str} {C : Addr} {ps : List Str} {mf : MW} {p pos : Pos} (N : ClsN X.K X.mg c C) (hk : PySem.W.makesIn X.K C = true) (hp : PySem.W.keepIn X.K (.ref C) = true) (F : KeptM X.prog X.w X.K X.mg X.base k "__init__" C ps mf) (hr : Room (k + 1) X.A) (hg : Gl X c := by rfl) (hn : ps.length = 1 := by rfl)
  (hdb : (c == ("__debug__" : Str)) = false := by decide) : ZE X (.Call (.Name c p) [] [] pos) (rdE X.K (fMake c mf)) := by
 with_unfolding_all exact R.q_make N hk hp F hr hg hn hdb
theorem q_fld {X : Cx} {c f : Str} {C : Addr} {o : Expr} {fo : FE} {pos : Pos} (N : ClsN X.K X.mg c C) (hf : NoAttr X.K C f) (ho : ZE X o (rdE X.K fo)) (hb : attributeBase o f X.env (eval o X.env) = eval o X.env := by rfl) : ZE X (.Attribute o f pos) (rdE X.K (fFld c f fo)) := by
 with_unfolding_all exact R.q_fld N hf ho hb
theorem s_fld {X : Cx} {c f : Str} {C : Addr} {o e : Expr} {fo fv : FE} {pos pos' : Pos} (N : ClsN X.K X.mg c C) (hf : NoAttr X.K C f) (ho : ZE X o (rdE X.K fo)) (hv : ZE X e (rdE X.K fv)) (hs : swapsWith e (some (.Attribute o f pos')) pos.line X.env = pure false := by rfl) : ZS X (.Assign [.Attribute o f pos'] e pos) (rdS X.K (sFldF c f fo fv)) := by
 with_unfolding_all exact R.s_fld N hf ho hv hs
theorem q_LR {X : Cx} {es : List Expr} {ga : FA} {pos : Pos} (h : ZA X es (rdA X.K ga)) : ZE X (.List es pos) (rdE X.K (fLR ga)) := by
 with_unfolding_all exact R.q_LR h
theorem q_ixR {X : Cx} {a b : Expr} {fa fb : FE} {pos : Pos} (ha : ZE X a (rdE X.K fa)) (hb : ZE X b (rdE X.K fb)) (hs : PlainIx b := by intro _ _; rfl) : ZE X (.Subscript a b pos) (rdE X.K (fOp ixR fa fb)) := by
 with_unfolding_all exact R.q_ixR ha hb hs
theorem g_sbR {X : Cx} {a b : Expr} {fa fb : FE} {pos : Pos} (ha : ZE X a (rdE X.K fa)) (hb : ZE X b (rdE X.K fb)) (hq : ∀ v, assign (.Subscript a b pos) X.env v = (do
      let ov ← holding [v] (eval a X.env)
      let iv ← holding [v, ov] (eval b X.env)
      standAt pos
      holding [v, ov, iv] (setItem ov iv v)
      release [v, ov, iv] []) := by intro _; rfl) : ZG X (.Subscript a b pos) (rdG X.K (gSubR fa fb)) := by
  with_unfolding_all exact R.g_sbR ha hb hq
theorem q_compR {X : Cx} {e iter tg : Expr} {fo fa : FE} {g : FG} {pos : Pos} {scope : Scope} (ix : List Nat) (own caps : List Str) (hc : X.calm = true) (n : CompNames X.env.scope scope own caps) (hi : ZE X iter (rdE X.K fo))
  (hb : ∀ cl C s₂ H₂ fp, ZG (blockCx X scope cl C s₂ H₂ fp (own ++ caps)) tg (rdG X.K g) /\ ZIfs (blockCx X scope cl C s₂ H₂ fp (own ++ caps)) [] (rdT X.K cYes) /\ ZE (blockCx X scope cl C s₂ H₂ fp (own ++ caps)) e (rdE X.K fa))
  (hix : ix.map (fun i => X.N[i]?) = caps.map some := by rfl)
  (hs : ∀ x, foldedSetIterable iter X.env x = pure x := by intro _; rfl) : ZE X (.ListComp e [⟨tg, iter, [], 0⟩] scope pos) (rdE X.K (fCompR ix own.length fo g fa)) := by
 with_unfolding_all exact R.q_compR ix own caps hc n hi hb hix hs
theorem s_compR (i : Nat) {X : Cx} {e iter tg : Expr} {x : Str} {fo fa : FE} {g : FG} {pos py spos : Pos} {scope : Scope} (ix : List Nat) (own caps : List Str) (hc : X.calm = true) (n : CompNames X.env.scope scope own caps) (hN : X.N.Nodup) (hi : ZE X iter (rdE X.K fo))
  (hb : ∀ cl C s₂ H₂ fp, ZG (blockCx X scope cl C s₂ H₂ fp (own ++ caps)) tg (rdG X.K g) /\ ZIfs (blockCx X scope cl C s₂ H₂ fp (own ++ caps)) [] (rdT X.K cYes) /\ ZE (blockCx X scope cl C s₂ H₂ fp (own ++ caps)) e (rdE X.K fa))
  (hsw : swapsWith (.ListComp e [⟨tg, iter, [], 0⟩] scope pos) (some (.Name x py)) spos.line X.env = pure true := by rfl)
  (hy : X.N[i]? = some x := by rfl) (hyl : Loc X.env.scope x := by first | exact Or.inl rfl | exact Or.inr rfl)
  (hix : ix.map (fun i => X.N[i]?) = caps.map some := by rfl)
  (hs : ∀ x, foldedSetIterable iter X.env x = pure x := by intro _; rfl) (hf : X.fn x = true \/ X.env.scope.names.lookup x = some .local := by first | exact .inl rfl | exact .inr rfl) :
  ZS X (.Assign [.Name x py] (.ListComp e [⟨tg, iter, [], 0⟩] scope pos) spos) (rdS X.K (sSet i (fCompR ix own.length fo g fa))) := by
 with_unfolding_all exact R.s_compR i ix own caps hc n hN hi hb hsw hy hyl hix hs hf
theorem q_eqL {X : Cx} {a b : Expr} {fa fb : FE} {pos : Pos} (hu : X.A.units + 64 < cLine) (ha : ZE X a (rdE X.K fa)) (hb : ZE X b (rdE X.K fb)) : ZE X (.Compare a [.Eq] [b] pos) (rdE X.K (fOp (eqL false) fa fb)) := by
 with_unfolding_all exact R.q_eqL hu ha hb
theorem t_neL {X : Cx} {a b : Expr} {fa fb : FE} {pos : Pos} (hu : X.A.units + 64 < cLine) (ha : ZE X a (rdE X.K fa)) (hb : ZE X b (rdE X.K fb)) : ZT X (.Compare a [.NotEq] [b] pos) (rdT X.K (fB (fOp (eqL true) fa fb))) := by
 with_unfolding_all exact R.t_neL hu ha hb
theorem q_slS {X : Cx} {a : Expr} {fa : FE} {p2 pos : Pos} {lo hi : Option Expr} {fl fh : FO} (ha : ZE X a (rdE X.K fa)) (hl : ZO X lo (rdO X.K fl)) (hh : ZO X hi (rdO X.K fh)) : ZE X (.Subscript a (.Slice lo hi none p2) pos) (rdE X.K (fSlS fa fl fh)) := by
 with_unfolding_all exact R.q_slS ha hl hh
theorem q_addF {X : Cx} {a b : Expr} {fa fb : FE} {pos : Pos} (ha : ZE X a (rdE X.K fa)) (hb : ZE X b (rdE X.K fb)) : ZE X (.BinOp a .Add b pos) (rdE X.K (fOp addF fa fb)) := by
 with_unfolding_all exact R.q_addF ha hb
section
variable {X : Cx} {e o : Expr} {es : List Expr} {fa : FE} {ga : FA} {apos cpos : Pos}
theorem q_app (ho : ZE X o (rdE X.K fa)) (ha : ZA X (e :: es) (rdA X.K ga)) (hbase : attributeBase o "append" X.env (eval o X.env) = eval o X.env := by rfl)
  (hfew : ((backTo cpos (starEach (e :: es) X.env)).all (fun x => !x.1) && (backToKw cpos (keywordEach [] X.env)).all (fun x => x.1.isSome)
   && decide ((e :: es).length + ([] : List Keyword).length + (if ([] : List Keyword).isEmpty then 0 else 1) < 30)) = true := by rfl)
  (hline : (apos.endLine == cpos.line) = true := by rfl) (hs : starEach (e :: es) X.env = (false, eval e X.env) :: starEach es X.env := by exact star_cons rfl) (hplain : (backTo cpos (starEach es X.env)).any (·.1) = false := by exact star_any rfl) :
  ZE X (.Call (.Attribute o "append" apos) (e :: es) [] cpos) (rdE X.K (fMt appD fa ga)) := by
 with_unfolding_all exact R.q_app ho ha hbase hfew hline hs hplain
end
theorem funOkP {P : Program} {w : World} {K : PySem.W.Frag} {mg : Str -> Option Value} {base : Heap} {x qual : Str} {st : Stmt} {f : Addr} {fd : FuncData} {N ps : List Str} {k : Nat} {b : FS} (F : Fun K x qual st f fd) (S : FnScope N ps (defScope st))
  (hbody : ∀ (cdv : Value) (A : Around) (outer : List Env) (s : Shared) (H : Hp) (E : XK), Room k (A.deeper (envOfC qual (defScope st) s.heap.objs.size f cdv)) -> ZSs (cxOf CX0 P w K mg base N qual (defScope st) f cdv A outer s H E).nox (defBody st) (rdS K b)) :
  FnOk P w K mg base CX0 (k + 1) f fd ps (spP K ps.length (runP N.length b)) := by
 with_unfolding_all exact Fun.okP F S hbody
end HW
namespace HW
open PySem PySem.Spec PyProof.Rows L2
theorem us0 {P : List Value -> Prop} (h : P []) : ∀ us : List Value, us.length = 0 -> P us := fun us e => by rw [List.length_eq_zero_iff.mp e]; exact h
theorem usS {P : List Value -> Prop} {n : Nat} (h : ∀ a us, us.length = n -> P (a :: us)) : ∀ us : List Value, us.length = n + 1 -> P us := fun us e => by
 cases us with
 | nil => cases e
 | cons a us => exact h a us (Nat.succ.inj e)
theorem us1 {P : List Value -> Prop} (h : ∀ a, P [a]) : ∀ us : List Value, us.length = 1 -> P us := usS fun a => us0 (P := fun us => P (a :: us)) (h a)
theorem us2 {P : List Value -> Prop} (h : ∀ a b, P [a, b]) : ∀ us : List Value, us.length = 2 -> P us := usS fun a => us1 (P := fun us => P (a :: us)) (h a)
theorem us3 {P : List Value -> Prop} (h : ∀ a b c, P [a, b, c]) : ∀ us : List Value, us.length = 3 -> P us := usS fun a => us2 (P := fun us => P (a :: us)) (h a)
theorem us4 {P : List Value -> Prop} (h : ∀ a b c d, P [a, b, c, d]) : ∀ us : List Value, us.length = 4 -> P us := usS fun a => us3 (P := fun us => P (a :: us)) (h a)
section
variable {K : PySem.W.Frag} {h : Heap} {mg : Str -> Option Value} {x : Str} {st : Stmt} {ps : List Str}
def FK (K : PySem.W.Frag) (x : Str) (st : Stmt) : Prop := ∃ f : Addr, PySem.W.nsIn K mainGlobals x = some (some (.ref f)) /\ ∃ (oc : Value) (od : Option Addr) (kV dc pm : Value) (an : Option Addr) (cd ct : Value) (sl : Array (Option Value)),
 K.lookup f = some ⟨oc, od, .func (PySem.W.fnOf x x (defArgs st) (defBody st) (defScope st) .none kV dc pm an cd ct), sl⟩ /\ PySem.W.codeIn K cd x = true /\ PySem.W.keepIn K (.ref f) = true
abbrev BindP (x : Str) (st : Stmt) (ps : List Str) : Prop := ∀ (kV doc pm : Value) (an : Option Addr) (cdv ct : Value) (us : List Value), us.length = ps.length -> bindArgs (PySem.W.fnOf x x (defArgs st) (defBody st) (defScope st) .none kV doc pm an cdv ct) ⟨us, []⟩ = pure (ps.zip us)
theorem FK.at_ (a : FK K x st) (X : K.In h) (G : h.Ns mainGlobals mg) (hb : BindP x st ps) : DefAt K mg x st ps := by
 obtain ⟨f, a, oc, od, kV, dc, pm, an, cd, ct, sl, l, c, k⟩ := a
 have F := fun_mk l c k
 exact ⟨_, _, F, F.binds hb, PySem.W.mg_of X G a⟩
def FKM (K : PySem.W.Frag) (C : Addr) (nm qual : Str) (st : Stmt) : Prop := ∃ f : Addr, PySem.W.findIn K (.ref C) nm = some (some (.ref f)) /\ PySem.W.isFn K (.ref f) = true /\ ∃ (oc : Value) (od : Option Addr) (kV dc pm : Value) (an : Option Addr) (cd ct : Value) (sl : Array (Option Value)),
 K.lookup f = some ⟨oc, od, .func (PySem.W.fnOf nm qual (defArgs st) (defBody st) (defScope st) .none kV dc pm an cd ct), sl⟩ /\ PySem.W.codeIn K cd qual = true /\ PySem.W.keepIn K (.ref f) = true
theorem FKM.at_ {C : Addr} {nm qual : Str} (a : FKM K C nm qual st) (hb : ∀ (kV doc pm : Value) (an : Option Addr) (cdv ct : Value) (us : List Value), us.length = ps.length -> bindArgs (PySem.W.fnOf nm qual (defArgs st) (defBody st) (defScope st) .none kV doc pm an cdv ct) ⟨us, []⟩ = pure (ps.zip us)) : MethAt K C nm qual st ps := by
 obtain ⟨f, a, i, oc, od, kV, dc, pm, an, cd, ct, sl, l, c, k⟩ := a
 have F := fun_mk l c k
 exact ⟨_, _, F, F.binds hb, ⟨a, i, k⟩⟩
theorem FK.law {fa : Addr} (a : FK K x st) (X : K.In h) (G : h.Ns mainGlobals mg) (e : mg x = some (.ref fa)) (hb : BindP x st ps) : ∃ fd, Fun K x x st fa fd /\ ∀ (s : Shared) (us : List Value), us.length = ps.length -> BindsTo s fd ⟨us, []⟩ (ps.zip us) := by
 obtain ⟨f, a, oc, od, kV, dc, pm, an, cd, ct, sl, l, c, k⟩ := a
 have := e.symm.trans (PySem.W.mg_of X G a)
 cases this
 exact ⟨_, fun_mk l c k, fun s us hl => .of_eq (hb _ _ _ _ _ _ us hl)⟩
end
end HW
namespace HW
open PySem L2
section
variable {ρ : Lo} {μ μ1 : Store} {x y : R} {d : D}
@[simp] theorem ev_v0 {ρ : Lo} : fVar 0 (some x :: ρ) μ = some (x, μ) := rfl
@[simp] theorem ev_vs {i : Nat} {o : Option R} {ρ : Lo} : fVar (i + 1) (o :: ρ) μ = fVar i ρ μ := by simp [fVar]
@[simp] theorem ev_k : fK d ρ μ = some (.v d, μ) := rfl
noncomputable def thOp (o : Option (R × Store)) (g : R -> R -> Store -> Option (R × Store)) (fb : FE) (ρ : Lo) : Option (R × Store) := o.bind fun a => (fb ρ a.2).bind fun b => g a.1 b.1 b.2
noncomputable def thOp2 (x : R) (o : Option (R × Store)) (g : R -> R -> Store -> Option (R × Store)) : Option (R × Store) := o.bind fun b => g x b.1 b.2
@[simp] theorem ev_op {g fa fb} : fOp g fa fb ρ μ = thOp (fa ρ μ) g fb ρ := rfl
@[simp] theorem ev_op1 {g fb} : thOp (some (x, μ)) g fb ρ = thOp2 x (fb ρ μ) g := rfl
@[simp] theorem ev_op2 {g} : thOp2 x (some (y, μ)) g = g x y μ := rfl
noncomputable def thUn (o : Option (R × Store)) (g : R -> Store -> Option (R × Store)) : Option (R × Store) := o.bind fun a => g a.1 a.2
@[simp] theorem ev_un {g fa} : fUn g fa ρ μ = thUn (fa ρ μ) g := rfl
@[simp] theorem ev_un1 {g} : thUn (some (x, μ)) g = g x μ := rfl
@[simp] theorem ev_nil : fNil ρ μ = some ([], μ) := rfl
noncomputable def thCons (o : Option (R × Store)) (fr : FA) (ρ : Lo) : Option (List R × Store) := o.bind fun a => (fr ρ a.2).bind fun r => some (a.1 :: r.1, r.2)
noncomputable def thCons2 (x : R) (o : Option (List R × Store)) : Option (List R × Store) := o.bind fun r => some (x :: r.1, r.2)
@[simp] theorem ev_cons {fa fr} : fCons fa fr ρ μ = thCons (fa ρ μ) fr ρ := rfl
@[simp] theorem ev_cons1 {fr} : thCons (some (x, μ)) fr ρ = thCons2 x (fr ρ μ) := rfl
@[simp] theorem ev_cons2 {xs} : thCons2 x (some (xs, μ)) = some (x :: xs, μ) := rfl
noncomputable def thAr (o : Option (List R × Store)) (g : List R -> Store -> Option (R × Store)) : Option (R × Store) := o.bind fun a => g a.1 a.2
@[simp] theorem ev_ar {g fa} : fAr g fa ρ μ = thAr (fa ρ μ) g := rfl
@[simp] theorem ev_ar1 {g xs} : thAr (some (xs, μ)) g = g xs μ := rfl
noncomputable def thB (o : Option (R × Store)) : Option (Bool × Store) := o.bind fun a => match a.1 with | .v (.bl b) => some (b, a.2) | _ => none
@[simp] theorem ev_B {fa} : fB fa ρ μ = thB (fa ρ μ) := rfl
@[simp] theorem ev_B1 {b} : thB (some (.v (.bl b), μ)) = some (b, μ) := rfl
noncomputable def thTru (o : Option (R × Store)) : Option (Bool × Store) := o.bind fun a => (truD a.1 a.2).bind fun b => some (b, a.2)
@[simp] theorem ev_tru {fa} : fTru fa ρ μ = thTru (fa ρ μ) := rfl
@[simp] theorem ev_tru1 {b} : thTru (some (.v (.bl b), μ)) = some (b, μ) := rfl
@[simp] theorem ev_tru2 {xs} : thTru (some (.v (.tup xs), μ)) = some (!xs.isEmpty, μ) := rfl
@[simp] theorem ev_tru3 {xs} : thTru (some (.v (.fl xs), μ)) = some (!xs.isEmpty, μ) := rfl
@[simp] theorem ev_tru4 {i} : thTru (some (.v (.int i), μ)) = some (i != 0, μ) := rfl
@[simp] theorem ev_tru5 : thTru (some (.v .non, μ)) = some (false, μ) := rfl
noncomputable def thAnd (o : Option (Bool × Store)) (u : FT) (ρ : Lo) : Option (Bool × Store) := o.bind fun c => if c.1 = true then u ρ c.2 else some (false, c.2)
noncomputable def thOr (o : Option (Bool × Store)) (u : FT) (ρ : Lo) : Option (Bool × Store) := o.bind fun c => if c.1 = true then some (true, c.2) else u ρ c.2
noncomputable def thNot (o : Option (Bool × Store)) : Option (Bool × Store) := o.bind fun c => some (!c.1, c.2)
@[simp] theorem ev_tand {t u} : tAndF t u ρ μ = thAnd (t ρ μ) u ρ := rfl
@[simp] theorem ev_tand1 {b u} : thAnd (some (b, μ)) u ρ = if b = true then u ρ μ else some (false, μ) := rfl
@[simp] theorem ev_tor {t u} : tOrF t u ρ μ = thOr (t ρ μ) u ρ := rfl
@[simp] theorem ev_tor1 {b u} : thOr (some (b, μ)) u ρ = if b = true then some (true, μ) else u ρ μ := rfl
@[simp] theorem ev_tnot {t} : tNotF t ρ μ = thNot (t ρ μ) := rfl
@[simp] theorem ev_tnot1 {b} : thNot (some (b, μ)) = some (!b, μ) := rfl
noncomputable def thAndV (o : Option (R × Store)) (fb : FE) (ρ : Lo) : Option (R × Store) := o.bind fun a => match a.1 with | .v (.bl c) => if c = true then fb ρ a.2 else some (.v (.bl false), a.2) | _ => none
noncomputable def thOrV (o : Option (R × Store)) (fb : FE) (ρ : Lo) : Option (R × Store) := o.bind fun a => match a.1 with | .v (.bl c) => if c = true then some (.v (.bl true), a.2) else fb ρ a.2 | _ => none
noncomputable def thNotV (o : Option (R × Store)) : Option (R × Store) := o.bind fun a => match a.1 with | .v (.bl c) => some (.v (.bl (!c)), a.2) | _ => none
@[simp] theorem ev_and {fa fb} : fAnd fa fb ρ μ = thAndV (fa ρ μ) fb ρ := rfl
@[simp] theorem ev_and1 {c fb} : thAndV (some (.v (.bl c), μ)) fb ρ = if c = true then fb ρ μ else some (.v (.bl false), μ) := rfl
@[simp] theorem ev_or {fa fb} : fOr fa fb ρ μ = thOrV (fa ρ μ) fb ρ := rfl
@[simp] theorem ev_or1 {c fb} : thOrV (some (.v (.bl c), μ)) fb ρ = if c = true then some (.v (.bl true), μ) else fb ρ μ := rfl
@[simp] theorem ev_not {fa} : fNot fa ρ μ = thNotV (fa ρ μ) := rfl
@[simp] theorem ev_not1 {c} : thNotV (some (.v (.bl c), μ)) = some (.v (.bl (!c)), μ) := rfl
noncomputable def thIf (o : Option (Bool × Store)) (fa fb : FE) (ρ : Lo) : Option (R × Store) := o.bind fun c => if c.1 = true then fa ρ c.2 else fb ρ c.2
@[simp] theorem ev_if {t fa fb} : fIf t fa fb ρ μ = thIf (t ρ μ) fa fb ρ := rfl
@[simp] theorem ev_if1 {c fa fb} : thIf (some (c, μ)) fa fb ρ = if c = true then fa ρ μ else fb ρ μ := rfl
@[simp] theorem ev_vals0 : vals [] = some [] := rfl
@[simp] theorem ev_vals1 {r ds} (h : vals r = some ds) : vals (.v d :: r) = some (d :: ds) := by simp [vals, h]
noncomputable def thTup (o : Option (List R × Store)) : Option (R × Store) := o.bind fun a => (vals a.1).bind fun ds => if ds.length <= sizeLine then some (.v (.tup ds), a.2) else none
noncomputable def thLst (o : Option (List R × Store)) : Option (R × Store) := o.bind fun a => (vals a.1).bind fun ds => if ds.length <= sizeLine then some (.p a.2.length, a.2 ++ [.lst ds]) else none
@[simp] theorem ev_tup {fa} : fTup fa ρ μ = thTup (fa ρ μ) := rfl
@[simp] theorem ev_tup1 {rs ds} (h : vals rs = some ds) (hl : ds.length <= sizeLine) : thTup (some (rs, μ)) = some (.v (.tup ds), μ) := by simp [thTup, h, hl]
@[simp] theorem ev_lst {fa} : fLst fa ρ μ = thLst (fa ρ μ) := rfl
@[simp] theorem ev_lst1 {rs ds} (h : vals rs = some ds) (hl : ds.length <= sizeLine) : thLst (some (rs, μ)) = some (.p μ.length, μ ++ [.lst ds]) := by simp [thLst, h, hl]
@[simp] theorem ev_dnew : fDnew ρ μ = some (.p μ.length, μ ++ [.dct []]) := rfl
noncomputable def thFz (o : Option (R × Store)) : Option (R × Store) := o.bind fun a => (fzD a.1 a.2).bind fun b => some (.v b.1, b.2)
@[simp] theorem ev_fz {fa} : fFz fa ρ μ = thFz (fa ρ μ) := rfl
@[simp] theorem ev_fz1 : thFz (some (.v d, μ)) = some (.v d, μ) := rfl
noncomputable def thCall (o : Option (List R × Store)) (f : MF) (n : Nat) : Option (R × Store) := o.bind fun a => (vals a.1).bind fun ds => if ds.length = n then (f ds).bind fun d => some (.v d, a.2) else none
@[simp] theorem ev_call {f n fa} : fCall f n fa ρ μ = thCall (fa ρ μ) f n := rfl
@[simp] theorem ev_next : sNext ρ μ = some (.nx ρ μ) := rfl
noncomputable def thS (o : Option Out) (b : FS) : Option Out := o.bind fun o => match o with | .nx ρ' μ' => b ρ' μ' | o => some o
@[simp] theorem ev_seq {a b} : sSeq a b ρ μ = thS (a ρ μ) b := rfl
@[simp] theorem ev_seq1 {b} : thS (some (.nx ρ μ)) b = b ρ μ := rfl
@[simp] theorem ev_seq2 {b} : thS (some (.rt x μ)) b = some (.rt x μ) := rfl
@[simp] theorem ev_seq3 {b} : thS (some (.bk ρ μ)) b = some (.bk ρ μ) := rfl
@[simp] theorem ev_seq4 {b} : thS (some (.ct ρ μ)) b = some (.ct ρ μ) := rfl
@[simp] theorem ev_break : sBreak ρ μ = some (.bk ρ μ) := rfl
@[simp] theorem ev_cont : sCont ρ μ = some (.ct ρ μ) := rfl
noncomputable def thDrop (o : Option (R × Store)) (ρ : Lo) : Option Out := o.bind fun a => some (.nx ρ a.2)
@[simp] theorem ev_drop {f} : sDrop f ρ μ = thDrop (f ρ μ) ρ := rfl
@[simp] theorem ev_drop1 : thDrop (some (x, μ)) ρ = some (.nx ρ μ) := rfl
noncomputable def thRet (o : Option (R × Store)) : Option Out := o.bind fun a => some (.rt a.1 a.2)
@[simp] theorem ev_ret {f} : sRet f ρ μ = thRet (f ρ μ) := rfl
@[simp] theorem ev_ret1 : thRet (some (x, μ)) = some (.rt x μ) := rfl
@[simp] theorem ev_retN : sRetN ρ μ = some (.rt (.v .non) μ) := rfl
noncomputable def thIfS (o : Option (Bool × Store)) (a b : FS) (ρ : Lo) : Option Out := o.bind fun c => if c.1 = true then a ρ c.2 else b ρ c.2
@[simp] theorem ev_ifS {t a b} : sIf t a b ρ μ = thIfS (t ρ μ) a b ρ := rfl
@[simp] theorem ev_ifT {a b} : thIfS (some (true, μ)) a b ρ = a ρ μ := rfl
@[simp] theorem ev_ifF {a b} : thIfS (some (false, μ)) a b ρ = b ρ μ := rfl
noncomputable def thSet (o : Option (R × Store)) (i : Nat) (ρ : Lo) : Option Out := o.bind fun a => some (.nx (ρ.set i (some a.1)) a.2)
@[simp] theorem ev_set {i f} : sSet i f ρ μ = thSet (f ρ μ) i ρ := rfl
@[simp] theorem ev_set1 {i} : thSet (some (x, μ)) i ρ = some (.nx (ρ.set i (some x)) μ) := rfl
noncomputable def thFor (o : Option (List D × Store)) (g : FG) (b : FS) (ρ : Lo) : Option Out := o.bind fun a => loop g b a.1 ρ a.2
@[simp] theorem ev_for {i g b} : sFor i g b ρ μ = thFor (i ρ μ) g b ρ := Eq.trans rfl rfl
@[simp] theorem ev_for1 {xs g b} : thFor (some (xs, μ)) g b ρ = loop g b xs ρ μ := Eq.trans rfl rfl
noncomputable def thSeq (o : Option (R × Store)) : Option (List D × Store) := o.bind fun a => match a.1 with | .v (.fl xs) => some (xs, a.2) | .v (.tup xs) => some (xs, a.2) | _ => none
@[simp] theorem ev_iseq {f} : fiSeq f ρ μ = thSeq (thFz (f ρ μ)) := rfl
@[simp] theorem ev_iseq1 {xs} : thSeq (some (.v (.fl xs), μ)) = some (xs, μ) := rfl
@[simp] theorem ev_iseq2 {xs} : thSeq (some (.v (.tup xs), μ)) = some (xs, μ) := rfl
noncomputable def thR1 (o : Option (R × Store)) : Option (List D × Store) := o.bind fun a => match a.1 with | .v (.int j) => if -(2 ^ 62) <= j /\ j < 2 ^ 62 then some ((List.range j.toNat).map fun i => .int (i : Nat), a.2) else none | _ => none
@[simp] theorem ev_r1 {f} : fiR1 f ρ μ = thR1 (f ρ μ) := Eq.trans rfl rfl
theorem ev_r11 {j : Int} (h : -(2 ^ 62) <= j /\ j < 2 ^ 62) : thR1 (some (.v (.int j), μ)) = some ((List.range j.toNat).map fun i => .int (i : Nat), μ) := by
 show (if -(2 ^ 62) <= j /\ j < 2 ^ 62 then _ else _) = _
 rw [if_pos h]
noncomputable def thR2 (o : Option (R × Store)) (g : FE) (ρ : Lo) : Option (List D × Store) := o.bind fun a => (g ρ a.2).bind fun b => match a.1, b.1 with
 | .v (.int i), .v (.int j) => if -(2 ^ 62) <= i /\ i < 2 ^ 62 /\ -(2 ^ 62) <= j /\ j < 2 ^ 62 then some ((List.range (j - i).toNat).map fun k => .int (i + (k : Nat)), b.2) else none | _, _ => none
noncomputable def thR22 (x : R) (o : Option (R × Store)) : Option (List D × Store) := o.bind fun b => match x, b.1 with
 | .v (.int i), .v (.int j) => if -(2 ^ 62) <= i /\ i < 2 ^ 62 /\ -(2 ^ 62) <= j /\ j < 2 ^ 62 then some ((List.range (j - i).toNat).map fun k => .int (i + (k : Nat)), b.2) else none | _, _ => none
@[simp] theorem ev_r2 {f g} : fiR2 f g ρ μ = thR2 (f ρ μ) g ρ := Eq.trans rfl rfl
@[simp] theorem ev_r21 {g} : thR2 (some (x, μ)) g ρ = thR22 x (g ρ μ) := Eq.trans rfl rfl
noncomputable def thComp (o : Option (List D × Store)) (ix : List Nat) (k : Nat) (g : FG) (c : FT) (f : FE) (ρ : Lo) : Option (R × Store) := o.bind fun a => if a.1.length <= sizeLine then
 (compL g c f a.1 (blockLo k ix ρ) a.2).bind fun r => some (.p r.2.length, r.2 ++ [.lst r.1]) else none
@[simp] theorem ev_comp {ix k i g c f} : fComp ix k i g c f ρ μ = thComp (i ρ μ) ix k g c f ρ := Eq.trans rfl rfl
@[simp] theorem ev_yes : cYes ρ μ = some (true, μ) := rfl
noncomputable def thSl (o : Option (R × Store)) (fl fh : FO) (ρ : Lo) : Option (R × Store) := o.bind fun a => (fl ρ a.2).bind fun l => (fh ρ l.2).bind fun h => slD a.1 l.1 h.1 h.2
noncomputable def thSl1 (x : R) (o : Option (Option Int × Store)) (fh : FO) (ρ : Lo) : Option (R × Store) := o.bind fun l => (fh ρ l.2).bind fun h => slD x l.1 h.1 h.2
noncomputable def thSl2 (x : R) (l : Option Int) (o : Option (Option Int × Store)) : Option (R × Store) := o.bind fun h => slD x l h.1 h.2
@[simp] theorem ev_sl {fa fl fh} : fSl fa fl fh ρ μ = thSl (fa ρ μ) fl fh ρ := rfl
@[simp] theorem ev_sl1 {fl fh} : thSl (some (x, μ)) fl fh ρ = thSl1 x (fl ρ μ) fh ρ := rfl
@[simp] theorem ev_sl2 {l fh} : thSl1 x (some (l, μ)) fh ρ = thSl2 x l (fh ρ μ) := rfl
@[simp] theorem ev_sl3 {l h} : thSl2 x l (some (h, μ)) = slD x l h μ := rfl
@[simp] theorem ev_slT {xs l h} : slD (.v (.tup xs)) l h μ = some (.v (.tup (cutD xs l h)), μ) := rfl
noncomputable def thO (o : Option (R × Store)) : Option (Option Int × Store) := o.bind fun a => match a.1 with | .v (.int i) => some (some i, a.2) | _ => none
@[simp] theorem ev_oN : oNone ρ μ = some (none, μ) := rfl
@[simp] theorem ev_oS {f} : oSome f ρ μ = thO (f ρ μ) := rfl
@[simp] theorem ev_oS1 {i} : thO (some (.v (.int i), μ)) = some (some i, μ) := rfl
noncomputable def thMt (o : Option (R × Store)) (g : R -> List R -> Store -> Option (R × Store)) (ga : FA) (ρ : Lo) : Option (R × Store) := o.bind fun a => if isLst a.1 a.2 = true then (ga ρ a.2).bind fun b => g a.1 b.1 b.2 else none
noncomputable def thMt2 (x : R) (o : Option (List R × Store)) (g : R -> List R -> Store -> Option (R × Store)) : Option (R × Store) := o.bind fun b => g x b.1 b.2
@[simp] theorem ev_mt {g fa ga} : fMt g fa ga ρ μ = thMt (fa ρ μ) g ga ρ := rfl
@[simp] theorem ev_mt2 {g xs} : thMt2 x (some (xs, μ)) g = g x xs μ := rfl
variable {i j : Int} {b c : Bool} {xs ys : List D}
@[simp] theorem ev_add : addD (.v (.int i)) (.v (.int j)) μ = some (.v (.int (i + j)), μ) := rfl
@[simp] theorem ev_sub : subD (.v (.int i)) (.v (.int j)) μ = some (.v (.int (i - j)), μ) := rfl
@[simp] theorem ev_lt : ltD (.v (.int i)) (.v (.int j)) μ = some (.v (.bl (decide (i < j))), μ) := rfl
@[simp] theorem ev_le : leD (.v (.int i)) (.v (.int j)) μ = some (.v (.bl (decide (i <= j))), μ) := rfl
@[simp] theorem ev_gt : gtD (.v (.int i)) (.v (.int j)) μ = some (.v (.bl (decide (j < i))), μ) := rfl
@[simp] theorem ev_ge : geD (.v (.int i)) (.v (.int j)) μ = some (.v (.bl (decide (j <= i))), μ) := rfl
theorem ev_mod (h : 0 < j) : modD (.v (.int i)) (.v (.int j)) μ = some (.v (.int (i % j)), μ) := by simp [modD, iOp, h]
theorem ev_div (h : 0 < j) (h2 : j < 1073741824) : divD (.v (.int i)) (.v (.int j)) μ = some (.v (.int (i / j)), μ) := by simp [divD, iOp, h, h2]
theorem ev_mulR (h : -(2 ^ 64) < j /\ j < 2 ^ 64) : mulD (.v (.int i)) (.v (.int j)) μ = some (.v (.int (i * j)), μ) := by
 show (if (decide (-(2 ^ 64) < i /\ i < 2 ^ 64) || decide (-(2 ^ 64) < j /\ j < 2 ^ 64)) = true then _ else _) = _
 rw [if_pos (by rw [Bool.or_eq_true]; exact .inr (decide_eq_true h))]
theorem ev_mulL (h : -(2 ^ 64) < i /\ i < 2 ^ 64) : mulD (.v (.int i)) (.v (.int j)) μ = some (.v (.int (i * j)), μ) := by
 show (if (decide (-(2 ^ 64) < i /\ i < 2 ^ 64) || decide (-(2 ^ 64) < j /\ j < 2 ^ 64)) = true then _ else _) = _
 rw [if_pos (by rw [Bool.or_eq_true]; exact .inl (decide_eq_true h))]
@[simp] theorem ev_neg : negD (.v (.int i)) μ = some (.v (.int (-i)), μ) := rfl
@[simp] theorem ev_eqI : eqR false (.v (.int i)) (.v (.int j)) μ = some (.v (.bl (i == j)), μ) := rfl
@[simp] theorem ev_neI : eqR true (.v (.int i)) (.v (.int j)) μ = some (.v (.bl (!(i == j))), μ) := rfl
@[simp] theorem ev_eqB : eqR false (.v (.bl b)) (.v (.bl c)) μ = some (.v (.bl (b == c)), μ) := rfl
@[simp] theorem ev_neB : eqR true (.v (.bl b)) (.v (.bl c)) μ = some (.v (.bl (!(b == c))), μ) := rfl
@[simp] theorem ev_lenT : lenD [.v (.tup xs)] μ = some (.v (.int xs.length), μ) := rfl
@[simp] theorem ev_lenF : lenD [.v (.fl xs)] μ = some (.v (.int xs.length), μ) := rfl
@[simp] theorem ev_tupT : tupD [.v (.tup xs)] μ = some (.v (.tup xs), μ) := rfl
@[simp] theorem ev_tupF : tupD [.v (.fl xs)] μ = some (.v (.tup xs), μ) := rfl
@[simp] theorem ev_listT : listD [.v (.tup xs)] μ = some (.p μ.length, μ ++ [.lst xs]) := rfl
@[simp] theorem ev_listF : listD [.v (.fl xs)] μ = some (.p μ.length, μ ++ [.lst xs]) := rfl
theorem bools_map (bs : List Bool) : boolsD (bs.map D.bl) = some bs := by induction bs <;> simp_all [boolsD]
@[simp] theorem ev_gnm {k : Nat} : gNm k x ρ μ = some (ρ.set k (some x), μ) := rfl
theorem at_int {α : Type} {xs : List α} {i : Int} {a : α} (h0 : 0 <= i) (h : xs[i.toNat]? = some a) : atI xs i = some a := by
 unfold atI ixN
 have hl := (List.getElem?_eq_some_iff.mp h).1
 rw [if_pos h0, if_pos (by omega)]
 simpa using h
noncomputable def finO (o : Option Out) : Option D := o.bind fin
@[simp] theorem ev_fin : finO (some (.rt (.v d) μ)) = some d := rfl
end
@[simp] theorem okDs_ints {n : Nat} (xs : List Int) : okDs n (xs.map D.int) = true := by
 induction xs with
 | nil => cases n <;> rfl
 | cons x xs ih => cases n <;> simpa [okDs, okD] using ih
@[simp] theorem eqDs_ints (xs ys : List Int) : eqDs (xs.map D.int) (ys.map D.int) = decide (xs = ys) := by
 induction xs generalizing ys with
 | nil => cases ys <;> simp [eqDs]
 | cons x xs ih =>
  cases ys with
  | nil => simp [eqDs]
  | cons y ys => simp [eqDs, eqD, ih ys]; rfl
noncomputable def thG (o : Option (Lo × Store)) (b : FS) : Option Out := o.bind fun a => b a.1 a.2
@[simp] theorem ev_G {ρ : Lo} {μ : Store} {b : FS} : thG (some (ρ, μ)) b = b ρ μ := rfl
theorem loop_nx {g : FG} {b : FS} (I : Nat -> Lo -> Store -> Prop) {xs : List D} {ρ : Lo} {μ : Store} (h0 : I 0 ρ μ)
  (hs : ∀ (i : Nat) x ρ μ, xs[i]? = some x -> I i ρ μ -> ∃ ρ' μ', thG (g (.v x) ρ μ) b = some (.nx ρ' μ') /\ I (i + 1) ρ' μ') :
  ∃ ρ' μ', loop g b xs ρ μ = some (.nx ρ' μ') /\ I xs.length ρ' μ' := by
 have key : ∀ (n : Nat) (ys : List D) (i : Nat) ρ μ, ys.length = n -> xs.drop i = ys -> i <= xs.length -> I i ρ μ -> ∃ ρ' μ', loop g b ys ρ μ = some (.nx ρ' μ') /\ I xs.length ρ' μ' := by
  intro n
  induction n with
  | zero =>
   intro ys i ρ μ hn hd hi h
   have : ys = [] := List.eq_nil_of_length_eq_zero hn
   subst this
   have : i = xs.length := by
    have := congrArg List.length hd
    simp at this; omega
   subst this
   exact ⟨ρ, μ, rfl, h⟩
  | succ n ih =>
   intro ys i ρ μ hn hd hi h
   cases ys with
   | nil => simp at hn
   | cons y ys =>
    have hlt : i < xs.length := by
     have := congrArg List.length hd
     simp at this; omega
    have hc := List.drop_eq_getElem_cons hlt
    rw [hd] at hc
    injection hc with h1 h2
    obtain ⟨ρ', μ', e0, h'⟩ := hs i y ρ μ (by rw [h1]; exact List.getElem?_eq_getElem hlt) h
    obtain ⟨⟨ρ1, μ1⟩, e1, e2⟩ := Option.bind_eq_some_iff.mp e0
    obtain ⟨ρ2, μ2, e3, h3⟩ := ih ys (i + 1) ρ' μ' (by simpa using hn) h2.symm hlt h'
    exact ⟨ρ2, μ2, by simp only [loop, e1, e2, Option.bind_some]; exact e3, h3⟩
 exact key xs.length xs 0 ρ μ rfl (by simp) (Nat.zero_le _) h0
end HW
namespace HW
open PySem L2
section
variable {ρ : Lo} {μ μ1 : Store} {x y : R} {d : D}
noncomputable def thCallQ (o : Option (List R × Store)) (f : MF) (n : Nat) : Option (R × Store) := o.bind fun a => (valsB a.1 a.2).bind fun ds => if ds.length = n then (f ds).bind fun d => if flatD d = true then some (.v d, a.2) else none else none
@[simp] theorem ev_callQ {f n fa} : fCallQ f n fa ρ μ = thCallQ (fa ρ μ) f n := rfl
end
end HW
namespace HW
open PySem L2
section
variable {ρ : Lo} {μ μ1 : Store} {x y : R} {d e : D} {n m : Nat} {xs ys : List D} {i j : Int} {b c : Bool}
noncomputable def cMt (o : Option Cell) (n : Nat) (g : R -> List R -> Store -> Option (R × Store)) (ga : FA) (ρ : Lo) (μ : Store) : Option (R × Store) := match o with | some (.lst _) => thMt2 (.p n) (ga ρ μ) g | some (.fz _) => thMt2 (.p n) (ga ρ μ) g | _ => none
theorem ev_mtP {g ga} : thMt (some (.p n, μ)) g ga ρ = cMt μ[n]? n g ga ρ μ := by
 cases h : μ[n]? with
 | none => simp [thMt, isLst, cMt, h]
 | some c => cases c <;> simp [thMt, isLst, cMt, thMt2, h]
theorem ev_mtC {g ga} : cMt (some (.lst xs)) n g ga ρ μ = thMt2 (.p n) (ga ρ μ) g := rfl
noncomputable def cApp (o : Option Cell) (n : Nat) (d : D) (μ : Store) : Option (R × Store) := match o with | some (.lst xs) => if xs.length < sizeLine then some (.v .non, μ.set n (.lst (xs ++ [d]))) else none | _ => none
theorem ev_appP : appD (.p n) [.v d] μ = cApp μ[n]? n d μ := rfl
theorem ev_appC : cApp (some (.lst xs)) n d μ = if xs.length < sizeLine then some (.v .non, μ.set n (.lst (xs ++ [d]))) else none := rfl
noncomputable def cClr (o : Option Cell) (n : Nat) (μ : Store) : Option (R × Store) := match o with | some (.lst _) => some (.v .non, μ.set n (.lst [])) | _ => none
theorem ev_clrP : clrD (.p n) [] μ = cClr μ[n]? n μ := rfl
theorem ev_clrC : cClr (some (.lst xs)) n μ = some (.v .non, μ.set n (.lst [])) := rfl
noncomputable def cExt (o : Option Cell) (n : Nat) (ys : List D) (μ : Store) : Option (R × Store) := match o with | some (.lst xs) => if xs.length + ys.length <= sizeLine then some (.v .non, μ.set n (.lst (xs ++ ys))) else none | _ => none
theorem ev_extP : extD (.p n) [.v (.tup ys)] μ = cExt μ[n]? n ys μ := rfl
theorem ev_extC : cExt (some (.lst xs)) n ys μ = if xs.length + ys.length <= sizeLine then some (.v .non, μ.set n (.lst (xs ++ ys))) else none := rfl
noncomputable def cIt (o : Option Cell) : Option (List D) := match o with | some (.lst xs) => some xs | some (.fz xs) => some xs | _ => none
theorem ev_itT : itemsD (.v (.tup xs)) μ = some xs := rfl
theorem ev_itF : itemsD (.v (.fl xs)) μ = some xs := rfl
theorem ev_itP : itemsD (.p n) μ = cIt μ[n]? := rfl
theorem ev_itC : cIt (some (.lst xs)) = some xs := rfl
theorem ev_itZ : cIt (some (.fz xs)) = some xs := rfl
noncomputable def thIx (o : Option (List D)) (i : Int) (μ : Store) : Option (R × Store) := o.bind fun xs => (atI xs i).bind fun d => some (.v d, μ)
noncomputable def thIx2 (o : Option D) (μ : Store) : Option (R × Store) := o.bind fun d => some (.v d, μ)
theorem ev_ix : ixD x (.v (.int i)) μ = thIx (itemsD x μ) i μ := rfl
theorem ev_ix1 : thIx (some xs) i μ = thIx2 (atI xs i) μ := rfl
theorem ev_ix2 : thIx2 (some d) μ = some (.v d, μ) := rfl
theorem ev_at0 {a : D} {l : List D} : atI (a :: l) 0 = some a := at_int (by decide) rfl
theorem ev_at1 {a b : D} {l : List D} : atI (a :: b :: l) 1 = some b := at_int (by decide) rfl
theorem ev_at2 {a b c : D} {l : List D} : atI (a :: b :: c :: l) 2 = some c := at_int (by decide) rfl
theorem ev_at3 {a b c d : D} {l : List D} : atI (a :: b :: c :: d :: l) 3 = some d := at_int (by decide) rfl
noncomputable def thLen (o : Option (List D)) (μ : Store) : Option (R × Store) := o.bind fun xs => some (.v (.int xs.length), μ)
theorem ev_len : lenD [x] μ = thLen (itemsD x μ) μ := rfl
theorem ev_len1 : thLen (some xs) μ = some (.v (.int xs.length), μ) := rfl
noncomputable def thTp (o : Option (List D)) (μ : Store) : Option (R × Store) := o.bind fun xs => some (.v (.tup xs), μ)
theorem ev_tp : tupD [x] μ = thTp (itemsD x μ) μ := rfl
theorem ev_tp1 : thTp (some xs) μ = some (.v (.tup xs), μ) := rfl
noncomputable def thLs (o : Option (List D)) (μ : Store) : Option (R × Store) := o.bind fun xs => some (.p μ.length, μ ++ [.lst xs])
theorem ev_ls : listD [x] μ = thLs (itemsD x μ) μ := rfl
theorem ev_ls1 : thLs (some xs) μ = some (.p μ.length, μ ++ [.lst xs]) := rfl
noncomputable def cVw (o : Option Cell) : Option D := match o with | some (.lst xs) => some (.fl xs) | some (.fz xs) => some (.fl xs) | _ => none
theorem ev_vwV : viewD (.v d) μ = some d := rfl
theorem ev_vwP : viewD (.p n) μ = cVw μ[n]? := rfl
theorem ev_vwC : cVw (some (.lst xs)) = some (.fl xs) := rfl
theorem ev_vwZ : cVw (some (.fz xs)) = some (.fl xs) := rfl
noncomputable def thEq (o p : Option D) (neg : Bool) (μ : Store) : Option (R × Store) := o.bind fun a => p.bind fun b => if (okD 60 a && okD 60 b) = true then some (.v (.bl (if neg then !eqD a b else eqD a b)), μ) else none
theorem ev_eqR : eqR b x y μ = thEq (viewD x μ) (viewD y μ) b μ := rfl
theorem ev_eqF : thEq (some d) (some e) false μ = if (okD 60 d && okD 60 e) = true then some (.v (.bl (eqD d e)), μ) else none := rfl
theorem ev_eqT : thEq (some d) (some e) true μ = if (okD 60 d && okD 60 e) = true then some (.v (.bl (!eqD d e)), μ) else none := rfl
theorem ok_int : okD n (.int i) = true := by cases n <;> rfl
theorem ok_bl : okD n (.bl b) = true := by cases n <;> rfl
theorem ok_non : okD n .non = true := by cases n <;> rfl
theorem eq_int : eqD (.int i) (.int j) = (i == j) := rfl
theorem eq_bl : eqD (.bl b) (.bl c) = (b == c) := rfl
noncomputable def cFin (o : Option Cell) : Option D := match o with | some (.lst xs) => some (.fl xs) | some (.fz xs) => some (.fl xs) | some (.dct kvs) => some (.fd (kvs.map (·.1)) (kvs.map (·.2))) | some (.fzd kvs) => some (.fd (kvs.map (·.1)) (kvs.map (·.2))) | _ => none
theorem ev_finPP : finO (some (.rt (.p n) μ)) = cFin μ[n]? := by
 cases h : μ[n]? with
 | none => simp [finO, fin, fzD, cFin, h]
 | some c => cases c <;> simp [finO, fin, fzD, cFin, h]
theorem ev_finC : cFin (some (.lst xs)) = some (.fl xs) := rfl
theorem ev_finZ : cFin (some (.fz xs)) = some (.fl xs) := rfl
theorem ev_finN : finO (some (.nx ρ μ)) = some .non := rfl
noncomputable def cFz (o : Option Cell) (n : Nat) (μ : Store) : Option (R × Store) := match o with | some (.lst xs) => some (.v (.fl xs), μ.set n (.fz xs)) | some (.fz xs) => some (.v (.fl xs), μ) | some (.dct kvs) => some (.v (.fd (kvs.map (·.1)) (kvs.map (·.2))), μ.set n (.fzd kvs)) | some (.fzd kvs) => some (.v (.fd (kvs.map (·.1)) (kvs.map (·.2))), μ) | _ => none
theorem ev_fzP : thFz (some (.p n, μ)) = cFz μ[n]? n μ := by
 cases h : μ[n]? with
 | none => simp [thFz, fzD, cFz, h]
 | some c => cases c <;> simp [thFz, fzD, cFz, h]
theorem ev_fzC : cFz (some (.lst xs)) n μ = some (.v (.fl xs), μ.set n (.fz xs)) := rfl
theorem ev_fzZ : cFz (some (.fz xs)) n μ = some (.v (.fl xs), μ) := rfl
noncomputable def thAs (o : Option D) (xs : List R) (μ : Store) : Option (List D) := o.bind fun d => (valsB xs μ).bind fun ds => some (d :: ds)
noncomputable def thAs2 (d : D) (o : Option (List D)) : Option (List D) := o.bind fun ds => some (d :: ds)
theorem ev_vb0 : valsB [] μ = some [] := rfl
theorem ev_vb {rs} : valsB (x :: rs) μ = thAs (asD x μ) rs μ := rfl
theorem ev_vb1 {rs} : thAs (some d) rs μ = thAs2 d (valsB rs μ) := rfl
theorem ev_vb2 {ds} : thAs2 d (some ds) = some (d :: ds) := rfl
noncomputable def cAs (o : Option Cell) : Option D := match o with | some (.lst xs) => some (.fl xs) | some (.fz xs) => some (.fl xs) | some (.dct kvs) => some (.fd (kvs.map (·.1)) (kvs.map (·.2))) | some (.fzd kvs) => some (.fd (kvs.map (·.1)) (kvs.map (·.2))) | _ => none
theorem ev_asV : asD (.v d) μ = some d := rfl
theorem ev_asP : asD (.p n) μ = cAs μ[n]? := rfl
theorem ev_asC : cAs (some (.lst xs)) = some (.fl xs) := rfl
theorem ev_asZ : cAs (some (.fz xs)) = some (.fl xs) := rfl
noncomputable def thVs (o : Option (List D)) (f : MF) (n : Nat) (μ : Store) : Option (R × Store) := o.bind fun ds => if ds.length = n then (f ds).bind fun d => some (.v d, μ) else none
noncomputable def thVr (o : Option D) (μ : Store) : Option (R × Store) := o.bind fun d => some (.v d, μ)
theorem ev_c1 {rs f n} : thCall (some (rs, μ)) f n = thVs (vals rs) f n μ := rfl
theorem ev_c2 {f : MF} {ds : List D} : thVs (some ds) f n μ = if ds.length = n then thVr (f ds) μ else none := rfl
theorem ev_c3 : thVr (some d) μ = some (.v d, μ) := rfl
noncomputable def thVc (d : D) (o : Option (List D)) : Option (List D) := o.bind fun ds => some (d :: ds)
theorem ev_vs0 : vals [] = some [] := rfl
theorem ev_vs1 {rs} : vals (.v d :: rs) = thVc d (vals rs) := by unfold thVc; cases h : vals rs <;> simp [vals, h]
theorem ev_vs2 {ds} : thVc d (some ds) = some (d :: ds) := rfl
noncomputable def thVsQ (o : Option (List D)) (f : MF) (n : Nat) (μ : Store) : Option (R × Store) := o.bind fun ds => if ds.length = n then (f ds).bind fun d => if flatD d = true then some (.v d, μ) else none else none
noncomputable def thVrQ (o : Option D) (μ : Store) : Option (R × Store) := o.bind fun d => if flatD d = true then some (.v d, μ) else none
theorem ev_q1 {rs f n} : thCallQ (some (rs, μ)) f n = thVsQ (valsB rs μ) f n μ := rfl
theorem ev_q2 {f : MF} {ds : List D} : thVsQ (some ds) f n μ = if ds.length = n then thVrQ (f ds) μ else none := rfl
theorem ev_q3 : thVrQ (some d) μ = if flatD d = true then some (.v d, μ) else none := rfl
noncomputable def thTv (o : Option (List D)) (μ : Store) : Option (R × Store) := o.bind fun ds => if ds.length <= sizeLine then some (.v (.tup ds), μ) else none
theorem ev_tv {rs} : thTup (some (rs, μ)) = thTv (vals rs) μ := rfl
theorem ev_tv1 {ds} : thTv (some ds) μ = if ds.length <= sizeLine then some (.v (.tup ds), μ) else none := rfl
noncomputable def thLv (o : Option (List D)) (μ : Store) : Option (R × Store) := o.bind fun ds => if ds.length <= sizeLine then some (.p μ.length, μ ++ [.lst ds]) else none
theorem ev_lv {rs} : thLst (some (rs, μ)) = thLv (vals rs) μ := rfl
theorem ev_lv1 {ds} : thLv (some ds) μ = if ds.length <= sizeLine then some (.p μ.length, μ ++ [.lst ds]) else none := rfl
noncomputable def thAsg (o : Option (R × Store)) (g : FG) (ρ : Lo) : Option Out := o.bind fun a => (g a.1 ρ a.2).bind fun b => some (.nx b.1 b.2)
noncomputable def thAsg2 (o : Option (Lo × Store)) : Option Out := o.bind fun b => some (.nx b.1 b.2)
theorem ev_asg {f g} : sAsg f g ρ μ = thAsg (f ρ μ) g ρ := rfl
theorem ev_asg1 {g} : thAsg (some (x, μ)) g ρ = thAsg2 (g x ρ μ) := rfl
theorem ev_asg2 : thAsg2 (some (ρ, μ)) = some (.nx ρ μ) := rfl
theorem ev_gtp {g} : gTp n g (.v (.tup xs)) ρ μ = if xs.length = n then g (xs.map .v) ρ μ else none := rfl
theorem ev_gs0 : gsNil [] ρ μ = some (ρ, μ) := rfl
noncomputable def thGs (o : Option (Lo × Store)) (r : FGs) (ds : List R) : Option (Lo × Store) := o.bind fun a => r ds a.1 a.2
theorem ev_gs {g r ds} : gsCons g r (x :: ds) ρ μ = thGs (g x ρ μ) r ds := rfl
theorem ev_gs1 {r ds} : thGs (some (ρ, μ)) r ds = r ds ρ μ := rfl
theorem ev_slF {l h} : slD (.v (.fl xs)) l h μ = some (.p μ.length, μ ++ [.lst (cutD xs l h)]) := rfl
theorem ev_addQI : addQ (.v (.int i)) (.v (.int j)) μ = some (.v (.int (i + j)), μ) := rfl
theorem ev_addQT : addQ (.v (.tup xs)) (.v (.tup ys)) μ = if xs.length + ys.length <= sizeLine then some (.v (.tup (xs ++ ys)), μ) else none := by
 cases xs with
 | nil => simp [addQ]
 | cons x xs => simp [addQ, addD]
noncomputable def cAdd (o p : Option Cell) (μ : Store) : Option (R × Store) := match o, p with | some (.lst xs), some (.lst ys) => if xs.length + ys.length <= sizeLine then some (.p μ.length, μ ++ [.lst (xs ++ ys)]) else none | _, _ => none
theorem ev_addQP : addQ (.p n) (.p m) μ = cAdd μ[n]? μ[m]? μ := rfl
theorem ev_addC : cAdd (some (.lst xs)) (some (.lst ys)) μ = if xs.length + ys.length <= sizeLine then some (.p μ.length, μ ++ [.lst (xs ++ ys)]) else none := rfl
theorem ev_intI : intD [.v (.int i)] μ = some (.v (.int i), μ) := rfl
theorem ev_intB : intD [.v (.bl b)] μ = some (.v (.int (if b then 1 else 0)), μ) := rfl
theorem ev_str : strD [.v (.int i)] μ = if i.natAbs.log2 < 1920 then some (.v (.str (toString i)), μ) else none := rfl
noncomputable def thSub (o : Option (R × Store)) (fi : FE) (dv : D) (ρ : Lo) : Option (Lo × Store) := o.bind fun o => (fi ρ o.2).bind fun i => (putC o.1 i.1 dv i.2).bind fun μ' => some (ρ, μ')
noncomputable def thSub2 (x : R) (o : Option (R × Store)) (dv : D) (ρ : Lo) : Option (Lo × Store) := o.bind fun i => (putC x i.1 dv i.2).bind fun μ' => some (ρ, μ')
noncomputable def thSub3 (o : Option Store) (ρ : Lo) : Option (Lo × Store) := o.bind fun μ' => some (ρ, μ')
theorem ev_sub1 {fo fi} : gSub fo fi (.v d) ρ μ = thSub (fo ρ μ) fi d ρ := rfl
theorem ev_sub2 {fi} : thSub (some (x, μ)) fi d ρ = thSub2 x (fi ρ μ) d ρ := rfl
theorem ev_sub3 : thSub2 x (some (y, μ)) d ρ = thSub3 (putC x y d μ) ρ := rfl
theorem ev_sub4 : thSub3 (some μ) ρ = some (ρ, μ) := rfl
noncomputable def cPut (o : Option Cell) (n : Nat) (i : R) (dv : D) (μ : Store) : Option Store := match o with
  | some (.lst xs) => (match i with | .v (.int k) => (ixN xs.length k).bind fun j => some (μ.set n (.lst (xs.set j dv))) | _ => none)
  | some (.dct kvs) => if kvs.length < sizeLine then (keyOf i).bind fun k => some (μ.set n (.dct (putKD kvs k dv))) else none
  | _ => none
theorem ev_putP : putC (.p n) x d μ = cPut μ[n]? n x d μ := rfl
noncomputable def thPut (o : Option Nat) (n : Nat) (xs : List D) (d : D) (μ : Store) : Option Store := o.bind fun j => some (μ.set n (.lst (xs.set j d)))
theorem ev_putL : cPut (some (.lst xs)) n (.v (.int i)) d μ = thPut (ixN xs.length i) n xs d μ := rfl
theorem ev_putL1 {j : Nat} : thPut (some j) n xs d μ = some (μ.set n (.lst (xs.set j d))) := rfl
noncomputable def thCo (o : Option (List D × Store)) : Option (R × Store) := o.bind fun r => some (.p r.2.length, r.2 ++ [.lst r.1])
theorem ev_compE {ix k g c f} : thComp (some (xs, μ)) ix k g c f ρ = if xs.length <= sizeLine then thCo (compL g c f xs (blockLo k ix ρ) μ) else none := Eq.trans rfl rfl
theorem ev_coE {r : List D} : thCo (some (r, μ)) = some (.p μ.length, μ ++ [.lst r]) := rfl
theorem ev_blk0 : blockLo 1 [] ρ = [none] := rfl
theorem ev_blk1 {i : Nat} : blockLo 1 [i] ρ = [none, (ρ[i]?).join] := rfl
theorem ev_blk2 {i j : Nat} : blockLo 1 [i, j] ρ = [none, (ρ[i]?).join, (ρ[j]?).join] := rfl
theorem ev_jn {x : Option R} : (some x).join = x := rfl
noncomputable def thAll (o : Option (List D)) (any : Bool) (μ : Store) : Option (R × Store) := o.bind fun xs => (boolsD xs).bind fun bs => some (.v (.bl (if any then bs.any id else bs.all id)), μ)
noncomputable def thAll2 (o : Option (List Bool)) (any : Bool) (μ : Store) : Option (R × Store) := o.bind fun bs => some (.v (.bl (if any then bs.any id else bs.all id)), μ)
theorem ev_all : allD b [x] μ = thAll (lstD x μ) b μ := rfl
theorem ev_all1 : thAll (some xs) b μ = thAll2 (boolsD xs) b μ := rfl
theorem ev_all2 {bs : List Bool} : thAll2 (some bs) false μ = some (.v (.bl (bs.all id)), μ) := rfl
theorem ev_any2 {bs : List Bool} : thAll2 (some bs) true μ = some (.v (.bl (bs.any id)), μ) := rfl
theorem ev_lstP : lstD (.p n) μ = cIt μ[n]? := rfl
theorem ev_lstF : lstD (.v (.fl xs)) μ = some xs := rfl
theorem ev_boolsE {bs : List Bool} : boolsD (bs.map D.bl) = some bs := bools_map bs
noncomputable def thCallN (o : Option (List R × Store)) (f : MC) (n : Nat) : Option (R × Store) := o.bind fun a => (valsB a.1 a.2).bind fun ds => if ds.length = n then (f ds).bind fun c => if flatC c = true then some (.p a.2.length, a.2 ++ [c]) else none else none
noncomputable def thVsN (o : Option (List D)) (f : MC) (n : Nat) (μ : Store) : Option (R × Store) := o.bind fun ds => if ds.length = n then (f ds).bind fun c => if flatC c = true then some (.p μ.length, μ ++ [c]) else none else none
noncomputable def thVrN (o : Option Cell) (μ : Store) : Option (R × Store) := o.bind fun c => if flatC c = true then some (.p μ.length, μ ++ [c]) else none
theorem ev_callN {f : MC} {fa} : fCallN f n fa ρ μ = thCallN (fa ρ μ) f n := rfl
theorem ev_n1 {f : MC} {rs} : thCallN (some (rs, μ)) f n = thVsN (valsB rs μ) f n μ := rfl
theorem ev_n2 {f : MC} {ds : List D} : thVsN (some ds) f n μ = if ds.length = n then thVrN (f ds) μ else none := rfl
theorem ev_n3 {k : Cell} : thVrN (some k) μ = if flatC k = true then some (.p μ.length, μ ++ [k]) else none := rfl
theorem ev_flC : flatC (.lst xs) = flatDs xs := rfl
noncomputable def finNO (o : Option Out) : Option Cell := o.bind finN
noncomputable def cFinN (o : Option Cell) : Option Cell := match o with | some (.lst xs) => some (.lst xs) | some (.dct kvs) => some (.dct kvs) | _ => none
theorem ev_finNP : finNO (some (.rt (.p n) μ)) = cFinN μ[n]? := by
 cases h : μ[n]? with
 | none => simp [finNO, finN, cFinN, h]
 | some c => cases c <;> simp [finNO, finN, cFinN, h]
theorem ev_finNC : cFinN (some (.lst xs)) = some (.lst xs) := rfl
noncomputable def thBest (o : Option (List D)) (lt : Int -> Int -> Bool) (μ : Store) : Option (R × Store) := o.bind fun ds => (intsD ds).bind fun ns => if ns = [] then none else some (.v (.int (bestOf lt ns)), μ)
noncomputable def thBest2 (o : Option (List Int)) (lt : Int -> Int -> Bool) (μ : Store) : Option (R × Store) := o.bind fun ns => if ns = [] then none else some (.v (.int (bestOf lt ns)), μ)
theorem ev_best {lt} : bestD lt [x] μ = thBest (lstD x μ) lt μ := rfl
theorem ev_best1 {lt} : thBest (some xs) lt μ = thBest2 (intsD xs) lt μ := rfl
theorem ev_best2 {lt} {ns : List Int} : thBest2 (some ns) lt μ = if ns = [] then none else some (.v (.int (bestOf lt ns)), μ) := rfl
theorem ev_ints {ns : List Int} : intsD (ns.map D.int) = some ns := by
 induction ns with
 | nil => rfl
 | cons n ns ih => simp [intsD, ih]
noncomputable def thSetQ (o : Option (List D)) (c : Bool) (μ : Store) : Option (R × Store) := o.bind fun ds => (intsD ds).bind fun ns => if ns.length < 4000 then some (.s c (HS.metOf [] ns), μ) else none
noncomputable def thSetQ2 (o : Option (List Int)) (c : Bool) (μ : Store) : Option (R × Store) := o.bind fun ns => if ns.length < 4000 then some (.s c (HS.metOf [] ns), μ) else none
theorem ev_setQ : setQ c [x] μ = thSetQ (itemsD x μ) c μ := rfl
theorem ev_setQ1 : thSetQ (some xs) c μ = thSetQ2 (intsD xs) c μ := rfl
theorem ev_setQ2 {ns : List Int} : thSetQ2 (some ns) c μ = if ns.length < 4000 then some (.s c (HS.metOf [] ns), μ) else none := rfl
theorem ev_sortQ {ns : List Int} : sortedQ c [.s c ns] μ = if ns.length < 64 then some (.p μ.length, μ ++ [.lst ((isort ns).map D.int)]) else none := by simp [sortedQ]
theorem ev_sortK {ns : List Int} : srtK c [.s c ns] μ = if ns.length < 64 then some (.p μ.length, μ ++ [.lst ((isort ns).map D.int)]) else none := by simp [srtK, sortedQ]
noncomputable def cSrt (o : Option Cell) (c : Bool) (n : Nat) (μ : Store) : Option (R × Store) := match o with
  | some (.dct kvs) => (intKeys (kvs.map (·.1))).bind fun ns => if ns.length < 64 then some (.p μ.length, μ ++ [.lst ((isort ns).map D.int)]) else none
  | some (.fzd kvs) => (intKeys (kvs.map (·.1))).bind fun ns => if ns.length < 64 then some (.p μ.length, μ ++ [.lst ((isort ns).map D.int)]) else none
  | _ => sortedQ c [.p n] μ
theorem ev_sortP : srtK c [.p n] μ = cSrt μ[n]? c n μ := rfl
theorem ev_sortL : cSrt (some (.lst xs)) c n μ = sortedQ c [.p n] μ := rfl
theorem ev_sortZ : cSrt (some (.fz xs)) c n μ = sortedQ c [.p n] μ := rfl
noncomputable def thSrt (o : Option (List Int)) (μ : Store) : Option (R × Store) := o.bind fun ns => if ns.length < 64 then some (.p μ.length, μ ++ [.lst ((isort ns).map D.int)]) else none
theorem ev_sortD {kvs} : cSrt (some (.dct kvs)) c n μ = thSrt (intKeys (kvs.map (·.1))) μ := rfl
theorem ev_srt {ns : List Int} : thSrt (some ns) μ = if ns.length < 64 then some (.p μ.length, μ ++ [.lst ((isort ns).map D.int)]) else none := rfl
noncomputable def thDs (o : Option (List (R × R) × Store)) (n : Nat) : Option (R × Store) := o.bind fun a => (kvsOf a.1).bind fun kvs => if kvs.length <= 15 then
 (match a.2[n]? with | some (.dct []) => some (.p n, a.2.set n (.dct (putAllD [] kvs))) | _ => none) else none
theorem ev_dsp {prs} : fDisp prs ρ μ = thDs (fPairs prs ρ (μ ++ [.dct []])) μ.length := rfl
noncomputable def thDs2 (o : Option (List (Key × D))) (n : Nat) (μ : Store) : Option (R × Store) := o.bind fun kvs => if kvs.length <= 15 then
 (match μ[n]? with | some (.dct []) => some (.p n, μ.set n (.dct (putAllD [] kvs))) | _ => none) else none
theorem ev_dsp1 {rs} : thDs (some (rs, μ)) n = thDs2 (kvsOf rs) n μ := rfl
noncomputable def cDs (o : Option Cell) (n : Nat) (kvs : List (Key × D)) (μ : Store) : Option (R × Store) := match o with | some (.dct []) => some (.p n, μ.set n (.dct (putAllD [] kvs))) | _ => none
theorem ev_dsp2 {kvs} : thDs2 (some kvs) n μ = if kvs.length <= 15 then cDs μ[n]? n kvs μ else none := rfl
theorem ev_dsp3 {kvs} : cDs (some (.dct [])) n kvs μ = some (.p n, μ.set n (.dct (putAllD [] kvs))) := rfl
theorem ev_prs0 : fPairs [] ρ μ = some ([], μ) := rfl
noncomputable def thPr (o : Option (R × Store)) (fv : FE) (r : List (FE × FE)) (ρ : Lo) : Option (List (R × R) × Store) := o.bind fun a => (fv ρ a.2).bind fun b => (fPairs r ρ b.2).bind fun c => some ((a.1, b.1) :: c.1, c.2)
noncomputable def thPr2 (x : R) (o : Option (R × Store)) (r : List (FE × FE)) (ρ : Lo) : Option (List (R × R) × Store) := o.bind fun b => (fPairs r ρ b.2).bind fun c => some ((x, b.1) :: c.1, c.2)
noncomputable def thPr3 (x y : R) (o : Option (List (R × R) × Store)) : Option (List (R × R) × Store) := o.bind fun c => some ((x, y) :: c.1, c.2)
theorem ev_prs {fk fv r} : fPairs ((fk, fv) :: r) ρ μ = thPr (fk ρ μ) fv r ρ := rfl
theorem ev_prs1 {fv r} : thPr (some (x, μ)) fv r ρ = thPr2 x (fv ρ μ) r ρ := rfl
theorem ev_prs2 {r} : thPr2 x (some (y, μ)) r ρ = thPr3 x y (fPairs r ρ μ) := rfl
theorem ev_prs3 {rs} : thPr3 x y (some (rs, μ)) = some ((x, y) :: rs, μ) := rfl
noncomputable def thPutD (o : Option Key) (kvs : List (Key × D)) (n : Nat) (d : D) (μ : Store) : Option Store := o.bind fun k => some (μ.set n (.dct (putKD kvs k d)))
theorem ev_putD {kvs} : cPut (some (.dct kvs)) n x d μ = if kvs.length < sizeLine then thPutD (keyOf x) kvs n d μ else none := rfl
theorem ev_putD1 {kvs k} : thPutD (some k) kvs n d μ = some (μ.set n (.dct (putKD kvs k d))) := rfl
theorem ev_key : keyOf (.v (.int i)) = some (.inl i) := rfl
theorem ev_setKT : setKs c [.v (.tup xs)] μ = thSetQ (some xs) c μ := rfl
theorem ev_setKF : setKs c [.v (.fl xs)] μ = thSetQ (some xs) c μ := rfl
noncomputable def cSet (o : Option Cell) (c : Bool) (n : Nat) (μ : Store) : Option (R × Store) := match o with
  | some (.dct kvs) => (intKeys (kvs.map (·.1))).bind fun ns => if ns.length < 60 then some (.s c (HS.metOf [] ns), μ) else none
  | some (.fzd kvs) => (intKeys (kvs.map (·.1))).bind fun ns => if ns.length < 60 then some (.s c (HS.metOf [] ns), μ) else none
  | _ => setQ c [.p n] μ
theorem ev_setKs : setKs c [.p n] μ = cSet μ[n]? c n μ := rfl
theorem ev_setKL : cSet (some (.lst xs)) c n μ = setQ c [.p n] μ := rfl
theorem ev_setKZ : cSet (some (.fz xs)) c n μ = setQ c [.p n] μ := rfl
noncomputable def thSk (o : Option (List Int)) (c : Bool) (μ : Store) : Option (R × Store) := o.bind fun ns => if ns.length < 60 then some (.s c (HS.metOf [] ns), μ) else none
theorem ev_setKD {kvs} : cSet (some (.dct kvs)) c n μ = thSk (intKeys (kvs.map (·.1))) c μ := rfl
theorem ev_setK1 {ns : List Int} : thSk (some ns) c μ = if ns.length < 60 then some (.s c (HS.metOf [] ns), μ) else none := rfl
theorem ev_dicT : dictQ [.v (.tup xs)] μ = (pairsD xs).bind fun ps => if ps.length <= sizeLine then some (.p μ.length, μ ++ [.dct (putAllD [] ps)]) else none := rfl
theorem ev_dicP : dictQ [.p n] μ = dictD [.p n] μ := rfl
noncomputable def thGet (o : Option (R × Store)) (fk fx : FE) (ρ : Lo) : Option (R × Store) := o.bind fun o => if (kvsD o.1 o.2).isSome = true then (fk ρ o.2).bind fun k => (fx ρ k.2).bind fun x => (kvsD o.1 x.2).bind fun kvs => (keyOf k.1).bind fun key => some ((match valD kvs key with | some d => .v d | none => x.1), x.2) else none
noncomputable def cKvs (o : Option Cell) : Option (List (Key × D)) := match o with | some (.dct kvs) => some kvs | some (.fzd kvs) => some kvs | _ => none
noncomputable def thGet1 (o : Option (List (Key × D))) (x : R) (fk fx : FE) (ρ : Lo) (μ : Store) : Option (R × Store) := if o.isSome = true then (fk ρ μ).bind fun k => (fx ρ k.2).bind fun y => (kvsD x y.2).bind fun kvs => (keyOf k.1).bind fun key => some ((match valD kvs key with | some d => .v d | none => y.1), y.2) else none
noncomputable def thGet2 (o : Option (R × Store)) (x : R) (fx : FE) (ρ : Lo) : Option (R × Store) := o.bind fun k => (fx ρ k.2).bind fun y => (kvsD x y.2).bind fun kvs => (keyOf k.1).bind fun key => some ((match valD kvs key with | some d => .v d | none => y.1), y.2)
noncomputable def thGet3 (o : Option (R × Store)) (x k : R) : Option (R × Store) := o.bind fun y => (kvsD x y.2).bind fun kvs => (keyOf k).bind fun key => some ((match valD kvs key with | some d => .v d | none => y.1), y.2)
noncomputable def thGet4 (o : Option (List (Key × D))) (k y : R) (μ : Store) : Option (R × Store) := o.bind fun kvs => (keyOf k).bind fun key => some ((match valD kvs key with | some d => .v d | none => y), μ)
noncomputable def thGet5 (o : Option D) (y : R) : R := match o with | some d => .v d | none => y
theorem ev_get {fo fk fx} : fGet fo fk fx ρ μ = thGet (fo ρ μ) fk fx ρ := rfl
theorem ev_kvsP : kvsD (.p n) μ = cKvs μ[n]? := rfl
theorem ev_kvsD {kvs} : cKvs (some (.dct kvs)) = some kvs := rfl
theorem ev_kvsZ {kvs} : cKvs (some (.fzd kvs)) = some kvs := rfl
theorem ev_get0 {fk fx} : thGet (some (x, μ)) fk fx ρ = thGet1 (kvsD x μ) x fk fx ρ μ := rfl
theorem ev_get1 {kvs fk fx} : thGet1 (some kvs) x fk fx ρ μ = thGet2 (fk ρ μ) x fx ρ := rfl
theorem ev_get2 {fx} : thGet2 (some (y, μ)) x fx ρ = thGet3 (fx ρ μ) x y := rfl
theorem ev_get3 {z} : thGet3 (some (z, μ)) x y = thGet4 (kvsD x μ) y z μ := rfl
theorem ev_get4 {kvs} : thGet4 (some kvs) (.v (.int i)) y μ = some (thGet5 (valD kvs (.inl i)) y, μ) := rfl
theorem ev_get5 : thGet5 (some d) y = .v d := rfl
theorem ev_get6 : thGet5 none y = y := rfl
noncomputable def thStep (o : Option (R × Store)) (fl fh : FO) (k : Int) (ρ : Lo) : Option (R × Store) := o.bind fun a => (fl ρ a.2).bind fun l => (fh ρ l.2).bind fun h => if k = 0 then none else (lstD a.1 h.2).bind fun xs => some (.p h.2.length, h.2 ++ [.lst (stepV xs l.1 h.1 k)])
noncomputable def thStep1 (x : R) (o : Option (Option Int × Store)) (fh : FO) (k : Int) (ρ : Lo) : Option (R × Store) := o.bind fun l => (fh ρ l.2).bind fun h => if k = 0 then none else (lstD x h.2).bind fun xs => some (.p h.2.length, h.2 ++ [.lst (stepV xs l.1 h.1 k)])
noncomputable def thStep2 (x : R) (l : Option Int) (o : Option (Option Int × Store)) (k : Int) : Option (R × Store) := o.bind fun h => if k = 0 then none else (lstD x h.2).bind fun xs => some (.p h.2.length, h.2 ++ [.lst (stepV xs l h.1 k)])
noncomputable def thStep3 (o : Option (List D)) (l h : Option Int) (k : Int) (μ : Store) : Option (R × Store) := if k = 0 then none else o.bind fun xs => some (.p μ.length, μ ++ [.lst (stepV xs l h k)])
theorem ev_step {fa fl fh} {k : Int} : fStep fa fl fh k ρ μ = thStep (fa ρ μ) fl fh k ρ := rfl
theorem ev_step1 {fl fh} {k : Int} : thStep (some (x, μ)) fl fh k ρ = thStep1 x (fl ρ μ) fh k ρ := rfl
theorem ev_step2 {fh} {l : Option Int} {k : Int} : thStep1 x (some (l, μ)) fh k ρ = thStep2 x l (fh ρ μ) k := rfl
theorem ev_step3 {l h : Option Int} {k : Int} : thStep2 x l (some (h, μ)) k = thStep3 (lstD x μ) l h k μ := rfl
theorem ev_step4 {l h : Option Int} : thStep3 (some xs) l h 2 μ = some (.p μ.length, μ ++ [.lst (stepV xs l h 2)]) := by simp [thStep3]
theorem sz2 : 2 <= sizeLine := by decide
theorem sz0 : 0 <= sizeLine := by decide
theorem sz3 : 3 <= sizeLine := by decide
theorem sz4 : 4 <= sizeLine := by decide
end
theorem ls_set0 {α : Type} {x y : α} {l : List α} : (x :: l).set 0 y = y :: l := rfl
theorem ls_sets {α : Type} {x y : α} {l : List α} {n : Nat} : (x :: l).set (n + 1) y = x :: l.set n y := rfl
theorem ls_get0 {α : Type} {x : α} {l : List α} : (x :: l)[0]? = some x := rfl
theorem ls_gets {α : Type} {x : α} {l : List α} {n : Nat} : (x :: l)[n + 1]? = l[n]? := rfl
theorem ls_len {α : Type} {x : α} {l : List α} : (x :: l).length = l.length + 1 := rfl
theorem ls_len0 {α : Type} : ([] : List α).length = 0 := rfl
theorem ls_app {α : Type} {x : α} {l r : List α} : (x :: l) ++ r = x :: (l ++ r) := rfl
theorem ls_app0 {α : Type} {r : List α} : [] ++ r = r := rfl
theorem ls_map {α β : Type} {f : α -> β} {x : α} {l : List α} : (x :: l).map f = f x :: l.map f := rfl
theorem ls_map0 {α β : Type} {f : α -> β} : ([] : List α).map f = [] := rfl
theorem ls_n1 {n : Nat} : 0 + n = n := Nat.zero_add n
theorem ls_not1 : (!true) = false := rfl
theorem ls_not0 : (!false) = true := rfl
theorem ls_if1 {α : Type} {a b : α} : (if true = true then a else b) = a := rfl
theorem ls_if0 {α : Type} {a b : α} : (if false = true then a else b) = b := rfl
section
variable {g : FG} {b : FS} {ρ : Lo} {μ : Store}
noncomputable def thLp (o : Option Out) (g : FG) (b : FS) (xs : List D) : Option Out := o.bind fun o => match o with
  | .nx ρ' μ' => loop g b xs ρ' μ'
  | .ct ρ' μ' => loop g b xs ρ' μ'
  | .bk ρ' μ' => some (.nx ρ' μ')
  | .rt d μ' => some (.rt d μ')
theorem loop_nil : loop g b [] ρ μ = some (.nx ρ μ) := rfl
theorem lp_nx {xs} : thLp (some (.nx ρ μ)) g b xs = loop g b xs ρ μ := rfl
theorem lp_ct {xs} : thLp (some (.ct ρ μ)) g b xs = loop g b xs ρ μ := rfl
theorem lp_bk {xs} : thLp (some (.bk ρ μ)) g b xs = some (.nx ρ μ) := rfl
theorem lp_rt {xs d} : thLp (some (.rt d μ)) g b xs = some (.rt d μ) := rfl
theorem loop_range (n : Nat) (I : Nat -> Lo -> Store -> Prop) (h0 : I 0 ρ μ)
  (hs : ∀ i < n, ∀ ρ μ, I i ρ μ -> ∃ ρ' μ', thG (g (.v (.int (i : Int))) ρ μ) b = some (.nx ρ' μ') /\ I (i + 1) ρ' μ') :
  ∃ ρ' μ', loop g b ((List.range n).map fun i => .int ((i : Nat) : Int)) ρ μ = some (.nx ρ' μ') /\ I n ρ' μ' := by
 obtain ⟨ρ', μ', e, h⟩ := loop_nx (g := g) (b := b) I (xs := (List.range n).map fun i => D.int ((i : Nat) : Int)) h0 fun i x ρ μ hx hI => by
  rw [List.getElem?_map] at hx
  obtain ⟨k, hk, rfl⟩ := Option.map_eq_some_iff.mp hx
  obtain ⟨hl, hk⟩ := List.getElem?_eq_some_iff.mp hk
  rw [List.getElem_range] at hk
  subst hk
  exact hs i (by simpa using hl) ρ μ hI
 exact ⟨ρ', μ', e, by simpa using h⟩
end
end HW
local macro_rules
 | `(tactic| push_cast [$xs,*] $[$loc]?) => do
  let ids : Array (Lean.TSyntax `term) := ("sz2 sz0 sz3 sz4 ls_set0 ls_sets ls_get0 ls_gets ls_len ls_len0 ls_app ls_app0 ls_map ls_map0 ls_n1 ls_not1 ls_not0 ls_if1 ls_if0 loop_nil lp_nx lp_ct lp_bk lp_rt ev_v0 ev_vs ev_k ev_op ev_op1 ev_op2 ev_un ev_un1 ev_nil ev_ar ev_ar1 ev_B ev_B1 ev_tru ev_tru1 ev_tru2 ev_tru3 ev_tru4 ev_tru5 ev_tand ev_tand1 ev_tor ev_tor1 ev_tnot ev_tnot1 ev_and ev_and1 ev_or ev_or1 ev_not ev_not1 ev_if ev_if1 ev_tup ev_lst ev_dnew ev_fz ev_fz1 ev_call ev_next ev_seq ev_seq1 ev_seq2 ev_seq3 ev_seq4 ev_break ev_drop ev_drop1 ev_ret ev_ret1 ev_retN ev_ifS ev_ifT ev_ifF ev_for ev_for1 ev_iseq ev_iseq1 ev_iseq2 ev_r1 ev_yes ev_mt ev_mt2 ev_add ev_sub ev_lt ev_le ev_gt ev_ge ev_neg ev_gnm ev_fin ev_G ev_mtP ev_mtC ev_appP ev_appC ev_itT ev_itF ev_itP ev_itC ev_itZ ev_ix ev_ix1 ev_ix2 ev_at0 ev_at1 ev_at2 ev_at3 ev_len ev_len1 ev_tp ev_tp1 ev_ls ev_ls1 ev_vwV ev_vwP ev_vwC ev_vwZ ev_eqR ev_eqF ev_eqT ok_int ok_bl ok_non eq_int eq_bl ev_finPP ev_finC ev_finZ ev_fzP ev_fzC ev_fzZ ev_vb0 ev_vb ev_vb1 ev_vb2 ev_asV ev_asP ev_asC ev_asZ ev_c1 ev_c2 ev_c3 ev_vs0 ev_vs1 ev_vs2 ev_tv ev_tv1 ev_lv ev_lv1 ev_asg ev_asg1 ev_asg2 ev_gtp ev_gs0 ev_gs ev_gs1 ev_addQI ev_addQT ev_addQP ev_addC ev_lstP ev_lstF ev_cons ev_cons1 ev_cons2 ev_cont ev_set ev_set1 ev_r2 ev_r21 ev_comp ev_sl ev_sl1 ev_sl2 ev_sl3 ev_slT ev_oN ev_oS ev_oS1 ev_callQ ev_clrP ev_clrC ev_extP ev_extC ev_finN ev_q1 ev_q2 ev_q3 ev_slF ev_intI ev_intB ev_str ev_sub1 ev_sub2 ev_sub3 ev_sub4 ev_putP ev_putL ev_putL1 ev_compE ev_coE ev_blk0 ev_blk1 ev_blk2 ev_jn ev_all ev_all1 ev_all2 ev_any2 ev_boolsE ev_callN ev_n1 ev_n2 ev_n3 ev_flC ev_finNP ev_finNC ev_best ev_best1 ev_best2 ev_ints ev_setQ ev_setQ1 ev_setQ2 ev_sortQ ev_sortK ev_sortP ev_sortL ev_sortZ ev_sortD ev_srt ev_dsp ev_dsp1 ev_dsp2 ev_dsp3 ev_prs0 ev_prs ev_prs1 ev_prs2 ev_prs3 ev_putD ev_putD1 ev_key ev_setKT ev_setKF ev_setKs ev_setKL ev_setKZ ev_setKD ev_setK1 ev_dicT ev_dicP ev_get ev_kvsP ev_kvsD ev_kvsZ ev_get0 ev_get1 ev_get2 ev_get3 ev_get4 ev_get5 ev_get6 ev_step ev_step1 ev_step2 ev_step3 ev_step4".splitOn " ").toArray.map fun n => ⟨(Lean.mkIdent (String.toName ("HW." ++ n))).raw⟩
  `(tactic| simp -implicitDefEqProofs only [$xs,*, $[$ids:term],*, Nat.reduceAdd, if_true, Bool.and_self] $[$loc]?)
namespace LW
open PySem PySem.Spec PyProof.Rows L2 HW
noncomputable def top (i : Nat) : Stmt := PySem.Challenge.pw_heldwhen_k51_fallen.main.body.getD i (.Pass ⟨0, 0, 0, 0⟩)
noncomputable section
noncomputable abbrev st_Shelf_init : Stmt := L2.inClass (top 3) 0
theorem sc_Shelf_init : FnScope ["self"] ["self"] (defScope st_Shelf_init) := ⟨rfl, rfl, rfl, by decide +kernel, rfl, by decide +kernel, by decide +kernel⟩
noncomputable abbrev st_Shelf_stroke : Stmt := L2.inClass (top 3) 1
theorem sc_Shelf_stroke : FnScope ["self", "drawer", "text"] ["self", "drawer", "text"] (defScope st_Shelf_stroke) := ⟨rfl, rfl, rfl, by decide +kernel, rfl, by decide +kernel, by decide +kernel⟩
noncomputable abbrev st_Shelf_put : Stmt := L2.inClass (top 3) 2
theorem sc_Shelf_put : FnScope ["self", "drawer", "text"] ["self", "drawer", "text"] (defScope st_Shelf_put) := ⟨rfl, rfl, rfl, by decide +kernel, rfl, by decide +kernel, by decide +kernel⟩
noncomputable abbrev st_Shelf_clear : Stmt := L2.inClass (top 3) 3
theorem sc_Shelf_clear : FnScope ["self", "drawer"] ["self", "drawer"] (defScope st_Shelf_clear) := ⟨rfl, rfl, rfl, by decide +kernel, rfl, by decide +kernel, by decide +kernel⟩
noncomputable abbrev st_Shelf_rows : Stmt := L2.inClass (top 3) 4
theorem sc_Shelf_rows : FnScope ["self", "drawer"] ["self", "drawer"] (defScope st_Shelf_rows) := ⟨rfl, rfl, rfl, by decide +kernel, rfl, by decide +kernel, by decide +kernel⟩
noncomputable abbrev st_Shelf_strokes : Stmt := L2.inClass (top 3) 5
theorem sc_Shelf_strokes : FnScope ["self"] ["self"] (defScope st_Shelf_strokes) := ⟨rfl, rfl, rfl, by decide +kernel, rfl, by decide +kernel, by decide +kernel⟩
noncomputable abbrev st_Shelf_fallen : Stmt := L2.inClass (top 3) 6
theorem sc_Shelf_fallen : FnScope ["self", "many", "signs", "drawers", "drawer", "text", "fell"] ["self", "many", "signs"] (defScope st_Shelf_fallen) := ⟨rfl, rfl, rfl, by decide +kernel, rfl, by decide +kernel, by decide +kernel⟩
noncomputable abbrev st_copy_of : Stmt := top 1
theorem sc_copy_of : FnScope ["drawers"] ["drawers"] (defScope st_copy_of) := ⟨rfl, rfl, rfl, by decide +kernel, rfl, by decide +kernel, by decide +kernel⟩
noncomputable abbrev st_do_stroke : Stmt := top 2
theorem sc_do_stroke : FnScope ["drawers", "drawer", "text"] ["drawers", "drawer", "text"] (defScope st_do_stroke) := ⟨rfl, rfl, rfl, by decide +kernel, rfl, by decide +kernel, by decide +kernel⟩
noncomputable abbrev st_law_draw : Stmt := top 5
theorem sc_law_draw : FnScope ["script", "k", "many", "cell", "number"] ["script", "k", "many"] (defScope st_law_draw) := ⟨rfl, rfl, rfl, by decide +kernel, rfl, by decide +kernel, by decide +kernel⟩
noncomputable abbrev st_law_strokes : Stmt := top 6
theorem sc_law_strokes : FnScope ["script", "base", "many", "strokes", "k", "text"] ["script", "base", "many"] (defScope st_law_strokes) := ⟨rfl, rfl, rfl, by decide +kernel, rfl, by decide +kernel, by decide +kernel⟩
noncomputable abbrev st_law_stroked : Stmt := top 7
theorem sc_law_stroked : FnScope ["shelf", "strokes", "drawer", "text"] ["shelf", "strokes"] (defScope st_law_stroked) := ⟨rfl, rfl, rfl, by decide +kernel, rfl, by decide +kernel, by decide +kernel⟩
noncomputable abbrev st_law_lying : Stmt := top 8
theorem sc_law_lying : FnScope ["began", "strokes", "many", "signs", "lying", "k", "drawer", "text"] ["began", "strokes", "many", "signs"] (defScope st_law_lying) := ⟨rfl, rfl, rfl, by decide +kernel, rfl, by decide +kernel, by decide +kernel⟩
noncomputable abbrev st_law_rows : Stmt := top 9
theorem sc_law_rows : FnScope ["shelf"] ["shelf"] (defScope st_law_rows) := ⟨rfl, rfl, rfl, by decide +kernel, rfl, by decide +kernel, by decide +kernel⟩
noncomputable abbrev st_law : Stmt := top 10
theorem sc_law : FnScope ["script", "strokes", "shelf", "rows", "pair", "many", "signs", "other", "began", "more", "due", "third"] ["script"] (defScope st_law) := ⟨rfl, rfl, rfl, by decide +kernel, rfl, by decide +kernel, by decide +kernel⟩
noncomputable abbrev b_Shelf_init : FS := (sSeq (sFldF "Shelf" "first_drawers" (fVar 0) (fLR (fCons (fLst fNil) (fCons (fLst fNil) (fCons (fLst fNil) fNil)))))
  (sSeq (sFldF "Shelf" "drawers" (fVar 0) (fLR (fCons (fLst fNil) (fCons (fLst fNil) (fCons (fLst fNil) fNil)))))
  (sFldF "Shelf" "stroke_list" (fVar 0) (fLst fNil))))
noncomputable def w_Shelf_init : MW := runW 1 b_Shelf_init
noncomputable abbrev b_Shelf_rows : FS := (sRet (fAr listD (fCons (fOp ixR (fFld "Shelf" "drawers" (fVar 0)) (fVar 1)) fNil)))
noncomputable def w_Shelf_rows : MW := runW 2 b_Shelf_rows
noncomputable abbrev b_Shelf_strokes : FS := (sRet (fAr listD (fCons (fFld "Shelf" "stroke_list" (fVar 0)) fNil)))
noncomputable def w_Shelf_strokes : MW := runW 1 b_Shelf_strokes
noncomputable abbrev b_copy_of : FS := (sRet (fCompR [] 1 (fVar 0) (gNm 0) (fAr listD (fCons (fVar 0) fNil))))
noncomputable def w_copy_of : MW := runW 1 b_copy_of
noncomputable abbrev b_do_stroke : FS := (sIf (fB (fUn (isK false .non) (fVar 2)))
  (sAsg (fLst fNil) (gSubR (fVar 0) (fVar 1)))
  (sDrop (fMt appD (fOp ixR (fVar 0) (fVar 1)) (fCons (fVar 2) fNil))))
noncomputable def w_do_stroke : MW := runW 3 b_do_stroke
noncomputable abbrev b_law_draw : FS := (sSeq (sIf (fB (fOp (eqR false) (fAr lenD (fCons (fVar 0) fNil)) (fK (.int 0))))
  (sRet (fK (.int 0)))
  sNext)
  (sSeq (sSet 3 (fOp modD (fOp ixD (fVar 0) (fOp modD (fVar 1) (fAr lenD (fCons (fVar 0) fNil)))) (fK (.int 1000000007))))
  (sSeq (sSet 4 (fOp modD (fOp mulD (fOp addQ (fVar 3) (fK (.int 5))) (fOp addQ (fK (.int 40692)) (fOp mulD (fK (.int 977)) (fVar 1)))) (fK (.int 2147483629))))
  (sSeq (sSet 4 (fOp modD (fOp mulD (fOp addQ (fVar 4) (fVar 1)) (fOp addQ (fVar 4) (fK (.int 3)))) (fK (.int 2147483647))))
  (sRet (fOp modD (fOp divD (fVar 4) (fK (.int 13))) (fVar 2)))))))
noncomputable def m_law_draw : MF := runP 5 b_law_draw
noncomputable abbrev l_law_lying_0 : FS := (sSeq (sAsg (fOp ixD (fVar 1) (fVar 5)) (gTp 2 (gsCons (gNm 6) (gsCons (gNm 7) gsNil))))
  (sSeq (sIf (tAndF (fB (fOp (eqR false) (fVar 5) (fVar 2))) (fB (fUn (isK true .non) (fVar 7))))
  (sSet 7 (fSlS (fVar 7) oNone (oSome (fVar 3))))
  sNext)
  (sSeq (sIf (tAndF (fB (fUn (isK false .non) (fVar 7))) (fB (fOp ltD (fVar 5) (fVar 2))))
  (sAsg (fLst fNil) (gSubR (fVar 4) (fVar 6)))
  sNext)
  (sIf (tAndF (fB (fUn (isK true .non) (fVar 7))) (fB (fOp (eqR true) (fVar 7) (fK (.str "")))))
  (sDrop (fMt appD (fOp ixR (fVar 4) (fVar 6)) (fCons (fVar 7) fNil)))
  sNext))))
noncomputable abbrev b_law_lying : FS := (sSeq (sSet 4 (fCompR [] 1 (fVar 0) (gNm 0) (fAr listD (fCons (fVar 0) fNil))))
  (sSeq (sFor (fiR1 (fAr minD (fCons (fOp addQ (fVar 2) (fK (.int 1))) (fCons (fAr lenD (fCons (fVar 1) fNil)) fNil)))) (gNm 5)
  l_law_lying_0)
  (sRet (fVar 4))))
noncomputable def w_law_lying : MW := runW 8 b_law_lying
noncomputable abbrev b_Shelf_stroke : FS := (sSeq (sDrop (fMt appD (fFld "Shelf" "stroke_list" (fVar 0)) (fCons (fTup (fCons (fVar 1) (fCons (fVar 2) fNil))) fNil)))
  (sDrop (fCallW w_do_stroke 3 (fCons (fFld "Shelf" "drawers" (fVar 0)) (fCons (fVar 1) (fCons (fVar 2) fNil))))))
noncomputable def w_Shelf_stroke : MW := runW 3 b_Shelf_stroke
noncomputable abbrev l_law_strokes_0 : FS := (sSeq (sSet 5 (fOp addQ (fSlS (fK (.str "tell 12 ab.")) oNone (oSome (fOp addQ (fK (.int 1)) (fCall m_law_draw 3 (fCons (fFz (fVar 0)) (fCons (fFz (fOp addQ (fVar 1) (fVar 4))) (fCons (fK (.int 11)) fNil))))))) (fAr strD (fCons (fCall m_law_draw 3 (fCons (fFz (fVar 0)) (fCons (fFz (fOp addQ (fOp addQ (fVar 1) (fK (.int 63))) (fVar 4))) (fCons (fK (.int 40)) fNil)))) fNil))))
  (sSeq (sIf (fB (fOp (eqR false) (fCall m_law_draw 3 (fCons (fFz (fVar 0)) (fCons (fFz (fOp addQ (fOp addQ (fVar 1) (fK (.int 126))) (fVar 4))) (fCons (fK (.int 7)) fNil)))) (fK (.int 0))))
  (sSet 5 (fK .non))
  sNext)
  (sDrop (fMt appD (fVar 3) (fCons (fTup (fCons (fCall m_law_draw 3 (fCons (fFz (fVar 0)) (fCons (fFz (fOp addQ (fOp addQ (fVar 1) (fK (.int 189))) (fVar 4))) (fCons (fK (.int 3)) fNil)))) (fCons (fVar 5) fNil))) fNil)))))
noncomputable abbrev b_law_strokes : FS := (sSeq (sSet 3 (fLst fNil))
  (sSeq (sFor (fiR1 (fVar 2)) (gNm 4)
  l_law_strokes_0)
  (sRet (fVar 3))))
noncomputable def w_law_strokes : MW := runW 6 b_law_strokes
noncomputable abbrev b_law_rows : FS := (sRet (fLR (fCons (fMeth "Shelf" "rows" w_Shelf_rows 2 (fVar 0) (fCons (fK (.int 0)) fNil)) (fCons (fMeth "Shelf" "rows" w_Shelf_rows 2 (fVar 0) (fCons (fK (.int 1)) fNil)) (fCons (fMeth "Shelf" "rows" w_Shelf_rows 2 (fVar 0) (fCons (fK (.int 2)) fNil)) fNil)))))
noncomputable def w_law_rows : MW := runW 1 b_law_rows
noncomputable abbrev b_Shelf_put : FS := (sDrop (fMeth "Shelf" "stroke" w_Shelf_stroke 3 (fVar 0) (fCons (fVar 1) (fCons (fVar 2) fNil))))
noncomputable def w_Shelf_put : MW := runW 3 b_Shelf_put
noncomputable abbrev b_Shelf_clear : FS := (sDrop (fMeth "Shelf" "stroke" w_Shelf_stroke 3 (fVar 0) (fCons (fVar 1) (fCons (fK .non) fNil))))
noncomputable def w_Shelf_clear : MW := runW 2 b_Shelf_clear
noncomputable abbrev l_Shelf_fallen_0 : FS := (sDrop (fCallW w_do_stroke 3 (fCons (fVar 3) (fCons (fVar 4) (fCons (fVar 5) fNil)))))
noncomputable abbrev l_Shelf_fallen_1 : FS := (sIf (tAndF (fB (fUn (isK true .non) (fVar 5))) (fB (fOp (eqR true) (fSlS (fVar 5) oNone (oSome (fVar 2))) (fK (.str "")))))
  (sDrop (fCallW w_do_stroke 3 (fCons (fVar 3) (fCons (fVar 4) (fCons (fSlS (fVar 5) oNone (oSome (fVar 2))) fNil)))))
  sNext)
noncomputable abbrev b_Shelf_fallen : FS := (sSeq (sSet 3 (fCallW w_copy_of 1 (fCons (fFld "Shelf" "first_drawers" (fVar 0)) fNil)))
  (sSeq (sForL (fSl (fFld "Shelf" "stroke_list" (fVar 0)) oNone (oSome (fVar 1))) (gTp 2 (gsCons (gNm 4) (gsCons (gNm 5) gsNil)))
  l_Shelf_fallen_0)
  (sSeq (sForL (fSl (fFld "Shelf" "stroke_list" (fVar 0)) (oSome (fVar 1)) (oSome (fOp addQ (fVar 1) (fK (.int 1))))) (gTp 2 (gsCons (gNm 4) (gsCons (gNm 5) gsNil)))
  l_Shelf_fallen_1)
  (sSeq (sSet 6 (fMake "Shelf" w_Shelf_init))
  (sSeq (sFldF "Shelf" "first_drawers" (fVar 6) (fVar 3))
  (sSeq (sFldF "Shelf" "drawers" (fVar 6) (fCallW w_copy_of 1 (fCons (fVar 3) fNil)))
  (sRet (fVar 6))))))))
noncomputable def w_Shelf_fallen : MW := runW 7 b_Shelf_fallen
noncomputable abbrev l_law_stroked_0 : FS := (sIf (fB (fUn (isK false .non) (fVar 3)))
  (sDrop (fMeth "Shelf" "clear" w_Shelf_clear 2 (fVar 0) (fCons (fVar 2) fNil)))
  (sDrop (fMeth "Shelf" "put" w_Shelf_put 3 (fVar 0) (fCons (fVar 2) (fCons (fVar 3) fNil)))))
noncomputable abbrev b_law_stroked : FS := (sForL (fVar 1) (gTp 2 (gsCons (gNm 2) (gsCons (gNm 3) gsNil)))
  l_law_stroked_0)
noncomputable def w_law_stroked : MW := runW 4 b_law_stroked
noncomputable abbrev l_law_0 : FS := (sIf (fB (fOp (eqL true) (fCallW w_law_rows 1 (fCons (fMeth "Shelf" "fallen" w_Shelf_fallen 3 (fVar 2) (fCons (fOp ixD (fVar 4) (fK (.int 0))) (fCons (fOp ixD (fVar 4) (fK (.int 1))) fNil))) fNil)) (fCallW w_law_lying 4 (fCons (fLR (fCons (fLst fNil) (fCons (fLst fNil) (fCons (fLst fNil) fNil)))) (fCons (fVar 1) (fCons (fOp ixD (fVar 4) (fK (.int 0))) (fCons (fOp ixD (fVar 4) (fK (.int 1))) fNil)))))))
  (sRet (fK (.bl false)))
  sNext)
noncomputable abbrev b_law : FS := (sSeq (sSet 1 (fCallW w_law_strokes 3 (fCons (fVar 0) (fCons (fK (.int 0)) (fCons (fAr minD (fCons (fAr lenD (fCons (fVar 0) fNil)) (fCons (fK (.int 63)) fNil))) fNil)))))
  (sSeq (sSet 2 (fMake "Shelf" w_Shelf_init))
  (sSeq (sDrop (fCallW w_law_stroked 2 (fCons (fVar 2) (fCons (fVar 1) fNil))))
  (sSeq (sSet 3 (fCallW w_law_rows 1 (fCons (fVar 2) fNil)))
  (sSeq (sForL (fLst (fCons (fTup (fCons (fK (.int 0)) (fCons (fK (.int 0)) fNil))) (fCons (fTup (fCons (fK (.int 0)) (fCons (fK (.int 3)) fNil))) (fCons (fTup (fCons (fAr lenD (fCons (fVar 1) fNil)) (fCons (fK (.int 5)) fNil))) (fCons (fTup (fCons (fCall m_law_draw 3 (fCons (fFz (fVar 0)) (fCons (fK (.int 300)) (fCons (fFz (fOp addQ (fAr lenD (fCons (fVar 1) fNil)) (fK (.int 1)))) fNil)))) (fCons (fK (.int 99)) fNil))) fNil))))) (gNm 4)
  l_law_0)
  (sSeq (sSet 5 (fCall m_law_draw 3 (fCons (fFz (fVar 0)) (fCons (fK (.int 301)) (fCons (fFz (fOp addQ (fAr lenD (fCons (fVar 1) fNil)) (fK (.int 1)))) fNil)))))
  (sSeq (sSet 6 (fCall m_law_draw 3 (fCons (fFz (fVar 0)) (fCons (fK (.int 302)) (fCons (fK (.int 14)) fNil)))))
  (sSeq (sSet 7 (fMeth "Shelf" "fallen" w_Shelf_fallen 3 (fVar 2) (fCons (fVar 5) (fCons (fVar 6) fNil))))
  (sSeq (sSet 8 (fCallW w_law_lying 4 (fCons (fLR (fCons (fLst fNil) (fCons (fLst fNil) (fCons (fLst fNil) fNil)))) (fCons (fVar 1) (fCons (fVar 5) (fCons (fVar 6) fNil))))))
  (sSeq (sIf (tOrF (fB (fOp (eqL true) (fCallW w_law_rows 1 (fCons (fVar 7) fNil)) (fVar 8))) (fB (fOp (eqR true) (fMeth "Shelf" "strokes" w_Shelf_strokes 1 (fVar 7) fNil) (fLst fNil))))
  (sRet (fK (.bl false)))
  sNext)
  (sSeq (sSet 9 (fCallW w_law_strokes 3 (fCons (fVar 0) (fCons (fK (.int 400)) (fCons (fAr minD (fCons (fAr lenD (fCons (fVar 0) fNil)) (fCons (fK (.int 12)) fNil))) fNil)))))
  (sSeq (sDrop (fCallW w_law_stroked 2 (fCons (fVar 7) (fCons (fVar 9) fNil))))
  (sSeq (sSet 10 (fCallW w_law_lying 4 (fCons (fVar 8) (fCons (fVar 9) (fCons (fAr lenD (fCons (fVar 9) fNil)) (fCons (fK (.int 0)) fNil))))))
  (sSeq (sIf (tOrF (fB (fOp (eqL true) (fCallW w_law_rows 1 (fCons (fVar 7) fNil)) (fVar 10))) (tOrF (fB (fOp (eqR true) (fMeth "Shelf" "strokes" w_Shelf_strokes 1 (fVar 7) fNil) (fVar 9))) (fB (fOp (eqL true) (fCallW w_law_rows 1 (fCons (fVar 2) fNil)) (fVar 3)))))
  (sRet (fK (.bl false)))
  sNext)
  (sSeq (sDrop (fMeth "Shelf" "put" w_Shelf_put 3 (fVar 2) (fCons (fK (.int 0)) (fCons (fK (.str "x")) fNil))))
  (sSeq (sSet 5 (fCall m_law_draw 3 (fCons (fFz (fVar 0)) (fCons (fK (.int 303)) (fCons (fFz (fOp addQ (fAr lenD (fCons (fVar 9) fNil)) (fK (.int 1)))) fNil)))))
  (sSeq (sSet 11 (fMeth "Shelf" "fallen" w_Shelf_fallen 3 (fVar 7) (fCons (fVar 5) (fCons (fVar 6) fNil))))
  (sSeq (sIf (tOrF (fB (fOp (eqL true) (fCallW w_law_rows 1 (fCons (fVar 11) fNil)) (fCallW w_law_lying 4 (fCons (fVar 8) (fCons (fVar 9) (fCons (fVar 5) (fCons (fVar 6) fNil))))))) (fB (fOp (eqR true) (fMeth "Shelf" "strokes" w_Shelf_strokes 1 (fVar 11) fNil) (fLst fNil))))
  (sRet (fK (.bl false)))
  sNext)
  (sSeq (sDrop (fMeth "Shelf" "clear" w_Shelf_clear 2 (fVar 11) (fCons (fK (.int 0)) fNil)))
  (sRet (fAnd (fOp (eqL false) (fCallW w_law_rows 1 (fCons (fVar 7) fNil)) (fVar 10)) (fOp (eqR false) (fMeth "Shelf" "strokes" w_Shelf_strokes 1 (fVar 2) fNil) (fOp addF (fVar 1) (fLst (fCons (fTup (fCons (fK (.int 0)) (fCons (fK (.str "x")) fNil))) fNil)))))))))))))))))))))))))
noncomputable def m_law : MF := runP 12 b_law
noncomputable def zs : List Str := ["list", "len", "range", "str", "min"]
def ZsL (mg : Str -> Option Value) (l : List Str) : Prop := ∀ (i : Nat) (x : Str), l[i]? = some x -> mg x = none
theorem zs_nil {mg : Str -> Option Value} : ZsL mg [] := fun i x e => by simp at e
theorem zs_cons {mg : Str -> Option Value} {x : Str} {l : List Str} (h : mg x = none) (t : ZsL mg l) : ZsL mg (x :: l) := fun i y e => by
 cases i with
 | zero => cases e; exact h
 | succ i => exact t i y e
def Zs (mg : Str -> Option Value) : Prop := ZsL mg zs
structure CF (K : PySem.W.Frag) (mg : Str -> Option Value) (C : Addr) : Prop where
 n : ClsN K mg "Shelf" C
 a_first_drawers : NoAttr K C "first_drawers"
 a_drawers : NoAttr K C "drawers"
 a_stroke_list : NoAttr K C "stroke_list"
 mks : PySem.W.makesIn K C = true
 kp : PySem.W.keepIn K (.ref C) = true
section
variable {P : Program} {w : World} {K : PySem.W.Frag} {mg : Str -> Option Value} {base : Heap} {qC : Addr} (cf : CF K mg qC)
include cf
set_option maxHeartbeats 4000000
theorem k_Shelf_init (z : Zs mg) (d : MethAt K qC "__init__" "Shelf.__init__" st_Shelf_init ["self"])  : KeptM P w K mg base 1 "__init__" qC ["self"] w_Shelf_init :=
 okM (k := 0) d sc_Shelf_init fun f cdv A outer s H E hr =>
  (s_cons (s_fld cf.n cf.a_first_drawers (q_var 0) (q_LR (q_cons (q_lst q_nil) (q_cons (q_lst q_nil) (q_cons (q_lst q_nil) q_nil)))))
  (s_cons (s_fld cf.n cf.a_drawers (q_var 0) (q_LR (q_cons (q_lst q_nil) (q_cons (q_lst q_nil) (q_cons (q_lst q_nil) q_nil)))))
  (s_one (s_fld cf.n cf.a_stroke_list (q_var 0) (q_lst q_nil)))))
theorem k_Shelf_stroke (z : Zs mg) (d : MethAt K qC "stroke" "Shelf.stroke" st_Shelf_stroke ["self", "drawer", "text"]) (h_do_stroke : KeptW P w K mg base 1 "do_stroke" ["drawers", "drawer", "text"] w_do_stroke) : KeptM P w K mg base 2 "stroke" qC ["self", "drawer", "text"] w_Shelf_stroke :=
 okM (k := 1) d sc_Shelf_stroke fun f cdv A outer s H E hr =>
  (s_cons (s_expr (q_app (q_fld cf.n cf.a_stroke_list (q_var 0)) (q_cons (q_tup (q_cons (q_var 1) (q_cons (q_var 2) q_nil))) q_nil)))
  (s_one (s_expr (q_callW h_do_stroke (hr.mono (by decide)) (q_cons (q_fld cf.n cf.a_drawers (q_var 0)) (q_cons (q_var 1) (q_cons (q_var 2) q_nil)))))))
theorem k_Shelf_put (z : Zs mg) (d : MethAt K qC "put" "Shelf.put" st_Shelf_put ["self", "drawer", "text"]) (h_Shelf_stroke : KeptM P w K mg base 2 "stroke" qC ["self", "drawer", "text"] w_Shelf_stroke) : KeptM P w K mg base 3 "put" qC ["self", "drawer", "text"] w_Shelf_put :=
 okM (k := 2) d sc_Shelf_put fun f cdv A outer s H E hr =>
  (s_one (s_expr (q_meth cf.n h_Shelf_stroke (hr.mono (by decide)) (q_var 0) (q_cons (q_var 1) (q_cons (q_var 2) q_nil)))))
theorem k_Shelf_clear (z : Zs mg) (d : MethAt K qC "clear" "Shelf.clear" st_Shelf_clear ["self", "drawer"]) (h_Shelf_stroke : KeptM P w K mg base 2 "stroke" qC ["self", "drawer", "text"] w_Shelf_stroke) : KeptM P w K mg base 3 "clear" qC ["self", "drawer"] w_Shelf_clear :=
 okM (k := 2) d sc_Shelf_clear fun f cdv A outer s H E hr =>
  (s_one (s_expr (q_meth cf.n h_Shelf_stroke (hr.mono (by decide)) (q_var 0) (q_cons (q_var 1) (q_cons q_non q_nil)))))
theorem k_Shelf_rows (z : Zs mg) (d : MethAt K qC "rows" "Shelf.rows" st_Shelf_rows ["self", "drawer"])  : KeptM P w K mg base 1 "rows" qC ["self", "drawer"] w_Shelf_rows :=
 okM (k := 0) d sc_Shelf_rows fun f cdv A outer s H E hr =>
  (s_one (s_ret (q_list rfl (z 0 _ rfl) (q_cons (q_ixR (q_fld cf.n cf.a_drawers (q_var 0)) (q_var 1)) q_nil))))
theorem k_Shelf_strokes (z : Zs mg) (d : MethAt K qC "strokes" "Shelf.strokes" st_Shelf_strokes ["self"])  : KeptM P w K mg base 1 "strokes" qC ["self"] w_Shelf_strokes :=
 okM (k := 0) d sc_Shelf_strokes fun f cdv A outer s H E hr =>
  (s_one (s_ret (q_list rfl (z 0 _ rfl) (q_cons (q_fld cf.n cf.a_stroke_list (q_var 0)) q_nil))))
theorem k_Shelf_fallen (z : Zs mg) (d : MethAt K qC "fallen" "Shelf.fallen" st_Shelf_fallen ["self", "many", "signs"]) (h_copy_of : KeptW P w K mg base 1 "copy_of" ["drawers"] w_copy_of) (h_Shelf_init : KeptM P w K mg base 1 "__init__" qC ["self"] w_Shelf_init) (h_do_stroke : KeptW P w K mg base 1 "do_stroke" ["drawers", "drawer", "text"] w_do_stroke) : KeptM P w K mg base 3 "fallen" qC ["self", "many", "signs"] w_Shelf_fallen :=
 okM (k := 2) d sc_Shelf_fallen fun f cdv A outer s H E hr =>
  (s_cons (s_set 3 sc_Shelf_fallen.nd (q_callW h_copy_of (hr.mono (by decide)) (q_cons (q_fld cf.n cf.a_first_drawers (q_var 0)) q_nil)))
  (s_cons (s_forL rfl (q_sl (q_fld cf.n cf.a_stroke_list (q_var 0)) q_oN (q_oS (q_var 1))) (g_tp rfl (gs_cons (g_nm 4 sc_Shelf_fallen.nd) (gs_cons (g_nm 5 sc_Shelf_fallen.nd) gs_nil)))
  (s_one (s_expr (q_callW h_do_stroke (hr.mono (by decide)) (q_cons (q_var 3) (q_cons (q_var 4) (q_cons (q_var 5) q_nil)))))) PassesOwn.never)
  (s_cons (s_forL rfl (q_sl (q_fld cf.n cf.a_stroke_list (q_var 0)) (q_oS (q_var 1)) (q_oS (q_addQ (q_var 1) q_int))) (g_tp rfl (gs_cons (g_nm 4 sc_Shelf_fallen.nd) (gs_cons (g_nm 5 sc_Shelf_fallen.nd) gs_nil)))
  (s_one (s_if (t_w (w_and (t_notN (q_var 5)) (w_and1 (t_ne hr.units (q_slS (q_var 5) q_oN (q_oS (q_var 2))) q_str))))
  (s_one (s_expr (q_callW h_do_stroke (hr.mono (by decide)) (q_cons (q_var 3) (q_cons (q_var 4) (q_cons (q_slS (q_var 5) q_oN (q_oS (q_var 2))) q_nil))))))
  s_nil)) PassesOwn.never)
  (s_cons (s_set 6 sc_Shelf_fallen.nd (q_make cf.n cf.mks cf.kp h_Shelf_init (hr.mono (by decide))))
  (s_cons (s_fld cf.n cf.a_first_drawers (q_var 6) (q_var 3))
  (s_cons (s_fld cf.n cf.a_drawers (q_var 6) (q_callW h_copy_of (hr.mono (by decide)) (q_cons (q_var 3) q_nil)))
  (s_one (s_ret (q_var 6)))))))))
theorem k_copy_of (z : Zs mg) (d : DefAt K mg "copy_of" st_copy_of ["drawers"])  : KeptW P w K mg base 1 "copy_of" ["drawers"] w_copy_of :=
 okW (k := 0) d sc_copy_of fun f cdv A outer s H E hr =>
  (s_one (s_ret (q_compR [] ["rows"] [] rfl (show CompNames (defScope st_copy_of) _ ["rows"] [] from ⟨rfl, by decide +kernel, by decide +kernel, by decide +kernel, by decide +kernel, by decide +kernel⟩) (q_var 0) (fun cl C s₂ H₂ fp => ⟨(g_nm 0 (show (["rows"] : List Str).Nodup by decide +kernel)), f_nil, (q_list rfl (z 0 _ rfl) (q_cons (q_var 0) q_nil))⟩))))
theorem k_do_stroke (z : Zs mg) (d : DefAt K mg "do_stroke" st_do_stroke ["drawers", "drawer", "text"])  : KeptW P w K mg base 1 "do_stroke" ["drawers", "drawer", "text"] w_do_stroke :=
 okW (k := 0) d sc_do_stroke fun f cdv A outer s H E hr =>
  (s_one (s_if (t_isN (q_var 2))
  (s_one (s_asg (q_lst q_nil) (g_sbR (q_var 0) (q_var 1))))
  (s_one (s_expr (q_app (q_ixR (q_var 0) (q_var 1)) (q_cons (q_var 2) q_nil))))))
theorem k_law_draw (z : Zs mg) (d : DefAt K mg "_law_draw" st_law_draw ["script", "k", "many"])  : Kept P w K mg base 1 "_law_draw" ["script", "k", "many"] m_law_draw :=
 okP (k := 0) d sc_law_draw fun f cdv A outer s H E hr =>
  (s_cons (s_if (t_eq hr.units (q_len rfl (z 1 _ rfl) (q_cons (q_var 0) q_nil)) q_int)
  (s_one (s_ret q_int))
  s_nil)
  (s_cons (s_set 3 sc_law_draw.nd (q_mod (q_ix (q_var 0) (q_mod (q_var 1) (q_len rfl (z 1 _ rfl) (q_cons (q_var 0) q_nil)))) q_int))
  (s_cons (s_set 4 sc_law_draw.nd (q_mod (q_mul (q_addQ (q_var 3) q_int) (q_addQ q_int (q_mul q_int (q_var 1)))) q_int))
  (s_cons (s_set 4 sc_law_draw.nd (q_mod (q_mul (q_addQ (q_var 4) (q_var 1)) (q_addQ (q_var 4) q_int)) q_int))
  (s_one (s_ret (q_mod (q_div (q_var 4) q_int) (q_var 2))))))))
theorem k_law_strokes (z : Zs mg) (d : DefAt K mg "_law_strokes" st_law_strokes ["script", "base", "many"]) (h_law_draw : Kept P w K mg base 1 "_law_draw" ["script", "k", "many"] m_law_draw) : KeptW P w K mg base 2 "_law_strokes" ["script", "base", "many"] w_law_strokes :=
 okW (k := 1) d sc_law_strokes fun f cdv A outer s H E hr =>
  (s_cons (s_set 3 sc_law_strokes.nd (q_lst q_nil))
  (s_cons (s_for rfl (i_r1 rfl (z 2 _ rfl) (q_var 2)) (g_nm 4 sc_law_strokes.nd)
  (s_cons (s_set 5 sc_law_strokes.nd (q_addQ (q_slS q_str q_oN (q_oS (q_addQ q_int (q_callK h_law_draw (hr.mono (by decide)) (q_cons (q_fz (q_var 0)) (q_cons (q_fz (q_addQ (q_var 1) (q_var 4))) (q_cons q_int q_nil))))))) (q_strc rfl (z 3 _ rfl) (q_cons (q_callK h_law_draw (hr.mono (by decide)) (q_cons (q_fz (q_var 0)) (q_cons (q_fz (q_addQ (q_addQ (q_var 1) q_int) (q_var 4))) (q_cons q_int q_nil)))) q_nil))))
  (s_cons (s_if (t_eq hr.units (q_callK h_law_draw (hr.mono (by decide)) (q_cons (q_fz (q_var 0)) (q_cons (q_fz (q_addQ (q_addQ (q_var 1) q_int) (q_var 4))) (q_cons q_int q_nil)))) q_int)
  (s_one (s_set 5 sc_law_strokes.nd q_non))
  s_nil)
  (s_one (s_expr (q_app (q_var 3) (q_cons (q_tup (q_cons (q_callK h_law_draw (hr.mono (by decide)) (q_cons (q_fz (q_var 0)) (q_cons (q_fz (q_addQ (q_addQ (q_var 1) q_int) (q_var 4))) (q_cons q_int q_nil)))) (q_cons (q_var 5) q_nil))) q_nil)))))) PassesOwn.never)
  (s_one (s_ret (q_var 3)))))
theorem k_law_stroked (z : Zs mg) (d : DefAt K mg "_law_stroked" st_law_stroked ["shelf", "strokes"]) (h_Shelf_clear : KeptM P w K mg base 3 "clear" qC ["self", "drawer"] w_Shelf_clear) (h_Shelf_put : KeptM P w K mg base 3 "put" qC ["self", "drawer", "text"] w_Shelf_put) : KeptW P w K mg base 4 "_law_stroked" ["shelf", "strokes"] w_law_stroked :=
 okW (k := 3) d sc_law_stroked fun f cdv A outer s H E hr =>
  (s_one (s_forL rfl (q_var 1) (g_tp rfl (gs_cons (g_nm 2 sc_law_stroked.nd) (gs_cons (g_nm 3 sc_law_stroked.nd) gs_nil)))
  (s_one (s_if (t_isN (q_var 3))
  (s_one (s_expr (q_meth cf.n h_Shelf_clear (hr.mono (by decide)) (q_var 0) (q_cons (q_var 2) q_nil))))
  (s_one (s_expr (q_meth cf.n h_Shelf_put (hr.mono (by decide)) (q_var 0) (q_cons (q_var 2) (q_cons (q_var 3) q_nil))))))) PassesOwn.never))
theorem k_law_lying (z : Zs mg) (d : DefAt K mg "_law_lying" st_law_lying ["began", "strokes", "many", "signs"])  : KeptW P w K mg base 1 "_law_lying" ["began", "strokes", "many", "signs"] w_law_lying :=
 okW (k := 0) d sc_law_lying fun f cdv A outer s H E hr =>
  (s_cons (s_compR 4 [] ["rows"] [] rfl (show CompNames (defScope st_law_lying) _ ["rows"] [] from ⟨rfl, by decide +kernel, by decide +kernel, by decide +kernel, by decide +kernel, by decide +kernel⟩) sc_law_lying.nd (q_var 0) (fun cl C s₂ H₂ fp => ⟨(g_nm 0 (show (["rows"] : List Str).Nodup by decide +kernel)), f_nil, (q_list rfl (z 0 _ rfl) (q_cons (q_var 0) q_nil))⟩))
  (s_cons (s_for rfl (i_r1 rfl (z 2 _ rfl) (q_min rfl rfl (z 4 _ rfl) (q_cons (q_addQ (q_var 2) q_int) (q_cons (q_len rfl (z 1 _ rfl) (q_cons (q_var 1) q_nil)) q_nil)))) (g_nm 5 sc_law_lying.nd)
  (s_cons (s_asg (q_ix (q_var 1) (q_var 5)) (g_tp rfl (gs_cons (g_nm 6 sc_law_lying.nd) (gs_cons (g_nm 7 sc_law_lying.nd) gs_nil))))
  (s_cons (s_if (t_w (w_and (t_eq hr.units (q_var 5) (q_var 2)) (w_and1 (t_notN (q_var 7)))))
  (s_one (s_set 7 sc_law_lying.nd (q_slS (q_var 7) q_oN (q_oS (q_var 3)))))
  s_nil)
  (s_cons (s_if (t_w (w_and (t_isN (q_var 7)) (w_and1 (t_lt (q_var 5) (q_var 2)))))
  (s_one (s_asg (q_lst q_nil) (g_sbR (q_var 4) (q_var 6))))
  s_nil)
  (s_one (s_if (t_w (w_and (t_notN (q_var 7)) (w_and1 (t_ne hr.units (q_var 7) q_str))))
  (s_one (s_expr (q_app (q_ixR (q_var 4) (q_var 6)) (q_cons (q_var 7) q_nil))))
  s_nil))))) PassesOwn.never)
  (s_one (s_ret (q_var 4)))))
theorem k_law_rows (z : Zs mg) (d : DefAt K mg "_law_rows" st_law_rows ["shelf"]) (h_Shelf_rows : KeptM P w K mg base 1 "rows" qC ["self", "drawer"] w_Shelf_rows) : KeptW P w K mg base 2 "_law_rows" ["shelf"] w_law_rows :=
 okW (k := 1) d sc_law_rows fun f cdv A outer s H E hr =>
  (s_one (s_ret (q_LR (q_cons (q_meth cf.n h_Shelf_rows (hr.mono (by decide)) (q_var 0) (q_cons q_int q_nil)) (q_cons (q_meth cf.n h_Shelf_rows (hr.mono (by decide)) (q_var 0) (q_cons q_int q_nil)) (q_cons (q_meth cf.n h_Shelf_rows (hr.mono (by decide)) (q_var 0) (q_cons q_int q_nil)) q_nil))))))
theorem k_law {f : Addr} {fd : FuncData} (z : Zs mg) (F : Fun K "law" "law" st_law f fd) (h_law_strokes : KeptW P w K mg base 2 "_law_strokes" ["script", "base", "many"] w_law_strokes) (h_Shelf_init : KeptM P w K mg base 1 "__init__" qC ["self"] w_Shelf_init) (h_law_stroked : KeptW P w K mg base 4 "_law_stroked" ["shelf", "strokes"] w_law_stroked) (h_law_rows : KeptW P w K mg base 2 "_law_rows" ["shelf"] w_law_rows) (h_law_draw : Kept P w K mg base 1 "_law_draw" ["script", "k", "many"] m_law_draw) (h_Shelf_fallen : KeptM P w K mg base 3 "fallen" qC ["self", "many", "signs"] w_Shelf_fallen) (h_law_lying : KeptW P w K mg base 1 "_law_lying" ["began", "strokes", "many", "signs"] w_law_lying) (h_Shelf_put : KeptM P w K mg base 3 "put" qC ["self", "drawer", "text"] w_Shelf_put) (h_Shelf_clear : KeptM P w K mg base 3 "clear" qC ["self", "drawer"] w_Shelf_clear) (h_Shelf_strokes : KeptM P w K mg base 1 "strokes" qC ["self"] w_Shelf_strokes) : FnOk P w K mg base CX0 5 f fd ["script"] (spP K 1 m_law) :=
 funOkP (k := 4) F sc_law fun cdv A outer s H E hr =>
  (s_cons (s_set 1 sc_law.nd (q_callW h_law_strokes (hr.mono (by decide)) (q_cons (q_var 0) (q_cons q_int (q_cons (q_min rfl rfl (z 4 _ rfl) (q_cons (q_len rfl (z 1 _ rfl) (q_cons (q_var 0) q_nil)) (q_cons q_int q_nil))) q_nil)))))
  (s_cons (s_set 2 sc_law.nd (q_make cf.n cf.mks cf.kp h_Shelf_init (hr.mono (by decide))))
  (s_cons (s_expr (q_callW h_law_stroked (hr.mono (by decide)) (q_cons (q_var 2) (q_cons (q_var 1) q_nil))))
  (s_cons (s_set 3 sc_law.nd (q_callW h_law_rows (hr.mono (by decide)) (q_cons (q_var 2) q_nil)))
  (s_cons (s_forL rfl (q_lst (q_cons (q_tup (q_cons q_int (q_cons q_int q_nil))) (q_cons (q_tup (q_cons q_int (q_cons q_int q_nil))) (q_cons (q_tup (q_cons (q_len rfl (z 1 _ rfl) (q_cons (q_var 1) q_nil)) (q_cons q_int q_nil))) (q_cons (q_tup (q_cons (q_callK h_law_draw (hr.mono (by decide)) (q_cons (q_fz (q_var 0)) (q_cons q_int (q_cons (q_fz (q_addQ (q_len rfl (z 1 _ rfl) (q_cons (q_var 1) q_nil)) q_int)) q_nil)))) (q_cons q_int q_nil))) q_nil))))) (g_nm 4 sc_law.nd)
  (s_one (s_if (t_neL hr.units (q_callW h_law_rows (hr.mono (by decide)) (q_cons (q_meth cf.n h_Shelf_fallen (hr.mono (by decide)) (q_var 2) (q_cons (q_ix (q_var 4) q_int) (q_cons (q_ix (q_var 4) q_int) q_nil))) q_nil)) (q_callW h_law_lying (hr.mono (by decide)) (q_cons (q_LR (q_cons (q_lst q_nil) (q_cons (q_lst q_nil) (q_cons (q_lst q_nil) q_nil)))) (q_cons (q_var 1) (q_cons (q_ix (q_var 4) q_int) (q_cons (q_ix (q_var 4) q_int) q_nil))))))
  (s_one (s_ret q_bl))
  s_nil)) PassesOwn.never)
  (s_cons (s_set 5 sc_law.nd (q_callK h_law_draw (hr.mono (by decide)) (q_cons (q_fz (q_var 0)) (q_cons q_int (q_cons (q_fz (q_addQ (q_len rfl (z 1 _ rfl) (q_cons (q_var 1) q_nil)) q_int)) q_nil)))))
  (s_cons (s_set 6 sc_law.nd (q_callK h_law_draw (hr.mono (by decide)) (q_cons (q_fz (q_var 0)) (q_cons q_int (q_cons q_int q_nil)))))
  (s_cons (s_set 7 sc_law.nd (q_meth cf.n h_Shelf_fallen (hr.mono (by decide)) (q_var 2) (q_cons (q_var 5) (q_cons (q_var 6) q_nil))))
  (s_cons (s_set 8 sc_law.nd (q_callW h_law_lying (hr.mono (by decide)) (q_cons (q_LR (q_cons (q_lst q_nil) (q_cons (q_lst q_nil) (q_cons (q_lst q_nil) q_nil)))) (q_cons (q_var 1) (q_cons (q_var 5) (q_cons (q_var 6) q_nil))))))
  (s_cons (s_if (t_w (w_or (t_neL hr.units (q_callW h_law_rows (hr.mono (by decide)) (q_cons (q_var 7) q_nil)) (q_var 8)) (w_or1 (t_ne hr.units (q_meth0 cf.n h_Shelf_strokes (hr.mono (by decide)) (q_var 7)) (q_lst q_nil)))))
  (s_one (s_ret q_bl))
  s_nil)
  (s_cons (s_set 9 sc_law.nd (q_callW h_law_strokes (hr.mono (by decide)) (q_cons (q_var 0) (q_cons q_int (q_cons (q_min rfl rfl (z 4 _ rfl) (q_cons (q_len rfl (z 1 _ rfl) (q_cons (q_var 0) q_nil)) (q_cons q_int q_nil))) q_nil)))))
  (s_cons (s_expr (q_callW h_law_stroked (hr.mono (by decide)) (q_cons (q_var 7) (q_cons (q_var 9) q_nil))))
  (s_cons (s_set 10 sc_law.nd (q_callW h_law_lying (hr.mono (by decide)) (q_cons (q_var 8) (q_cons (q_var 9) (q_cons (q_len rfl (z 1 _ rfl) (q_cons (q_var 9) q_nil)) (q_cons q_int q_nil))))))
  (s_cons (s_if (t_w (w_or (t_neL hr.units (q_callW h_law_rows (hr.mono (by decide)) (q_cons (q_var 7) q_nil)) (q_var 10)) (w_or (t_ne hr.units (q_meth0 cf.n h_Shelf_strokes (hr.mono (by decide)) (q_var 7)) (q_var 9)) (w_or1 (t_neL hr.units (q_callW h_law_rows (hr.mono (by decide)) (q_cons (q_var 2) q_nil)) (q_var 3))))))
  (s_one (s_ret q_bl))
  s_nil)
  (s_cons (s_expr (q_meth cf.n h_Shelf_put (hr.mono (by decide)) (q_var 2) (q_cons q_int (q_cons q_str q_nil))))
  (s_cons (s_set 5 sc_law.nd (q_callK h_law_draw (hr.mono (by decide)) (q_cons (q_fz (q_var 0)) (q_cons q_int (q_cons (q_fz (q_addQ (q_len rfl (z 1 _ rfl) (q_cons (q_var 9) q_nil)) q_int)) q_nil)))))
  (s_cons (s_set 11 sc_law.nd (q_meth cf.n h_Shelf_fallen (hr.mono (by decide)) (q_var 7) (q_cons (q_var 5) (q_cons (q_var 6) q_nil))))
  (s_cons (s_if (t_w (w_or (t_neL hr.units (q_callW h_law_rows (hr.mono (by decide)) (q_cons (q_var 11) q_nil)) (q_callW h_law_lying (hr.mono (by decide)) (q_cons (q_var 8) (q_cons (q_var 9) (q_cons (q_var 5) (q_cons (q_var 6) q_nil)))))) (w_or1 (t_ne hr.units (q_meth0 cf.n h_Shelf_strokes (hr.mono (by decide)) (q_var 11)) (q_lst q_nil)))))
  (s_one (s_ret q_bl))
  s_nil)
  (s_cons (s_expr (q_meth cf.n h_Shelf_clear (hr.mono (by decide)) (q_var 11) (q_cons q_int q_nil)))
  (s_one (s_ret (q_and (q_eqL hr.units (q_callW h_law_rows (hr.mono (by decide)) (q_cons (q_var 7) q_nil)) (q_var 10)) (q_one (q_eq hr.units (q_meth0 cf.n h_Shelf_strokes (hr.mono (by decide)) (q_var 2)) (q_addF (q_var 1) (q_lst (q_cons (q_tup (q_cons q_int (q_cons q_str q_nil))) q_nil)))))))))))))))))))))))))))
end
set_option maxHeartbeats 4000000 in
theorem all_mk {l : PySem.W.OpenLaw} {w : World} {K : PySem.W.Frag} {h : Heap} {mg : Str -> Option Value} {fa qC : Addr} (X : K.In h) (G : h.Ns mainGlobals mg) (hfa : mg "law" = some (.ref fa))
  (aC : PySem.W.nsIn K mainGlobals "Shelf" = some (some (.ref qC))) (pg : PySem.W.plainGet K qC Str.empty = true) (hd : PySem.W.hasDictIn K qC = true) (po : PySem.W.plainOver K qC = true) (sa : PySem.W.findIn K (.ref qC) "__setattr__" = some (some (.builtin "object.__setattr__"))) (mk : PySem.W.makesIn K qC = true) (kc : PySem.W.keepIn K (.ref qC) = true)
  (n_first_drawers : PySem.W.findIn K (.ref qC) "first_drawers" = some none)
  (n_drawers : PySem.W.findIn K (.ref qC) "drawers" = some none)
  (n_stroke_list : PySem.W.findIn K (.ref qC) "stroke_list" = some none)
  (a0 : FKM K qC "__init__" "Shelf.__init__" st_Shelf_init)
  (a1 : FKM K qC "stroke" "Shelf.stroke" st_Shelf_stroke)
  (a2 : FKM K qC "put" "Shelf.put" st_Shelf_put)
  (a3 : FKM K qC "clear" "Shelf.clear" st_Shelf_clear)
  (a4 : FKM K qC "rows" "Shelf.rows" st_Shelf_rows)
  (a5 : FKM K qC "strokes" "Shelf.strokes" st_Shelf_strokes)
  (a6 : FKM K qC "fallen" "Shelf.fallen" st_Shelf_fallen)
  (a7 : FK K "copy_of" st_copy_of)
  (a8 : FK K "do_stroke" st_do_stroke)
  (a9 : FK K "_law_draw" st_law_draw)
  (a10 : FK K "_law_strokes" st_law_strokes)
  (a11 : FK K "_law_stroked" st_law_stroked)
  (a12 : FK K "_law_lying" st_law_lying)
  (a13 : FK K "_law_rows" st_law_rows)
  (a14 : FK K "law" st_law)
  (z0 : PySem.W.nsIn K mainGlobals "list" = some none) (z1 : PySem.W.nsIn K mainGlobals "len" = some none) (z2 : PySem.W.nsIn K mainGlobals "range" = some none) (z3 : PySem.W.nsIn K mainGlobals "str" = some none) (z4 : PySem.W.nsIn K mainGlobals "min" = some none) :
  ∃ fd : FuncData, (∀ (s : Shared) (v : Value), BindsTo s fd ⟨[v], []⟩ [("script", v)]) /\ ∀ base : Heap, K.In base -> base.Ns mainGlobals mg -> FnOk l.prog w K mg base CX0 5 fa fd ["script"] (spP K 1 m_law) := by
 have z : Zs mg := (zs_cons (PySem.W.mg_none_of X G z0) (zs_cons (PySem.W.mg_none_of X G z1) (zs_cons (PySem.W.mg_none_of X G z2) (zs_cons (PySem.W.mg_none_of X G z3) (zs_cons (PySem.W.mg_none_of X G z4) zs_nil)))))
 have cf : CF K mg qC := ⟨⟨aC, PySem.W.mg_of X G aC, ⟨pg, hd, po, sa⟩⟩, n_first_drawers, n_drawers, n_stroke_list, mk, kc⟩
 have d_Shelf_init := a0.at_ (ps := ["self"]) (fun _ _ _ _ _ _ => us1 fun _ => rfl)
 have d_Shelf_stroke := a1.at_ (ps := ["self", "drawer", "text"]) (fun _ _ _ _ _ _ => us3 fun _ _ _ => rfl)
 have d_Shelf_put := a2.at_ (ps := ["self", "drawer", "text"]) (fun _ _ _ _ _ _ => us3 fun _ _ _ => rfl)
 have d_Shelf_clear := a3.at_ (ps := ["self", "drawer"]) (fun _ _ _ _ _ _ => us2 fun _ _ => rfl)
 have d_Shelf_rows := a4.at_ (ps := ["self", "drawer"]) (fun _ _ _ _ _ _ => us2 fun _ _ => rfl)
 have d_Shelf_strokes := a5.at_ (ps := ["self"]) (fun _ _ _ _ _ _ => us1 fun _ => rfl)
 have d_Shelf_fallen := a6.at_ (ps := ["self", "many", "signs"]) (fun _ _ _ _ _ _ => us3 fun _ _ _ => rfl)
 have d_copy_of := a7.at_ (ps := ["drawers"]) X G (fun _ _ _ _ _ _ => us1 fun _ => rfl)
 have d_do_stroke := a8.at_ (ps := ["drawers", "drawer", "text"]) X G (fun _ _ _ _ _ _ => us3 fun _ _ _ => rfl)
 have d_law_draw := a9.at_ (ps := ["script", "k", "many"]) X G (fun _ _ _ _ _ _ => us3 fun _ _ _ => rfl)
 have d_law_strokes := a10.at_ (ps := ["script", "base", "many"]) X G (fun _ _ _ _ _ _ => us3 fun _ _ _ => rfl)
 have d_law_stroked := a11.at_ (ps := ["shelf", "strokes"]) X G (fun _ _ _ _ _ _ => us2 fun _ _ => rfl)
 have d_law_lying := a12.at_ (ps := ["began", "strokes", "many", "signs"]) X G (fun _ _ _ _ _ _ => us4 fun _ _ _ _ => rfl)
 have d_law_rows := a13.at_ (ps := ["shelf"]) X G (fun _ _ _ _ _ _ => us1 fun _ => rfl)
 obtain ⟨fdL, FL, bL⟩ := a14.law (ps := ["script"]) X G hfa (fun _ _ _ _ _ _ => us1 fun _ => rfl)
 refine ⟨fdL, fun s v => bL s [v] rfl, fun base _ _ => ?_⟩
 have h_Shelf_init := k_Shelf_init (P := l.prog) (w := w) (base := base) cf z d_Shelf_init
 have h_Shelf_rows := k_Shelf_rows (P := l.prog) (w := w) (base := base) cf z d_Shelf_rows
 have h_Shelf_strokes := k_Shelf_strokes (P := l.prog) (w := w) (base := base) cf z d_Shelf_strokes
 have h_copy_of := k_copy_of (P := l.prog) (w := w) (base := base) cf z d_copy_of
 have h_do_stroke := k_do_stroke (P := l.prog) (w := w) (base := base) cf z d_do_stroke
 have h_law_draw := k_law_draw (P := l.prog) (w := w) (base := base) cf z d_law_draw
 have h_law_lying := k_law_lying (P := l.prog) (w := w) (base := base) cf z d_law_lying
 have h_Shelf_stroke := k_Shelf_stroke (P := l.prog) (w := w) (base := base) cf z d_Shelf_stroke h_do_stroke
 have h_law_strokes := k_law_strokes (P := l.prog) (w := w) (base := base) cf z d_law_strokes h_law_draw
 have h_law_rows := k_law_rows (P := l.prog) (w := w) (base := base) cf z d_law_rows h_Shelf_rows
 have h_Shelf_put := k_Shelf_put (P := l.prog) (w := w) (base := base) cf z d_Shelf_put h_Shelf_stroke
 have h_Shelf_clear := k_Shelf_clear (P := l.prog) (w := w) (base := base) cf z d_Shelf_clear h_Shelf_stroke
 have h_Shelf_fallen := k_Shelf_fallen (P := l.prog) (w := w) (base := base) cf z d_Shelf_fallen h_copy_of h_Shelf_init h_do_stroke
 have h_law_stroked := k_law_stroked (P := l.prog) (w := w) (base := base) cf z d_law_stroked h_Shelf_clear h_Shelf_put
 exact k_law (P := l.prog) (w := w) (base := base) cf z FL h_law_strokes h_Shelf_init h_law_stroked h_law_rows h_law_draw h_Shelf_fallen h_law_lying h_Shelf_put h_Shelf_clear h_Shelf_strokes
end
end LW
namespace LW
open PySem HW
theorem u_Shelf_init (a0 : R) (μ : Store) : w_Shelf_init [a0] μ = (b_Shelf_init [some a0] μ).bind finW := rfl
theorem u_Shelf_stroke (a0 a1 a2 : R) (μ : Store) : w_Shelf_stroke [a0, a1, a2] μ = (b_Shelf_stroke [some a0, some a1, some a2] μ).bind finW := rfl
theorem u_Shelf_put (a0 a1 a2 : R) (μ : Store) : w_Shelf_put [a0, a1, a2] μ = (b_Shelf_put [some a0, some a1, some a2] μ).bind finW := rfl
theorem u_Shelf_clear (a0 a1 : R) (μ : Store) : w_Shelf_clear [a0, a1] μ = (b_Shelf_clear [some a0, some a1] μ).bind finW := rfl
theorem u_Shelf_rows (a0 a1 : R) (μ : Store) : w_Shelf_rows [a0, a1] μ = (b_Shelf_rows [some a0, some a1] μ).bind finW := rfl
theorem u_Shelf_strokes (a0 : R) (μ : Store) : w_Shelf_strokes [a0] μ = (b_Shelf_strokes [some a0] μ).bind finW := rfl
theorem u_Shelf_fallen (a0 a1 a2 : R) (μ : Store) : w_Shelf_fallen [a0, a1, a2] μ = (b_Shelf_fallen [some a0, some a1, some a2, none, none, none, none] μ).bind finW := rfl
theorem u_copy_of (a0 : R) (μ : Store) : w_copy_of [a0] μ = (b_copy_of [some a0] μ).bind finW := rfl
theorem u_do_stroke (a0 a1 a2 : R) (μ : Store) : w_do_stroke [a0, a1, a2] μ = (b_do_stroke [some a0, some a1, some a2] μ).bind finW := rfl
theorem u_law_draw (a0 a1 a2 : D) : m_law_draw [a0, a1, a2] = finO (b_law_draw [some (.v a0), some (.v a1), some (.v a2), none, none] []) := rfl
theorem u_law_strokes (a0 a1 a2 : R) (μ : Store) : w_law_strokes [a0, a1, a2] μ = (b_law_strokes [some a0, some a1, some a2, none, none, none] μ).bind finW := rfl
theorem u_law_stroked (a0 a1 : R) (μ : Store) : w_law_stroked [a0, a1] μ = (b_law_stroked [some a0, some a1, none, none] μ).bind finW := rfl
theorem u_law_lying (a0 a1 a2 a3 : R) (μ : Store) : w_law_lying [a0, a1, a2, a3] μ = (b_law_lying [some a0, some a1, some a2, some a3, none, none, none, none] μ).bind finW := rfl
theorem u_law_rows (a0 : R) (μ : Store) : w_law_rows [a0] μ = (b_law_rows [some a0] μ).bind finW := rfl
theorem u_law (a0 : D) : m_law [a0] = finO (b_law [some (.v a0), none, none, none, none, none, none, none, none, none, none, none] []) := rfl
end LW
namespace LW
open PySem HW
structure Go (T : Nat -> Prop) (f : Nat -> Nat) (μ : Store) (f' : Nat -> Nat) (μ' : Store) : Prop where
 le : μ.length <= μ'.length
 ag : ∀ i, i < μ.length -> f' i = f i
 same : ∀ i, i < μ.length -> ¬ T (f i) -> μ'[i]? = μ[i]?
section
variable {T T' : Nat -> Prop} {f f' f1 f2 : Nat -> Nat} {μ μ' μ1 μ2 : Store} {n t u i : Nat} {c : Cell}
theorem Go.refl : Go T f μ f μ := ⟨Nat.le_refl _, fun _ _ => rfl, fun _ _ _ => rfl⟩
theorem Go.trans (a : Go T f μ f1 μ1) (b : Go T f1 μ1 f2 μ2) : Go T f μ f2 μ2 :=
 ⟨Nat.le_trans a.le b.le, fun i h => (b.ag i (Nat.lt_of_lt_of_le h a.le)).trans (a.ag i h), fun i h t => (b.same i (Nat.lt_of_lt_of_le h a.le) (by rw [a.ag i h]; exact t)).trans (a.same i h t)⟩
theorem Go.mono (h : ∀ t, T t -> T' t) (a : Go T f μ f1 μ1) : Go T' f μ f1 μ1 := ⟨a.le, a.ag, fun i hi t => a.same i hi fun z => t (h _ z)⟩
noncomputable def ext (f : Nat -> Nat) (n t : Nat) : Nat -> Nat := fun i => if i < n then f i else t
theorem ext_lt (h : i < n) : ext f n t i = f i := if_pos h
theorem ext_ge (h : n <= i) : ext f n t i = t := if_neg (by omega)
theorem Go.new (t : Nat) (c : Cell) : Go T f μ (ext f μ.length t) (μ ++ [c]) := ⟨by simp, fun i h => ext_lt h, fun i h _ => List.getElem?_append_left h⟩
theorem Go.set (h : T (f n)) : Go T f μ f (μ.set n c) := ⟨by simp, fun _ _ => rfl, fun i _ t => List.getElem?_set_ne (fun (z : n = i) => t (by rw [← z]; exact h))⟩
def Own (f : Nat -> Nat) (μ : Store) (t n : Nat) (c : Cell) : Prop := f n = t /\ μ[n]? = some c
theorem Own.lt (h : Own f μ t n c) : n < μ.length := (List.getElem?_eq_some_iff.mp h.2).1
theorem Own.go (h : Own f μ u n c) (hu : ¬ T u) (g : Go T f μ f' μ') : Own f' μ' u n c :=
 ⟨(g.ag n h.lt).trans h.1, (g.same n h.lt (by rw [h.1]; exact hu)).trans h.2⟩
theorem own_new (t : Nat) (c : Cell) : Own (ext f μ.length t) (μ ++ [c]) t μ.length c := ⟨ext_ge (Nat.le_refl _), by simp⟩
def LL (f : Nat -> Nat) (μ : Store) (t n : Nat) (xss : List (List D)) : Prop := f n = t /\ ∃ bs : List Nat, μ[n]? = some (.lr (bs.map .p)) /\ bs.Nodup /\ bs.length = xss.length /\
 ∀ (i : Nat) b xs, bs[i]? = some b -> xss[i]? = some xs -> Own f μ t b (.lst xs)
theorem LL.go {xss} (h : LL f μ u n xss) (hu : ¬ T u) (g : Go T f μ f' μ') : LL f' μ' u n xss := by
 obtain ⟨h1, bs, h2, h3, h4, h5⟩ := h
 obtain ⟨q1, q2⟩ := Own.go ⟨h1, h2⟩ hu g
 exact ⟨q1, bs, q2, h3, h4, fun i b xs e1 e2 => (h5 i b xs e1 e2).go hu g⟩
theorem set_at {l : List (List D)} {j : Nat} {ys zs : List D} (h : (l.set i ys)[j]? = some zs) : (j = i /\ zs = ys) \/ (j ≠ i /\ l[j]? = some zs) := by
 by_cases e : j = i
 ·subst e
  have : j < l.length := by
   have := (List.getElem?_eq_some_iff.mp h).1
   simpa using this
  rw [List.getElem?_set_self this] at h
  cases h
  exact .inl ⟨rfl, rfl⟩
 ·rw [List.getElem?_set_ne (Ne.symm e)] at h
  exact .inr ⟨e, h⟩
theorem nd_at {bs : List Nat} (h : bs.Nodup) {i j b : Nat} (h1 : bs[i]? = some b) (h2 : bs[j]? = some b) : i = j := by
 obtain ⟨p1, q1⟩ := List.getElem?_eq_some_iff.mp h1
 obtain ⟨p2, q2⟩ := List.getElem?_eq_some_iff.mp h2
 exact (List.getElem_inj h).mp (q1.trans q2.symm)
theorem LL.one {xss} {xs} (h : LL f μ u n xss) (hx : xss[i]? = some xs) : ∃ (bs : List Nat) (b : Nat), μ[n]? = some (.lr (bs.map .p)) /\ bs[i]? = some b /\ Own f μ u b (.lst xs) /\ ∀ ys, LL f (μ.set b (.lst ys)) u n (xss.set i ys) := by
 obtain ⟨h1, bs, h2, h3, h4, h5⟩ := h
 have hi : i < bs.length := by rw [h4]; exact (List.getElem?_eq_some_iff.mp hx).1
 have hb : bs[i]? = some bs[i] := List.getElem?_eq_getElem hi
 have ow := h5 i _ xs hb hx
 have hne : n ≠ bs[i] := fun z => by
  have := ow.2
  rw [← z, h2] at this; cases this
 refine ⟨bs, bs[i], h2, hb, ow, fun ys => ⟨h1, bs, by rw [List.getElem?_set_ne (Ne.symm hne)]; exact h2, h3, by simp [h4], fun j b zs e1 e2 => ?_⟩⟩
 rcases set_at e2 with ⟨rfl, rfl⟩ | ⟨hj, e2⟩
 ·rw [hb] at e1; cases e1
  exact ⟨ow.1, by rw [List.getElem?_set_self ow.lt]⟩
 ·have o2 := h5 j b zs e1 e2
  refine ⟨o2.1, ?_⟩
  rw [List.getElem?_set_ne]
  ·exact o2.2
  ·rintro rfl
   exact hj (nd_at h3 e1 hb)
theorem LL.put {xss} (h : LL f μ u n xss) (hi : i < xss.length) : ∃ bs : List Nat, μ[n]? = some (.lr (bs.map .p)) /\ bs.length = xss.length /\ LL (ext f μ.length u) ((μ ++ [Cell.lst []]).set n (Cell.lr ((bs.map R.p).set i (R.p μ.length)))) u n (xss.set i []) := by
 obtain ⟨h1, bs, h2, h3, h4, h5⟩ := h
 have hn : n < μ.length := (List.getElem?_eq_some_iff.mp h2).1
 have old : ∀ b ∈ bs, b < μ.length := fun b hb => by
  obtain ⟨j, hj, e⟩ := List.getElem_of_mem hb
  have e1 : bs[j]? = some b := by rw [← e]; exact List.getElem?_eq_getElem hj
  have hj' : j < xss.length := by omega
  exact (h5 j b xss[j] e1 (List.getElem?_eq_getElem hj')).lt
 refine ⟨bs, h2, h4, (ext_lt hn).trans h1, bs.set i μ.length, ?_, ?_, by simp [h4], fun j b zs e1 e2 => ?_⟩
 ·rw [List.getElem?_set_self (by simp; omega), List.map_set]
 ·have hnd : ∀ (l : List Nat) (i : Nat), l.Nodup -> (∀ b ∈ l, b < μ.length) -> (l.set i μ.length).Nodup := by
   intro l
   induction l with
   | nil => intro i _ _; simp
   | cons a l ih =>
    intro i hd ho
    rw [List.nodup_cons] at hd
    cases i with
    | zero =>
     rw [List.set_cons_zero, List.nodup_cons]
     exact ⟨fun z => Nat.lt_irrefl _ (ho _ (List.mem_cons_of_mem _ z)), hd.2⟩
    | succ i =>
     rw [List.set_cons_succ, List.nodup_cons]
     refine ⟨fun z => ?_, ih i hd.2 fun b hb => ho b (List.mem_cons_of_mem _ hb)⟩
     rcases List.mem_or_eq_of_mem_set z with z | z
     ·exact hd.1 z
     ·exact absurd (ho a List.mem_cons_self) (by omega)
  exact hnd bs i h3 old
 ·have hnn : ∀ b, b < μ.length -> (∃ xs, μ[b]? = some (.lst xs)) -> b ≠ n := fun b _ ⟨xs, q⟩ z => by rw [z, h2] at q; cases q
  rcases set_at e2 with ⟨rfl, rfl⟩ | ⟨hj, e2⟩
  ·rw [List.getElem?_set_self (by omega)] at e1
   cases e1
   refine ⟨ext_ge (Nat.le_refl _), ?_⟩
   rw [List.getElem?_set_ne (by omega)]; simp
  ·rw [List.getElem?_set_ne (Ne.symm hj)] at e1
   have o2 := h5 j b zs e1 e2
   refine ⟨(ext_lt o2.lt).trans o2.1, ?_⟩
   rw [List.getElem?_set_ne (Ne.symm (hnn b o2.lt ⟨_, o2.2⟩)), List.getElem?_append_left o2.lt]
   exact o2.2
theorem LL.new3 (t : Nat) : LL (ext f μ.length t) (μ ++ [Cell.lst [], Cell.lst [], Cell.lst [], Cell.lr [R.p μ.length, R.p (μ.length + 1), R.p (μ.length + 2)]]) t (μ.length + 3) [[], [], []] := by
 refine ⟨ext_ge (by omega), [μ.length, μ.length + 1, μ.length + 2], by simp, by simp, rfl, fun i b xs e1 e2 => ?_⟩
 match i with
 | 0 => simp at e1 e2; subst e1 e2; exact ⟨ext_ge (by omega), by simp⟩
 | 1 => simp at e1 e2; subst e1 e2; exact ⟨ext_ge (by omega), by simp⟩
 | 2 => simp at e1 e2; subst e1 e2; exact ⟨ext_ge (by omega), by simp⟩
 | i + 3 => simp at e1
theorem Go.news (t : Nat) (cs : List Cell) : Go T f μ (ext f μ.length t) (μ ++ cs) := ⟨by simp, fun i h => ext_lt h, fun i h _ => List.getElem?_append_left h⟩
end
section
variable {ρ : Lo} {μ μ1 μ2 : Store} {fa fb fo : FE} {ga : FA} {n : Nat} {x : R} {d : D} {i : Nat} {xs : List D}
theorem ixN_nat {n i : Nat} (h : i < n) : L2.ixN n (i : Int) = some i := by
 unfold L2.ixN
 rw [if_pos (by omega), if_pos (by omega)]; simp
theorem e_ixR {bs : List Nat} {b : Nat} (ha : fa ρ μ = some (.p n, μ1)) (hb : fb ρ μ1 = some (.v (.int (i : Int)), μ2)) (h : μ2[n]? = some (.lr (bs.map .p))) (hi : bs[i]? = some b) : fOp ixR fa fb ρ μ = some (.p b, μ2) := by
 have : L2.atI (bs.map R.p) (i : Int) = some (.p b) := L2.atI_nat (by rw [List.getElem?_map, hi]; rfl)
 simp [fOp, ha, hb, ixR, lrOf, h, this]
theorem e_list (ha : fa ρ μ = some (.p n, μ1)) (h : μ1[n]? = some (.lst xs)) : fAr listD (fCons fa fNil) ρ μ = some (.p μ1.length, μ1 ++ [.lst xs]) := by
 simp [fAr, fCons, fNil, ha, listD, itemsD, h]
theorem e_app (ha : fa ρ μ = some (.p n, μ1)) (hb : fb ρ μ1 = some (.v d, μ1)) (h : μ1[n]? = some (.lst xs)) (hl : xs.length < sizeLine) : sDrop (fMt appD fa (fCons fb fNil)) ρ μ = some (.nx ρ (μ1.set n (.lst (xs ++ [d])))) := by
 simp [sDrop, fMt, ha, isLst, h, fCons, fNil, hb, appD, hl]
theorem e_put {bs : List Nat} (ha : fa ρ (μ ++ [.lst []]) = some (.p n, μ ++ [.lst []])) (hb : fb ρ (μ ++ [.lst []]) = some (.v (.int (i : Int)), μ ++ [.lst []])) (h : μ[n]? = some (.lr (bs.map .p))) (hi : i < bs.length) :
  sAsg (fLst fNil) (gSubR fa fb) ρ μ = some (.nx ρ ((μ ++ [Cell.lst []]).set n (Cell.lr ((bs.map R.p).set i (R.p μ.length))))) := by
 have hn : n < μ.length := (List.getElem?_eq_some_iff.mp h).1
 have h2 : (μ ++ [Cell.lst []])[n]? = some (.lr (bs.map .p)) := by rw [List.getElem?_append_left hn]; exact h
 have z : (0 : Nat) <= sizeLine := Nat.zero_le _
 simp [sAsg, fLst, fNil, vals, z, gSubR, ha, hb, putR, lrOf, h2, ixN_nat (n := bs.length) hi]
theorem sq {a b : FS} {ρ1 : Lo} {o : Option Out} (ha : a ρ μ = some (.nx ρ1 μ1)) (hb : b ρ1 μ1 = o) : sSeq a b ρ μ = o := by simp [sSeq, ha, hb]
end
noncomputable def strk (d : D) (xss : List (List D)) (i : Nat) : List (List D) := match d with | .non => xss.set i [] | d => xss.set i ((xss[i]?.getD []) ++ [d])
def TxD (d : D) : Prop := d = .non \/ ∃ x, d = .str x
theorem strk_len {d xss i} : (strk d xss i).length = xss.length := by unfold strk; split <;> simp
theorem do_ev {f : Nat -> Nat} {μ : Store} {u n i : Nat} {xss : List (List D)} {d : D} (h : LL f μ u n xss) (hi : i < xss.length) (hd : TxD d) (hl : ∀ xs ∈ xss, xs.length < sizeLine) :
  ∃ f' μ', w_do_stroke [.p n, .v (.int (i : Int)), .v d] μ = some (.v .non, μ') /\ LL f' μ' u n (strk d xss i) /\ Go (fun t => t = u) f μ f' μ' := by
 rw [u_do_stroke]
 rcases hd with rfl | ⟨x, rfl⟩
 ·obtain ⟨bs, h1, h2, h3⟩ := h.put hi
  refine ⟨_, _, ?_, h3, (Go.new u _).trans (Go.set ?_)⟩
  ·have : b_do_stroke [some (.p n), some (.v (.int (i : Int))), some (.v .non)] μ = sAsg (fLst fNil) (gSubR (fVar 0) (fVar 1)) [some (.p n), some (.v (.int (i : Int))), some (.v .non)] μ := rfl
   rw [this, e_put rfl rfl h1 (by omega)]; rfl
  ·rw [ext_lt (List.getElem?_eq_some_iff.mp h1).1]; exact h.1
 ·have hx : xss[i]? = some xss[i] := List.getElem?_eq_getElem hi
  obtain ⟨bs, b, h1, h2, h3, h4⟩ := h.one hx
  refine ⟨f, μ.set b (.lst (xss[i] ++ [.str x])), ?_, ?_, Go.set h3.1⟩
  ·have : b_do_stroke [some (.p n), some (.v (.int (i : Int))), some (.v (.str x))] μ = sDrop (fMt appD (fOp ixR (fVar 0) (fVar 1)) (fCons (fVar 2) fNil)) [some (.p n), some (.v (.int (i : Int))), some (.v (.str x))] μ := rfl
   rw [this, e_app (e_ixR rfl rfl h1 h2) rfl h3.2 (hl _ (List.getElem_mem hi))]; rfl
  ·have : strk (.str x) xss i = xss.set i (xss[i] ++ [.str x]) := by unfold strk; rw [hx]; rfl
   rw [this]; exact h4 _
noncomputable def sf (a b c : Nat) : List (Str × R) := [("first_drawers", .p a), ("drawers", .p b), ("stroke_list", .p c)]
section
variable {a b c : Nat}
theorem st12 : (("drawers" : Str) == "first_drawers") = false := by decide +kernel
theorem st13 : (("stroke_list" : Str) == "first_drawers") = false := by decide +kernel
theorem st23 : (("stroke_list" : Str) == "drawers") = false := by decide +kernel
theorem lk1 : List.lookup ("first_drawers" : Str) (sf a b c) = some (R.p a) := by simp [sf, List.lookup_cons]
theorem lk2 : List.lookup ("drawers" : Str) (sf a b c) = some (R.p b) := by simp [sf, List.lookup_cons, st12]
theorem lk3 : List.lookup ("stroke_list" : Str) (sf a b c) = some (R.p c) := by simp [sf, List.lookup_cons, st13, st23]
theorem lk0 {m : Str} (h1 : (m == "first_drawers") = false) (h2 : (m == "drawers") = false) (h3 : (m == "stroke_list") = false) : (sf a b c).lookup m = none := by simp [sf, List.lookup_cons, h1, h2, h3]
end
def SH (f : Nat -> Nat) (μ : Store) (t s : Nat) (fst rows : List (List D)) (sts : List D) : Prop := ∃ n1 n2 n3, Own f μ t s (.ob "Shelf" (sf n1 n2 n3)) /\ LL f μ (t + 1) n1 fst /\ LL f μ (t + 2) n2 rows /\ Own f μ (t + 3) n3 (.lst sts)
section
variable {T : Nat -> Prop} {f f' : Nat -> Nat} {μ μ' μ1 : Store} {t s i : Nat} {fst rows : List (List D)} {sts xs : List D} {ρ : Lo} {fo : FE} {fa : FA} {d : D}
theorem SH.go (h : SH f μ t s fst rows sts) (hT : ∀ j, j <= 3 -> ¬ T (t + j)) (g : Go T f μ f' μ') : SH f' μ' t s fst rows sts := by
 obtain ⟨n1, n2, n3, h1, h2, h3, h4⟩ := h
 exact ⟨n1, n2, n3, h1.go (hT 0 (by omega)) g, h2.go (hT 1 (by omega)) g, h3.go (hT 2 (by omega)) g, h4.go (hT 3 (by omega)) g⟩
theorem e_fld {c fl : Str} {fs : List (Str × R)} {r : R} (ho : fo ρ μ = some (.p s, μ)) (h : μ[s]? = some (.ob c fs)) (hf : fs.lookup fl = some r) : fFld c fl fo ρ μ = some (r, μ) := by
 simp [fFld, ho, obOf, h, hf]
theorem e_meth {nm : Str} {w : MW} {n : Nat} {rs : List R} (h : SH f μ1 t s fst rows sts) (hn : ∀ a b c, (sf a b c).lookup nm = none) (ho : fo ρ μ = some (.p s, μ1)) (ha : fa ρ μ1 = some (rs, μ1)) (hl : rs.length + 1 = n) : fMeth "Shelf" nm w n fo fa ρ μ = w (.p s :: rs) μ1 := by
 obtain ⟨n1, n2, n3, h1, _⟩ := h
 simp [fMeth, ho, obOf, h1.2, hn, ha, hl]
theorem rows_ev (h : SH f μ t s fst rows sts) (hi : rows[i]? = some xs) : w_Shelf_rows [.p s, .v (.int (i : Int))] μ = some (.p μ.length, μ ++ [.lst xs]) := by
 obtain ⟨n1, n2, n3, h1, h2, h3, h4⟩ := h
 obtain ⟨bs, b, q1, q2, q3, _⟩ := h3.one hi
 rw [u_Shelf_rows]
 have := e_list (e_ixR (ρ := [some (.p s), some (.v (.int (i : Int)))]) (fb := fVar 1) (e_fld (fo := fVar 0) rfl h1.2 lk2) rfl q1 q2) q3.2
 simp only [b_Shelf_rows, sRet, this]
 rfl
theorem strokes_ev (h : SH f μ t s fst rows sts) : w_Shelf_strokes [.p s] μ = some (.p μ.length, μ ++ [.lst sts]) := by
 obtain ⟨n1, n2, n3, h1, h2, h3, h4⟩ := h
 rw [u_Shelf_strokes]
 have := e_list (e_fld (ρ := [some (.p s)]) (fo := fVar 0) rfl h1.2 lk3) h4.2
 simp only [b_Shelf_strokes, sRet, this]
 rfl
theorem stroke_ev (h : SH f μ t s fst rows sts) (hi : i < rows.length) (hd : TxD d) (hs : sts.length < sizeLine) (hl : ∀ xs ∈ rows, xs.length < sizeLine) :
  ∃ f' μ', w_Shelf_stroke [.p s, .v (.int (i : Int)), .v d] μ = some (.v .non, μ') /\ SH f' μ' t s fst (strk d rows i) (sts ++ [.tup [.int i, d]]) /\ Go (fun u => u = t + 2 \/ u = t + 3) f μ f' μ' := by
 obtain ⟨n1, n2, n3, h1, h2, h3, h4⟩ := h
 have g1 : Go (fun u => u = t + 3) f μ f (μ.set n3 (.lst (sts ++ [.tup [.int i, d]]))) := Go.set h4.1
 have h1' := h1.go (by omega) g1
 have h2' := h2.go (by omega) g1
 have h3' := h3.go (by omega) g1
 obtain ⟨f', μ', e, q, g2⟩ := do_ev h3' hi hd hl
 refine ⟨f', μ', ?_, ⟨n1, n2, n3, h1'.go (by omega) g2, h2'.go (by omega) g2, q, ?_⟩, (g1.mono fun u z => .inr z).trans (g2.mono fun u z => .inl z)⟩
 ·rw [u_Shelf_stroke]
  have two : (2 : Nat) <= sizeLine := by rw [sizeLine_eq]; omega
  have e1 := e_app (ρ := [some (.p s), some (.v (.int (i : Int))), some (.v d)]) (fb := fTup (fCons (fVar 1) (fCons (fVar 2) fNil))) (d := .tup [.int i, d]) (e_fld (fo := fVar 0) rfl h1.2 lk3) (by simp [fTup, fCons, fVar, fNil, vals, two]) h4.2 hs
  have e2 : sDrop (fCallW w_do_stroke 3 (fCons (fFld "Shelf" "drawers" (fVar 0)) (fCons (fVar 1) (fCons (fVar 2) fNil)))) [some (.p s), some (.v (.int (i : Int))), some (.v d)] (μ.set n3 (.lst (sts ++ [.tup [.int i, d]]))) = some (.nx [some (.p s), some (.v (.int (i : Int))), some (.v d)] μ') := by
   have ef := e_fld (ρ := [some (.p s), some (.v (.int (i : Int))), some (.v d)]) (fo := fVar 0) rfl h1'.2 (lk2 (a := n1) (b := n2) (c := n3))
   simp [sDrop, fCallW, fCons, ef, fVar, fNil, e]
  have e3 : b_Shelf_stroke [some (.p s), some (.v (.int (i : Int))), some (.v d)] μ = _ := sq e1 e2
  rw [e3]; rfl
 ·have : Own f (μ.set n3 (.lst (sts ++ [.tup [.int i, d]]))) (t + 3) n3 (.lst (sts ++ [.tup [.int i, d]])) := ⟨h4.1, by rw [List.getElem?_set_self h4.lt]⟩
  exact this.go (by omega) g2
end
end LW
namespace LW
open PySem HW
theorem emod_b (i : Int) {j : Int} (h : 0 < j) : 0 <= i % j /\ i % j < j := ⟨Int.emod_nonneg _ (by omega), Int.emod_lt_of_pos _ h⟩
theorem cell_at (ns : List Int) (k : Int) (h : ns ≠ []) : ∃ c, L2.atI (ns.map D.int) (k % (ns.length : Int)) = some (.int c) := by
 have hl : 0 < ns.length := List.length_pos_iff.mpr h
 obtain ⟨h1, h2⟩ := emod_b k (j := (ns.length : Int)) (by omega)
 refine ⟨ns[(k % (ns.length : Int)).toNat], at_int h1 ?_⟩
 simp
theorem draw_ex (ns : List Int) (k many : Int) (hm : 0 < many) : ∃ d, m_law_draw [.fl (ns.map .int), .int k, .int many] = some (.int d) /\ 0 <= d /\ d < many := by
 rw [u_law_draw]
 by_cases h : ns = []
 ·subst h
  exact ⟨0, by push_cast [b_law_draw, Int.natCast_zero, beq_self_eq_true], by omega, hm⟩
 ·have hl : 0 < ns.length := List.length_pos_iff.mpr h
  have e0 : ((ns.length : Int) == 0) = false := by simp; omega
  obtain ⟨c, hc⟩ := cell_at ns k h
  have b1 := emod_b c (j := 1000000007) (by decide)
  have b2 := emod_b ((c % 1000000007 + 5) * (40692 + 977 * k)) (j := 2147483629) (by decide)
  push_cast [b_law_draw, e0, List.length_map, ev_mod (i := k) (j := (ns.length : Int)) (by omega), hc, ev_mod (i := c) (j := 1000000007) (by decide), ev_mulL (i := 977) (j := k) (by decide), ev_mulL (i := c % 1000000007 + 5) (j := 40692 + 977 * k) (by omega), ev_mod (j := 2147483629) (by decide), ev_mulR (j := (c % 1000000007 + 5) * (40692 + 977 * k) % 2147483629 + 3) (by omega), ev_mod (j := 2147483647) (by decide), ev_div (j := 13) (by decide) (by decide), ev_mod (j := many) hm]
  exact ⟨_, rfl, emod_b _ hm⟩
end LW
namespace LW
open PySem HW
def EL (d : D) : Prop := (∃ x, d = .str x /\ PyData.strOk x = true) \/ ∃ i t, d = .tup [.int i, t] /\ (t = .non \/ ∃ x, t = .str x /\ PyData.strOk x = true)
theorem EL.ok {d : D} (h : EL d) (n : Nat) : okD (n + 2) d = true := by
 rcases h with ⟨x, rfl, h⟩ | ⟨i, t, rfl, rfl | ⟨x, rfl, h⟩⟩
 ·exact h
 ·rfl
 ·show (true && (PyData.strOk x && true)) = true
  rw [h]; rfl
theorem EL.eq {d : D} (h : EL d) : eqD d d = true := by
 rcases h with ⟨x, rfl, h⟩ | ⟨i, t, rfl, rfl | ⟨x, rfl, h⟩⟩
 ·simp [eqD]
 ·simp [eqD, eqDs]
 ·simp [eqD, eqDs]
theorem els_ok {n : Nat} : ∀ {xs : List D}, (∀ d ∈ xs, EL d) -> okDs (n + 2) xs = true
 | [], _ => rfl
 | x :: xs, h => by simp [okDs, (h x List.mem_cons_self).ok, els_ok fun d hd => h d (List.mem_cons_of_mem _ hd)]
theorem els_eq : ∀ {xs : List D}, (∀ d ∈ xs, EL d) -> eqDs xs xs = true
 | [], _ => rfl
 | x :: xs, h => by simp [eqDs, (h x List.mem_cons_self).eq, els_eq fun d hd => h d (List.mem_cons_of_mem _ hd)]
section
variable {f : Nat -> Nat} {μ μ1 : Store} {ρ : Lo} {t : Nat}
theorem e_new3 : fLR (fCons (fLst fNil) (fCons (fLst fNil) (fCons (fLst fNil) fNil))) ρ μ = some (.p (μ.length + 3), μ ++ [Cell.lst [], Cell.lst [], Cell.lst [], Cell.lr [R.p μ.length, R.p (μ.length + 1), R.p (μ.length + 2)]]) := by
 have z : (0 : Nat) <= sizeLine := Nat.zero_le _
 have z3 : (3 : Nat) <= sizeLine := by rw [sizeLine_eq]; omega
 simp [fLR, fCons, fLst, fNil, vals, z, z3]
theorem e_sfld {c fl : Str} {fo fv : FE} {fs : List (Str × R)} {r : R} {n : Nat} (hv : fv ρ μ = some (r, μ1)) (ho : fo ρ μ1 = some (.p n, μ1)) (h : μ1[n]? = some (.ob c fs)) (hl : fs.length < 1000) : sFldF c fl fo fv ρ μ = some (.nx ρ (μ1.set n (.ob c (putFR fl r fs)))) := by
 simp [sFldF, hv, ho, obOf, h, hl]
theorem nst12 : ¬ (("first_drawers" : Str) = "drawers") := by decide +kernel
theorem nst13 : ¬ (("first_drawers" : Str) = "stroke_list") := by decide +kernel
theorem nst23 : ¬ (("drawers" : Str) = "stroke_list") := by decide +kernel
noncomputable def sf1 (a : Nat) : List (Str × R) := [("first_drawers", .p a)]
noncomputable def sf2 (a b : Nat) : List (Str × R) := [("first_drawers", .p a), ("drawers", .p b)]
theorem put1 {a : Nat} : putFR "first_drawers" (.p a) [] = sf1 a := rfl
theorem put2 {a b : Nat} : putFR "drawers" (.p b) (sf1 a) = sf2 a b := by simp [sf1, sf2, putFR, nst12]
theorem put3 {a b c : Nat} : putFR "stroke_list" (.p c) (sf2 a b) = sf a b c := by simp [sf, sf2, putFR, nst13, nst23]
theorem make_ev (f : Nat -> Nat) (μ : Store) (ρ : Lo) (t : Nat) : ∃ f' μ', fMake "Shelf" w_Shelf_init ρ μ = some (.p μ.length, μ') /\ SH f' μ' t μ.length [[], [], []] [[], [], []] [] /\ Go (fun u => u = t) f μ f' μ' := by
 have g0 : Go (fun u => u = t) f μ (ext f μ.length t) (μ ++ [Cell.ob "Shelf" []]) := Go.new t _
 have o0 : Own (ext f μ.length t) (μ ++ [Cell.ob "Shelf" []]) t μ.length (.ob "Shelf" []) := own_new t _
 generalize hf0 : ext f μ.length t = f0 at g0 o0
 generalize hm0 : μ ++ [Cell.ob "Shelf" []] = μ0 at g0 o0
 generalize hL : μ.length = L at o0
 have step : ∀ (f : Nat -> Nat) (μ : Store) (u : Nat) (fs : List (Str × R)) (fl : Str), Own f μ t L (.ob "Shelf" fs) -> fs.length < 1000 -> u ≠ t -> ∃ f' μ' a, sFldF "Shelf" fl (fVar 0) (fLR (fCons (fLst fNil) (fCons (fLst fNil) (fCons (fLst fNil) fNil)))) [some (.p L)] μ = some (.nx [some (.p L)] μ') /\
   Own f' μ' t L (.ob "Shelf" (putFR fl (.p a) fs)) /\ LL f' μ' u a [[], [], []] /\ Go (fun v => v = t) f μ f' μ' := by
  intro f μ u fs fl o hl hu
  have ll := LL.new3 (f := f) (μ := μ) u
  have g1 : Go (fun v => v = t) f μ (ext f μ.length u) (μ ++ [Cell.lst [], Cell.lst [], Cell.lst [], Cell.lr [R.p μ.length, R.p (μ.length + 1), R.p (μ.length + 2)]]) := Go.news u _
  have g1' : Go (fun v => False) f μ (ext f μ.length u) (μ ++ [Cell.lst [], Cell.lst [], Cell.lst [], Cell.lr [R.p μ.length, R.p (μ.length + 1), R.p (μ.length + 2)]]) := Go.news u _
  have o1 := o.go (by simp) g1'
  have e := e_sfld (ρ := [some (.p L)]) (c := "Shelf") (fl := fl) (fo := fVar 0) (e_new3 (ρ := [some (.p L)]) (μ := μ)) rfl o1.2 hl
  have g2 : Go (fun v => v = t) (ext f μ.length u) (μ ++ [Cell.lst [], Cell.lst [], Cell.lst [], Cell.lr [R.p μ.length, R.p (μ.length + 1), R.p (μ.length + 2)]]) (ext f μ.length u) _ := Go.set (c := .ob "Shelf" (putFR fl (.p (μ.length + 3)) fs)) o1.1
  exact ⟨_, _, _, e, ⟨o1.1, by rw [List.getElem?_set_self o1.lt]⟩, ll.go hu g2, g1.trans g2⟩
 obtain ⟨f1, μ1, a, e1, o1, l1, g1⟩ := step f0 μ0 (t + 1) [] "first_drawers" o0 (by simp) (by omega)
 rw [put1] at o1
 obtain ⟨f2, μ2, b, e2, o2, l2, g2⟩ := step f1 μ1 (t + 2) _ "drawers" o1 (by simp [sf1]) (by omega)
 rw [put2] at o2
 have g3 : Go (fun v => v = t) f2 μ2 (ext f2 μ2.length (t + 3)) (μ2 ++ [Cell.lst []]) := Go.new (t + 3) _
 have g3' : Go (fun v => False) f2 μ2 (ext f2 μ2.length (t + 3)) (μ2 ++ [Cell.lst []]) := Go.new (t + 3) _
 have o3 := o2.go (by simp) g3'
 have n3 := own_new (f := f2) (μ := μ2) (t + 3) (.lst [])
 have z : (0 : Nat) <= sizeLine := Nat.zero_le _
 have e3 := e_sfld (ρ := [some (.p L)]) (c := "Shelf") (fl := "stroke_list") (fo := fVar 0) (fv := fLst fNil) (μ := μ2) (r := .p μ2.length) (μ1 := μ2 ++ [Cell.lst []]) (by simp [fLst, fNil, vals, z]) rfl o3.2 (by simp [sf2])
 rw [put3] at e3
 have g4 : Go (fun v => v = t) (ext f2 μ2.length (t + 3)) (μ2 ++ [Cell.lst []]) (ext f2 μ2.length (t + 3)) _ := Go.set (c := .ob "Shelf" (sf a b μ2.length)) o3.1
 have g34 := g3.trans g4
 refine ⟨_, _, ?_, ⟨a, b, μ2.length, ⟨o3.1, by rw [List.getElem?_set_self o3.lt]⟩, (l1.go (by omega) g2).go (by omega) g34, l2.go (by omega) g34, n3.go (by omega) g4⟩, ((g0.trans g1).trans g2).trans g34⟩
 have e4 : b_Shelf_init [some (.p L)] μ0 = _ := sq e1 (sq e2 e3)
 have e5 : w_Shelf_init [.p L] μ0 = _ := (u_Shelf_init _ _).trans (congrArg (fun o => Option.bind o finW) e4)
 unfold fMake
 rw [hL, hm0, e5]
 rfl
end
section
variable {f : Nat -> Nat} {μ : Store} {t s i : Nat} {fst rows : List (List D)} {sts : List D} {d : D}
theorem nm_stroke (a b c : Nat) : List.lookup ("stroke" : Str) (sf a b c) = none := lk0 (by decide +kernel) (by decide +kernel) (by decide +kernel)
theorem nm_put (a b c : Nat) : List.lookup ("put" : Str) (sf a b c) = none := lk0 (by decide +kernel) (by decide +kernel) (by decide +kernel)
theorem nm_clear (a b c : Nat) : List.lookup ("clear" : Str) (sf a b c) = none := lk0 (by decide +kernel) (by decide +kernel) (by decide +kernel)
theorem nm_rows (a b c : Nat) : List.lookup ("rows" : Str) (sf a b c) = none := lk0 (by decide +kernel) (by decide +kernel) (by decide +kernel)
theorem nm_strokes (a b c : Nat) : List.lookup ("strokes" : Str) (sf a b c) = none := lk0 (by decide +kernel) (by decide +kernel) (by decide +kernel)
theorem put_ev (h : SH f μ t s fst rows sts) (hi : i < rows.length) (hd : TxD d) (hs : sts.length < sizeLine) (hl : ∀ xs ∈ rows, xs.length < sizeLine) :
  ∃ f' μ', w_Shelf_put [.p s, .v (.int (i : Int)), .v d] μ = some (.v .non, μ') /\ SH f' μ' t s fst (strk d rows i) (sts ++ [.tup [.int i, d]]) /\ Go (fun u => u = t + 2 \/ u = t + 3) f μ f' μ' := by
 obtain ⟨f', μ', e, q, g⟩ := stroke_ev h hi hd hs hl
 refine ⟨f', μ', ?_, q, g⟩
 rw [u_Shelf_put]
 have := e_meth (nm := "stroke") (w := w_Shelf_stroke) (n := 3) (ρ := [some (.p s), some (.v (.int (i : Int))), some (.v d)]) (fo := fVar 0) (fa := fCons (fVar 1) (fCons (fVar 2) fNil)) h nm_stroke rfl rfl rfl
 simp only [b_Shelf_put, sDrop, this, e]
 rfl
theorem clear_ev (h : SH f μ t s fst rows sts) (hi : i < rows.length) (hs : sts.length < sizeLine) (hl : ∀ xs ∈ rows, xs.length < sizeLine) :
  ∃ f' μ', w_Shelf_clear [.p s, .v (.int (i : Int))] μ = some (.v .non, μ') /\ SH f' μ' t s fst (strk .non rows i) (sts ++ [.tup [.int i, .non]]) /\ Go (fun u => u = t + 2 \/ u = t + 3) f μ f' μ' := by
 obtain ⟨f', μ', e, q, g⟩ := stroke_ev h hi (.inl rfl) hs hl
 refine ⟨f', μ', ?_, q, g⟩
 rw [u_Shelf_clear]
 have := e_meth (nm := "stroke") (w := w_Shelf_stroke) (n := 3) (ρ := [some (.p s), some (.v (.int (i : Int)))]) (fo := fVar 0) (fa := fCons (fVar 1) (fCons (fK .non) fNil)) h nm_stroke rfl rfl rfl
 simp only [b_Shelf_clear, sDrop, this, e]
 rfl
end
end LW
namespace LW
open PySem HW
theorem nat_of {d : Int} {m : Nat} (h0 : 0 <= d) (h1 : d < (m : Int)) : ∃ i : Nat, i < m /\ d = (i : Int) := ⟨d.toNat, by omega, by omega⟩
theorem ok_app {x y : Str} (h1 : PyData.strOk x = true) (h2 : PyData.strOk y = true) : PyData.strOk (x ++ y) = true := by
 show PyData.strOk (Str.append x y) = true
 unfold PyData.strOk at *
 simp [Str.append] at *
 exact ⟨h1, h2⟩
theorem sx_add {x y : Str} {μ : Store} (h : x.length + y.length <= sizeLine) : addQ (.v (.str x)) (.v (.str y)) μ = some (.v (.str (x ++ y)), μ) := by
 show (if x.length + y.length <= sizeLine then some (R.v (.str (x ++ y)), μ) else none) = _
 rw [if_pos h]
section
variable {ρ : Lo} {μ μ1 μ2 : Store} {fa fb : FE} {xs : List D} {a b : Nat}
theorem if_no {t : FT} {x y : FS} (h : t ρ μ = some (false, μ1)) : sIf t x y ρ μ = y ρ μ1 := by simp [sIf, h]
theorem if_yes {t : FT} {x y : FS} (h : t ρ μ = some (true, μ1)) : sIf t x y ρ μ = x ρ μ1 := by simp [sIf, h]
theorem e_set {i : Nat} {r : R} (h : fa ρ μ = some (r, μ1)) : sSet i fa ρ μ = some (.nx (ρ.set i (some r)) μ1) := by simp [sSet, h]
theorem e_is0 {d : Int} (h : fa ρ μ = some (.v (.int d), μ1)) : fB (fOp (eqR false) fa (fK (.int 0))) ρ μ = some (d == 0, μ1) := by
 simp [fB, fOp, h, fK, eqR, viewD, okD, eqD]
end
noncomputable def E3 : List (List D) := [[], [], []]
theorem strk_el {d : D} {rows : List (List D)} {i k : Nat} (hd : d = .non \/ ∃ x, d = .str x /\ PyData.strOk x = true) (h : ∀ r ∈ rows, r.length <= k /\ ∀ d ∈ r, EL d) (hi : i < rows.length) : ∀ r ∈ strk d rows i, r.length <= k + 1 /\ ∀ d ∈ r, EL d := by
 intro r hr
 rcases hd with rfl | ⟨x, rfl, hx⟩
 ·rcases List.mem_or_eq_of_mem_set (show r ∈ rows.set i [] from hr) with z | z
  ·exact ⟨Nat.le_succ_of_le (h r z).1, (h r z).2⟩
  ·subst z; simp
 ·have e : rows[i]? = some rows[i] := List.getElem?_eq_getElem hi
  have hr : r ∈ rows.set i (rows[i] ++ [.str x]) := by unfold strk at hr; rw [e] at hr; exact hr
  rcases List.mem_or_eq_of_mem_set hr with z | z
  ·exact ⟨Nat.le_succ_of_le (h r z).1, (h r z).2⟩
  ·subst z
   have q := h rows[i] (List.getElem_mem hi)
   refine ⟨by simp; omega, fun d hd => ?_⟩
   rcases List.mem_append.mp hd with z | z
   ·exact q.2 d z
   ·rw [List.mem_singleton.mp z]; exact .inl ⟨x, rfl, hx⟩
theorem el_tup {d : D} {i : Int} (hd : d = .non \/ ∃ x, d = .str x /\ PyData.strOk x = true) : EL (.tup [.int i, d]) := .inr ⟨i, d, rfl, hd⟩
end LW
namespace LW
open PySem HW
theorem sl_ok {x : Str} (l u : Option Int) (h : PyData.strOk x = true) : PyData.strOk (Txt.slice x l u) = true := by
 unfold Txt.slice
 split
 ·exact h
 ·unfold PyData.strOk at *
  rw [Array.all_eq_true] at h ⊢
  intro i hi
  have hm : (((Builtin.Str.strSliceIndices l u 1 x.length).filterMap (x.cps[·]?)).toArray)[i] ∈ (Builtin.Str.strSliceIndices l u 1 x.length).filterMap (x.cps[·]?) := by
   simp only [List.getElem_toArray]; exact List.getElem_mem _
  obtain ⟨j, _, hj⟩ := List.mem_filterMap.mp hm
  obtain ⟨h1, h2⟩ := Array.getElem?_eq_some_iff.mp hj
  rw [← h2]
  exact h j h1
theorem comp_copy {n : Nat} {L : List R} : ∀ (r : List Nat) (ys : List (List D)) (μ : Store) (x0 : Option R), μ[n]? = some (.lr L) -> r.length = ys.length -> (∀ (i : Nat) b xs, r[i]? = some b -> ys[i]? = some xs -> μ[b]? = some (.lst xs)) ->
  compR n L (gNm 0) (fAr listD (fCons (fVar 0) fNil)) (r.map .p) [x0] μ = some ((List.range' μ.length r.length).map .p, μ ++ ys.map .lst)
 | [], [], μ, x0, _, _, _ => by simp [compR]
 | [], _ :: _, μ, x0, _, hl, _ => by simp at hl
 | _ :: _, [], μ, x0, _, hl, _ => by simp at hl
 | b :: r, xs :: ys, μ, x0, hn, hl, h => by
  have hb : μ[b]? = some (.lst xs) := h 0 b xs rfl rfl
  have hn' : n < μ.length := (List.getElem?_eq_some_iff.mp hn).1
  have hk : (μ ++ [Cell.lst xs])[n]? = some (.lr L) := by rw [List.getElem?_append_left hn']; exact hn
  have ih := comp_copy r ys (μ ++ [Cell.lst xs]) (some (.p b)) hk (by simpa using hl) fun i b' xs' e1 e2 => by
   have z := h (i + 1) b' xs' (by simpa using e1) (by simpa using e2)
   rw [List.getElem?_append_left (List.getElem?_eq_some_iff.mp z).1]; exact z
  rw [List.map_cons, compR]
  have e0 : gNm 0 (.p b) [x0] μ = some ([some (.p b)], μ) := rfl
  have e1 : fAr listD (fCons (fVar 0) fNil) [some (.p b)] μ = some (.p μ.length, μ ++ [.lst xs]) := e_list rfl hb
  simp only [e0, Option.bind_some, e1]
  rw [if_pos hk, ih]
  simp [List.range'_succ]
section
variable {f : Nat -> Nat} {μ : Store} {n v : Nat} {xss : List (List D)} {ρ : Lo} {fo : FE}
theorem LL.newc (u : Nat) : LL (ext f μ.length u) (μ ++ (xss.map Cell.lst ++ [Cell.lr ((List.range' μ.length xss.length).map R.p)])) u (μ.length + xss.length) xss := by
 refine ⟨ext_ge (by omega), List.range' μ.length xss.length, ?_, List.nodup_range', by simp, fun i b xs e1 e2 => ?_⟩
 ·rw [List.getElem?_append_right (by omega), List.getElem?_append_right (by simp)]; simp
 ·obtain ⟨hi, e1⟩ := List.getElem?_eq_some_iff.mp e1
  simp at e1 hi
  subst e1
  refine ⟨ext_ge (by omega), ?_⟩
  rw [List.getElem?_append_right (by omega), List.getElem?_append_left (by simp; omega)]
  simp [e2]
theorem copy_ev (u : Nat) (h : LL f μ v n xss) (hl : xss.length <= 63) (ho : fo ρ μ = some (.p n, μ)) : ∃ f' μ' n', fCompR [] 1 fo (gNm 0) (fAr listD (fCons (fVar 0) fNil)) ρ μ = some (.p n', μ') /\ LL f' μ' u n' xss /\ Go (fun _ => False) f μ f' μ' := by
 obtain ⟨h1, bs, h2, h3, h4, h5⟩ := h
 refine ⟨_, _, _, ?_, LL.newc (f := f) (μ := μ) u, Go.news u _⟩
 have c := comp_copy bs xss μ none h2 h4 fun i b xs e1 e2 => (h5 i b xs e1 e2).2
 have hz : (bs.map R.p).length <= sizeLine := by rw [List.length_map, sizeLine_eq]; omega
 simp only [fCompR, ho, Option.bind_some, h2, hz, if_true]
 rw [show blockLo 1 [] ρ = [none] from rfl, c]
 simp [h4]
theorem copyw (u : Nat) (h : LL f μ v n xss) (hl : xss.length <= 63) : ∃ f' μ' n', w_copy_of [.p n] μ = some (.p n', μ') /\ LL f' μ' u n' xss /\ Go (fun _ => False) f μ f' μ' := by
 obtain ⟨f', μ', n', e, l, g⟩ := copy_ev (ρ := [some (.p n)]) (fo := fVar 0) u h hl rfl
 refine ⟨f', μ', n', ?_, l, g⟩
 rw [u_copy_of]
 simp only [b_copy_of, sRet, e]
 rfl
end
noncomputable def tupS (q : Nat × D) : D := .tup [.int (q.1 : Int), q.2]
def TxS (d : D) : Prop := d = .non \/ ∃ x, d = .str x /\ PyData.strOk x = true /\ x.length <= 20 /\ (x == Str.ofString "") = false
def OKS (l : List (Nat × D)) : Prop := ∀ q ∈ l, q.1 < 3 /\ TxS q.2
theorem TxS.tx {d : D} (h : TxS d) : TxD d := h.imp id fun ⟨x, e, _⟩ => ⟨x, e⟩
theorem TxS.el {d : D} (h : TxS d) : d = .non \/ ∃ x, d = .str x /\ PyData.strOk x = true := h.imp id fun ⟨x, e, o, _⟩ => ⟨x, e, o⟩
theorem oks_el {l : List (Nat × D)} (h : OKS l) : ∀ d ∈ l.map tupS, EL d := fun d hd => by
 obtain ⟨q, hq, rfl⟩ := List.mem_map.mp hd
 exact el_tup (h q hq).2.el
noncomputable def fold (xss : List (List D)) (l : List (Nat × D)) : List (List D) := l.foldl (fun xss q => strk q.2 xss q.1) xss
noncomputable def partS (signs : Nat) (xss : List (List D)) (q : Nat × D) : List (List D) := match q.2 with
 | .str x => if (Txt.slice x none (some (signs : Int)) == Str.ofString "") = true then xss else strk (.str (Txt.slice x none (some (signs : Int)))) xss q.1
 | _ => xss
noncomputable def fall (many signs : Nat) (xss : List (List D)) (l : List (Nat × D)) : List (List D) := ((l.drop many).take 1).foldl (partS signs) (fold xss (l.take many))
def BD (B : Nat) (xss : List (List D)) : Prop := xss.length = 3 /\ ∀ r ∈ xss, r.length <= B /\ ∀ d ∈ r, EL d
theorem BD.strk {B i : Nat} {xss : List (List D)} {d : D} (h : BD B xss) (hi : i < 3) (hd : d = .non \/ ∃ x, d = .str x /\ PyData.strOk x = true) : BD (B + 1) (strk d xss i) := ⟨by rw [strk_len]; exact h.1, strk_el hd h.2 (by rw [h.1]; exact hi)⟩
theorem BD.mono {B C : Nat} {xss : List (List D)} (h : BD B xss) (hb : B <= C) : BD C xss := ⟨h.1, fun r hr => ⟨Nat.le_trans (h.2 r hr).1 hb, (h.2 r hr).2⟩⟩
theorem BD.fold : ∀ {l : List (Nat × D)} {B : Nat} {xss : List (List D)}, BD B xss -> OKS l -> BD (B + l.length) (fold xss l)
 | [], B, xss, h, _ => h
 | q :: l, B, xss, h, o => by
  have := BD.fold (h.strk (o q List.mem_cons_self).1 (o q List.mem_cons_self).2.el) (fun z hz => o z (List.mem_cons_of_mem _ hz))
  rw [List.length_cons, show B + (l.length + 1) = B + 1 + l.length by omega]
  exact this
theorem BD.part {B signs : Nat} {xss : List (List D)} {q : Nat × D} (h : BD B xss) (hq : q.1 < 3) (hd : TxS q.2) : BD (B + 1) (partS signs xss q) := by
 unfold partS
 split
 ·rename_i x hx
  split
  ·exact h.mono (by omega)
  ·rcases hd with hd | ⟨y, e, o, _⟩
   ·rw [hx] at hd; cases hd
   ·rw [hx] at e; cases e
    exact h.strk hq (.inr ⟨_, rfl, sl_ok _ _ o⟩)
 ·exact h.mono (by omega)
theorem BD.fall {l : List (Nat × D)} {B many signs : Nat} {xss : List (List D)} (h : BD B xss) (o : OKS l) : BD (B + l.length + 1) (fall many signs xss l) := by
 unfold LW.fall
 have b1 := h.fold (l := l.take many) fun q hq => o q (List.mem_of_mem_take hq)
 have b2 : BD (B + l.length) (LW.fold xss (l.take many)) := b1.mono (by simp; omega)
 have hd : ∀ q ∈ (l.drop many).take 1, q ∈ l := fun q hq => List.mem_of_mem_drop (List.mem_of_mem_take hq)
 match e : (l.drop many).take 1, hd with
 | [], _ => exact b2.mono (by omega)
 | [q], hd => exact b2.part (o q (hd q List.mem_cons_self)).1 (o q (hd q List.mem_cons_self)).2
 | q :: p :: r, _ =>
  have := congrArg List.length e
  simp at this
  omega
theorem BD.lt {B : Nat} {xss : List (List D)} (h : BD B xss) (hb : B <= 1000) : ∀ xs ∈ xss, xs.length < sizeLine := fun xs hx => by
 have := (h.2 xs hx).1
 rw [sizeLine_eq]; omega
theorem loopL_inv {α : Type} (e : α -> D) {n : Nat} {xs : List D} {g : FG} {b : FS} (I : List α -> Lo -> Store -> Prop) (hs : ∀ a r ρ μ, I (a :: r) ρ μ -> ∃ ρ' μ', thG (g (.v (e a)) ρ μ) b = some (.nx ρ' μ') /\ I r ρ' μ') (hk : ∀ r ρ μ, I r ρ μ -> μ[n]? = some (.lst xs)) :
  ∀ r ρ μ, I r ρ μ -> ∃ ρ' μ', loopL n xs g b (r.map e) ρ μ = some (.nx ρ' μ') /\ I [] ρ' μ'
 | [], ρ, μ, h => ⟨ρ, μ, rfl, h⟩
 | a :: r, ρ, μ, h => by
  obtain ⟨ρ1, μ1, e1, i1⟩ := hs a r ρ μ h
  obtain ⟨ρ2, μ2, e2, i2⟩ := loopL_inv e I hs hk r ρ1 μ1 i1
  refine ⟨ρ2, μ2, ?_, i2⟩
  rw [List.map_cons, loopL]
  have e1' : ((g (.v (e a)) ρ μ).bind fun a => b a.1 a.2) = some (.nx ρ1 μ1) := e1
  rw [← Option.bind_assoc, e1', Option.bind_some]
  dsimp only
  rw [if_pos (hk r ρ1 μ1 i1)]
  exact e2
theorem e_forL {ρ : Lo} {μ μ1 : Store} {fo : FE} {g : FG} {b : FS} {n : Nat} {xs : List D} (h : fo ρ μ = some (.p n, μ1)) (hx : μ1[n]? = some (.lst xs)) : sForL fo g b ρ μ = loopL n xs g b xs ρ μ1 := by
 simp only [sForL, h, Option.bind_some, hx]
theorem t_no {ρ : Lo} {μ : Store} {a b : FT} (h : a ρ μ = some (false, μ)) : tAndF a b ρ μ = some (false, μ) := by simp [tAndF, h]
theorem t_yes {ρ : Lo} {μ : Store} {a b : FT} (h : a ρ μ = some (true, μ)) : tAndF a b ρ μ = b ρ μ := by simp [tAndF, h]
noncomputable def isN : D -> Bool
 | .non => true
 | _ => false
theorem is_ev {ρ : Lo} {μ : Store} {fa : FE} {neg : Bool} {d : D} (h : fa ρ μ = some (.v d, μ)) (hd : TxD d) : fB (fUn (isK neg .non) fa) ρ μ = some (neg != isN d, μ) := by
 rcases hd with rfl | ⟨x, rfl⟩ <;> cases neg <;> (simp only [fB, fUn, h, Option.bind_some]; rfl)
theorem ne_ev {ρ : Lo} {μ : Store} {fa : FE} {x : Str} (h : fa ρ μ = some (.v (.str x), μ)) (ho : PyData.strOk x = true) : fB (fOp (eqR true) fa (fK (.str ""))) ρ μ = some (!(x == Str.ofString ""), μ) := by
 have e1 : okD 60 (.str x) = true := ho
 have e2 : okD 60 (.str (Str.ofString "")) = true := by decide +kernel
 simp [fB, fOp, h, fK, eqR, viewD, e1, e2, eqD]
theorem slS_ev {ρ : Lo} {μ : Store} {fa fb : FE} {x : Str} {k : Int} (h : fa ρ μ = some (.v (.str x), μ)) (hb : fb ρ μ = some (.v (.int k), μ)) (hl : x.length <= 20) : fSlS fa oNone (oSome fb) ρ μ = some (.v (.str (Txt.slice x none (some k))), μ) := by
 have : x.length <= sizeLine := by rw [sizeLine_eq]; omega
 simp [fSlS, h, oNone, oSome, hb, slS, this]
theorem dow {f : Nat -> Nat} {μ : Store} {u n B : Nat} {xss : List (List D)} {q : Nat × D} {ρ : Lo} {fa fb fc : FE} (h : LL f μ u n xss) (bd : BD B xss) (hB : B <= 1000) (hq : q.1 < 3) (hd : TxD q.2) (ha : fa ρ μ = some (.p n, μ)) (hb : fb ρ μ = some (.v (.int (q.1 : Int)), μ)) (hc : fc ρ μ = some (.v q.2, μ)) :
  ∃ f' μ', sDrop (fCallW w_do_stroke 3 (fCons fa (fCons fb (fCons fc fNil)))) ρ μ = some (.nx ρ μ') /\ LL f' μ' u n (strk q.2 xss q.1) /\ Go (fun t => t = u) f μ f' μ' := by
 obtain ⟨f', μ', e, l, g⟩ := do_ev h (by rw [bd.1]; exact hq) hd (bd.lt hB)
 refine ⟨f', μ', ?_, l, g⟩
 simp [sDrop, fCallW, fCons, ha, hb, hc, fNil, e]
theorem cut_to {l : List (Nat × D)} {m : Nat} : cutD (l.map tupS) none (some (m : Int)) = (l.take m).map tupS := by
 unfold cutD
 rw [HT.sIx_none, HT.sIx_nat, List.drop_zero, Nat.sub_zero, List.map_take]
 rw [List.take_eq_take_iff]
 simp
theorem cut_one {l : List (Nat × D)} {m : Nat} : cutD (l.map tupS) (some (m : Int)) (some ((m : Int) + 1)) = ((l.drop m).take 1).map tupS := by
 unfold cutD
 rw [show ((m : Int) + 1) = ((m + 1 : Nat) : Int) by omega, HT.sIx_nat, HT.sIx_nat, List.map_take, List.map_drop]
 simp only [List.length_map]
 by_cases h : m < l.length
 ·rw [Nat.min_eq_left (by omega), Nat.min_eq_left (by omega)]
  congr 1; omega
 ·have e1 : (l.map tupS).drop (min m l.length) = [] := List.drop_eq_nil_of_le (by simp; omega)
  have e2 : (l.map tupS).drop m = [] := List.drop_eq_nil_of_le (by simp; omega)
  rw [e1, e2]; simp
end LW
namespace LW
open PySem HW
theorem e_sl {ρ : Lo} {μ : Store} {fo : FE} {fl fh : FO} {n : Nat} {xs : List D} {lo hi : Option Int} (h : fo ρ μ = some (.p n, μ)) (hl : fl ρ μ = some (lo, μ)) (hh : fh ρ μ = some (hi, μ)) (hx : μ[n]? = some (.lst xs)) : fSl fo fl fh ρ μ = some (.p μ.length, μ ++ [Cell.lst (cutD xs lo hi)]) := by
 simp [fSl, h, hl, hh, slD, lstD, hx]
theorem putA {a b c d : Nat} : putFR "first_drawers" (.p d) (sf a b c) = sf d b c := by simp [sf, putFR]
theorem putB {a b c d : Nat} : putFR "drawers" (.p d) (sf a b c) = sf a d c := by simp [sf, putFR, nst12]
def IA (f0 : Nat -> Nat) (μ0 : Store) (s many signs d nl u : Nat) (L : List D) (step : List (List D) -> Nat × D -> List (List D)) (goal : List (List D)) (r : List (Nat × D)) (ρ : Lo) (μ : Store) : Prop :=
 (∃ x4 x5, ρ = [some (.p s), some (.v (.int (many : Int))), some (.v (.int (signs : Int))), some (.p d), x4, x5, none]) /\
 ∃ f xss B, Own f μ 30 nl (.lst L) /\ LL f μ u d xss /\ Go (fun v => v = u) f0 μ0 f μ /\ BD B xss /\ B + r.length <= 1000 /\ OKS r /\ r.foldl step xss = goal
theorem fallen_ev {f : Nat -> Nat} {μ : Store} {t s B : Nat} {fst rows : List (List D)} {l : List (Nat × D)} (t' many signs : Nat) (h : SH f μ t s fst rows (l.map tupS)) (ol : OKS l) (bd : BD B fst) (hB : B + l.length <= 900) (ht : t + 3 < t') (h30 : 30 < t') (htn : ∀ j, j <= 3 -> t + j ≠ 30) :
  ∃ f' μ' s', w_Shelf_fallen [.p s, .v (.int (many : Int)), .v (.int (signs : Int))] μ = some (.p s', μ') /\ SH f' μ' t' s' (fall many signs fst l) (fall many signs fst l) [] /\ Go (fun u => u = t' \/ u = t' + 1) f μ f' μ' := by
 obtain ⟨n1, n2, n3, h1, h2, h3, h4⟩ := h
 obtain ⟨f1, μ1, d, e1, l1, g1⟩ := copyw (t' + 1) h2 (by rw [bd.1]; omega)
 have g1' : Go (fun u => u = t' \/ u = t' + 1) f μ f1 μ1 := g1.mono fun _ z => z.elim
 have h1 := h1.go (fun z => z) g1
 have h4 := h4.go (fun z => z) g1
 have s1 : sSet 3 (fCallW w_copy_of 1 (fCons (fFld "Shelf" "first_drawers" (fVar 0)) fNil)) [some (.p s), some (.v (.int (many : Int))), some (.v (.int (signs : Int))), none, none, none, none] μ = some (.nx [some (.p s), some (.v (.int (many : Int))), some (.v (.int (signs : Int))), some (.p d), none, none, none] μ1) := by
  have ob : μ[s]? = some (.ob "Shelf" (sf n1 n2 n3)) := by
   rename_i h1' _
   exact h1'.2
  have ef := e_fld (ρ := [some (.p s), some (.v (.int (many : Int))), some (.v (.int (signs : Int))), none, none, none, none]) (fo := fVar 0) rfl ob (lk1 (a := n1) (b := n2) (c := n3))
  refine e_set ?_
  simp [fCallW, fCons, ef, fNil, e1]
 -- the strokes ahead of the fall
 have g2 : Go (fun _ => False) f1 μ1 (ext f1 μ1.length 30) (μ1 ++ [Cell.lst ((l.take many).map tupS)]) := Go.new 30 _
 have o2 := own_new (f := f1) (μ := μ1) 30 (.lst ((l.take many).map tupS))
 have l2 := l1.go (fun z => z) g2
 have e2 := e_sl (ρ := [some (.p s), some (.v (.int (many : Int))), some (.v (.int (signs : Int))), some (.p d), none, none, none]) (fo := fFld "Shelf" "stroke_list" (fVar 0)) (fl := oNone) (fh := oSome (fVar 1)) (e_fld rfl h1.2 lk3) rfl rfl h4.2
 rw [cut_to] at e2
 have h1 := h1.go (fun z => z) g2
 have h4 := h4.go (fun z => z) g2
 generalize hf2 : ext f1 μ1.length 30 = f2 at g2 o2 l2 h1 h4
 generalize hm2 : μ1 ++ [Cell.lst ((l.take many).map tupS)] = μ2 at g2 o2 l2 h1 h4 e2
 have g2' : Go (fun u => u = t' \/ u = t' + 1) f1 μ1 f2 μ2 := g2.mono fun _ z => z.elim
 have hlt : (l.take many).length <= l.length := by rw [List.length_take]; omega
 have ot : OKS (l.take many) := fun q hq => ol q (List.mem_of_mem_take hq)
 obtain ⟨ρ3, μ3, e3, ⟨y4, y5, rfl⟩, f3, xss3, B3, o3, l3, g3, b3, hB3, _, z3⟩ := loopL_inv tupS (n := μ1.length) (xs := (l.take many).map tupS) (g := gTp 2 (gsCons (gNm 4) (gsCons (gNm 5) gsNil))) (b := l_Shelf_fallen_0) (IA f2 μ2 s many signs d μ1.length (t' + 1) ((l.take many).map tupS) (fun xss q => strk q.2 xss q.1) (fold fst (l.take many)))
  (fun q r ρ μ ⟨⟨x4, x5, hρ⟩, f, xss, B', ho, hl, hg, hb, hB', oks, hz⟩ => by
   subst hρ
   obtain ⟨q1, q2⟩ := oks q List.mem_cons_self
   obtain ⟨f', μ', e, l', g'⟩ := dow (ρ := [some (.p s), some (.v (.int (many : Int))), some (.v (.int (signs : Int))), some (.p d), some (.v (.int (q.1 : Int))), some (.v q.2), none]) (fa := fVar 3) (fb := fVar 4) (fc := fVar 5) hl hb (by simp at hB'; omega) q1 q2.tx rfl rfl rfl
   exact ⟨_, μ', e, ⟨_, _, rfl⟩, f', _, B' + 1, ho.go (by omega) g', l', hg.trans g', hb.strk q1 q2.el, by simp at hB'; omega, fun z hz => oks z (List.mem_cons_of_mem _ hz), hz⟩)
  (fun r ρ μ ⟨_, f, xss, B', ho, _⟩ => ho.2) (l.take many) _ μ2 ⟨⟨none, none, rfl⟩, f2, fst, B, o2, l2, Go.refl, bd, by omega, ot, rfl⟩
 have z3 : xss3 = fold fst (l.take many) := z3
 have s2 : sForL (fSl (fFld "Shelf" "stroke_list" (fVar 0)) oNone (oSome (fVar 1))) (gTp 2 (gsCons (gNm 4) (gsCons (gNm 5) gsNil))) l_Shelf_fallen_0 [some (.p s), some (.v (.int (many : Int))), some (.v (.int (signs : Int))), some (.p d), none, none, none] μ1 = some (.nx [some (.p s), some (.v (.int (many : Int))), some (.v (.int (signs : Int))), some (.p d), y4, y5, none] μ3) :=
  (e_forL e2 o2.2).trans e3
 -- the stroke that falls
 have h1 := h1.go (by omega) g3
 have h4 := h4.go (by omega) g3
 have g3' : Go (fun u => u = t' \/ u = t' + 1) f2 μ2 f3 μ3 := g3.mono fun _ z => .inr z
 have g4 : Go (fun _ => False) f3 μ3 (ext f3 μ3.length 30) (μ3 ++ [Cell.lst (((l.drop many).take 1).map tupS)]) := Go.new 30 _
 have o4 := own_new (f := f3) (μ := μ3) 30 (.lst (((l.drop many).take 1).map tupS))
 have l4 := l3.go (fun z => z) g4
 have e4 := e_sl (ρ := [some (.p s), some (.v (.int (many : Int))), some (.v (.int (signs : Int))), some (.p d), y4, y5, none]) (fo := fFld "Shelf" "stroke_list" (fVar 0)) (fl := oSome (fVar 1)) (fh := oSome (fOp addQ (fVar 1) (fK (.int 1)))) (lo := some (many : Int)) (hi := some ((many : Int) + 1)) (e_fld rfl h1.2 lk3) rfl rfl h4.2
 rw [cut_one] at e4
 generalize hf4 : ext f3 μ3.length 30 = f4 at g4 o4 l4
 generalize hm4 : μ3 ++ [Cell.lst (((l.drop many).take 1).map tupS)] = μ4 at g4 o4 l4 e4
 have g4' : Go (fun u => u = t' \/ u = t' + 1) f3 μ3 f4 μ4 := g4.mono fun _ z => z.elim
 have od : OKS ((l.drop many).take 1) := fun q hq => ol q (List.mem_of_mem_drop (List.mem_of_mem_take hq))
 have hd1 : ((l.drop many).take 1).length <= 1 := by rw [List.length_take]; omega
 have hB3 : B3 <= 1000 := by simp at hB3; omega
 have b3' : BD (B + l.length) xss3 := by rw [z3]; exact (bd.fold ot).mono (by omega)
 obtain ⟨ρ5, μ5, e5, ⟨w4, w5, rfl⟩, f5, xss5, B5, o5, l5, g5, b5, _, _, z5⟩ := loopL_inv tupS (n := μ3.length) (xs := ((l.drop many).take 1).map tupS) (g := gTp 2 (gsCons (gNm 4) (gsCons (gNm 5) gsNil))) (b := l_Shelf_fallen_1) (IA f4 μ4 s many signs d μ3.length (t' + 1) (((l.drop many).take 1).map tupS) (partS signs) (fall many signs fst l))
  (fun q r ρ μ ⟨⟨x4, x5, hρ⟩, f, xss, B', ho, hl, hg, hb, hB', oks, hz⟩ => by
   subst hρ
   obtain ⟨q1, q2⟩ := oks q List.mem_cons_self
   have hz : r.foldl (partS signs) (partS signs xss q) = fall many signs fst l := hz
   have okr : OKS r := fun z hz => oks z (List.mem_cons_of_mem _ hz)
   have hBr : B' + 1 + r.length <= 1000 := by simp at hB'; omega
   have bp := hb.part (signs := signs) q1 q2
   have hi := is_ev (ρ := [some (.p s), some (.v (.int (many : Int))), some (.v (.int (signs : Int))), some (.p d), some (.v (.int (q.1 : Int))), some (.v q.2), none]) (μ := μ) (fa := fVar 5) (neg := true) rfl q2.tx
   have stay : partS signs xss q = xss -> l_Shelf_fallen_1 [some (.p s), some (.v (.int (many : Int))), some (.v (.int (signs : Int))), some (.p d), some (.v (.int (q.1 : Int))), some (.v q.2), none] μ = some (.nx [some (.p s), some (.v (.int (many : Int))), some (.v (.int (signs : Int))), some (.p d), some (.v (.int (q.1 : Int))), some (.v q.2), none] μ) ->
     ∃ ρ' μ', thG (gTp 2 (gsCons (gNm 4) (gsCons (gNm 5) gsNil)) (.v (tupS q)) [some (.p s), some (.v (.int (many : Int))), some (.v (.int (signs : Int))), some (.p d), x4, x5, none] μ) l_Shelf_fallen_1 = some (.nx ρ' μ') /\ IA f4 μ4 s many signs d μ3.length (t' + 1) (((l.drop many).take 1).map tupS) (partS signs) (fall many signs fst l) r ρ' μ' := fun hp e =>
    ⟨_, μ, e, ⟨_, _, rfl⟩, f, xss, B' + 1, ho, hl, hg, hb.mono (by omega), hBr, okr, by rw [hp] at hz; exact hz⟩
   rcases q2 with hn | ⟨x, hx, ox, lx, nx⟩
   ·refine stay (by unfold partS; rw [hn]) ((if_no (t_no ?_)).trans rfl)
    rw [hi, hn]; rfl
   ·have sl := slS_ev (ρ := [some (.p s), some (.v (.int (many : Int))), some (.v (.int (signs : Int))), some (.p d), some (.v (.int (q.1 : Int))), some (.v q.2), none]) (μ := μ) (fa := fVar 5) (fb := fVar 2) (x := x) (k := (signs : Int)) (by rw [hx]; rfl) rfl lx
    have ne := ne_ev sl (sl_ok _ _ ox)
    by_cases hy : (Txt.slice x none (some (signs : Int)) == Str.ofString "") = true
    ·refine stay (by unfold partS; rw [hx]; dsimp only; rw [if_pos hy]) ((if_no ((t_yes ?_).trans (ne.trans ?_))).trans rfl)
     ·rw [hi, hx]; rfl
     ·rw [hy]; rfl
    ·have hy' : (Txt.slice x none (some (signs : Int)) == Str.ofString "") = false := by simpa using hy
     have hp : partS signs xss q = strk (.str (Txt.slice x none (some (signs : Int)))) xss q.1 := by unfold partS; rw [hx]; dsimp only; rw [if_neg hy]
     obtain ⟨f', μ', e, l', g'⟩ := dow (q := (q.1, .str (Txt.slice x none (some (signs : Int))))) (ρ := [some (.p s), some (.v (.int (many : Int))), some (.v (.int (signs : Int))), some (.p d), some (.v (.int (q.1 : Int))), some (.v q.2), none]) (fa := fVar 3) (fb := fVar 4) (fc := fSlS (fVar 5) oNone (oSome (fVar 2))) hl hb (by omega) q1 (.inr ⟨_, rfl⟩) rfl rfl sl
     rw [hp] at bp hz
     refine ⟨_, μ', (if_yes ((t_yes ?_).trans (ne.trans ?_))).trans e, ⟨_, _, rfl⟩, f', _, B' + 1, ho.go (by omega) g', l', hg.trans g', bp, hBr, okr, hz⟩
     ·rw [hi, hx]; rfl
     ·rw [hy']; rfl)
  (fun r ρ μ ⟨_, f, xss, B', ho, _⟩ => ho.2) ((l.drop many).take 1) _ μ4 ⟨⟨y4, y5, rfl⟩, f4, xss3, B + l.length, o4, l4, Go.refl, b3', by omega, od, by rw [z3]; rfl⟩
 have z5 : xss5 = fall many signs fst l := z5
 subst z5
 have s3 : sForL (fSl (fFld "Shelf" "stroke_list" (fVar 0)) (oSome (fVar 1)) (oSome (fOp addQ (fVar 1) (fK (.int 1))))) (gTp 2 (gsCons (gNm 4) (gsCons (gNm 5) gsNil))) l_Shelf_fallen_1 [some (.p s), some (.v (.int (many : Int))), some (.v (.int (signs : Int))), some (.p d), y4, y5, none] μ3 = some (.nx [some (.p s), some (.v (.int (many : Int))), some (.v (.int (signs : Int))), some (.p d), w4, w5, none] μ5) :=
  (e_forL e4 o4.2).trans e5
 have g5' : Go (fun u => u = t' \/ u = t' + 1) f4 μ4 f5 μ5 := g5.mono fun _ z => .inr z
 -- the shelf anew
 obtain ⟨f6, μ6, e6, h6, g6⟩ := make_ev f5 μ5 [some (.p s), some (.v (.int (many : Int))), some (.v (.int (signs : Int))), some (.p d), w4, w5, none] t'
 have l6 := l5.go (by omega) g6
 obtain ⟨m1, m2, m3, k1, k2, k3, k4⟩ := h6
 have e7 := e_sfld (ρ := [some (.p s), some (.v (.int (many : Int))), some (.v (.int (signs : Int))), some (.p d), w4, w5, some (.p μ5.length)]) (c := "Shelf") (fl := "first_drawers") (fo := fVar 6) (fv := fVar 3) (μ := μ6) (r := .p d) rfl rfl k1.2 (by simp [sf])
 rw [putA] at e7
 have g7 : Go (fun u => u = t') f6 μ6 f6 (μ6.set μ5.length (.ob "Shelf" (sf d m2 m3))) := Go.set k1.1
 have k1' : Own f6 (μ6.set μ5.length (.ob "Shelf" (sf d m2 m3))) t' μ5.length (.ob "Shelf" (sf d m2 m3)) := ⟨k1.1, by rw [List.getElem?_set_self k1.lt]⟩
 have l7 := l6.go (by omega) g7
 have k4' := k4.go (by omega) g7
 generalize μ6.set μ5.length (.ob "Shelf" (sf d m2 m3)) = μ7 at e7 g7 k1' l7 k4'
 have hl3 : (fall many signs fst l).length <= 63 := by rw [b5.1]; omega
 obtain ⟨f8, μ8, d', e8, l8, g8⟩ := copyw (t' + 2) l7 hl3
 have k1'' := k1'.go (fun z => z) g8
 have l8' := l7.go (fun z => z) g8
 have k4'' := k4'.go (fun z => z) g8
 have e9 := e_sfld (ρ := [some (.p s), some (.v (.int (many : Int))), some (.v (.int (signs : Int))), some (.p d), w4, w5, some (.p μ5.length)]) (c := "Shelf") (fl := "drawers") (fo := fVar 6) (fv := fCallW w_copy_of 1 (fCons (fVar 3) fNil)) (μ := μ7) (μ1 := μ8) (r := .p d') (by
  have : fVar 3 [some (.p s), some (.v (.int (many : Int))), some (.v (.int (signs : Int))), some (.p d), w4, w5, some (.p μ5.length)] μ7 = some (.p d, μ7) := rfl
  simp [fCallW, fCons, this, fNil, e8]) rfl k1''.2 (by simp [sf])
 rw [putB] at e9
 have g9 : Go (fun u => u = t') f8 μ8 f8 (μ8.set μ5.length (.ob "Shelf" (sf d d' m3))) := Go.set k1''.1
 refine ⟨f8, μ8.set μ5.length (.ob "Shelf" (sf d d' m3)), μ5.length, ?_, ⟨d, d', m3, ⟨k1''.1, by rw [List.getElem?_set_self k1''.lt]⟩, l8'.go (by omega) g9, l8.go (by omega) g9, k4''.go (by omega) g9⟩, ?_⟩
 ·rw [u_Shelf_fallen]
  have whole : b_Shelf_fallen [some (.p s), some (.v (.int (many : Int))), some (.v (.int (signs : Int))), none, none, none, none] μ = some (.rt (.p μ5.length) (μ8.set μ5.length (.ob "Shelf" (sf d d' m3)))) :=
   sq s1 (sq s2 (sq s3 (sq (e_set e6) (sq e7 (sq e9 rfl)))))
  rw [whole]; rfl
 ·have m0 : ∀ {f f' : Nat -> Nat} {μ μ' : Store}, Go (fun u => u = t') f μ f' μ' -> Go (fun u => u = t' \/ u = t' + 1) f μ f' μ' := fun g => g.mono fun _ z => .inl z
  exact ((((((((g1'.trans g2').trans g3').trans g4').trans g5').trans (m0 g6)).trans (m0 g7)).trans (g8.mono fun _ z => z.elim))).trans (m0 g9)
end LW
namespace LW
open PySem HW
def IB (f0 : Nat -> Nat) (μ0 : Store) (t w s st : Nat) (L : List D) (fst goal : List (List D)) (gs : List D) (r : List (Nat × D)) (ρ : Lo) (μ : Store) : Prop :=
 (∃ x2 x3, ρ = [some (.p s), some (.p st), x2, x3]) /\ ∃ f rows sts B, Own f μ w st (.lst L) /\ SH f μ t s fst rows sts /\ Go (fun u => u = t + 2 \/ u = t + 3) f0 μ0 f μ /\ BD B rows /\ B + r.length <= 900 /\ OKS r /\ fold rows r = goal /\ sts ++ r.map tupS = gs /\ sts.length + r.length <= 900
theorem stroked_ev {f : Nat -> Nat} {μ : Store} {t w s st B : Nat} {fst rows : List (List D)} {sts : List D} {l : List (Nat × D)} (h : SH f μ t s fst rows sts) (ho : Own f μ w st (.lst (l.map tupS))) (hw : w ≠ t + 2 /\ w ≠ t + 3) (ol : OKS l) (bd : BD B rows) (hB : B + l.length <= 900) (hs : sts.length + l.length <= 900) :
  ∃ f' μ', w_law_stroked [.p s, .p st] μ = some (.v .non, μ') /\ SH f' μ' t s fst (fold rows l) (sts ++ l.map tupS) /\ Go (fun u => u = t + 2 \/ u = t + 3) f μ f' μ' := by
 obtain ⟨GS, hGS⟩ : ∃ GS, GS = sts ++ l.map tupS := ⟨_, rfl⟩
 obtain ⟨GG, hGG⟩ : ∃ GG, GG = fold rows l := ⟨_, rfl⟩
 obtain ⟨ρ', μ', e, ⟨x2, x3, rfl⟩, f', rows', sts', B', o', h', g', _, _, _, z1, z2, _⟩ := loopL_inv tupS (n := st) (xs := l.map tupS) (g := gTp 2 (gsCons (gNm 2) (gsCons (gNm 3) gsNil))) (b := l_law_stroked_0) (IB f μ t w s st (l.map tupS) fst GG GS)
  (fun q r ρ μ ⟨⟨x2, x3, hρ⟩, f, rows, sts, B, ho, h, hg, hb, hB, oks, z1, z2, hs⟩ => by
   subst hρ
   obtain ⟨q1, q2⟩ := oks q List.mem_cons_self
   have okr : OKS r := fun z hz => oks z (List.mem_cons_of_mem _ hz)
   have hB1 : B + 1 + r.length <= 900 := by simp at hB; omega
   have hs1 : sts.length + 1 + r.length <= 900 := by simp at hs; omega
   have big : sts.length < sizeLine := by rw [sizeLine_eq]; omega
   have hi := is_ev (ρ := [some (.p s), some (.p st), some (.v (.int (q.1 : Int))), some (.v q.2)]) (μ := μ) (fa := fVar 3) (neg := false) rfl q2.tx
   have fin : ∀ (f' : Nat -> Nat) (μ' : Store), l_law_stroked_0 [some (.p s), some (.p st), some (.v (.int (q.1 : Int))), some (.v q.2)] μ = some (.nx [some (.p s), some (.p st), some (.v (.int (q.1 : Int))), some (.v q.2)] μ') -> SH f' μ' t s fst (strk q.2 rows q.1) (sts ++ [.tup [.int (q.1 : Int), q.2]]) -> Go (fun u => u = t + 2 \/ u = t + 3) f μ f' μ' ->
     ∃ ρ' μ', thG (gTp 2 (gsCons (gNm 2) (gsCons (gNm 3) gsNil)) (.v (tupS q)) [some (.p s), some (.p st), x2, x3] μ) l_law_stroked_0 = some (.nx ρ' μ') /\ IB _ _ t w s st (l.map tupS) fst GG GS r ρ' μ' := fun f' μ' e h' g' =>
    ⟨_, μ', e, ⟨_, _, rfl⟩, f', _, _, B + 1, ho.go (by omega) g', h', hg.trans g', hb.strk q1 q2.el, hB1, okr, z1, by rw [List.append_assoc]; exact z2, by simp at hs ⊢; omega⟩
   rcases q2 with hn | ⟨x, hx, ox, lx, nx⟩
   ·obtain ⟨f', μ', e, h', g'⟩ := clear_ev (i := q.1) h (by rw [hb.1]; exact q1) big (hb.lt (by omega))
    refine fin f' μ' ((if_yes (μ1 := μ) ?_).trans ?_) (by rw [hn]; exact h') g'
    ·rw [hi, hn]; rfl
    ·have m := e_meth (nm := "clear") (w := w_Shelf_clear) (n := 2) (ρ := [some (.p s), some (.p st), some (.v (.int (q.1 : Int))), some (.v q.2)]) (fo := fVar 0) (fa := fCons (fVar 2) fNil) h nm_clear rfl rfl rfl
     simp only [sDrop, m, e, Option.bind_some]
   ·obtain ⟨f', μ', e, h', g'⟩ := put_ev (i := q.1) (d := q.2) h (by rw [hb.1]; exact q1) (.inr ⟨x, hx⟩) big (hb.lt (by omega))
    refine fin f' μ' ((if_no (μ1 := μ) ?_).trans ?_) h' g'
    ·rw [hi, hx]; rfl
    ·have m := e_meth (nm := "put") (w := w_Shelf_put) (n := 3) (ρ := [some (.p s), some (.p st), some (.v (.int (q.1 : Int))), some (.v q.2)]) (fo := fVar 0) (fa := fCons (fVar 2) (fCons (fVar 3) fNil)) h nm_put rfl rfl rfl
     simp only [sDrop, m, e, Option.bind_some])
  (fun r ρ μ ⟨_, f, rows, sts, B, ho, _⟩ => ho.2) l _ μ ⟨⟨none, none, rfl⟩, f, rows, sts, B, ho, h, Go.refl, bd, hB, ol, hGG.symm, hGS.symm, hs⟩
 have z1 : rows' = fold rows l := (show rows' = GG from z1).trans hGG
 have z2 : sts' = sts ++ l.map tupS := (show sts' = GS by simpa using z2).trans hGS
 subst z1 z2
 refine ⟨f', μ', ?_, h', g'⟩
 rw [u_law_stroked]
 have : b_law_stroked [some (.p s), some (.p st), none, none] μ = _ := (e_forL (fo := fVar 1) rfl ho.2).trans e
 rw [this]; rfl
theorem rowsw {f : Nat -> Nat} {μ : Store} {t s : Nat} {fst rows : List (List D)} {sts : List D} (u : Nat) (h : SH f μ t s fst rows sts) (h3 : rows.length = 3) : ∃ f' μ' n', w_law_rows [.p s] μ = some (.p n', μ') /\ LL f' μ' u n' rows /\ Go (fun _ => False) f μ f' μ' := by
 match rows, h3 with
 | [r0, r1, r2], _ =>
  refine ⟨_, _, _, ?_, LL.newc (f := f) (μ := μ) (xss := [r0, r1, r2]) u, Go.news u _⟩
  have g1 : Go (fun _ => False) f μ (ext f μ.length u) (μ ++ [Cell.lst r0]) := Go.new u _
  have h1 := h.go (fun _ _ z => z) g1
  have g2 : Go (fun _ => False) (ext f μ.length u) (μ ++ [Cell.lst r0]) (ext (ext f μ.length u) (μ ++ [Cell.lst r0]).length u) ((μ ++ [Cell.lst r0]) ++ [Cell.lst r1]) := Go.new u _
  have h2 := h1.go (fun _ _ z => z) g2
  have m0 := (e_meth (nm := "rows") (w := w_Shelf_rows) (n := 2) (ρ := [some (.p s)]) (fo := fVar 0) (fa := fCons (fK (.int 0)) fNil) h nm_rows rfl rfl rfl).trans (rows_ev (i := 0) h rfl)
  have m1 := (e_meth (nm := "rows") (w := w_Shelf_rows) (n := 2) (ρ := [some (.p s)]) (fo := fVar 0) (fa := fCons (fK (.int 1)) fNil) h1 nm_rows rfl rfl rfl).trans (rows_ev (i := 1) h1 rfl)
  have m2 := (e_meth (nm := "rows") (w := w_Shelf_rows) (n := 2) (ρ := [some (.p s)]) (fo := fVar 0) (fa := fCons (fK (.int 2)) fNil) h2 nm_rows rfl rfl rfl).trans (rows_ev (i := 2) h2 rfl)
  have three : (3 : Nat) <= sizeLine := by rw [sizeLine_eq]; omega
  rw [u_law_rows]
  have e : ∀ (fa fb fc : FE) (μ1 μ2 μ3 : Store) (x y z : R), fa [some (.p s)] μ = some (x, μ1) -> fb [some (.p s)] μ1 = some (y, μ2) -> fc [some (.p s)] μ2 = some (z, μ3) -> fLR (fCons fa (fCons fb (fCons fc fNil))) [some (.p s)] μ = some (.p μ3.length, μ3 ++ [.lr [x, y, z]]) := fun fa fb fc μ1 μ2 μ3 x y z a b c => by
   simp [fLR, fCons, fNil, a, b, c, three]
  have e' := e _ _ _ _ _ _ _ _ _ m0 m1 m2
  simp only [b_law_rows, sRet, e']
  simp [finW, List.range', List.range'_succ]
theorem view_ev {μ : Store} : ∀ (bs : List Nat) (xss : List (List D)), bs.length = xss.length -> (∀ (i : Nat) b xs, bs[i]? = some b -> xss[i]? = some xs -> μ[b]? = some (.lst xs)) -> (∀ xs ∈ xss, ∀ d ∈ xs, EL d) -> viewLs μ (bs.map .p) = some (xss.map .fl)
 | [], [], _, _, _ => rfl
 | [], _ :: _, hl, _, _ => by simp at hl
 | _ :: _, [], hl, _, _ => by simp at hl
 | b :: bs, xs :: xss, hl, h, he => by
  have hb : μ[b]? = some (.lst xs) := h 0 b xs rfl rfl
  have ok : okD 60 (.fl xs) = true := els_ok (n := 57) (he xs List.mem_cons_self)
  have ih := view_ev bs xss (by simpa using hl) (fun i b' xs' e1 e2 => h (i + 1) b' xs' (by simpa using e1) (by simpa using e2)) fun ys hy => he ys (List.mem_cons_of_mem _ hy)
  simp [viewLs, viewD, hb, ok, ih]
theorem eqDs_fl : ∀ {xss : List (List D)}, (∀ xs ∈ xss, ∀ d ∈ xs, EL d) -> eqDs (xss.map .fl) (xss.map .fl) = true
 | [], _ => rfl
 | xs :: xss, h => by
  have : eqD (.fl xs) (.fl xs) = true := els_eq (h xs List.mem_cons_self)
  simp [eqDs, this, eqDs_fl fun ys hy => h ys (List.mem_cons_of_mem _ hy)]
theorem okDs_fl : ∀ {xss : List (List D)}, (∀ xs ∈ xss, ∀ d ∈ xs, EL d) -> okDs 59 (xss.map .fl) = true
 | [], _ => rfl
 | xs :: xss, h => by
  have : okD 59 (.fl xs) = true := els_ok (n := 56) (h xs List.mem_cons_self)
  simp [okDs, this, okDs_fl fun ys hy => h ys (List.mem_cons_of_mem _ hy)]
theorem eqL_ev {f : Nat -> Nat} {μ : Store} {u v a b B : Nat} {xss : List (List D)} {neg : Bool} (h1 : LL f μ u a xss) (h2 : LL f μ v b xss) (bd : BD B xss) : eqL neg (.p a) (.p b) μ = some (.v (.bl (!neg)), μ) := by
 have vw : ∀ {w n}, LL f μ w n xss -> viewL (.p n) μ = some (xss.map .fl) := fun {w n} ⟨_, bs, q1, _, q3, q4⟩ => by
  simp only [viewL, lrOf, q1, Option.bind_some]
  exact view_ev bs xss q3 (fun i b xs e1 e2 => (q4 i b xs e1 e2).2) fun xs hx => (bd.2 xs hx).2
 have he : ∀ xs ∈ xss, ∀ d ∈ xs, EL d := fun xs hx => (bd.2 xs hx).2
 simp only [eqL, vw h1, vw h2, Option.bind_some, okDs_fl he, eqDs_fl he, Bool.and_self, if_true]
 cases neg <;> rfl
theorem eqL_test {ρ : Lo} {f : Nat -> Nat} {μ μ1 μ2 : Store} {fa fb : FE} {u v a b B : Nat} {xss : List (List D)} (ha : fa ρ μ = some (.p a, μ1)) (hb : fb ρ μ1 = some (.p b, μ2)) (h1 : LL f μ2 u a xss) (h2 : LL f μ2 v b xss) (bd : BD B xss) : fB (fOp (eqL true) fa fb) ρ μ = some (false, μ2) := by
 simp only [fB, fOp, ha, hb, Option.bind_some, eqL_ev (neg := true) h1 h2 bd]
 rfl
end LW
namespace LW
open PySem HW
section
variable {ρ : Lo} {μ : Store} {fa fb fc : FE}
theorem eqI_ev {i j : Int} (ha : fa ρ μ = some (.v (.int i), μ)) (hb : fb ρ μ = some (.v (.int j), μ)) : fB (fOp (eqR false) fa fb) ρ μ = some (i == j, μ) := by
 simp only [fB, fOp, ha, hb, Option.bind_some, ev_eqI]
theorem ltI_ev {i j : Int} (ha : fa ρ μ = some (.v (.int i), μ)) (hb : fb ρ μ = some (.v (.int j), μ)) : fB (fOp ltD fa fb) ρ μ = some (decide (i < j), μ) := by
 simp [fB, fOp, ha, hb, ltD]
theorem fz_ev {d : D} (ha : fa ρ μ = some (.v d, μ)) : fFz fa ρ μ = some (.v d, μ) := by simp [fFz, ha, fzD]
theorem drw {sc : D} {k m d : Int} (ha : fa ρ μ = some (.v sc, μ)) (hb : fb ρ μ = some (.v (.int k), μ)) (hc : fc ρ μ = some (.v (.int m), μ)) (e : m_law_draw [sc, .int k, .int m] = some (.int d)) : fCall m_law_draw 3 (fCons fa (fCons fb (fCons fc fNil))) ρ μ = some (.v (.int d), μ) := by
 simp [fCall, fCons, fNil, ha, hb, hc, vals, e]
theorem addI {i j : Int} (ha : fa ρ μ = some (.v (.int i), μ)) (hb : fb ρ μ = some (.v (.int j), μ)) : fOp addQ fa fb ρ μ = some (.v (.int (i + j)), μ) := by
 simp only [fOp, ha, hb, Option.bind_some]; rfl
theorem len_ev {n : Nat} {xs : List D} (ha : fa ρ μ = some (.p n, μ)) (h : μ[n]? = some (.lst xs)) : fAr lenD (fCons fa fNil) ρ μ = some (.v (.int (xs.length : Int)), μ) := by
 simp [fAr, fCons, fNil, ha, lenD, itemsD, h]
theorem min_ev {i j : Int} (ha : fa ρ μ = some (.v (.int i), μ)) (hb : fb ρ μ = some (.v (.int j), μ)) : fAr minD (fCons fa (fCons fb fNil)) ρ μ = some (.v (.int (if j < i then j else i)), μ) := by
 simp [fAr, fCons, fNil, ha, hb, minD]
theorem rng_ev {n : Nat} {g : FG} {b : FS} (ha : fa ρ μ = some (.v (.int (n : Int)), μ)) (hn : n <= 1000) : sFor (fiR1 fa) g b ρ μ = loop g b ((List.range n).map fun i => .int ((i : Nat) : Int)) ρ μ := by
 rw [ev_for, ev_r1, ha, ev_r11 ⟨by omega, by omega⟩, ev_for1, Int.toNat_natCast]
end
theorem fold_app {xss : List (List D)} {l r : List (Nat × D)} : fold xss (l ++ r) = fold (fold xss l) r := List.foldl_append
noncomputable def lie (many signs : Nat) (xss : List (List D)) (l : List (Nat × D)) (k : Nat) : List (List D) := if k <= many then fold xss (l.take k) else fall many signs xss l
theorem lie_lt {many signs : Nat} {xss : List (List D)} {l : List (Nat × D)} {k : Nat} (h : k < l.length) (hk : k < many) : lie many signs xss l (k + 1) = strk l[k].2 (lie many signs xss l k) l[k].1 := by
 unfold lie
 rw [if_pos (by omega), if_pos (by omega), List.take_succ, List.getElem?_eq_getElem h, fold_app]
 rfl
theorem lie_eq {many signs : Nat} {xss : List (List D)} {l : List (Nat × D)} (h : many < l.length) : lie many signs xss l (many + 1) = partS signs (lie many signs xss l many) l[many] := by
 unfold lie
 rw [if_neg (by omega), if_pos (by omega)]
 unfold fall
 rw [List.drop_eq_getElem_cons h]
 rfl
theorem lie_end {many signs : Nat} {xss : List (List D)} {l : List (Nat × D)} : lie many signs xss l (min (many + 1) l.length) = fall many signs xss l := by
 unfold lie
 by_cases h : many < l.length
 ·rw [if_neg (by omega)]
 ·rw [if_pos (by omega)]
  unfold fall
  rw [List.drop_eq_nil_of_le (by omega), List.take_of_length_le (by omega), List.take_of_length_le (l := l) (i := many) (by omega)]
  rfl
def IL (f0 : Nat -> Nat) (μ0 : Store) (w u n st ly many signs B : Nat) (xss : List (List D)) (l : List (Nat × D)) (k : Nat) (ρ : Lo) (μ : Store) : Prop :=
 (∃ x5 x6 x7, ρ = [some (.p n), some (.p st), some (.v (.int (many : Int))), some (.v (.int (signs : Int))), some (.p ly), x5, x6, x7]) /\ ∃ f, Own f μ w st (.lst (l.map tupS)) /\ LL f μ u ly (lie many signs xss l k) /\ Go (fun v => v = u) f0 μ0 f μ /\ BD (B + k) (lie many signs xss l k)
theorem lie_turn {f0 : Nat -> Nat} {μ0 : Store} {w u n st ly many signs B k : Nat} {xss : List (List D)} {l : List (Nat × D)} {ρ : Lo} {μ : Store} (hw : w ≠ u) (ol : OKS l) (hB : B + l.length <= 900) (hk : k < min (many + 1) l.length) (h : IL f0 μ0 w u n st ly many signs B xss l k ρ μ) :
  ∃ ρ' μ', thG (gNm 5 (.v (.int (k : Int))) ρ μ) l_law_lying_0 = some (.nx ρ' μ') /\ IL f0 μ0 w u n st ly many signs B xss l (k + 1) ρ' μ' := by
 obtain ⟨⟨x5, x6, x7, rfl⟩, f, ho, hl, hg, hb⟩ := h
 have hkl : k < l.length := by omega
 have hkm : k <= many := by omega
 obtain ⟨q1, q2⟩ := ol l[k] (List.getElem_mem hkl)
 have hit : L2.atI (l.map tupS) (k : Int) = some (tupS l[k]) := L2.atI_nat (by rw [List.getElem?_map, List.getElem?_eq_getElem hkl]; rfl)
 have e1 : sAsg (fOp ixD (fVar 1) (fVar 5)) (gTp 2 (gsCons (gNm 6) (gsCons (gNm 7) gsNil))) [some (.p n), some (.p st), some (.v (.int (many : Int))), some (.v (.int (signs : Int))), some (.p ly), some (.v (.int (k : Int))), x6, x7] μ =
   some (.nx [some (.p n), some (.p st), some (.v (.int (many : Int))), some (.v (.int (signs : Int))), some (.p ly), some (.v (.int (k : Int))), some (.v (.int (l[k].1 : Int))), some (.v l[k].2)] μ) := by
  have : fOp ixD (fVar 1) (fVar 5) [some (.p n), some (.p st), some (.v (.int (many : Int))), some (.v (.int (signs : Int))), some (.p ly), some (.v (.int (k : Int))), x6, x7] μ = some (.v (tupS l[k]), μ) := by
   have v1 : fVar 1 [some (.p n), some (.p st), some (.v (.int (many : Int))), some (.v (.int (signs : Int))), some (.p ly), some (.v (.int (k : Int))), x6, x7] μ = some (.p st, μ) := rfl
   have v5 : fVar 5 [some (.p n), some (.p st), some (.v (.int (many : Int))), some (.v (.int (signs : Int))), some (.p ly), some (.v (.int (k : Int))), x6, x7] μ = some (.v (.int (k : Int)), μ) := rfl
   simp only [fOp, v1, v5, Option.bind_some, ixD, itemsD, ho.2, hit]
  simp only [sAsg, this, Option.bind_some]
  rfl
 generalize hqd : l[k] = q at *
 obtain ⟨qi, d⟩ := q
 dsimp only at q1 q2 e1
 have big : ∀ xs ∈ lie many signs xss l k, xs.length < sizeLine := hb.lt (by omega)
 have hll : qi < (lie many signs xss l k).length := by rw [hb.1]; exact q1
 -- what is put, and where
 have putE : ∀ (d' : D), (∃ y, d' = .str y) -> ∃ f' μ', sDrop (fMt appD (fOp ixR (fVar 4) (fVar 6)) (fCons (fVar 7) fNil)) [some (.p n), some (.p st), some (.v (.int (many : Int))), some (.v (.int (signs : Int))), some (.p ly), some (.v (.int (k : Int))), some (.v (.int (qi : Int))), some (.v d')] μ =
   some (.nx [some (.p n), some (.p st), some (.v (.int (many : Int))), some (.v (.int (signs : Int))), some (.p ly), some (.v (.int (k : Int))), some (.v (.int (qi : Int))), some (.v d')] μ') /\ LL f' μ' u ly (strk d' (lie many signs xss l k) qi) /\ Go (fun v => v = u) f μ f' μ' := by
  rintro d' ⟨y, rfl⟩
  have hx : (lie many signs xss l k)[qi]? = some (lie many signs xss l k)[qi] := List.getElem?_eq_getElem hll
  obtain ⟨bs, b, p1, p2, p3, p4⟩ := hl.one hx
  refine ⟨f, μ.set b (.lst ((lie many signs xss l k)[qi] ++ [.str y])), e_app (d := .str y) (e_ixR rfl rfl p1 p2) rfl p3.2 (big _ (List.getElem_mem hll)), ?_, Go.set p3.1⟩
  have : strk (.str y) (lie many signs xss l k) qi = (lie many signs xss l k).set qi ((lie many signs xss l k)[qi] ++ [.str y]) := by unfold strk; rw [hx]; rfl
  rw [this]; exact p4 _
 have fin : ∀ (f' : Nat -> Nat) (μ' : Store) (x : Option R), l_law_lying_0 [some (.p n), some (.p st), some (.v (.int (many : Int))), some (.v (.int (signs : Int))), some (.p ly), some (.v (.int (k : Int))), x6, x7] μ =
   some (.nx [some (.p n), some (.p st), some (.v (.int (many : Int))), some (.v (.int (signs : Int))), some (.p ly), some (.v (.int (k : Int))), some (.v (.int (qi : Int))), x] μ') -> LL f' μ' u ly (lie many signs xss l (k + 1)) -> Go (fun v => v = u) f μ f' μ' -> BD (B + k + 1) (lie many signs xss l (k + 1)) ->
   ∃ ρ' μ', thG (gNm 5 (.v (.int (k : Int))) [some (.p n), some (.p st), some (.v (.int (many : Int))), some (.v (.int (signs : Int))), some (.p ly), x5, x6, x7] μ) l_law_lying_0 = some (.nx ρ' μ') /\ IL f0 μ0 w u n st ly many signs B xss l (k + 1) ρ' μ' := fun f' μ' x e hl' g' b' =>
  ⟨_, μ', e, ⟨_, _, _, rfl⟩, f', ho.go hw g', hl', hg.trans g', b'⟩
 have cEq : ∀ x7, fB (fOp (eqR false) (fVar 5) (fVar 2)) [some (.p n), some (.p st), some (.v (.int (many : Int))), some (.v (.int (signs : Int))), some (.p ly), some (.v (.int (k : Int))), some (.v (.int (qi : Int))), x7] μ = some ((k : Int) == (many : Int), μ) := fun x7 => eqI_ev rfl rfl
 have cLt : ∀ x7, fB (fOp ltD (fVar 5) (fVar 2)) [some (.p n), some (.p st), some (.v (.int (many : Int))), some (.v (.int (signs : Int))), some (.p ly), some (.v (.int (k : Int))), some (.v (.int (qi : Int))), x7] μ = some (decide ((k : Int) < (many : Int)), μ) := fun x7 => ltI_ev rfl rfl
 have cIs : ∀ (neg : Bool) (d' : D), TxD d' -> fB (fUn (isK neg .non) (fVar 7)) [some (.p n), some (.p st), some (.v (.int (many : Int))), some (.v (.int (signs : Int))), some (.p ly), some (.v (.int (k : Int))), some (.v (.int (qi : Int))), some (.v d')] μ = some (neg != isN d', μ) := fun neg d' h => is_ev rfl h
 by_cases hlt : k < many
 ·have hz : ((k : Int) == (many : Int)) = false := by simp; omega
  have hlt' : decide ((k : Int) < (many : Int)) = true := by simp; omega
  have hL : lie many signs xss l (k + 1) = strk d (lie many signs xss l k) qi := by rw [lie_lt hkl hlt, hqd]
  have hbd : BD (B + k + 1) (lie many signs xss l (k + 1)) := by rw [hL]; exact hb.strk q1 q2.el
  have c1 : sIf (tAndF (fB (fOp (eqR false) (fVar 5) (fVar 2))) (fB (fUn (isK true .non) (fVar 7)))) (sSet 7 (fSlS (fVar 7) oNone (oSome (fVar 3)))) sNext [some (.p n), some (.p st), some (.v (.int (many : Int))), some (.v (.int (signs : Int))), some (.p ly), some (.v (.int (k : Int))), some (.v (.int (qi : Int))), some (.v d)] μ = some (.nx [some (.p n), some (.p st), some (.v (.int (many : Int))), some (.v (.int (signs : Int))), some (.p ly), some (.v (.int (k : Int))), some (.v (.int (qi : Int))), some (.v d)] μ) :=
   (if_no (t_no ((cEq _).trans (by rw [hz])))).trans rfl
  rcases q2 with rfl | ⟨x, rfl, ox, lx, nx⟩
  ·obtain ⟨bs, p1, p2, p3⟩ := hl.put hll
   refine fin _ _ (some (.v .non)) (sq e1 (sq c1 (sq ((if_yes (μ1 := μ) ((t_yes (cIs false .non (.inl rfl))).trans ((cLt _).trans (by rw [hlt'])))).trans (e_put rfl rfl p1 (by omega))) ((if_no (t_no ?_)).trans rfl)))) (by rw [hL]; exact p3) ((Go.new u _).trans (Go.set ?_)) hbd
   ·exact (is_ev (neg := true) (d := .non) rfl (.inl rfl)).trans rfl
   ·rw [ext_lt (List.getElem?_eq_some_iff.mp p1).1]; exact hl.1
  ·obtain ⟨f', μ', e, hl', g'⟩ := putE (.str x) ⟨x, rfl⟩
   refine fin f' μ' _ (sq e1 (sq c1 (sq ((if_no (t_no (cIs false (.str x) (.inr ⟨x, rfl⟩)))).trans rfl) ((if_yes (μ1 := μ) ((t_yes (cIs true (.str x) (.inr ⟨x, rfl⟩))).trans ((ne_ev (x := x) rfl ox).trans (by rw [nx]; rfl)))).trans e)))) (by rw [hL]; exact hl') g' hbd
 ·have hke : k = many := by omega
  subst hke
  have hlt' : decide ((k : Int) < (k : Int)) = false := by simp
  have hz : ((k : Int) == (k : Int)) = true := by simp
  have hL : lie k signs xss l (k + 1) = partS signs (lie k signs xss l k) (qi, d) := by rw [lie_eq hkl, hqd]
  have hbd : BD (B + k + 1) (lie k signs xss l (k + 1)) := by rw [hL]; exact hb.part q1 q2
  rcases q2 with rfl | ⟨x, rfl, ox, lx, nx⟩
  ·refine fin f μ (some (.v .non)) (sq e1 (sq ((if_no ((t_yes ((cEq _).trans (by rw [hz]))).trans (cIs true .non (.inl rfl)))).trans rfl) (sq ((if_no ((t_yes (cIs false .non (.inl rfl))).trans ((cLt _).trans (by rw [hlt'])))).trans rfl) ((if_no (t_no (cIs true .non (.inl rfl)))).trans rfl)))) (by rw [hL]; exact hl) Go.refl hbd
  ·have c1 : sIf (tAndF (fB (fOp (eqR false) (fVar 5) (fVar 2))) (fB (fUn (isK true .non) (fVar 7)))) (sSet 7 (fSlS (fVar 7) oNone (oSome (fVar 3)))) sNext [some (.p n), some (.p st), some (.v (.int (k : Int))), some (.v (.int (signs : Int))), some (.p ly), some (.v (.int (k : Int))), some (.v (.int (qi : Int))), some (.v (.str x))] μ = some (.nx [some (.p n), some (.p st), some (.v (.int (k : Int))), some (.v (.int (signs : Int))), some (.p ly), some (.v (.int (k : Int))), some (.v (.int (qi : Int))), some (.v (.str (Txt.slice x none (some (signs : Int)))))] μ) :=
    (if_yes (μ1 := μ) ((t_yes ((cEq _).trans (by rw [hz]))).trans (cIs true (.str x) (.inr ⟨x, rfl⟩)))).trans (e_set (slS_ev (x := x) rfl rfl lx))
   have c2 := (if_no (x := sAsg (fLst fNil) (gSubR (fVar 4) (fVar 6))) (y := sNext) (t_no (b := fB (fOp ltD (fVar 5) (fVar 2))) (cIs false (.str (Txt.slice x none (some (signs : Int)))) (.inr ⟨_, rfl⟩)))).trans rfl
   have ne := ne_ev (ρ := [some (.p n), some (.p st), some (.v (.int (k : Int))), some (.v (.int (signs : Int))), some (.p ly), some (.v (.int (k : Int))), some (.v (.int (qi : Int))), some (.v (.str (Txt.slice x none (some (signs : Int)))))]) (μ := μ) (fa := fVar 7) rfl (sl_ok none (some (signs : Int)) ox)
   by_cases hy : (Txt.slice x none (some (signs : Int)) == Str.ofString "") = true
   ·refine fin f μ _ (sq e1 (sq c1 (sq c2 ((if_no ((t_yes (cIs true _ (.inr ⟨_, rfl⟩))).trans (ne.trans (by rw [hy]; rfl)))).trans rfl)))) ?_ Go.refl hbd
    have : partS signs (lie k signs xss l k) (qi, .str x) = lie k signs xss l k := by unfold partS; dsimp only; rw [if_pos hy]
    rw [hL, this]; exact hl
   ·have hy' : (Txt.slice x none (some (signs : Int)) == Str.ofString "") = false := by simpa using hy
    obtain ⟨f', μ', e, hl', g'⟩ := putE (.str (Txt.slice x none (some (signs : Int)))) ⟨_, rfl⟩
    refine fin f' μ' _ (sq e1 (sq c1 (sq c2 ((if_yes (μ1 := μ) ((t_yes (cIs true _ (.inr ⟨_, rfl⟩))).trans (ne.trans (by rw [hy']; rfl)))).trans e)))) ?_ g' hbd
    have : partS signs (lie k signs xss l k) (qi, .str x) = strk (.str (Txt.slice x none (some (signs : Int)))) (lie k signs xss l k) qi := by unfold partS; dsimp only; rw [if_neg hy]
    rw [hL, this]; exact hl'
end LW
namespace LW
open PySem HW
theorem lying_ev {f : Nat -> Nat} {μ : Store} {v w n st B : Nat} {xss : List (List D)} {l : List (Nat × D)} (u many signs : Nat) (h : LL f μ v n xss) (ho : Own f μ w st (.lst (l.map tupS))) (hw : w ≠ u) (ol : OKS l) (bd : BD B xss) (hB : B + l.length <= 900) (hm : many <= 900) :
  ∃ f' μ' n', w_law_lying [.p n, .p st, .v (.int (many : Int)), .v (.int (signs : Int))] μ = some (.p n', μ') /\ LL f' μ' u n' (fall many signs xss l) /\ Go (fun v => v = u) f μ f' μ' := by
 obtain ⟨f1, μ1, ly, e1, l1, g1⟩ := copy_ev (ρ := [some (.p n), some (.p st), some (.v (.int (many : Int))), some (.v (.int (signs : Int))), none, none, none, none]) (fo := fVar 0) u h (by rw [bd.1]; omega) rfl
 have o1 := ho.go (fun z => z) g1
 have hl0 : lie many signs xss l 0 = xss := by unfold lie; rw [if_pos (by omega)]; rfl
 obtain ⟨ρ2, μ2, e2, ⟨x5, x6, x7, rfl⟩, f2, o2, l2, g2, b2⟩ := loop_range (g := gNm 5) (b := l_law_lying_0) (ρ := [some (.p n), some (.p st), some (.v (.int (many : Int))), some (.v (.int (signs : Int))), some (.p ly), none, none, none]) (μ := μ1) (min (many + 1) l.length) (IL f1 μ1 w u n st ly many signs B xss l)
  ⟨⟨_, _, _, rfl⟩, f1, o1, by rw [hl0]; exact l1, Go.refl, by rw [hl0]; exact bd⟩ fun k hk ρ μ hI => lie_turn hw ol hB hk hI
 rw [lie_end] at l2
 refine ⟨f2, μ2, ly, ?_, l2, (g1.mono fun _ z => z.elim).trans g2⟩
 have e3 : fAr minD (fCons (fOp addQ (fVar 2) (fK (.int 1))) (fCons (fAr lenD (fCons (fVar 1) fNil)) fNil)) [some (.p n), some (.p st), some (.v (.int (many : Int))), some (.v (.int (signs : Int))), some (.p ly), none, none, none] μ1 = some (.v (.int ((min (many + 1) l.length : Nat) : Int)), μ1) := by
  rw [min_ev (addI (i := (many : Int)) (j := 1) rfl rfl) (len_ev rfl o1.2), List.length_map]
  have : (if (l.length : Int) < (many : Int) + 1 then (l.length : Int) else (many : Int) + 1) = ((min (many + 1) l.length : Nat) : Int) := by split <;> omega
  rw [this]
 have whole : b_law_lying [some (.p n), some (.p st), some (.v (.int (many : Int))), some (.v (.int (signs : Int))), none, none, none, none] μ = some (.rt (.p ly) μ2) :=
  sq (e_set e1) (sq ((rng_ev e3 (by omega)).trans e2) rfl)
 rw [u_law_lying, whole]; rfl
theorem sl_fin : ∀ i : Fin 11, PyData.strOk (Txt.slice (Str.ofString "tell 12 ab.") none (some ((1 : Int) + ((i.val : Nat) : Int)))) = true /\ (Txt.slice (Str.ofString "tell 12 ab.") none (some ((1 : Int) + ((i.val : Nat) : Int)))).length <= 11 /\ 1 <= (Txt.slice (Str.ofString "tell 12 ab.") none (some ((1 : Int) + ((i.val : Nat) : Int)))).length := by decide +kernel
theorem ts_fin : ∀ i : Fin 40, PyData.strOk (Str.ofString (toString ((i.val : Nat) : Int))) = true /\ (Str.ofString (toString ((i.val : Nat) : Int))).length <= 2 /\ ((i.val : Nat) : Int).natAbs.log2 < 1920 := by decide +kernel
theorem len_app {x y : Str} : (x ++ y).length = x.length + y.length := by
 show (Str.append x y).length = _
 simp [Str.append, Str.length]
theorem ne_empty {x : Str} (h : 1 <= x.length) : (x == Str.ofString "") = false := by
 rw [Bool.eq_false_iff]
 intro e
 rw [eq_of_beq e] at h
 exact absurd h (by decide +kernel)
def IG (ns : List Int) (f0 : Nat -> Nat) (μ0 : Store) (base many u n k : Nat) (ρ : Lo) (μ : Store) : Prop :=
 (∃ x4 x5, ρ = [some (.v (.fl (ns.map .int))), some (.v (.int (base : Int))), some (.v (.int (many : Int))), some (.p n), x4, x5]) /\ ∃ f l, Own f μ u n (.lst (l.map tupS)) /\ OKS l /\ l.length = k /\ Go (fun v => v = u) f0 μ0 f μ
theorem gen_turn (ns : List Int) {f0 : Nat -> Nat} {μ0 : Store} {base many u n k : Nat} {ρ : Lo} {μ : Store} (hk : k < 63) (h : IG ns f0 μ0 base many u n k ρ μ) : ∃ ρ' μ', thG (gNm 4 (.v (.int (k : Int))) ρ μ) l_law_strokes_0 = some (.nx ρ' μ') /\ IG ns f0 μ0 base many u n (k + 1) ρ' μ' := by
 obtain ⟨⟨x4, x5, rfl⟩, f, l, ho, ol, hl, hg⟩ := h
 obtain ⟨d1, e1, a1, b1⟩ := draw_ex ns ((base : Int) + (k : Int)) 11 (by decide)
 obtain ⟨d2, e2, a2, b2⟩ := draw_ex ns ((base : Int) + 63 + (k : Int)) 40 (by decide)
 obtain ⟨d3, e3, a3, b3⟩ := draw_ex ns ((base : Int) + 126 + (k : Int)) 7 (by decide)
 obtain ⟨d4, e4, a4, b4⟩ := draw_ex ns ((base : Int) + 189 + (k : Int)) 3 (by decide)
 obtain ⟨i1, l1, rfl⟩ := nat_of (m := 11) a1 b1
 obtain ⟨i2, l2, rfl⟩ := nat_of (m := 40) a2 b2
 obtain ⟨i4, l4, rfl⟩ := nat_of (m := 3) a4 b4
 have s1 := sl_fin ⟨i1, l1⟩
 have s2 := ts_fin ⟨i2, l2⟩
 dsimp only at s1 s2
 have f1 : fSlS (fK (.str "tell 12 ab.")) oNone (oSome (fOp addQ (fK (.int 1)) (fCall m_law_draw 3 (fCons (fFz (fVar 0)) (fCons (fFz (fOp addQ (fVar 1) (fVar 4))) (fCons (fK (.int 11)) fNil)))))) [some (.v (.fl (ns.map .int))), some (.v (.int (base : Int))), some (.v (.int (many : Int))), some (.p n), some (.v (.int (k : Int))), x5] μ = some (.v (.str (Txt.slice (Str.ofString "tell 12 ab.") none (some ((1 : Int) + (i1 : Int))))), μ) :=
  slS_ev (x := Str.ofString "tell 12 ab.") rfl (addI rfl (drw (sc := .fl (ns.map .int)) (fz_ev rfl) (fz_ev (addI (i := (base : Int)) (j := (k : Int)) rfl rfl)) rfl e1)) (by decide +kernel)
 have f2 : fAr strD (fCons (fCall m_law_draw 3 (fCons (fFz (fVar 0)) (fCons (fFz (fOp addQ (fOp addQ (fVar 1) (fK (.int 63))) (fVar 4))) (fCons (fK (.int 40)) fNil)))) fNil) [some (.v (.fl (ns.map .int))), some (.v (.int (base : Int))), some (.v (.int (many : Int))), some (.p n), some (.v (.int (k : Int))), x5] μ = some (.v (.str (Str.ofString (toString (i2 : Int)))), μ) := by
  have c := drw (ρ := [some (.v (.fl (ns.map .int))), some (.v (.int (base : Int))), some (.v (.int (many : Int))), some (.p n), some (.v (.int (k : Int))), x5]) (μ := μ) (sc := .fl (ns.map .int)) (fa := fFz (fVar 0)) (fb := fFz (fOp addQ (fOp addQ (fVar 1) (fK (.int 63))) (fVar 4))) (fc := fK (.int 40)) (fz_ev rfl) (fz_ev (addI (addI (i := (base : Int)) (j := 63) rfl rfl) (j := (k : Int)) rfl)) rfl e2
  have hs : strD [.v (.int (i2 : Int))] μ = some (.v (.str (Str.ofString (toString (i2 : Int)))), μ) := by
   unfold strD; dsimp only; rw [if_pos s2.2.2]
  simp only [fAr, fCons, c, fNil, Option.bind_some, hs]
 obtain ⟨x, hx⟩ : ∃ x, x = Txt.slice (Str.ofString "tell 12 ab.") none (some ((1 : Int) + (i1 : Int))) ++ Str.ofString (toString (i2 : Int)) := ⟨_, rfl⟩
 have ox : PyData.strOk x = true := by rw [hx]; exact ok_app s1.1 s2.1
 have lx : x.length <= 20 := by rw [hx, len_app]; omega
 have nx : (x == Str.ofString "") = false := ne_empty (by rw [hx, len_app]; omega)
 have f3 : sSet 5 (fOp addQ (fSlS (fK (.str "tell 12 ab.")) oNone (oSome (fOp addQ (fK (.int 1)) (fCall m_law_draw 3 (fCons (fFz (fVar 0)) (fCons (fFz (fOp addQ (fVar 1) (fVar 4))) (fCons (fK (.int 11)) fNil))))))) (fAr strD (fCons (fCall m_law_draw 3 (fCons (fFz (fVar 0)) (fCons (fFz (fOp addQ (fOp addQ (fVar 1) (fK (.int 63))) (fVar 4))) (fCons (fK (.int 40)) fNil)))) fNil))) [some (.v (.fl (ns.map .int))), some (.v (.int (base : Int))), some (.v (.int (many : Int))), some (.p n), some (.v (.int (k : Int))), x5] μ =
   some (.nx [some (.v (.fl (ns.map .int))), some (.v (.int (base : Int))), some (.v (.int (many : Int))), some (.p n), some (.v (.int (k : Int))), some (.v (.str x))] μ) := by
  refine e_set ?_
  have gen : ∀ fa fb : FE, fa [some (.v (.fl (ns.map .int))), some (.v (.int (base : Int))), some (.v (.int (many : Int))), some (.p n), some (.v (.int (k : Int))), x5] μ = some (.v (.str (Txt.slice (Str.ofString "tell 12 ab.") none (some ((1 : Int) + (i1 : Int))))), μ) -> fb [some (.v (.fl (ns.map .int))), some (.v (.int (base : Int))), some (.v (.int (many : Int))), some (.p n), some (.v (.int (k : Int))), x5] μ = some (.v (.str (Str.ofString (toString (i2 : Int)))), μ) ->
    fOp addQ fa fb [some (.v (.fl (ns.map .int))), some (.v (.int (base : Int))), some (.v (.int (many : Int))), some (.p n), some (.v (.int (k : Int))), x5] μ = some (.v (.str x), μ) := fun fa fb h1 h2 => by
   simp only [fOp, h1, h2, Option.bind_some]
   rw [sx_add (by rw [sizeLine_eq]; omega), hx]
  exact gen _ _ f1 f2
 have two : (2 : Nat) <= sizeLine := by rw [sizeLine_eq]; omega
 have rest : ∀ d, TxS d -> sIf (fB (fOp (eqR false) (fCall m_law_draw 3 (fCons (fFz (fVar 0)) (fCons (fFz (fOp addQ (fOp addQ (fVar 1) (fK (.int 126))) (fVar 4))) (fCons (fK (.int 7)) fNil)))) (fK (.int 0)))) (sSet 5 (fK .non)) sNext [some (.v (.fl (ns.map .int))), some (.v (.int (base : Int))), some (.v (.int (many : Int))), some (.p n), some (.v (.int (k : Int))), some (.v (.str x))] μ =
   some (.nx [some (.v (.fl (ns.map .int))), some (.v (.int (base : Int))), some (.v (.int (many : Int))), some (.p n), some (.v (.int (k : Int))), some (.v d)] μ) -> ∃ ρ' μ', thG (gNm 4 (.v (.int (k : Int))) [some (.v (.fl (ns.map .int))), some (.v (.int (base : Int))), some (.v (.int (many : Int))), some (.p n), x4, x5] μ) l_law_strokes_0 = some (.nx ρ' μ') /\ IG ns f0 μ0 base many u n (k + 1) ρ' μ' := by
  intro d hd ee
  have g' : Go (fun v => v = u) f μ f (μ.set n (.lst (l.map tupS ++ [tupS (i4, d)]))) := Go.set ho.1
  have c := drw (ρ := [some (.v (.fl (ns.map .int))), some (.v (.int (base : Int))), some (.v (.int (many : Int))), some (.p n), some (.v (.int (k : Int))), some (.v d)]) (μ := μ) (sc := .fl (ns.map .int)) (fa := fFz (fVar 0)) (fb := fFz (fOp addQ (fOp addQ (fVar 1) (fK (.int 189))) (fVar 4))) (fc := fK (.int 3)) (fz_ev rfl) (fz_ev (addI (addI (i := (base : Int)) (j := 189) rfl rfl) (j := (k : Int)) rfl)) rfl e4
  have v5 : fVar 5 [some (.v (.fl (ns.map .int))), some (.v (.int (base : Int))), some (.v (.int (many : Int))), some (.p n), some (.v (.int (k : Int))), some (.v d)] μ = some (.v d, μ) := rfl
  have ea := e_app (ρ := [some (.v (.fl (ns.map .int))), some (.v (.int (base : Int))), some (.v (.int (many : Int))), some (.p n), some (.v (.int (k : Int))), some (.v d)]) (fa := fVar 3) (fb := fTup (fCons (fCall m_law_draw 3 (fCons (fFz (fVar 0)) (fCons (fFz (fOp addQ (fOp addQ (fVar 1) (fK (.int 189))) (fVar 4))) (fCons (fK (.int 3)) fNil)))) (fCons (fVar 5) fNil))) (d := tupS (i4, d)) (n := n) (μ := μ) (μ1 := μ) rfl (by
   have gen : ∀ fa : FE, fa [some (.v (.fl (ns.map .int))), some (.v (.int (base : Int))), some (.v (.int (many : Int))), some (.p n), some (.v (.int (k : Int))), some (.v d)] μ = some (.v (.int (i4 : Int)), μ) -> fTup (fCons fa (fCons (fVar 5) fNil)) [some (.v (.fl (ns.map .int))), some (.v (.int (base : Int))), some (.v (.int (many : Int))), some (.p n), some (.v (.int (k : Int))), some (.v d)] μ = some (.v (tupS (i4, d)), μ) := fun fa h => by
    simp [fTup, fCons, h, v5, fNil, vals, two, tupS]
   exact gen _ c) ho.2 (by rw [List.length_map, sizeLine_eq]; omega)
  refine ⟨_, _, sq f3 (sq ee ea), ⟨_, _, rfl⟩, f, l ++ [(i4, d)], ⟨ho.1, by rw [List.getElem?_set_self ho.lt]; simp⟩, fun q hq => ?_, by simp [hl], hg.trans g'⟩
  rcases List.mem_append.mp hq with z | z
  ·exact ol q z
  ·rw [List.mem_singleton.mp z]; exact ⟨l4, hd⟩
 have c3 := e_is0 (drw (ρ := [some (.v (.fl (ns.map .int))), some (.v (.int (base : Int))), some (.v (.int (many : Int))), some (.p n), some (.v (.int (k : Int))), some (.v (.str x))]) (μ := μ) (sc := .fl (ns.map .int)) (fa := fFz (fVar 0)) (fb := fFz (fOp addQ (fOp addQ (fVar 1) (fK (.int 126))) (fVar 4))) (fc := fK (.int 7)) (fz_ev rfl) (fz_ev (addI (addI (i := (base : Int)) (j := 126) rfl rfl) (j := (k : Int)) rfl)) rfl e3)
 by_cases hz : d3 = 0
 ·subst hz
  exact rest .non (.inl rfl) ((if_yes c3).trans rfl)
 ·have hz' : (d3 == 0) = false := by simpa using hz
  exact rest (.str x) (.inr ⟨x, rfl, ox, lx, nx⟩) ((if_no (c3.trans (by rw [hz']))).trans rfl)
theorem gen_ev (ns : List Int) (f : Nat -> Nat) (μ : Store) (u base many : Nat) (hm : many <= 63) : ∃ l f' μ' n, w_law_strokes [.v (.fl (ns.map .int)), .v (.int (base : Int)), .v (.int (many : Int))] μ = some (.p n, μ') /\ Own f' μ' u n (.lst (l.map tupS)) /\ OKS l /\ l.length = many /\ Go (fun v => v = u) f μ f' μ' := by
 have g1 : Go (fun v => v = u) f μ (ext f μ.length u) (μ ++ [Cell.lst []]) := Go.new u _
 have o1 := own_new (f := f) (μ := μ) u (.lst [])
 obtain ⟨ρ2, μ2, e2, ⟨x4, x5, rfl⟩, f2, l, o2, ol, hl, g2⟩ := loop_range (g := gNm 4) (b := l_law_strokes_0) (ρ := [some (.v (.fl (ns.map .int))), some (.v (.int (base : Int))), some (.v (.int (many : Int))), some (.p μ.length), none, none]) (μ := μ ++ [Cell.lst []]) many (IG ns (ext f μ.length u) (μ ++ [Cell.lst []]) base many u μ.length)
  ⟨⟨_, _, rfl⟩, _, [], o1, fun q hq => by simp at hq, rfl, Go.refl⟩ fun k hk ρ μ hI => gen_turn ns (by omega) hI
 refine ⟨l, f2, μ2, μ.length, ?_, o2, ol, hl, g1.trans g2⟩
 have z0 : (0 : Nat) <= sizeLine := Nat.zero_le _
 have e1 : fLst fNil [some (.v (.fl (ns.map .int))), some (.v (.int (base : Int))), some (.v (.int (many : Int))), none, none, none] μ = some (.p μ.length, μ ++ [Cell.lst []]) := by simp [fLst, fNil, vals, z0]
 have whole : b_law_strokes [some (.v (.fl (ns.map .int))), some (.v (.int (base : Int))), some (.v (.int (many : Int))), none, none, none] μ = some (.rt (.p μ.length) μ2) :=
  sq (e_set e1) (sq ((rng_ev (n := many) rfl (by omega)).trans e2) rfl)
 rw [u_law_strokes, whole]; rfl
end LW
namespace LW
open PySem HW
theorem e_callW {ρ : Lo} {μ μ1 : Store} {w : MW} {n : Nat} {fa : FA} {rs : List R} (h : fa ρ μ = some (rs, μ1)) (hn : rs.length = n) : fCallW w n fa ρ μ = w rs μ1 := by simp [fCallW, h, hn]
theorem e_eq0 {ρ : Lo} {μ μ1 : Store} {fa : FE} {a : Nat} {neg : Bool} (ha : fa ρ μ = some (.p a, μ1)) (h1 : μ1[a]? = some (.lst [])) : fOp (eqR neg) fa (fLst fNil) ρ μ = some (.v (.bl (!neg)), μ1 ++ [Cell.lst []]) := by
 have z0 : (0 : Nat) <= sizeLine := Nat.zero_le _
 have e : fLst fNil ρ μ1 = some (.p μ1.length, μ1 ++ [Cell.lst []]) := by simp [fLst, fNil, vals, z0]
 have ha' : a < μ1.length := (List.getElem?_eq_some_iff.mp h1).1
 have h2 : (μ1 ++ [Cell.lst []])[a]? = some (.lst []) := by rw [List.getElem?_append_left ha']; exact h1
 have h3 : (μ1 ++ [Cell.lst []])[μ1.length]? = some (.lst []) := by simp
 have : eqR neg (.p a) (.p μ1.length) (μ1 ++ [Cell.lst []]) = some (.v (.bl (!neg)), μ1 ++ [Cell.lst []]) := by
  simp only [eqR, viewD, h2, h3, Option.bind_some]
  cases neg <;> rfl
 simp only [fOp, ha, e, Option.bind_some, this]
theorem e_eqs {ρ : Lo} {μ μ1 μ2 : Store} {fa fb : FE} {a b : Nat} {xs : List D} {neg : Bool} (ha : fa ρ μ = some (.p a, μ1)) (hb : fb ρ μ1 = some (.p b, μ2)) (h1 : μ2[a]? = some (.lst xs)) (h2 : μ2[b]? = some (.lst xs)) (h : ∀ d ∈ xs, EL d) : fOp (eqR neg) fa fb ρ μ = some (.v (.bl (!neg)), μ2) := by
 have ok : okD 60 (.fl xs) = true := els_ok (n := 57) h
 have ee : eqD (.fl xs) (.fl xs) = true := els_eq h
 have : eqR neg (.p a) (.p b) μ2 = some (.v (.bl (!neg)), μ2) := by
  simp only [eqR, viewD, h1, h2, Option.bind_some, ok, ee, Bool.and_self, if_true]
  cases neg <;> rfl
 simp only [fOp, ha, hb, Option.bind_some, this]
theorem b_of {ρ : Lo} {μ μ1 : Store} {fa : FE} {b : Bool} (h : fa ρ μ = some (.v (.bl b), μ1)) : fB fa ρ μ = some (b, μ1) := by simp [fB, h]
theorem o_no {ρ : Lo} {μ μ1 : Store} {a b : FT} (h : a ρ μ = some (false, μ1)) : tOrF a b ρ μ = b ρ μ1 := by simp [tOrF, h]
theorem nm_fallen (a b c : Nat) : List.lookup ("fallen" : Str) (sf a b c) = none := lk0 (by decide +kernel) (by decide +kernel) (by decide +kernel)
theorem fall_all {xss : List (List D)} {l : List (Nat × D)} {signs : Nat} : fall l.length signs xss l = fold xss l := by
 unfold fall
 rw [List.drop_length, List.take_length]; rfl
theorem E3_bd : BD 0 E3 := ⟨rfl, fun r hr => by simp [E3] at hr; subst hr; simp⟩
noncomputable abbrev RO (ns : List Int) (x1 x2 x3 x4 x5 x6 x7 x8 x9 x10 x11 : Option R) : Lo := [some (.v (.fl (ns.map .int))), x1, x2, x3, x4, x5, x6, x7, x8, x9, x10, x11]
structure PA (f : Nat -> Nat) (μ : Store) (st sh rw : Nat) (l1 : List (Nat × D)) (r : List (List D)) : Prop where
 o : Own f μ 40 st (.lst (l1.map tupS))
 s : SH f μ 1 sh E3 r (l1.map tupS)
 r : LL f μ 50 rw r
theorem PA.go {T : Nat -> Prop} {f f' : Nat -> Nat} {μ μ' : Store} {st sh rw : Nat} {l1 : List (Nat × D)} {r : List (List D)} (h : PA f μ st sh rw l1 r) (hT : ∀ u, u < 60 -> ¬ T u) (g : Go T f μ f' μ') : PA f' μ' st sh rw l1 r :=
 ⟨h.o.go (hT _ (by omega)) g, h.s.go (fun j hj => hT _ (by omega)) g, h.r.go (hT _ (by omega)) g⟩
theorem cmp_ev {f : Nat -> Nat} {μ : Store} {t s B a b : Nat} {fst rows : List (List D)} {l : List (Nat × D)} {ρ : Lo} {fm fl : FE} (h : SH f μ t s fst rows (l.map tupS)) (ol : OKS l) (bd : BD B fst) (hB : B + l.length <= 800) (ht : t + 3 < 100) (htn : ∀ j, j <= 3 -> t + j ≠ 30) (ha : a <= 900)
  (hm : fm ρ μ = w_Shelf_fallen [.p s, .v (.int (a : Int)), .v (.int (b : Int))] μ)
  (hl : ∀ μ' f', Go (fun u => u = 100 \/ u = 101) f μ f' μ' -> ∃ f2 μ2 n2, fl ρ μ' = some (.p n2, μ2) /\ LL f2 μ2 112 n2 (fall a b fst l) /\ Go (fun u => u = 112) f' μ' f2 μ2) :
  ∃ f' μ', fB (fOp (eqL true) (fCallW w_law_rows 1 (fCons fm fNil)) fl) ρ μ = some (false, μ') /\ Go (fun u => u = 100 \/ u = 101 \/ u = 112) f μ f' μ' := by
 obtain ⟨f1, μ1, s1, e1, h1, g1⟩ := fallen_ev 100 a b h ol bd (by omega) (by omega) (by omega) htn
 have bf := bd.fall (many := a) (signs := b) ol
 obtain ⟨f2, μ2, n2, e2, l2, g2⟩ := rowsw 110 h1 bf.1
 obtain ⟨f3, μ3, n3, e3, l3, g3⟩ := hl μ2 f2 (g1.trans (g2.mono fun _ z => z.elim))
 refine ⟨f3, μ3, eqL_test (a := n2) (μ1 := μ2) ?_ e3 (l2.go (by omega) g3) l3 bf, ((g1.mono fun u z => by omega).trans (g2.mono fun _ z => z.elim)).trans (g3.mono fun u z => by omega)⟩
 exact (e_callW (n := 1) (rs := [.p s1]) (μ1 := μ1) (by simp [fCons, hm, e1, fNil]) rfl).trans e2
def IP (ns : List Int) (st sh rw pl : Nat) (l1 : List (Nat × D)) (r1 : List (List D)) (L : List D) (r : List (Nat × Nat)) (ρ : Lo) (μ : Store) : Prop :=
 (∃ x4, ρ = RO ns (some (.p st)) (some (.p sh)) (some (.p rw)) x4 none none none none none none none) /\ ∃ f, Own f μ 45 pl (.lst L) /\ PA f μ st sh rw l1 r1 /\ ∀ q ∈ r, q.1 <= 900
noncomputable def tupI (q : Nat × Nat) : D := .tup [.int (q.1 : Int), .int (q.2 : Int)]
theorem pair_turn (ns : List Int) {st sh rw pl : Nat} {l1 : List (Nat × D)} {r1 : List (List D)} {L : List D} (ol : OKS l1) (hl : l1.length <= 63) (q : Nat × Nat) (r : List (Nat × Nat)) (ρ : Lo) (μ : Store) (h : IP ns st sh rw pl l1 r1 L (q :: r) ρ μ) :
  ∃ ρ' μ', thG (gNm 4 (.v (tupI q)) ρ μ) l_law_0 = some (.nx ρ' μ') /\ IP ns st sh rw pl l1 r1 L r ρ' μ' := by
 obtain ⟨⟨x4, rfl⟩, f, hp, pa, hq⟩ := h
 obtain ⟨a, b⟩ := q
 have ha : a <= 900 := hq _ List.mem_cons_self
 have i0 : ∀ μ : Store, fOp ixD (fVar 4) (fK (.int 0)) (RO ns (some (.p st)) (some (.p sh)) (some (.p rw)) (some (.v (tupI (a, b)))) none none none none none none none) μ = some (.v (.int (a : Int)), μ) := fun μ => by
  push_cast [RO, tupI]
 have i1 : ∀ μ : Store, fOp ixD (fVar 4) (fK (.int 1)) (RO ns (some (.p st)) (some (.p sh)) (some (.p rw)) (some (.v (tupI (a, b)))) none none none none none none none) μ = some (.v (.int (b : Int)), μ) := fun μ => by
  push_cast [RO, tupI]
 obtain ⟨f', μ', e, g⟩ := cmp_ev (a := a) (b := b) (ρ := RO ns (some (.p st)) (some (.p sh)) (some (.p rw)) (some (.v (tupI (a, b)))) none none none none none none none)
  (fm := fMeth "Shelf" "fallen" w_Shelf_fallen 3 (fVar 2) (fCons (fOp ixD (fVar 4) (fK (.int 0))) (fCons (fOp ixD (fVar 4) (fK (.int 1))) fNil)))
  (fl := fCallW w_law_lying 4 (fCons (fLR (fCons (fLst fNil) (fCons (fLst fNil) (fCons (fLst fNil) fNil)))) (fCons (fVar 1) (fCons (fOp ixD (fVar 4) (fK (.int 0))) (fCons (fOp ixD (fVar 4) (fK (.int 1))) fNil)))))
  pa.s ol E3_bd (by omega) (by omega) (by omega) ha (e_meth pa.s nm_fallen rfl (by simp only [fCons, i0, i1, fNil, Option.bind_some]) rfl) (fun μ' f' g => by
   have o := pa.o.go (by omega) g
   have g2 : Go (fun _ => False) f' μ' (ext f' μ'.length 111) (μ' ++ [Cell.lst [], Cell.lst [], Cell.lst [], Cell.lr [R.p μ'.length, R.p (μ'.length + 1), R.p (μ'.length + 2)]]) := Go.news 111 _
   have l2 := LL.new3 (f := f') (μ := μ') 111
   obtain ⟨f3, μ3, n3, e3, l3, g3⟩ := lying_ev 112 a b l2 (o.go (fun z => z) g2) (by omega) ol E3_bd (by omega) ha
   refine ⟨f3, μ3, n3, ?_, l3, (g2.mono fun _ z => z.elim).trans g3⟩
   have v1 : ∀ μ, fVar 1 (RO ns (some (.p st)) (some (.p sh)) (some (.p rw)) (some (.v (tupI (a, b)))) none none none none none none none) μ = some (.p st, μ) := fun _ => rfl
   have en := e_new3 (ρ := RO ns (some (.p st)) (some (.p sh)) (some (.p rw)) (some (.v (tupI (a, b)))) none none none none none none none) (μ := μ')
   have ar : ∀ fx : FE, fx (RO ns (some (.p st)) (some (.p sh)) (some (.p rw)) (some (.v (tupI (a, b)))) none none none none none none none) μ' = some (.p (μ'.length + 3), μ' ++ [Cell.lst [], Cell.lst [], Cell.lst [], Cell.lr [R.p μ'.length, R.p (μ'.length + 1), R.p (μ'.length + 2)]]) ->
     fCons fx (fCons (fVar 1) (fCons (fOp ixD (fVar 4) (fK (.int 0))) (fCons (fOp ixD (fVar 4) (fK (.int 1))) fNil))) (RO ns (some (.p st)) (some (.p sh)) (some (.p rw)) (some (.v (tupI (a, b)))) none none none none none none none) μ' = some ([.p (μ'.length + 3), .p st, .v (.int (a : Int)), .v (.int (b : Int))], μ' ++ [Cell.lst [], Cell.lst [], Cell.lst [], Cell.lr [R.p μ'.length, R.p (μ'.length + 1), R.p (μ'.length + 2)]]) := fun fx h => by
    simp only [fCons, h, v1, i0, i1, fNil, Option.bind_some]
   exact (e_callW (n := 4) (ar _ en) rfl).trans e3)
 exact ⟨_, μ', (if_no e).trans rfl, ⟨_, rfl⟩, f', hp.go (by omega) g, pa.go (by omega) g, fun q hq' => hq q (List.mem_cons_of_mem _ hq')⟩
end LW
namespace LW
open PySem HW
section
variable {ρ : Lo} {μ μ1 μ2 : Store} {fa fb fc fd : FE}
theorem lenV {xs : List D} (ha : fa ρ μ = some (.v (.fl xs), μ)) : fAr lenD (fCons fa fNil) ρ μ = some (.v (.int (xs.length : Int)), μ) := by
 simp only [fAr, fCons, fNil, ha, Option.bind_some, lenD, itemsD]
theorem minlen (ns : List Int) (c : Nat) (ha : fa ρ μ = some (.v (.fl (ns.map .int)), μ)) (hb : fb ρ μ = some (.v (.int (c : Int)), μ)) : fAr minD (fCons (fAr lenD (fCons fa fNil)) (fCons fb fNil)) ρ μ = some (.v (.int ((min ns.length c : Nat) : Int)), μ) := by
 rw [min_ev (lenV ha) hb, List.length_map]
 have : (if (c : Int) < (ns.length : Int) then (c : Int) else (ns.length : Int)) = ((min ns.length c : Nat) : Int) := by split <;> omega
 rw [this]
theorem a1 {x : R} (ha : fa ρ μ = some (x, μ1)) : fCons fa fNil ρ μ = some ([x], μ1) := by simp only [fCons, ha, Option.bind_some, fNil]
theorem a2 {x y : R} (ha : fa ρ μ = some (x, μ1)) (hb : fb ρ μ1 = some (y, μ1)) : fCons fa (fCons fb fNil) ρ μ = some ([x, y], μ1) := by simp only [fCons, ha, hb, Option.bind_some, fNil]
theorem a3 {x y z : R} (ha : fa ρ μ = some (x, μ1)) (hb : fb ρ μ1 = some (y, μ1)) (hc : fc ρ μ1 = some (z, μ1)) : fCons fa (fCons fb (fCons fc fNil)) ρ μ = some ([x, y, z], μ1) := by simp only [fCons, ha, hb, hc, Option.bind_some, fNil]
theorem a4 {x y z w : R} (ha : fa ρ μ = some (x, μ1)) (hb : fb ρ μ1 = some (y, μ1)) (hc : fc ρ μ1 = some (z, μ1)) (hd : fd ρ μ1 = some (w, μ1)) : fCons fa (fCons fb (fCons fc (fCons fd fNil))) ρ μ = some ([x, y, z, w], μ1) := by simp only [fCons, ha, hb, hc, hd, Option.bind_some, fNil]
theorem tup2 {x y : D} (ha : fa ρ μ = some (.v x, μ)) (hb : fb ρ μ = some (.v y, μ)) : fTup (fCons fa (fCons fb fNil)) ρ μ = some (.v (.tup [x, y]), μ) := by
 have two : (2 : Nat) <= sizeLine := by rw [sizeLine_eq]; omega
 have h := a2 ha hb
 simp only [fTup, h, Option.bind_some, vals, List.length_cons, List.length_nil]
 rw [if_pos two]
theorem lst4 {x y z w : D} (ha : fa ρ μ = some (.v x, μ)) (hb : fb ρ μ = some (.v y, μ)) (hc : fc ρ μ = some (.v z, μ)) (hd : fd ρ μ = some (.v w, μ)) : fLst (fCons fa (fCons fb (fCons fc (fCons fd fNil)))) ρ μ = some (.p μ.length, μ ++ [Cell.lst [x, y, z, w]]) := by
 have four : (4 : Nat) <= sizeLine := by rw [sizeLine_eq]; omega
 have h := a4 ha hb hc hd
 simp only [fLst, h, Option.bind_some, vals, List.length_cons, List.length_nil]
 rw [if_pos four]
theorem dropW {w : MW} {n : Nat} {ga : FA} {rs : List R} {r : R} (h : ga ρ μ = some (rs, μ1)) (hn : rs.length = n) (e : w rs μ1 = some (r, μ2)) : sDrop (fCallW w n ga) ρ μ = some (.nx ρ μ2) := by
 simp only [sDrop, e_callW h hn, e, Option.bind_some]
theorem dropE {r : R} (h : fa ρ μ = some (r, μ1)) : sDrop fa ρ μ = some (.nx ρ μ1) := by simp only [sDrop, h, Option.bind_some]
end
theorem lyingE {f : Nat -> Nat} {μ : Store} {w st : Nat} {l : List (Nat × D)} {ρ : Lo} {f1 f2 f3 : FE} {many signs : Nat} (u : Nat) (ho : Own f μ w st (.lst (l.map tupS))) (hw : w ≠ u) (ol : OKS l) (hl : l.length <= 63) (hm : many <= 900) (e1 : ∀ μ, f1 ρ μ = some (.p st, μ)) (e2 : ∀ μ, f2 ρ μ = some (.v (.int (many : Int)), μ)) (e3 : ∀ μ, f3 ρ μ = some (.v (.int (signs : Int)), μ)) :
  ∃ f' μ' n', fCallW w_law_lying 4 (fCons (fLR (fCons (fLst fNil) (fCons (fLst fNil) (fCons (fLst fNil) fNil)))) (fCons f1 (fCons f2 (fCons f3 fNil)))) ρ μ = some (.p n', μ') /\ LL f' μ' u n' (fall many signs E3 l) /\ Go (fun v => v = u) f μ f' μ' := by
 have g2 : Go (fun _ => False) f μ (ext f μ.length 111) (μ ++ [Cell.lst [], Cell.lst [], Cell.lst [], Cell.lr [R.p μ.length, R.p (μ.length + 1), R.p (μ.length + 2)]]) := Go.news 111 _
 have l2 := LL.new3 (f := f) (μ := μ) 111
 obtain ⟨f', μ', n', e, l', g'⟩ := lying_ev u many signs l2 (ho.go (fun z => z) g2) hw ol E3_bd (by omega) hm
 exact ⟨f', μ', n', (e_callW (n := 4) (a4 e_new3 (e1 _) (e2 _) (e3 _)) rfl).trans e, l', (g2.mono fun _ z => z.elim).trans g'⟩
theorem rowsNe {f : Nat -> Nat} {μ : Store} {t s v b B : Nat} {fst rows : List (List D)} {sts : List D} {ρ : Lo} {fo fb : FE} {neg : Bool} (h : SH f μ t s fst rows sts) (hb : LL f μ v b rows) (bd : BD B rows) (eo : fo ρ μ = some (.p s, μ)) (eb : ∀ μ, fb ρ μ = some (.p b, μ)) :
  ∃ f' μ', fOp (eqL neg) (fCallW w_law_rows 1 (fCons fo fNil)) fb ρ μ = some (.v (.bl (!neg)), μ') /\ Go (fun _ => False) f μ f' μ' := by
 obtain ⟨f1, μ1, n1, e1, l1, g1⟩ := rowsw 110 h bd.1
 refine ⟨f1, μ1, ?_, g1⟩
 have e := (e_callW (w := w_law_rows) (n := 1) (a1 eo) rfl).trans e1
 simp only [fOp, e, eb, Option.bind_some, eqL_ev (neg := neg) l1 (hb.go (fun z => z) g1) bd]
theorem strokesNe {f : Nat -> Nat} {μ : Store} {t s : Nat} {fst rows : List (List D)} {ρ : Lo} {fo : FE} (h : SH f μ t s fst rows []) (eo : fo ρ μ = some (.p s, μ)) :
  ∃ f' μ', fB (fOp (eqR true) (fMeth "Shelf" "strokes" w_Shelf_strokes 1 fo fNil) (fLst fNil)) ρ μ = some (false, μ') /\ Go (fun _ => False) f μ f' μ' := by
 have e := e_eq0 (neg := true) ((e_meth (nm := "strokes") (w := w_Shelf_strokes) (n := 1) (fa := fNil) h nm_strokes eo rfl rfl).trans (strokes_ev h)) (by simp)
 refine ⟨ext f μ.length 30, _, b_of e, ?_⟩
 rw [List.append_assoc]; exact Go.news 30 _
theorem law_true (ns : List Int) (hl : ns.length <= 63) : m_law [.fl (ns.map .int)] = some (.bl true) := by
 rw [u_law]
 -- strokes are drawn, and done on a shelf
 obtain ⟨l1, f1, μ1, st, e1, o1, ol1, n1, g1⟩ := gen_ev ns (fun _ => 0) [] 40 0 (min ns.length 63) (by omega)
 have hl1 : l1.length <= 63 := by omega
 have s1 := e_set (i := 1) ((e_callW (w := w_law_strokes) (n := 3) (ρ := RO ns none none none none none none none none none none none) (a3 (fa := fVar 0) (fb := fK (.int 0)) (μ1 := []) rfl rfl (minlen ns 63 (fa := fVar 0) (fb := fK (.int 63)) rfl rfl)) rfl).trans e1)
 obtain ⟨f2, μ2, e2, h2, g2⟩ := make_ev f1 μ1 (RO ns (some (.p st)) none none none none none none none none none none) 1
 have h2 : SH f2 μ2 1 μ1.length E3 E3 [] := h2
 generalize μ1.length = sh at h2 e2
 have o2 := o1.go (by omega) g2
 obtain ⟨f3, μ3, e3, h3, g3⟩ := stroked_ev h2 o2 (by omega) ol1 E3_bd (by omega) (by simp; omega)
 have h3 : SH f3 μ3 1 sh E3 (fold E3 l1) (l1.map tupS) := h3
 have o3 := o2.go (by omega) g3
 have s3 := dropW (ρ := RO ns (some (.p st)) (some (.p sh)) none none none none none none none none none) (w := w_law_stroked) (n := 2) (a2 (fa := fVar 2) (fb := fVar 1) (μ := μ2) (μ1 := μ2) rfl rfl) rfl e3
 have bdR : BD 63 (fold E3 l1) := (E3_bd.fold ol1).mono (by omega)
 generalize fold E3 l1 = rows at h3 bdR
 obtain ⟨f4, μ4, rw, e4, r4, g4⟩ := rowsw 50 h3 bdR.1
 have s4 := e_set (i := 3) ((e_callW (ρ := RO ns (some (.p st)) (some (.p sh)) none none none none none none none none none) (w := w_law_rows) (n := 1) (a1 (fa := fVar 2) (μ := μ3) (μ1 := μ3) rfl) rfl).trans e4)
 have pa : PA f4 μ4 st sh rw l1 rows := ⟨o3.go (fun z => z) g4, h3.go (fun _ _ z => z) g4, r4⟩
 -- four falls
 obtain ⟨d300, ed, a0, b0⟩ := draw_ex ns 300 ((l1.length : Int) + 1) (by omega)
 obtain ⟨dn, hdn, rfl⟩ := nat_of (m := l1.length + 1) a0 (by omega)
 have lenE : ∀ (x4 x5 x6 x7 x8 x9 x10 x11 : Option R) (f : Nat -> Nat) (μ : Store), Own f μ 40 st (.lst (l1.map tupS)) -> fAr lenD (fCons (fVar 1) fNil) (RO ns (some (.p st)) (some (.p sh)) (some (.p rw)) x4 x5 x6 x7 x8 x9 x10 x11) μ = some (.v (.int (l1.length : Int)), μ) := fun x4 x5 x6 x7 x8 x9 x10 x11 f μ h => by
  have := len_ev (ρ := RO ns (some (.p st)) (some (.p sh)) (some (.p rw)) x4 x5 x6 x7 x8 x9 x10 x11) (fa := fVar 1) rfl h.2
  rw [this, List.length_map]
 have e5 := lst4 (ρ := RO ns (some (.p st)) (some (.p sh)) (some (.p rw)) none none none none none none none none) (μ := μ4)
  (tup2 (fa := fK (.int 0)) (fb := fK (.int 0)) rfl rfl) (tup2 (fa := fK (.int 0)) (fb := fK (.int 3)) rfl rfl) (tup2 (fb := fK (.int 5)) (lenE none none none none none none none none f4 μ4 pa.o) rfl)
  (tup2 (fa := fCall m_law_draw 3 (fCons (fFz (fVar 0)) (fCons (fK (.int 300)) (fCons (fFz (fOp addQ (fAr lenD (fCons (fVar 1) fNil)) (fK (.int 1)))) fNil)))) (fb := fK (.int 99)) (drw (fz_ev rfl) rfl (fz_ev (addI (lenE none none none none none none none none f4 μ4 pa.o) rfl)) ed) rfl)
 have g5 : Go (fun _ => False) f4 μ4 (ext f4 μ4.length 45) (μ4 ++ [Cell.lst ([(0, 0), (0, 3), (l1.length, 5), (dn, 99)].map tupI)]) := Go.new 45 _
 have o5 := own_new (f := f4) (μ := μ4) 45 (.lst ([(0, 0), (0, 3), (l1.length, 5), (dn, 99)].map tupI))
 obtain ⟨ρ6, μ6, e6, ⟨x4, rfl⟩, f6, _, pa6, _⟩ := loopL_inv tupI (n := μ4.length) (xs := [(0, 0), (0, 3), (l1.length, 5), (dn, 99)].map tupI) (g := gNm 4) (b := l_law_0) (IP ns st sh rw μ4.length l1 rows ([(0, 0), (0, 3), (l1.length, 5), (dn, 99)].map tupI))
  (fun q r ρ μ h => pair_turn ns ol1 hl1 q r ρ μ h) (fun r ρ μ ⟨_, f, ho, _⟩ => ho.2) [(0, 0), (0, 3), (l1.length, 5), (dn, 99)] _ _ ⟨⟨none, rfl⟩, _, o5, pa.go (fun _ _ z => z) g5, fun q hq => by
   simp at hq
   rcases hq with rfl | rfl | rfl | rfl <;> (dsimp only; omega)⟩
 have s6 := (e_forL (g := gNm 4) (b := l_law_0) (xs := [(0, 0), (0, 3), (l1.length, 5), (dn, 99)].map tupI) e5 o5.2).trans e6
 -- many, signs
 obtain ⟨dm, em, a7, b7⟩ := draw_ex ns 301 ((l1.length : Int) + 1) (by omega)
 obtain ⟨many, hmany, rfl⟩ := nat_of (m := l1.length + 1) a7 (by omega)
 obtain ⟨ds, es, a8, b8⟩ := draw_ex ns 302 14 (by decide)
 obtain ⟨signs, hsigns, rfl⟩ := nat_of (m := 14) a8 b8
 have s7 := e_set (i := 5) (drw (ρ := RO ns (some (.p st)) (some (.p sh)) (some (.p rw)) x4 none none none none none none none) (μ := μ6) (sc := .fl (ns.map .int)) (fa := fFz (fVar 0)) (fb := fK (.int 301)) (fc := fFz (fOp addQ (fAr lenD (fCons (fVar 1) fNil)) (fK (.int 1)))) (fz_ev rfl) rfl (fz_ev (addI (lenE x4 none none none none none none none f6 μ6 pa6.o) rfl)) em)
 have s8 := e_set (i := 6) (drw (ρ := RO ns (some (.p st)) (some (.p sh)) (some (.p rw)) x4 (some (.v (.int (many : Int)))) none none none none none none) (μ := μ6) (sc := .fl (ns.map .int)) (fa := fFz (fVar 0)) (fb := fK (.int 302)) (fc := fK (.int 14)) (fz_ev rfl) rfl rfl es)
 -- other
 obtain ⟨f9, μ9, ot, e9, h9, g9⟩ := fallen_ev 70 many signs pa6.s ol1 E3_bd (by omega) (by omega) (by omega) (by omega)
 have pa9 := pa6.go (by omega) g9
 have s9 := e_set (i := 7) ((e_meth (w := w_Shelf_fallen) (n := 3) (ρ := RO ns (some (.p st)) (some (.p sh)) (some (.p rw)) x4 (some (.v (.int (many : Int)))) (some (.v (.int (signs : Int)))) none none none none none) (fo := fVar 2) pa6.s nm_fallen rfl (a2 (fa := fVar 5) (fb := fVar 6) rfl rfl) rfl).trans e9)
 have bdX : BD 64 (fall many signs E3 l1) := (E3_bd.fall ol1).mono (by omega)
 -- began
 obtain ⟨f10, μ10, bg, e10, b10, g10⟩ := lyingE (ρ := RO ns (some (.p st)) (some (.p sh)) (some (.p rw)) x4 (some (.v (.int (many : Int)))) (some (.v (.int (signs : Int)))) (some (.p ot)) none none none none) (f1 := fVar 1) (f2 := fVar 5) (f3 := fVar 6) (many := many) (signs := signs) 80 pa9.o (by omega) ol1 hl1 (by omega) (fun _ => rfl) (fun _ => rfl) (fun _ => rfl)
 have s10 := e_set (i := 8) e10
 have pa10 := pa9.go (by omega) g10
 have h10 := h9.go (by omega) g10
 generalize fall many signs E3 l1 = X at h10 b10 bdX
 -- the first look
 obtain ⟨f11, μ11, t11, g11⟩ := rowsNe (neg := true) (ρ := RO ns (some (.p st)) (some (.p sh)) (some (.p rw)) x4 (some (.v (.int (many : Int)))) (some (.v (.int (signs : Int)))) (some (.p ot)) (some (.p bg)) none none none) (fo := fVar 7) (fb := fVar 8) h10 b10 bdX rfl (fun _ => rfl)
 have pa11 := pa10.go (fun _ _ z => z) g11
 have h11 := h10.go (fun _ _ z => z) g11
 have b11 := b10.go (fun z => z) g11
 obtain ⟨f12, μ12, t12, g12⟩ := strokesNe (ρ := RO ns (some (.p st)) (some (.p sh)) (some (.p rw)) x4 (some (.v (.int (many : Int)))) (some (.v (.int (signs : Int)))) (some (.p ot)) (some (.p bg)) none none none) (fo := fVar 7) h11 rfl
 have pa12 := pa11.go (fun _ _ z => z) g12
 have h12 := h11.go (fun _ _ z => z) g12
 have b12 := b11.go (fun z => z) g12
 have s12 := (if_no (x := sRet (fK (.bl false))) (y := sNext) ((o_no (b_of t11)).trans t12)).trans rfl
 -- more
 obtain ⟨l2, f13, μ13, mo, e13, o13, ol2, n2, g13⟩ := gen_ev ns f12 μ12 61 400 (min ns.length 12) (by omega)
 have hl2 : l2.length <= 12 := by omega
 have s13 := e_set (i := 9) ((e_callW (w := w_law_strokes) (n := 3) (ρ := RO ns (some (.p st)) (some (.p sh)) (some (.p rw)) x4 (some (.v (.int (many : Int)))) (some (.v (.int (signs : Int)))) (some (.p ot)) (some (.p bg)) none none none) (a3 (fa := fVar 0) (fb := fK (.int 400)) (μ1 := μ12) rfl rfl (minlen ns 12 (fa := fVar 0) (fb := fK (.int 12)) rfl rfl)) rfl).trans e13)
 have pa13 := pa12.go (by omega) g13
 have h13 := h12.go (by omega) g13
 have b13 := b12.go (by omega) g13
 obtain ⟨f14, μ14, e14, h14, g14⟩ := stroked_ev h13 o13 (by omega) ol2 bdX (by omega) (by simp; omega)
 have h14 : SH f14 μ14 70 ot X (fold X l2) (l2.map tupS) := h14
 have pa14 := pa13.go (by omega) g14
 have b14 := b13.go (by omega) g14
 have o14 := o13.go (by omega) g14
 have s14 := dropW (ρ := RO ns (some (.p st)) (some (.p sh)) (some (.p rw)) x4 (some (.v (.int (many : Int)))) (some (.v (.int (signs : Int)))) (some (.p ot)) (some (.p bg)) (some (.p mo)) none none) (w := w_law_stroked) (n := 2) (a2 (fa := fVar 7) (fb := fVar 9) (μ := μ13) (μ1 := μ13) rfl rfl) rfl e14
 have bdY : BD 80 (fold X l2) := (bdX.fold ol2).mono (by omega)
 -- due
 obtain ⟨f15, μ15, du, e15, d15, g15⟩ := lying_ev 81 l2.length 0 b14 o14 (by omega) ol2 bdX (by omega) (by omega)
 rw [fall_all] at d15
 have lenM : ∀ (x10 x11 : Option R) (f : Nat -> Nat) (μ : Store), Own f μ 61 mo (.lst (l2.map tupS)) -> fAr lenD (fCons (fVar 9) fNil) (RO ns (some (.p st)) (some (.p sh)) (some (.p rw)) x4 (some (.v (.int (many : Int)))) (some (.v (.int (signs : Int)))) (some (.p ot)) (some (.p bg)) (some (.p mo)) x10 x11) μ = some (.v (.int (l2.length : Int)), μ) := fun x10 x11 f μ h => by
  have := len_ev (ρ := RO ns (some (.p st)) (some (.p sh)) (some (.p rw)) x4 (some (.v (.int (many : Int)))) (some (.v (.int (signs : Int)))) (some (.p ot)) (some (.p bg)) (some (.p mo)) x10 x11) (fa := fVar 9) rfl h.2
  rw [this, List.length_map]
 have s15 := e_set (i := 10) ((e_callW (w := w_law_lying) (n := 4) (ρ := RO ns (some (.p st)) (some (.p sh)) (some (.p rw)) x4 (some (.v (.int (many : Int)))) (some (.v (.int (signs : Int)))) (some (.p ot)) (some (.p bg)) (some (.p mo)) none none) (a4 (fa := fVar 8) (fb := fVar 9) (fc := fAr lenD (fCons (fVar 9) fNil)) (fd := fK (.int 0)) (μ := μ14) (μ1 := μ14) rfl rfl (lenM none none f14 μ14 o14) rfl) rfl).trans e15)
 have pa15 := pa14.go (by omega) g15
 have h15 := h14.go (by omega) g15
 have b15 := b14.go (by omega) g15
 have o15 := o14.go (by omega) g15
 generalize fold X l2 = Y at h15 d15 bdY
 -- the second look
 obtain ⟨f16, μ16, t16, g16⟩ := rowsNe (neg := true) (ρ := RO ns (some (.p st)) (some (.p sh)) (some (.p rw)) x4 (some (.v (.int (many : Int)))) (some (.v (.int (signs : Int)))) (some (.p ot)) (some (.p bg)) (some (.p mo)) (some (.p du)) none) (fo := fVar 7) (fb := fVar 10) h15 d15 bdY rfl (fun _ => rfl)
 have pa16 := pa15.go (fun _ _ z => z) g16
 have h16 := h15.go (fun _ _ z => z) g16
 have b16 := b15.go (fun z => z) g16
 have o16 := o15.go (fun z => z) g16
 have d16 := d15.go (fun z => z) g16
 have g17 : Go (fun _ => False) f16 μ16 (ext f16 μ16.length 30) (μ16 ++ [Cell.lst (l2.map tupS)]) := Go.new 30 _
 have o17 := o16.go (fun z => z) g17
 have t17 := e_eqs (neg := true) (ρ := RO ns (some (.p st)) (some (.p sh)) (some (.p rw)) x4 (some (.v (.int (many : Int)))) (some (.v (.int (signs : Int)))) (some (.p ot)) (some (.p bg)) (some (.p mo)) (some (.p du)) none) (fb := fVar 9) ((e_meth (nm := "strokes") (w := w_Shelf_strokes) (n := 1) (fo := fVar 7) (fa := fNil) h16 nm_strokes rfl rfl rfl).trans (strokes_ev h16)) rfl (by simp) o17.2 (oks_el ol2)
 have pa17 := pa16.go (fun _ _ z => z) g17
 have h17 := h16.go (fun _ _ z => z) g17
 have b17 := b16.go (fun z => z) g17
 have d17 := d16.go (fun z => z) g17
 generalize ext f16 μ16.length 30 = f17 at g17 o17 pa17 h17 b17 d17
 generalize μ16 ++ [Cell.lst (l2.map tupS)] = μ17 at g17 o17 pa17 h17 b17 d17 t17
 obtain ⟨f18, μ18, t18, g18⟩ := rowsNe (neg := true) (ρ := RO ns (some (.p st)) (some (.p sh)) (some (.p rw)) x4 (some (.v (.int (many : Int)))) (some (.v (.int (signs : Int)))) (some (.p ot)) (some (.p bg)) (some (.p mo)) (some (.p du)) none) (fo := fVar 2) (fb := fVar 3) pa17.s pa17.r bdR rfl (fun _ => rfl)
 have pa18 := pa17.go (fun _ _ z => z) g18
 have h18 := h17.go (fun _ _ z => z) g18
 have b18 := b17.go (fun z => z) g18
 have d18 := d17.go (fun z => z) g18
 have o18 := o17.go (fun z => z) g18
 have s18 := (if_no (x := sRet (fK (.bl false))) (y := sNext) ((o_no (b_of t16)).trans ((o_no (b_of t17)).trans (b_of t18)))).trans rfl
 -- x is put on the first shelf
 obtain ⟨f19, μ19, e19, h19, g19⟩ := put_ev (i := 0) (d := .str "x") pa18.s (by rw [bdR.1]; omega) (.inr ⟨_, rfl⟩) (by rw [List.length_map, sizeLine_eq]; omega) (bdR.lt (by omega))
 have s19 := dropE ((e_meth (nm := "put") (w := w_Shelf_put) (n := 3) (ρ := RO ns (some (.p st)) (some (.p sh)) (some (.p rw)) x4 (some (.v (.int (many : Int)))) (some (.v (.int (signs : Int)))) (some (.p ot)) (some (.p bg)) (some (.p mo)) (some (.p du)) none) (fo := fVar 2) (fa := fCons (fK (.int 0)) (fCons (fK (.str "x")) fNil)) pa18.s nm_put rfl rfl rfl).trans e19)
 have q19 := pa18.o.go (by omega) g19
 have k19 := h18.go (by omega) g19
 have b19 := b18.go (by omega) g19
 have d19 := d18.go (by omega) g19
 have o19 := o18.go (by omega) g19
 -- the third
 obtain ⟨dk, ek, a20, b20⟩ := draw_ex ns 303 ((l2.length : Int) + 1) (by omega)
 obtain ⟨many2, hmany2, rfl⟩ := nat_of (m := l2.length + 1) a20 (by omega)
 have s20 := e_set (i := 5) (drw (ρ := RO ns (some (.p st)) (some (.p sh)) (some (.p rw)) x4 (some (.v (.int (many : Int)))) (some (.v (.int (signs : Int)))) (some (.p ot)) (some (.p bg)) (some (.p mo)) (some (.p du)) none) (μ := μ19) (sc := .fl (ns.map .int)) (fa := fFz (fVar 0)) (fb := fK (.int 303)) (fc := fFz (fOp addQ (fAr lenD (fCons (fVar 9) fNil)) (fK (.int 1)))) (fz_ev rfl) rfl (fz_ev (addI (lenM (some (.p du)) none f19 μ19 o19) rfl)) ek)
 obtain ⟨f21, μ21, th, e21, h21, g21⟩ := fallen_ev 120 many2 signs k19 ol2 bdX (by omega) (by omega) (by omega) (by omega)
 have s21 := e_set (i := 11) ((e_meth (w := w_Shelf_fallen) (n := 3) (ρ := RO ns (some (.p st)) (some (.p sh)) (some (.p rw)) x4 (some (.v (.int (many2 : Int)))) (some (.v (.int (signs : Int)))) (some (.p ot)) (some (.p bg)) (some (.p mo)) (some (.p du)) none) (fo := fVar 7) k19 nm_fallen rfl (a2 (fa := fVar 5) (fb := fVar 6) rfl rfl) rfl).trans e21)
 have bdZ : BD 80 (fall many2 signs X l2) := (bdX.fall ol2).mono (by omega)
 have q21 := q19.go (by omega) g21
 have i21 := h19.go (by omega) g21
 have k21 := k19.go (by omega) g21
 have b21 := b19.go (by omega) g21
 have d21 := d19.go (by omega) g21
 have o21 := o19.go (by omega) g21
 -- the third look
 obtain ⟨f22, μ22, n22, e22, l22, g22⟩ := rowsw 110 h21 bdZ.1
 have q22 := q21.go (fun z => z) g22
 have i22 := i21.go (fun _ _ z => z) g22
 have k22 := k21.go (fun _ _ z => z) g22
 have h22 := h21.go (fun _ _ z => z) g22
 have b22 := b21.go (fun z => z) g22
 have d22 := d21.go (fun z => z) g22
 have o22 := o21.go (fun z => z) g22
 obtain ⟨f23, μ23, n23, e23, l23, g23⟩ := lying_ev 112 many2 signs b22 o22 (by omega) ol2 bdX (by omega) (by omega)
 have q23 := q22.go (by omega) g23
 have i23 := i22.go (by omega) g23
 have k23 := k22.go (by omega) g23
 have h23 := h22.go (by omega) g23
 have d23 := d22.go (by omega) g23
 have t23 := eqL_test (ρ := RO ns (some (.p st)) (some (.p sh)) (some (.p rw)) x4 (some (.v (.int (many2 : Int)))) (some (.v (.int (signs : Int)))) (some (.p ot)) (some (.p bg)) (some (.p mo)) (some (.p du)) (some (.p th))) ((e_callW (w := w_law_rows) (n := 1) (a1 (fa := fVar 11) (μ := μ21) (μ1 := μ21) rfl) rfl).trans e22) ((e_callW (w := w_law_lying) (n := 4) (a4 (fa := fVar 8) (fb := fVar 9) (fc := fVar 5) (fd := fVar 6) (μ := μ22) (μ1 := μ22) rfl rfl rfl rfl) rfl).trans e23) (l22.go (by omega) g23) l23 bdZ
 obtain ⟨f24, μ24, t24, g24⟩ := strokesNe (ρ := RO ns (some (.p st)) (some (.p sh)) (some (.p rw)) x4 (some (.v (.int (many2 : Int)))) (some (.v (.int (signs : Int)))) (some (.p ot)) (some (.p bg)) (some (.p mo)) (some (.p du)) (some (.p th))) (fo := fVar 11) h23 rfl
 have s24 := (if_no (x := sRet (fK (.bl false))) (y := sNext) ((o_no t23).trans t24)).trans rfl
 have q24 := q23.go (fun z => z) g24
 have i24 := i23.go (fun _ _ z => z) g24
 have k24 := k23.go (fun _ _ z => z) g24
 have h24 := h23.go (fun _ _ z => z) g24
 have d24 := d23.go (fun z => z) g24
 -- a drawer of the third is cleared
 obtain ⟨f25, μ25, e25, h25, g25⟩ := clear_ev (i := 0) h24 (by rw [bdZ.1]; omega) (by rw [sizeLine_eq]; simp) (bdZ.lt (by omega))
 have s25 := dropE ((e_meth (nm := "clear") (w := w_Shelf_clear) (n := 2) (ρ := RO ns (some (.p st)) (some (.p sh)) (some (.p rw)) x4 (some (.v (.int (many2 : Int)))) (some (.v (.int (signs : Int)))) (some (.p ot)) (some (.p bg)) (some (.p mo)) (some (.p du)) (some (.p th))) (fo := fVar 11) (fa := fCons (fK (.int 0)) fNil) h24 nm_clear rfl rfl rfl).trans e25)
 have q25 := q24.go (by omega) g25
 have i25 := i24.go (by omega) g25
 have k25 := k24.go (by omega) g25
 have d25 := d24.go (by omega) g25
 -- the end
 obtain ⟨f26, μ26, t26, g26⟩ := rowsNe (neg := false) (ρ := RO ns (some (.p st)) (some (.p sh)) (some (.p rw)) x4 (some (.v (.int (many2 : Int)))) (some (.v (.int (signs : Int)))) (some (.p ot)) (some (.p bg)) (some (.p mo)) (some (.p du)) (some (.p th))) (fo := fVar 7) (fb := fVar 10) k25 d25 bdY rfl (fun _ => rfl)
 have q26 := q25.go (fun z => z) g26
 have i26 := i25.go (fun _ _ z => z) g26
 have g27 : Go (fun _ => False) f26 μ26 (ext f26 μ26.length 30) (μ26 ++ [Cell.lst (l1.map tupS ++ [.tup [.int ((0 : Nat) : Int), .str "x"]])]) := Go.new 30 _
 have o27 := own_new (f := f26) (μ := μ26) 30 (.lst (l1.map tupS ++ [.tup [.int ((0 : Nat) : Int), .str "x"]]))
 have q27 := q26.go (fun z => z) g27
 have e27 := (e_meth (nm := "strokes") (w := w_Shelf_strokes) (n := 1) (ρ := RO ns (some (.p st)) (some (.p sh)) (some (.p rw)) x4 (some (.v (.int (many2 : Int)))) (some (.v (.int (signs : Int)))) (some (.p ot)) (some (.p bg)) (some (.p mo)) (some (.p du)) (some (.p th))) (fo := fVar 2) (fa := fNil) i26 nm_strokes rfl rfl rfl).trans (strokes_ev i26)
 have elx : ∀ d ∈ l1.map tupS ++ [.tup [.int ((0 : Nat) : Int), .str "x"]], EL d := fun d hd => by
  rcases List.mem_append.mp hd with z | z
  ·exact oks_el ol1 d z
  ·rw [List.mem_singleton.mp z]; exact el_tup (.inr ⟨_, rfl, by decide +kernel⟩)
 generalize hn27 : μ26.length = p27 at g27 o27 e27 q27
 generalize hm27 : μ26 ++ [Cell.lst (l1.map tupS ++ [.tup [.int ((0 : Nat) : Int), .str "x"]])] = μ27 at g27 o27 q27 e27
 have g28 : Go (fun _ => False) (ext f26 p27 30) μ27 (ext (ext f26 p27 30) μ27.length 30) (μ27 ++ [Cell.lst [.tup [.int ((0 : Nat) : Int), .str "x"]]]) := Go.new 30 _
 have one : (1 : Nat) <= sizeLine := by rw [sizeLine_eq]; omega
 have e28 : fLst (fCons (fTup (fCons (fK (.int 0)) (fCons (fK (.str "x")) fNil))) fNil) (RO ns (some (.p st)) (some (.p sh)) (some (.p rw)) x4 (some (.v (.int (many2 : Int)))) (some (.v (.int (signs : Int)))) (some (.p ot)) (some (.p bg)) (some (.p mo)) (some (.p du)) (some (.p th))) μ27 = some (.p μ27.length, μ27 ++ [Cell.lst [.tup [.int ((0 : Nat) : Int), .str "x"]]]) := by
  have t := a1 (tup2 (ρ := RO ns (some (.p st)) (some (.p sh)) (some (.p rw)) x4 (some (.v (.int (many2 : Int)))) (some (.v (.int (signs : Int)))) (some (.p ot)) (some (.p bg)) (some (.p mo)) (some (.p du)) (some (.p th))) (μ := μ27) (fa := fK (.int 0)) (fb := fK (.str "x")) rfl rfl)
  simp only [fLst, t, Option.bind_some, vals, List.length_cons, List.length_nil]
  rw [if_pos one]; rfl
 have q28 := q27.go (fun z => z) g28
 have o28 := o27.go (fun z => z) g28
 have n28 := own_new (f := ext f26 p27 30) (μ := μ27) 30 (.lst [.tup [.int ((0 : Nat) : Int), .str "x"]])
 have e29 : fOp addF (fVar 1) (fLst (fCons (fTup (fCons (fK (.int 0)) (fCons (fK (.str "x")) fNil))) fNil)) (RO ns (some (.p st)) (some (.p sh)) (some (.p rw)) x4 (some (.v (.int (many2 : Int)))) (some (.v (.int (signs : Int)))) (some (.p ot)) (some (.p bg)) (some (.p mo)) (some (.p du)) (some (.p th))) μ27 = some (.p (μ27 ++ [Cell.lst [.tup [.int ((0 : Nat) : Int), .str "x"]]]).length, (μ27 ++ [Cell.lst [.tup [.int ((0 : Nat) : Int), .str "x"]]]) ++ [Cell.lst (l1.map tupS ++ [.tup [.int ((0 : Nat) : Int), .str "x"]])]) := by
  have v1 : fVar 1 (RO ns (some (.p st)) (some (.p sh)) (some (.p rw)) x4 (some (.v (.int (many2 : Int)))) (some (.v (.int (signs : Int)))) (some (.p ot)) (some (.p bg)) (some (.p mo)) (some (.p du)) (some (.p th))) μ27 = some (.p st, μ27) := rfl
  have ls : (l1.map tupS).length + ([D.tup [.int ((0 : Nat) : Int), .str "x"]] : List D).length <= sizeLine := by rw [sizeLine_eq, List.length_map]; simp; omega
  simp only [fOp, v1, e28, Option.bind_some, addF, seqL, q28.2, n28.2]
  rw [if_pos ls]
 have t30 := e_eqs (neg := false) e27 e29 (xs := l1.map tupS ++ [.tup [.int ((0 : Nat) : Int), .str "x"]]) (by
   rw [List.getElem?_append_left (by have := o28.lt; exact this)]; exact o28.2) (by rw [List.getElem?_append_right (Nat.le_refl _)]; simp) elx
 have last : sRet (fAnd (fOp (eqL false) (fCallW w_law_rows 1 (fCons (fVar 7) fNil)) (fVar 10)) (fOp (eqR false) (fMeth "Shelf" "strokes" w_Shelf_strokes 1 (fVar 2) fNil) (fOp addF (fVar 1) (fLst (fCons (fTup (fCons (fK (.int 0)) (fCons (fK (.str "x")) fNil))) fNil))))) (RO ns (some (.p st)) (some (.p sh)) (some (.p rw)) x4 (some (.v (.int (many2 : Int)))) (some (.v (.int (signs : Int)))) (some (.p ot)) (some (.p bg)) (some (.p mo)) (some (.p du)) (some (.p th))) μ25 = some (.rt (.v (.bl true)) ((μ27 ++ [Cell.lst [.tup [.int ((0 : Nat) : Int), .str "x"]]]) ++ [Cell.lst (l1.map tupS ++ [.tup [.int ((0 : Nat) : Int), .str "x"]])])) := by
  have b1 : ∀ (ρ : Lo) (fa fb : FE) (μ μ' : Store) (o : Option (R × Store)), fa ρ μ = some (.v (.bl true), μ') -> fb ρ μ' = o -> fAnd fa fb ρ μ = o := fun ρ fa fb μ μ' o h1 h2 => by simp [fAnd, h1, h2]
  unfold sRet
  rw [b1 _ _ _ _ _ _ t26 t30]
  rfl
 have whole : b_law (RO ns none none none none none none none none none none none) [] = some (.rt (.v (.bl true)) ((μ27 ++ [Cell.lst [.tup [.int ((0 : Nat) : Int), .str "x"]]]) ++ [Cell.lst (l1.map tupS ++ [.tup [.int ((0 : Nat) : Int), .str "x"]])])) :=
  sq s1 (sq (e_set e2) (sq s3 (sq s4 (sq s6 (sq s7 (sq s8 (sq s9 (sq s10 (sq s12 (sq s13 (sq s14 (sq s15 (sq s18 (sq s19 (sq s20 (sq s21 (sq s24 (sq s25 last))))))))))))))))))
 exact (congrArg finO whole).trans rfl
end LW
open PySem PySem.W PyProof.Rows
set_option maxRecDepth 100000 in
set_option maxHeartbeats 0 in
theorem PySem.Challenge.cw_heldwhen_k51_fallen_holds : PySem.Challenge.rw_heldwhen_k51_fallen.Holds := by
 w_on; o_law; k_head; (case hw => w_witness2)
 k_fill
 refine L2.walk_ofK (l := PySem.Challenge.rw_heldwhen_k51_fallen) (n := 63) (k := 5) (x := "script") (CX := L2.CX0) (sp := fun K => HW.spP K 1 LW.m_law) rfl (by decide) rfl ⟨rfl, by decide, by decide⟩ (fun w h Y => PySem.W.kIn_of Y) ?F (fun K H a ns hl hO hS => HW.law_sp hO hS (LW.law_true ns hl)) fun _ _ _ _ z => z
 case F =>
  intro w mg fa h KX G hmg
  refine' LW.all_mk KX G hmg ?aC ?pg ?hd ?po ?sa ?mk ?kc ?n_first_drawers ?n_drawers ?n_stroke_list ?a0 ?a1 ?a2 ?a3 ?a4 ?a5 ?a6 ?a7 ?a8 ?a9 ?a10 ?a11 ?a12 ?a13 ?a14 ?z0 ?z1 ?z2 ?z3 ?z4
  (case aC | pg | hd | po | sa | mk | kc | n_first_drawers | n_drawers | n_stroke_list => k_is)
  (case a0 | a1 | a2 | a3 | a4 | a5 | a6 => exact ⟨_, by k_is, by k_is, _, _, _, _, _, _, _, _, _, by k_is, by k_is, by k_is⟩)
  (case a7 | a8 | a9 | a10 | a11 | a12 | a13 | a14 => exact ⟨_, by k_is, _, _, _, _, _, _, _, _, _, by k_is, by k_is, by k_is⟩)
  (case z0 | z1 | z2 | z3 | z4 => k_is)