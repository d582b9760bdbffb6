import PyProof.Rows.All
import Wide.All
import OpenK.AllK
import Wide.FinOn
import Lean
import PyProof.EqAt
import PyProof.EqKinds
import PyProof.TupleCall
import PyProof.IsiH_tuple
import PyProof.NsDelKeeps
import PyProof.FString4
import PyProof.ExcBaseAll.ValueError
import PyProof.ForAny
import KE.KIsAll
import KE.KSortTup
import KE.KLam
import KE.KNestM
import PyProof.StrWalks
import PyProof.SliceStr2
import PyProof.StrBlockI
import KE.KIntText
import PyProof.StrCalls2
import PyProof.StrLawsTight
import PyProof.Rows.FStrParts
import PyProof.Rows.StrInSeq3
import PyProof.TupleKey
import PyProof.IsRules
import PyProof.SumWalkG
import PyProof.EnumFor
import PyProof.EnumStmt
import PyProof.EnumMake
import PyProof.StrBlock2
import PyProof.ZipIter
import PyProof.ListNew
import PyProof.DictIter
import PyProof.DictFindH
import PyProof.ListRange
import PyProof.TupleOfGen
import PyProof.LongRange
import PyProof.DictValues
import KE.KDictList
import KE.KEqDict
import PyProof.P3In
import PyProof.TupleIter
import PyProof.WalksMore
import PySem.Challenge.RW_heldwhen_k48_asks_written
set_option Elab.async false
set_option linter.all false
set_option maxRecDepth 100000
namespace L2
open PySem PySem.Spec PyProof.Rows
section
variable {prog : Program} {w : World} {A : Around} {E : Value -> Shared -> Prop} {s : Shared}
theorem wpAny_pyHash_none {Q : Int -> Shared -> Prop} (h : Q 0xFCA86420 { s with toks := s.toks + 1 }) : wpAny (model prog w) A (pyHash .none) Q E s := by
 have hT : s.TypeIs .none "NoneType" := rfl
 show wpAny _ _ (pyHashByItsType .none) _ _ s
 unfold pyHashByItsType
 refine wpAny_bind (wpAny_cRoomFor_byValue rfl ?_)
 refine wpAny_bind (wpAny_specialOf hT F.slot_NoneType_hash.lookup ?_)
 rw [if_neg (by decide)]
 refine wpAny_bind (wpAny_specialOf hT F.slot_NoneType_hash.lookup ?_)
 rw [if_neg (by decide)]
 show wpAny _ _ (callSpecialIfBoundUnlessNone? .none "__hash__" _ >>= _) Q E s
 refine wpAny_bind (wpAny_callSpecialIfBoundUnlessNone?_slot hT F.slot_NoneType_hash
  (wpAny_call_entry F.slot_NoneType_hash hT F.entry_NoneType_hash
   (show wpAny _ _ (do ret (← mkInt 0xFCA86420)) _ _ s from wpAny_ret_mkInt ?_) (F.args_NoneType_hash_1 _)))
 show wpAny _ _ (if (decide (-(2 : Int) ^ 63 <= 0xFCA86420) && decide ((0xFCA86420 : Int) < 2 ^ 63)) = true then _ else _) Q E _
 rw [if_pos (by decide)]
 exact wpAny_pure h
theorem wpAny_eqBool_none {Q : Bool -> Shared -> Prop} (h : Q true s) : wpAny (model prog w) A (eqBool .none .none) Q E s := by
 unfold eqBool
 refine wpAny_holding ?_
 rw [if_pos (by decide)]
 exact wpAny_bind (wpAny_rule (wpAny_pure h))
end
noncomputable abbrev Key := Sum Int (Option Str)
noncomputable def keyIs : Key -> Value -> Bool
 | .inl k, v => Value.isInt k v
 | .inr (some x), v => Value.isStrOf x v
 | .inr none, v => v == .none
noncomputable def keyH (w : World) : Key -> Int
 | .inl k => hashInt k
 | .inr (some x) => hashStr w x
 | .inr none => 0xFCA86420
theorem keyIs_shape : ∀ {k : Key} {v : Value}, keyIs k v = true -> (∃ i t, k = Sum.inl i /\ v = Value.int i t) \/ (∃ x t, k = Sum.inr (some x) /\ v = Value.str x t) \/ (k = Sum.inr none /\ v = Value.none)
 | .inl i, v, h => by
  obtain ⟨t, e⟩ := Value.isInt_shape (k := i) (v := v) h
  exact .inl ⟨i, t, rfl, e⟩
 | .inr (some x), v, h => by
  obtain ⟨t, e⟩ := Value.isStrOf_shape (x := x) (v := v) h
  exact .inr (.inl ⟨x, t, rfl, e⟩)
 | .inr none, v, h => .inr (.inr ⟨rfl, eq_of_beq h⟩)
theorem keyIs_int (i : Int) (t : Tok) : keyIs (.inl i) (.int i t) = true := by simp [keyIs, Value.isInt]
theorem keyIs_str (x : Str) (t : Tok) : keyIs (.inr (some x)) (.str x t) = true := by simp [keyIs, Value.isStrOf]
theorem keyIs_non : keyIs (.inr none) .none = true := by simp [keyIs]
theorem key_ll (a b : Int) : decide ((Sum.inl a : Key) = Sum.inl b) = (a == b) := by
 by_cases e : a = b
 ·subst e; simp
 ·have h : ¬ (Sum.inl a : Key) = Sum.inl b := fun q => e (Sum.inl.inj q)
  rw [decide_eq_false h]
  exact (beq_eq_false_iff_ne.mpr e).symm
theorem key_rr (a b : Str) : decide ((Sum.inr (some a) : Key) = Sum.inr (some b)) = decide (a = b) := by
 by_cases e : a = b
 ·subst e; simp
 ·have h : ¬ (Sum.inr (some a) : Key) = Sum.inr (some b) := fun q => e (Option.some.inj (Sum.inr.inj q))
  rw [decide_eq_false h, decide_eq_false e]
noncomputable def mixKind (prog : Program) (w : World) : PySem.KeyKind prog w Key where
 is := keyIs
 hash := keyH w
 inj := fun v a b ha hb => by
  rcases keyIs_shape ha with ⟨i, t, rfl, rfl⟩ | ⟨x, t, rfl, rfl⟩ | ⟨rfl, rfl⟩
  ·rcases keyIs_shape hb with ⟨j, u, rfl, e⟩ | ⟨y, u, rfl, e⟩ | ⟨rfl, e⟩
   ·injection e with e1 _; rw [e1]
   ·exact nomatch e
   ·exact nomatch e
  ·rcases keyIs_shape hb with ⟨j, u, rfl, e⟩ | ⟨y, u, rfl, e⟩ | ⟨rfl, e⟩
   ·exact nomatch e
   ·injection e with e1 _; rw [e1]
   ·exact nomatch e
  ·rcases keyIs_shape hb with ⟨j, u, rfl, e⟩ | ⟨y, u, rfl, e⟩ | ⟨rfl, e⟩
   ·exact nomatch e
   ·exact nomatch e
   ·rfl
 byValue := fun k v h => by
  rcases keyIs_shape h with ⟨i, t, rfl, rfl⟩ | ⟨x, t, rfl, rfl⟩ | ⟨rfl, rfl⟩ <;> rfl
 pyHash := fun hv h => by
  rcases keyIs_shape hv with ⟨i, t, rfl, rfl⟩ | ⟨x, t, rfl, rfl⟩ | ⟨rfl, rfl⟩
  ·exact wpAny_pyHash_int h
  ·exact wpAny_pyHash_str h
  ·exact wpAny_pyHash_none h
 eqBool := fun hu hv h => by
  rcases keyIs_shape hu with ⟨i, t, rfl, rfl⟩ | ⟨x, t, rfl, rfl⟩ | ⟨rfl, rfl⟩
  ·rcases keyIs_shape hv with ⟨j, u, rfl, rfl⟩ | ⟨y, u, rfl, rfl⟩ | ⟨rfl, rfl⟩
   ·rw [key_ll] at h; exact wpAny_eqBool_int h
   ·exact SeqAt.EqAt.int_str i t y u _ _ _ _ (by simpa using h)
   ·exact SeqAt.EqAt.int_none i t _ _ _ _ (by simpa using h)
  ·rcases keyIs_shape hv with ⟨j, u, rfl, rfl⟩ | ⟨y, u, rfl, rfl⟩ | ⟨rfl, rfl⟩
   ·exact SeqAt.EqAt.str_int x t j u _ _ _ _ (by simpa using h)
   ·rw [key_rr] at h; exact wpAny_eqBool_str h
   ·exact SeqAt.EqAt.str_none x t _ _ _ _ (by simpa using h)
  ·rcases keyIs_shape hv with ⟨j, u, rfl, rfl⟩ | ⟨y, u, rfl, rfl⟩ | ⟨rfl, rfl⟩
   ·exact SeqAt.EqAt.none_int j u _ _ _ _ (by simpa using h)
   ·exact SeqAt.EqAt.none_str y u _ _ _ _ (by simpa using h)
   ·exact wpAny_eqBool_none (by simpa using h)
 «strs» := fun k x t v h => by
  rcases keyIs_shape h with ⟨i, u, rfl, e⟩ | ⟨y, u, rfl, e⟩ | ⟨rfl, e⟩
  ·exact nomatch e
  ·injection e with e1 _
   subst e1
   cases v <;> rfl
  ·exact nomatch e
theorem mixKind_int (prog : Program) (w : World) (i : Int) (t : Tok) : (mixKind prog w).is (.inl i) (.int i t) = true := keyIs_int i t
theorem mixKind_str (prog : Program) (w : World) (x : Str) (t : Tok) : (mixKind prog w).is (.inr (some x)) (.str x t) = true := keyIs_str x t
end L2
namespace L2
open PySem PySem.Spec PyProof.Rows
inductive V where
 | non | bl (b : Bool) | int (i : Int) | str (x : Str) | byt (b : Array UInt8) | flt (b : UInt64) | ref (a : Addr) | ty (n : String)
 deriving DecidableEq
def RelV : V -> Value -> Prop
 | .non, u => u = Value.none
 | .bl b, u => u = Value.bool b
 | .int i, u => ∃ t, u = Value.int i t
 | .str x, u => ∃ t, u = Value.str x t
 | .byt b, u => ∃ t, u = Value.bytes b t
 | .flt b, u => ∃ t, u = Value.float b t
 | .ref a, u => u = Value.ref a
 | .ty n, u => u = Value.type n
abbrev Vals : List V -> List Value -> Prop := Paired RelV
theorem Vals.length {xs : List V} {us : List Value} (r : Vals xs us) : xs.length = us.length := Paired.length r
theorem Vals.get : ∀ {xs : List V} {us : List Value} {i : Nat} {x : V}, Vals xs us -> xs[i]? = some x -> ∃ u, us[i]? = some u /\ RelV x u
 | _, _, _, _, .nil, e => by simp at e
 | _, _, 0, _, .cons r _, e => by simp at e; subst e; exact ⟨_, rfl, r⟩
 | _, _, i + 1, x, .cons _ t, e => by
  obtain ⟨u, h1, h2⟩ := Vals.get (i := i) (x := x) t (by simpa using e)
  exact ⟨u, by simpa using h1, h2⟩
theorem Vals.set {x : V} {u : Value} (r : RelV x u) : ∀ {xs : List V} {us : List Value} (i : Nat), Vals xs us -> Vals (xs.set i x) (us.set i u)
 | _, _, _, .nil => .nil
 | _, _, 0, .cons _ t => .cons r t
 | _, _, i + 1, .cons q t => .cons q (Vals.set r i t)
theorem Vals.append : ∀ {xs ys : List V} {us ws : List Value}, Vals xs us -> Vals ys ws -> Vals (xs ++ ys) (us ++ ws)
 | _, _, _, _, .nil, s => s
 | _, _, _, _, .cons r t, s => .cons r (Vals.append t s)
theorem Vals.take : ∀ {xs : List V} {us : List Value} (n : Nat), Vals xs us -> Vals (xs.take n) (us.take n)
 | _, _, 0, _ => .nil
 | _, _, _ + 1, .nil => .nil
 | _, _, n + 1, .cons r t => .cons r (Vals.take n t)
theorem Vals.drop : ∀ {xs : List V} {us : List Value} (n : Nat), Vals xs us -> Vals (xs.drop n) (us.drop n)
 | _, _, 0, r => r
 | _, _, _ + 1, .nil => .nil
 | _, _, n + 1, .cons _ t => Vals.drop n t
def RelO : Option V -> Option Value -> Prop
 | some v, some u => RelV v u
 | none, none => True
 | _, _ => False
def KV {κ : Type} : List (κ × V) -> List (κ × Value) -> Prop := Paired fun (p : κ × V) (q : κ × Value) => p.1 = q.1 /\ RelV p.2 q.2
noncomputable def kV : Key -> V
 | .inl i => .int i
 | .inr (some x) => .str x
 | .inr none => .non
inductive HO where
 | lst (xs : List V)
 | tup (xs : List V)
 | dK (kvs : List (Key × V)) | dT (kvs : List (List Key × V))
 | set (S : Int -> Bool) (n : Nat)
 | ins (C dx : Addr) (fs : List (Str × V))
 | own (x : Addr)
 | xd (fs : List (Str × V))
 | met (f x : Addr)
 | rng (lo hi : Int)
 | frz (o : Obj) (u : HO)
 | tbl (ps : Array Value)
 | ext (φ : Heap -> Prop)
noncomputable abbrev Hp := Addr -> Option HO
def upd (H : Hp) (a : Addr) (o : HO) : Hp := fun b => if b = a then some o else H b
theorem upd_same {H : Hp} {a : Addr} {o : HO} : upd H a o a = some o := by unfold upd; rw [if_pos rfl]
theorem upd_ne {H : Hp} {a b : Addr} {o : HO} (h : b ≠ a) : upd H a o b = H b := by unfold upd; rw [if_neg h]
theorem ne_of {H : Hp} {a b : Addr} {o u : HO} (h : H a = some o) (h' : H b = some u) (d : o ≠ u) : a ≠ b := by
 intro e; subst e; rw [h] at h'; exact d (Option.some.inj h')
theorem ne_of_none {H : Hp} {a b : Addr} {o : HO} (h : H a = some o) (h' : H b = none) : a ≠ b := by
 intro e; subst e; rw [h] at h'; cases h'
def IsTupD (h : Heap) (a : Addr) (items : Array Value) : Prop := IsTup h a items /\ ∀ o, h.get? a = some o -> o.dict = none
theorem IsTupD.new (h : Heap) (items : Array Value) : IsTupD (h.push { cls := .type "tuple", data := .seq items }) h.objs.size items := ⟨IsTup.new _ _, fun o e => by rw [Heap.get?_push_size _ rfl] at e; cases e; rfl⟩
section
variable (P : Program) (w : World)
def ObjOk (H : Hp) (h : Heap) (a : Addr) : HO -> Prop
 | .lst xs => xs.length <= sizeLine /\ ∃ (its : List Value) (n : Nat), Vals xs its /\ h.get? a = some { cls := .type "list", data := .seq its.toArray n }
 | .tup xs => xs.length <= sizeLine /\ ∃ its : List Value, Vals xs its /\ IsTupD h a its.toArray
 | .dK kvs => kvs.length <= sizeLine /\ (a == sysModules) = false /\ ∃ vs, KV kvs vs /\ h.DictOf (mixKind P w) a vs
 | .dT kvs => kvs.length <= sizeLine /\ (a == sysModules) = false /\ ∃ xs : List (List Key × Addr × Value),
   Paired (fun (p : List Key × V) (q : List Key × Addr × Value) => p.1 = q.1 /\ H q.2.1 = some (.tup (p.1.map kV)) /\ RelV p.2 q.2.2) kvs xs /\
   ∃ o es ep, h.get? a = some o /\ o.ExactDict /\ o.data = .dict es ep /\ es.toList = xs.map (entryOfKey (tupleKind (mixKind P w))) /\ (xs.map (·.1)).Nodup
 | .set S n => h.SetOf (intKind P w) a S n
 | .ins C dx fs => H dx = some (.own a) /\ fs.length <= 1000 /\ dx ≠ a /\ h.get? a = some (PySem.W.instObj C dx) /\
   ∃ mA, h.Ns1 dx mA /\ (∀ f, RelO (fs.lookup f) (mA f)) /\ PySem.Within mA (fs.map (·.1))
 | .own _ => ∃ o, h.get? a = some o
 | .xd fs => ∃ mA, h.Ns1 a mA /\ ∀ f, RelO (fs.lookup f) (mA f)
 | .rng lo hi => ∃ t u v, h.get? a = some { cls := .type "range", data := .fields #[.int lo t, .int hi u, .int 1 v] }
 | .frz o u => h.get? a = some o /\ ObjOk H h a u
 | .tbl ps => h.get? a = some { cls := .none, data := .fields ps }
 | .met f x => h.get? a = some (PySem.W.methodObj (.ref f) (.ref x))
 | .ext φ => φ h /\ (∃ o, h.get? a = some o) /\ ∀ h1 h2 : Heap, φ h1 -> (∀ o, h1.get? a = some o -> h2.get? a = some o) -> φ h2
def HOk (H : Hp) (h : Heap) : Prop := ∀ a o, H a = some o -> ObjOk P w H h a o
end
section
variable {P : Program} {w : World} {H H' : Hp} {h h' : Heap} {a : Addr} {o : HO}
theorem ObjOk.lt (x : ObjOk P w H h a o) : a < h.objs.size := by
 cases o with
 | lst xs => obtain ⟨_, _, _, _, e⟩ := x; exact Heap.lt_size e
 | tup xs => obtain ⟨_, _, _, p⟩ := x; exact p.1.lt
 | dK kvs => obtain ⟨_, _, _, _, o, _, _, e, _⟩ := x; exact Heap.lt_size e
 | dT kvs => obtain ⟨_, _, _, _, o, _, _, e, _⟩ := x; exact Heap.lt_size e
 | set S n => obtain ⟨o, _, _, _, e, _⟩ := x; exact Heap.lt_size e
 | ins C dx fs => obtain ⟨_, _, _, e, _⟩ := x; exact Heap.lt_size e
 | own y => obtain ⟨_, e⟩ := x; exact Heap.lt_size e
 | xd fs => obtain ⟨_, ⟨_, _, _, e, _⟩, _⟩ := x; exact Heap.lt_size e
 | rng lo hi => obtain ⟨_, _, _, e⟩ := x; exact Heap.lt_size e
 | frz ob u => obtain ⟨e, _⟩ := x; exact Heap.lt_size e
 | tbl ps => exact Heap.lt_size (show h.get? a = some _ from x)
 | met f y => exact Heap.lt_size (show h.get? a = some _ from x)
 | ext φ => obtain ⟨_, ⟨_, e⟩, _⟩ := x; exact Heap.lt_size e
theorem Paired.mapP {α β : Type} {F G : α -> β -> Prop} {l₁ : List α} {l₂ : List β} (h : Paired F l₁ l₂) (f : ∀ a b, F a b -> G a b) : Paired G l₁ l₂ := by
 induction h with
 | nil => exact .nil
 | cons r t ih => exact .cons (f _ _ r) ih
theorem ObjOk.stay (x : ObjOk P w H h a o) (k : ∀ b u, (b = a \/ H b = some (.own a)) -> h.get? b = some u -> h'.get? b = some u)
  (ho : ∀ b, H b = some (.own a) -> H' b = some (.own a)) (ht : ∀ b xs, H b = some (.tup xs) -> H' b = some (.tup xs)) : ObjOk P w H' h' a o := by
 induction o with
 | lst xs => obtain ⟨z, its, n, r, e⟩ := x; exact ⟨z, its, n, r, k _ _ (.inl rfl) e⟩
 | tup xs => obtain ⟨z, its, r, ⟨ob, e, c⟩, dn⟩ := x; exact ⟨z, its, r, ⟨ob, k _ _ (.inl rfl) e, c⟩, fun o q => by rw [k _ _ (.inl rfl) e] at q; cases q; exact dn _ e⟩
 | dK kvs => obtain ⟨z, y, vs, r, ob, es, ep, e, c⟩ := x; exact ⟨z, y, vs, r, ob, es, ep, k _ _ (.inl rfl) e, c⟩
 | dT kvs =>
  obtain ⟨z, y, xs, r, ob, es, ep, e, c⟩ := x
  exact ⟨z, y, xs, Paired.mapP r fun p q z => ⟨z.1, ht _ _ z.2.1, z.2.2⟩, ob, es, ep, k _ _ (.inl rfl) e, c⟩
 | set S n => obtain ⟨ob, es, ep, t, e, c⟩ := x; exact ⟨ob, es, ep, t, k _ _ (.inl rfl) e, c⟩
 | ins C dx fs =>
  obtain ⟨d, z, ne, e, mA, ⟨od, es, ep, e2, c⟩, r⟩ := x
  exact ⟨ho _ d, z, ne, k _ _ (.inl rfl) e, mA, ⟨od, es, ep, k _ _ (.inr d) e2, c⟩, r⟩
 | own y => obtain ⟨ob, e⟩ := x; exact ⟨ob, k _ _ (.inl rfl) e⟩
 | xd fs => obtain ⟨mA, ⟨od, es, ep, e, c⟩, r⟩ := x; exact ⟨mA, ⟨od, es, ep, k _ _ (.inl rfl) e, c⟩, r⟩
 | rng lo hi => obtain ⟨t, u, v, e⟩ := x; exact ⟨t, u, v, k _ _ (.inl rfl) e⟩
 | frz ob u ih => obtain ⟨e, q⟩ := x; exact ⟨k _ _ (.inl rfl) e, ih q⟩
 | tbl ps =>
  have e : h.get? a = some { cls := .none, data := .fields ps } := x
  show h'.get? a = some { cls := .none, data := .fields ps }
  exact k a _ (.inl rfl) e
 | met f y =>
  have e : h.get? a = some (PySem.W.methodObj (.ref f) (.ref y)) := x
  show h'.get? a = some (PySem.W.methodObj (.ref f) (.ref y))
  exact k a _ (.inl rfl) e
 | ext φ => obtain ⟨p, ⟨o, e⟩, st⟩ := x; exact ⟨st _ _ p fun o q => k _ _ (.inl rfl) q, ⟨o, k _ _ (.inl rfl) e⟩, st⟩
theorem HOk.lt (x : HOk P w H h) (e : H a = some o) : a < h.objs.size := (x a o e).lt
theorem HOk.fresh (x : HOk P w H h) (e : h.objs.size <= a) : H a = none := by
 cases q : H a with
 | none => rfl
 | some u => exact absurd (Nat.lt_of_lt_of_le (x.lt q) e) (Nat.lt_irrefl _)
theorem HOk.kept (x : HOk P w H h) (k : ∀ b u, h.get? b = some u -> h'.get? b = some u) : HOk P w H h' := fun a o e =>
 (x a o e).stay (fun b u _ q => k b u q) (fun _ q => q) fun _ _ q => q
theorem HOk.laid (x : HOk P w H h) (k : ∀ b u, h.get? b = some u -> h'.get? b = some u) (hp : h.objs.size <= a) (new : ObjOk P w (upd H a o) h' a o) : HOk P w (upd H a o) h' := fun b u e => by
 have hn := x.fresh hp
 by_cases hb : b = a
 ·subst hb; rw [upd_same] at e; cases e; exact new
 ·rw [upd_ne hb] at e
  exact (x b u e).stay (fun c v _ q => k c v q) (fun c q => by rw [upd_ne (ne_of_none q hn)]; exact q) fun c xs q => by rw [upd_ne (ne_of_none q hn)]; exact q
end
def Rd (H : Hp) (a : Addr) (u : HO) : Prop := H a = some u \/ ∃ o, H a = some (.frz o u)
theorem Rd.ok {P : Program} {w : World} {H : Hp} {h : Heap} {a : Addr} {u : HO} (r : Rd H a u) (x : HOk P w H h) : ObjOk P w H h a u := by
 rcases r with r | ⟨o, r⟩
 ·exact x a u r
 ·obtain ⟨_, q⟩ := x a _ r
  exact q
def Mut : Option HO -> Prop
 | some (.lst _) => True
 | some (.dK _) => True
 | some (.dT _) => True
 | some (.set _ _) => True
 | some (.ins _ _ _) => True
 | some (.ext _) => True
 | _ => False
section
variable {P : Program} {w : World} {H : Hp} {h h' : Heap} {x e : Addr} {o' : HO}
theorem HOk.write (ok : HOk P w H h) (mu : Mut (H x)) (he : e = x \/ H e = some (.own x)) (k : ∀ b u, b ≠ e -> h.get? b = some u -> h'.get? b = some u) (heo : ∃ u, h'.get? e = some u)
  (new : ObjOk P w (upd H x o') h' x o') : HOk P w (upd H x o') h' := fun b u q => by
 have nown : ∀ c y, H c = some (.own y) -> c ≠ x := fun c y r z => by subst z; rw [r] at mu; exact mu
 have ntup : ∀ c xs, H c = some (.tup xs) -> c ≠ x := fun c xs r z => by subst z; rw [r] at mu; exact mu
 by_cases hb : b = x
 ·subst hb; rw [upd_same] at q; cases q; exact new
 ·rw [upd_ne hb] at q
  by_cases hbe : b = e
  ·have q' : H b = some (.own x) := by
    rcases he with z | z
    ·exact absurd (hbe.trans z) hb
    ·rw [hbe]; exact z
   rw [q] at q'; cases q'
   obtain ⟨v, hv⟩ := heo
   exact ⟨v, by rw [hbe]; exact hv⟩
  ·refine (ok b u q).stay (fun c v hc r => k c v ?_ r) (fun c r => by rw [upd_ne (nown c b r)]; exact r) fun c xs r => by rw [upd_ne (ntup c xs r)]; exact r
   rcases hc with rfl | hc
   ·exact hbe
   ·rintro rfl
    rcases he with z | z
    ·exact nown c b hc z
    ·rw [hc] at z; cases z; exact hb rfl
end
structure Un (fs ex : List Addr) (H H' : Hp) (h h' : Heap) : Prop where
 keep : ∀ b o, h.get? b = some o -> H b = none -> b ∉ fs -> b ∉ ex -> h'.get? b = some o
 slot : ∀ b o, h.get? b = some o -> H b = none -> b ∈ fs -> b ∉ ex -> ∃ sl, h'.get? b = some { o with slots := sl }
 free : ∀ b o, h.get? b = some o -> H b = none -> b ∉ ex -> H' b = none
 there : ∀ b o, h.get? b = some o -> b ∉ ex -> ∃ o', h'.get? b = some o'
 tups : ∀ b xs, H b = some (.tup xs) -> H' b = some (.tup xs)
 frzs : ∀ b o u, H b = some (.frz o u) -> H' b = some (.frz o u)
 tbls : ∀ b ps, H b = some (.tbl ps) -> ∃ more, H' b = some (.tbl (ps ++ more))
section
variable {fs fs' ex ex' : List Addr} {H H1 H2 : Hp} {h h1 h2 h' : Heap} {a x e : Addr} {o : HO}
theorem Un.any (u : Un fs ex H H1 h h1) {b : Addr} {ob : Obj} (q : h.get? b = some ob) (n : H b = none) (hx : b ∉ ex) : ∃ sl, h1.get? b = some { ob with slots := sl } := by
 by_cases hb : b ∈ fs
 ·exact u.slot b ob q n hb hx
 ·exact ⟨ob.slots, u.keep b ob q n hb hx⟩
theorem Un.kept (k : ∀ b u, h.get? b = some u -> h'.get? b = some u) : Un fs ex H H h h' :=
 ⟨fun b ob q _ _ _ => k b ob q, fun b ob q _ _ _ => ⟨ob.slots, k b ob q⟩, fun _ _ _ n _ => n, fun b ob q _ => ⟨ob, k b ob q⟩, fun _ _ q => q, fun _ _ _ q => q, fun _ ps q => ⟨#[], by rw [q]; simp⟩⟩
theorem Un.refl : Un fs ex H H h h := Un.kept fun _ _ q => q
theorem Un.laid (k : ∀ b u, h.get? b = some u -> h'.get? b = some u) (hp : h.objs.size <= a) (hn : H a = none) : Un fs ex H (upd H a o) h h' where
 keep := fun b u q _ _ _ => k b u q
 slot := fun b u q _ _ _ => ⟨u.slots, k b u q⟩
 free := fun b u q n _ => by rw [upd_ne (Nat.ne_of_lt (Nat.lt_of_lt_of_le (Heap.lt_size q) hp))]; exact n
 there := fun b u q _ => ⟨u, k b u q⟩
 tups := fun b xs q => by rw [upd_ne (ne_of_none q hn)]; exact q
 frzs := fun b u xs q => by rw [upd_ne (ne_of_none q hn)]; exact q
 tbls := fun b ps q => ⟨#[], by rw [upd_ne (ne_of_none q hn), q]; simp⟩
theorem Un.write (mu : Mut (H x)) (he : e = x \/ H e = some (.own x)) (k : ∀ b u, b ≠ e -> h.get? b = some u -> h'.get? b = some u) (heo : ∃ u, h'.get? e = some u) : Un fs ex H (upd H x o) h h' := by
 have hx : ∀ b, H b = none -> b ≠ x := fun b n z => by subst z; rw [n] at mu; exact mu
 have hb : ∀ b, H b = none -> b ≠ e := fun b n z => by
  subst z
  rcases he with r | r
  ·exact hx b n r
  ·rw [n] at r; cases r
 have hm : ∀ b u, H b = some u -> ¬ Mut (some u) -> b ≠ x := fun b u q nm z => by subst z; rw [q] at mu; exact nm mu
 refine ⟨fun b u q n _ _ => k b u (hb b n) q, fun b u q n _ _ => ⟨u.slots, k b u (hb b n) q⟩, fun b u q n _ => by rw [upd_ne (hx b n)]; exact n, fun b u q _ => ?_,
  fun b xs q => by rw [upd_ne (hm b _ q fun z => z)]; exact q, fun b u xs q => by rw [upd_ne (hm b _ q fun z => z)]; exact q, fun b ps q => ⟨#[], by rw [upd_ne (hm b _ q fun z => z), q]; simp⟩⟩
 by_cases hbe : b = e
 ·subst hbe; exact heo
 ·exact ⟨u, k b u hbe q⟩
end
def trk (h : Heap) (H : Hp) : List Addr := (List.range h.objs.size).filter fun a => (H a).isSome
def hidT (h : Heap) (H : Hp) : Heap := PySem.W.hideAll h (trk h H)
theorem hidT_size (h : Heap) (H : Hp) : (hidT h H).objs.size = h.objs.size := PySem.W.hideAll_size _ _
theorem hidT_get {h : Heap} {H : Hp} {b : Addr} {o : Obj} (e : h.get? b = some o) (n : H b = none) : (hidT h H).get? b = some o :=
 PySem.W.hideAll_get _ e fun hm => by
  have q : (H b).isSome = true := (List.mem_filter.mp hm).2
  rw [n] at q; simp at q
theorem of_hidT {h : Heap} {H : Hp} {b : Addr} {o : Obj} (e : (hidT h H).get? b = some o) : h.get? b = some o /\ H b = none := by
 have e' : h.get? b = some o := PySem.W.of_hideAll (trk h H) e
 refine ⟨e', ?_⟩
 cases q : H b with
 | none => rfl
 | some x =>
  have hm : b ∈ trk h H := List.mem_filter.mpr ⟨List.mem_range.mpr (Heap.lt_size e'), by simp [q]⟩
  have z : (hidT h H).get? b = none := PySem.W.hideAll_none (trk h H) hm
  rw [z] at e; cases e
noncomputable def allNews (g h : Heap) (L : Addr) : List (Addr × Obj) := (List.range h.objs.size).filterMap fun a => if a = L \/ (g.get? a).isSome = true then none else (h.get? a).map fun o => (a, o)
noncomputable def rest (g h : Heap) (L d : Addr) : List (Addr × Obj) := (allNews g h L).filter fun p => decide (p.1 ≠ d)
end L2
namespace L2
open PySem PySem.Spec PyProof.Rows
structure Mod (K : PySem.W.Frag) (mg : Str -> Option Value) (base : Heap) : Prop where
 kin : K.In base
 glob : base.Ns mainGlobals mg
 blt : ∃ mb, base.Ns builtinsNs mb /\ ∀ x : Str, x ≠ "__name__" -> mb x = bootBuiltins x
 nolimit : base.NoLimit
structure Cx where
 prog : Program
 w : World
 K : PySem.W.Frag
 mg : Str -> Option Value
 base : Heap
 A : Around
 N : List Str
 s₀ : Shared
 H₀ : Hp
 env : Env
 outer : List Env
 stack : List Env
 ex : List Addr
 fn : Str -> Bool
 calm : Bool
 pn : List (Addr × Obj)
 xe : Value -> Shared -> Prop
noncomputable def frs (l : List Env) : List Addr := l.filterMap (·.frame)
noncomputable abbrev Cx.fs (X : Cx) : List Addr := frs X.outer
def Vis (sc : Scope) (x : Str) : Prop := sc.names.lookup x = some .local \/ sc.names.lookup x = some .cell \/ sc.names.lookup x = some .free
def Loc (sc : Scope) (x : Str) : Prop := sc.names.lookup x = some .local \/ sc.names.lookup x = some .cell
def Look (env : Env) (h : Heap) (m : Str -> Option Value) (x : Str) (u : Value) : Prop :=
 (env.kindOf x = some .local /\ m x = some u) \/ ((env.kindOf x = some .cell \/ env.kindOf x = some .free) /\ ∃ c, env.cells.lookup x = some c /\ h.IsCell c (some u))
structure Cx.Ok (X : Cx) : Prop where
 mod : Mod X.K X.mg X.base
 kind : X.env.scope.kind = .function
 glob : X.env.globals = mainGlobals
 blt : X.env.builtins = builtinsNs
 above : X.s₀.heap.objs.size <= X.env.locals
 inj : ∀ x y c, X.env.cells.lookup x = some c -> X.env.cells.lookup y = some c -> x = y
 has : ∀ x, (X.env.kindOf x = some .cell \/ X.env.kindOf x = some .free) -> ∃ c, X.env.cells.lookup x = some c
 cab : ∀ x c, X.fn x = true -> X.env.cells.lookup x = some c -> X.s₀.heap.objs.size <= c
 hd : X.calm = true -> X.A.handled = none
 frames : X.A.frames = some X.stack
 stk : X.stack = X.outer \/ (X.stack = X.env :: X.outer /\ X.env.frame = some X.env.locals)
 exf : ∀ b ∈ X.ex, b ≠ X.env.locals /\ ∀ x c, X.env.cells.lookup x = some c -> c ≠ b
 bs : ∀ b o, X.base.get? b = some o -> X.s₀.heap.get? b = some o /\ X.H₀ b = none
 bsz : X.base.objs.size <= X.s₀.heap.objs.size
 noex : ∀ b o, X.base.get? b = some o -> b ∉ X.ex
 exfs : ∀ b ∈ X.ex, b ∉ X.fs
 funs : X.s₀.heap.FunFrames X.base X.outer
 frf : ∀ b ∈ X.fs, X.H₀ b = none
structure Inv (X : Cx) (pins : List (Addr × Obj)) (σ : List (Option V)) (H : Hp) (s : Shared) : Prop where
 ok : X.Ok
 os : s.os = X.s₀.os
 bare : AllBare s.gens
 base : Un X.fs X.ex X.H₀ H X.s₀.heap s.heap
 loc : ∃ m, s.heap.Ns X.env.locals m /\ ∀ (i : Nat) (x : Str) (v : V), X.N[i]? = some x -> σ[i]? = some (some v) -> Vis X.env.scope x -> ∃ u, RelV v u /\ Look X.env s.heap m x u
 cell : ∀ x c, X.env.cells.lookup x = some c -> ∃ v, s.heap.IsCell c v
 free : H X.env.locals = none
 freeC : ∀ x c, X.env.cells.lookup x = some c -> H c = none
 pin : ∀ p ∈ X.pn ++ pins, s.heap.get? p.1 = some p.2 /\ H p.1 = none /\ p.1 ≠ X.env.locals /\ p.1 ∉ X.fs /\ ∀ v, p.2.data ≠ .cell v
 hok : HOk X.prog X.w H s.heap
 len : σ.length = X.N.length
section
variable {X : Cx} {pins : List (Addr × Obj)} {σ : List (Option V)} {H H' : Hp} {s : Shared} {h' : Heap}
theorem Cx.Ok.nofr (ok : X.Ok) {b : Addr} {o : Obj} (e : X.base.get? b = some o) : b ∉ X.fs := fun hb => by
 have := (ok.funs.mem hb).1
 rw [e] at this; cases this
theorem Inv.bs (I : Inv X pins σ H s) : ∀ b o, X.base.get? b = some o -> s.heap.get? b = some o /\ H b = none := fun b o e =>
 ⟨I.base.keep b o (I.ok.bs b o e).1 (I.ok.bs b o e).2 (I.ok.nofr e) (I.ok.noex b o e), I.base.free b o (I.ok.bs b o e).1 (I.ok.bs b o e).2 (I.ok.noex b o e)⟩
theorem Inv.bk (I : Inv X pins σ H s) : ∀ b o, X.base.get? b = some o -> s.heap.get? b = some o := fun b o e => (I.bs b o e).1
theorem Inv.mod (I : Inv X pins σ H s) : Mod X.K X.mg X.base := I.ok.mod
theorem Inv.kIn (I : Inv X pins σ H s) : X.K.In s.heap := I.ok.mod.kin.keeps I.bk
theorem Inv.lt (I : Inv X pins σ H s) : X.env.locals < s.heap.objs.size := let ⟨_, hn, _⟩ := I.loc; hn.lt
theorem Inv.sz (I : Inv X pins σ H s) : X.s₀.heap.objs.size <= s.heap.objs.size := Nat.le_trans I.ok.above (Nat.le_of_lt I.lt)
theorem Inv.nofs (I : Inv X pins σ H s) {a : Addr} (h : s.heap.objs.size <= a) : a ∉ X.fs := fun hb => by
 obtain ⟨_, o, ho, _⟩ := I.ok.funs.mem hb
 exact absurd (Nat.lt_of_lt_of_le (Heap.lt_size ho) (Nat.le_trans I.sz h)) (Nat.lt_irrefl _)
theorem Inv.cne (I : Inv X pins σ H s) : ∀ x c, X.env.cells.lookup x = some c -> c ≠ X.env.locals := fun x c e z => by
 obtain ⟨v, o, ho, hd⟩ := I.cell x c e
 obtain ⟨m, ⟨o', es, ep, ho', hd', _⟩, _⟩ := I.loc
 rw [z, ho'] at ho; cases ho; rw [hd'] at hd; cases hd
theorem Inv.funs (I : Inv X pins σ H s) : s.heap.FunFrames X.base X.outer := by
 have all : ∀ (l : List Env), (∀ b ∈ frs l, b ∈ X.fs) -> X.s₀.heap.FunFrames X.base l -> s.heap.FunFrames X.base l := by
  intro l
  induction l with
  | nil => intro _ _; trivial
  | cons env r ih =>
   intro hs hl
   obtain ⟨hk, ⟨L, o, hf, hn, ho, hd⟩, hr⟩ := hl
   have hL : L ∈ X.fs := hs L (by unfold frs; rw [List.filterMap_cons, hf]; exact List.mem_cons_self)
   obtain ⟨sl, e⟩ := I.base.slot L o ho (I.ok.frf L hL) hL fun z => I.ok.exfs L z hL
   exact ⟨hk, ⟨L, _, hf, hn, e, hd⟩, ih (fun b hb => hs b (by unfold frs; rw [List.filterMap_cons, hf]; exact List.mem_cons_of_mem _ hb)) hr⟩
 exact all X.outer (fun _ hb => hb) I.ok.funs
theorem Inv.stack (I : Inv X pins σ H s) : s.heap.FunFrames X.base X.stack := by
 rcases I.ok.stk with e | ⟨e, hf⟩
 ·rw [e]; exact I.funs
 ·rw [e]
  obtain ⟨m, hn, _⟩ := I.loc
  refine .cons (by rw [I.ok.kind]; decide) hf hn ?_ I.funs
  exact Heap.get?_none_of_le (Nat.le_trans I.ok.bsz I.ok.above)
theorem Inv.stkSub (I : Inv X pins σ H s) : ∀ b ∈ frs X.stack, b ∈ X.env.locals :: X.fs := fun b hb => by
 rcases I.ok.stk with e | ⟨e, hf⟩
 ·rw [e] at hb; exact List.mem_cons_of_mem _ hb
 ·rw [e] at hb
  unfold frs at hb
  rw [List.filterMap_cons, hf] at hb
  exact hb
theorem Inv.stkFree (I : Inv X pins σ H s) : ∀ b ∈ frs X.stack, H b = none := fun b hb => by
 rcases List.mem_cons.mp (I.stkSub b hb) with e | hb
 ·rw [e]; exact I.free
 ·obtain ⟨_, o, ho, _⟩ := I.ok.funs.mem hb
  exact I.base.free b o ho (I.ok.frf b hb) fun z => I.ok.exfs b z hb
theorem Inv.step {g' : Array GenState} {t' : Nat} {d' : Drawn} {ch : List Addr} (I : Inv X pins σ H s)
  (hch : ∀ b ∈ ch, (b ∈ X.ex \/ X.s₀.heap.objs.size <= b) /\ b ≠ X.env.locals /\ (∀ x c, X.env.cells.lookup x = some c -> c ≠ b) /\ ∀ p ∈ X.pn ++ pins, p.1 ≠ b)
  (keep : ∀ b o, b ≠ X.env.locals -> b ∉ X.fs -> b ∉ ch -> s.heap.get? b = some o -> H b = none -> h'.get? b = some o)
  (slot : ∀ b o, b ≠ X.env.locals -> b ∈ X.fs -> b ∉ ch -> s.heap.get? b = some o -> H b = none -> ∃ sl, h'.get? b = some { o with slots := sl }) (free : ∀ b o, b ∉ ch -> s.heap.get? b = some o -> H b = none -> H' b = none)
  (there : ∀ b o, b ∉ ch -> s.heap.get? b = some o -> ∃ o', h'.get? b = some o')
  (tups : ∀ b xs, H b = some (.tup xs) -> H' b = some (.tup xs)) (frzs : ∀ b o u, H b = some (.frz o u) -> H' b = some (.frz o u)) (tbls : ∀ b ps, H b = some (.tbl ps) -> ∃ more, H' b = some (.tbl (ps ++ more)))
  (ns : ∀ m, s.heap.Ns X.env.locals m -> h'.Ns X.env.locals m) (hok : HOk X.prog X.w H' h') (hg : AllBare g') :
  Inv X pins σ H' { s with heap := h', gens := g', drawn := d', toks := t' } := by
 have neL : ∀ b o, X.s₀.heap.get? b = some o -> b ≠ X.env.locals := fun b o e => Nat.ne_of_lt (Nat.lt_of_lt_of_le (Heap.lt_size e) I.ok.above)
 have neC : ∀ b o, X.s₀.heap.get? b = some o -> b ∉ X.ex -> b ∉ ch := fun b o e hx hb => by
  rcases (hch b hb).1 with z | z
  ·exact hx z
  ·exact absurd (Nat.lt_of_lt_of_le (Heap.lt_size e) z) (Nat.lt_irrefl _)
 have cellK : ∀ x c, X.env.cells.lookup x = some c -> ∀ v, s.heap.IsCell c v -> h'.IsCell c v := fun x c e v ⟨o, ho, hd⟩ => by
  have nch : c ∉ ch := fun z => (hch c z).2.2.1 x c e rfl
  by_cases hc : c ∈ X.fs
  ·obtain ⟨sl, q⟩ := slot c o (I.cne x c e) hc nch ho (I.freeC x c e)
   exact ⟨_, q, hd⟩
  ·exact ⟨o, keep c o (I.cne x c e) hc nch ho (I.freeC x c e), hd⟩
 refine ⟨I.ok, I.os, hg, ⟨fun b o e n hb hx => ?_, fun b o e n hb hx => ?_, fun b o e n hx => ?_, fun b o e hx => ?_, fun b xs e => tups b xs (I.base.tups b xs e), fun b o xs e => frzs b o xs (I.base.frzs b o xs e), fun b ps e => ?_⟩, ?_, fun x c e => ?_, ?_, fun x c e => ?_, fun p hp => ?_, hok, I.len⟩
 ·exact keep b o (neL b o e) hb (neC b o e hx) (I.base.keep b o e n hb hx) (I.base.free b o e n hx)
 ·obtain ⟨sl, e1⟩ := I.base.slot b o e n hb hx
  obtain ⟨sl', e2⟩ := slot b _ (neL b o e) hb (neC b o e hx) e1 (I.base.free b o e n hx)
  exact ⟨sl', e2⟩
 ·obtain ⟨o', e1⟩ := I.base.there b o e hx
  exact free b o' (neC b o e hx) e1 (I.base.free b o e n hx)
 ·obtain ⟨o', e1⟩ := I.base.there b o e hx
  exact there b o' (neC b o e hx) e1
 ·obtain ⟨m1, e1⟩ := I.base.tbls b ps e
  obtain ⟨m2, e2⟩ := tbls b _ e1
  exact ⟨m1 ++ m2, by rw [e2, Array.append_assoc]⟩
 ·obtain ⟨m, hn, hl⟩ := I.loc
  refine ⟨m, ns m hn, fun i x v e1 e2 e3 => ?_⟩
  obtain ⟨u, r, l⟩ := hl i x v e1 e2 e3
  refine ⟨u, r, ?_⟩
  rcases l with l | ⟨k, c, e, z⟩
  ·exact .inl l
  ·exact .inr ⟨k, c, e, cellK x c e _ z⟩
 ·obtain ⟨v, z⟩ := I.cell x c e
  exact ⟨v, cellK x c e v z⟩
 ·obtain ⟨m, ⟨o, _, _, ho, _⟩, _⟩ := I.loc
  exact free _ o (fun z => (hch _ z).2.1 rfl) ho I.free
 ·obtain ⟨v, o, ho, hd⟩ := I.cell x c e
  exact free c o (fun z => (hch c z).2.2.1 x c e rfl) ho (I.freeC x c e)
 ·obtain ⟨e, n, ne, nf, d⟩ := I.pin p hp
  have nch : p.1 ∉ ch := fun z => (hch p.1 z).2.2.2 p hp rfl
  exact ⟨keep p.1 p.2 ne nf nch e n, free p.1 p.2 nch e n, ne, nf, d⟩
theorem Inv.un {t' : Nat} (I : Inv X pins σ H s) (u : Un X.fs [] H H' s.heap h') (hok : HOk X.prog X.w H' h') : Inv X pins σ H' { s with heap := h', toks := t' } := by
 obtain ⟨m, ⟨o, es, ep, ho, r⟩, _⟩ := id I.loc
 obtain ⟨sl, hL⟩ := u.any ho I.free (by simp)
 exact I.step (g' := s.gens) (d' := s.drawn) (ch := []) (fun _ z => nomatch z) (fun b o _ hb _ e n => u.keep b o e n hb (by simp)) (fun b o _ hb _ e n => u.slot b o e n hb (by simp)) (fun b o _ e n => u.free b o e n (by simp)) (fun b o _ e => u.there b o e (by simp)) u.tups u.frzs u.tbls (fun m' hm => by
  obtain ⟨o', es', ep', ho', r'⟩ := hm
  rw [ho] at ho'; cases ho'
  exact ⟨_, es', ep', hL, r'⟩) hok I.bare
theorem Inv.call {g' : Array GenState} {t' : Nat} {d' : Drawn} {ch : List Addr} (I : Inv X pins σ H s) (u : Un (frs X.stack) ch H H' s.heap h') (hok : HOk X.prog X.w H' h') (hg : AllBare g')
  (hch : ∀ b ∈ ch, (b ∈ X.ex \/ X.s₀.heap.objs.size <= b) /\ b ≠ X.env.locals /\ (∀ x c, X.env.cells.lookup x = some c -> c ≠ b) /\ ∀ p ∈ X.pn ++ pins, p.1 ≠ b) :
  Inv X pins σ H' { s with heap := h', gens := g', drawn := d', toks := t' } := by
 obtain ⟨m, ⟨o, es, ep, ho, r⟩, _⟩ := id I.loc
 obtain ⟨sl, hL⟩ := u.any ho I.free fun z => (hch _ z).2.1 rfl
 exact I.step (ch := ch) hch (fun b o hL hb hc e n => u.keep b o e n (fun z => (List.mem_cons.mp (I.stkSub b z)).elim hL hb) hc) (fun b o _ _ hc e n => u.any e n hc) (fun b o hc e n => u.free b o e n hc) (fun b o hc e => u.there b o e hc) u.tups u.frzs u.tbls (fun m' hm => by
  obtain ⟨o', es', ep', ho', r'⟩ := hm
  rw [ho] at ho'; cases ho'
  exact ⟨_, es', ep', hL, r'⟩) hok hg
theorem Inv.turned {t' : Nat} {it : Addr} (I : Inv X pins σ H s) (k : ∀ b o, b ≠ it -> s.heap.get? b = some o -> h'.get? b = some o) (hn : H it = none) (hL : it ≠ X.env.locals)
  (h1 : it ∈ X.ex \/ X.s₀.heap.objs.size <= it) (h2 : ∀ x c, X.env.cells.lookup x = some c -> c ≠ it) (h3 : ∀ p ∈ X.pn ++ pins, p.1 ≠ it) : Inv X pins σ H { s with heap := h', toks := t' } := by
 have nit : ∀ b u, H b = some u -> b ≠ it := fun b u e z => by rw [z, hn] at e; cases e
 refine I.step (g' := s.gens) (d' := s.drawn) (ch := [it]) (fun b hb => ?_) (fun b o _ _ hc e _ => k b o (fun z => hc (by simp [z])) e) (fun b o _ _ hc e _ => ⟨o.slots, k b o (fun z => hc (by simp [z])) e⟩) (fun _ _ _ _ n => n)
  (fun b o hc e => ⟨o, k b o (fun z => hc (by simp [z])) e⟩) (fun _ _ e => e) (fun _ _ _ e => e) (fun b ps e => ⟨#[], by rw [e]; simp⟩) (fun m hm => ?_) (fun b u e => ?_) I.bare
 ·have e : b = it := by simpa using hb
  subst e
  exact ⟨h1, hL, h2, h3⟩
 ·obtain ⟨o, es, ep, ho, r⟩ := hm
  exact ⟨o, es, ep, k _ o (Ne.symm hL) ho, r⟩
 ·refine (I.hok b u e).stay (fun c v hc q => k c v ?_ q) (fun _ q => q) fun _ _ q => q
  rcases hc with z | z
  ·rw [z]; exact nit b u e
  ·exact nit c _ z
theorem Inv.tok (I : Inv X pins σ H s) (t : Nat) : Inv X pins σ H { s with toks := t } := I.un (h' := s.heap) (t' := t) Un.refl I.hok
theorem Inv.kept {t' : Nat} (I : Inv X pins σ H s) (k : ∀ b u, s.heap.get? b = some u -> h'.get? b = some u) : Inv X pins σ H { s with heap := h', toks := t' } := I.un (Un.kept k) (I.hok.kept k)
theorem Inv.laid {a : Addr} {o : HO} {t' : Nat} (I : Inv X pins σ H s) (k : ∀ b u, s.heap.get? b = some u -> h'.get? b = some u) (hp : s.heap.objs.size <= a) (new : ObjOk X.prog X.w (upd H a o) h' a o) :
  Inv X pins σ (upd H a o) { s with heap := h', toks := t' } := I.un (Un.laid k hp (I.hok.fresh hp)) (I.hok.laid k hp new)
theorem Inv.write {x e : Addr} {o : HO} {t' : Nat} (I : Inv X pins σ H s) (mu : Mut (H x)) (he : e = x \/ H e = some (.own x)) (k : ∀ b u, b ≠ e -> s.heap.get? b = some u -> h'.get? b = some u) (heo : ∃ u, h'.get? e = some u)
  (new : ObjOk X.prog X.w (upd H x o) h' x o) : Inv X pins σ (upd H x o) { s with heap := h', toks := t' } := I.un (Un.write mu he k heo) (I.hok.write mu he k heo new)
theorem Inv.pins_of {pins' : List (Addr × Obj)} (I : Inv X pins σ H s) (h : ∀ p ∈ pins', s.heap.get? p.1 = some p.2 /\ H p.1 = none /\ p.1 ≠ X.env.locals /\ p.1 ∉ X.fs /\ ∀ v, p.2.data ≠ .cell v) : Inv X pins' σ H s :=
 ⟨I.ok, I.os, I.bare, I.base, I.loc, I.cell, I.free, I.freeC, fun p hp => (List.mem_append.mp hp).elim (fun z => I.pin p (List.mem_append_left _ z)) (h p), I.hok, I.len⟩
theorem nodup_ix {N : List Str} (hN : N.Nodup) {i j : Nat} {x : Str} (a : N[i]? = some x) (b : N[j]? = some x) : i = j := by
 obtain ⟨h1, e1⟩ := List.getElem?_eq_some_iff.mp a
 obtain ⟨h2, e2⟩ := List.getElem?_eq_some_iff.mp b
 exact (List.getElem_inj hN).mp (e1.trans e2.symm)
theorem store_ok2 {M : Model} {A : Around} {E : Value -> Shared -> Prop} {i : Nat} {x : Str} {v : V} {u : Value} {Q : Unit -> Shared -> Prop} (I : Inv X pins σ H s) (hN : X.N.Nodup) (hi : X.N[i]? = some x) (hx : Loc X.env.scope x) (r : RelV v u)
  (h : ∀ s', Inv X pins (σ.set i (some v)) H s' -> (∃ a, Heap.SameBut a s.heap s'.heap /\ (a = X.env.locals \/ X.env.cells.lookup x = some a)) -> Q () s') (hf : X.fn x = true \/ X.env.scope.names.lookup x = some .local := by first | exact .inl rfl | exact .inr rfl | assumption) : wpAny M A (storeName X.env x u) Q E s := by
 obtain ⟨m, hn, hl⟩ := id I.loc
 have hcls : (X.env.scope.kind == .class || (X.env.scope.kind == .module && X.env.locals != X.env.globals)) = false := by rw [I.ok.kind]; rfl
 have hiσ : i < σ.length := by rw [I.len]; exact (List.getElem?_eq_some_iff.mp hi).1
 have cne := I.cne
 have tracked : ∀ {a : Addr} {h' : Heap}, (∃ o, s.heap.get? a = some o /\ H a = none) -> Heap.SameBut a s.heap h' -> HOk X.prog X.w H h' := fun {a h'} ha hs b ob e => by
  obtain ⟨_, _, hfree⟩ := ha
  refine (I.hok b ob e).stay (fun c w' hc q => (hs.2 c ?_).trans q) (fun _ q => q) fun _ _ q => q
  rintro rfl
  rcases hc with rfl | hc
  ·rw [hfree] at e; cases e
  ·rw [hfree] at hc; cases hc
 rcases hx with hk | hk
 ·refine wpAny_storeName_local hk hn (fun h' hn' hs => ?_) hcls
  obtain ⟨oL, _, _, hoL, _⟩ := id hn
  refine h _ ⟨I.ok, I.os, I.bare, ⟨fun b o e n hb hx => ?_, fun b o e n hb hx => ?_, I.base.free, fun b o e hx => ?_, I.base.tups, I.base.frzs, I.base.tbls⟩, ⟨_, hn', fun j y v' e1 e2 e3 => ?_⟩, fun y c e => ?_, I.free, I.freeC, fun p hp => ?_, tracked ⟨oL, hoL, I.free⟩ hs, by simpa using I.len⟩ ⟨_, hs, .inl rfl⟩
  ·exact (hs.2 b (Nat.ne_of_lt (Nat.lt_of_lt_of_le (Heap.lt_size e) I.ok.above))).trans (I.base.keep b o e n hb hx)
  ·obtain ⟨sl, e1⟩ := I.base.slot b o e n hb hx
   exact ⟨sl, (hs.2 b (Nat.ne_of_lt (Nat.lt_of_lt_of_le (Heap.lt_size e) I.ok.above))).trans e1⟩
  ·obtain ⟨o', e1⟩ := I.base.there b o e hx
   exact ⟨o', (hs.2 b (Nat.ne_of_lt (Nat.lt_of_lt_of_le (Heap.lt_size e) I.ok.above))).trans e1⟩
  ·by_cases hj : j = i
   ·subst hj
    rw [hi] at e1; cases e1
    rw [List.getElem?_set_self hiσ] at e2
    cases e2
    exact ⟨u, r, .inl ⟨hk, by simp⟩⟩
   ·rw [List.getElem?_set_ne (Ne.symm hj)] at e2
    obtain ⟨u', r', q⟩ := hl j y v' e1 e2 e3
    refine ⟨u', r', ?_⟩
    rcases q with ⟨k, e⟩ | ⟨k, c, e, z⟩
    ·refine .inl ⟨k, ?_⟩
     have : y ≠ x := fun e => hj (nodup_ix hN e1 (e ▸ hi))
     simp [this, e]
    ·exact .inr ⟨k, c, e, z.sameBut hs (cne y c e)⟩
  ·obtain ⟨w', z⟩ := I.cell y c e
   exact ⟨w', z.sameBut hs (cne y c e)⟩
  ·obtain ⟨e, n, ne, nf, d⟩ := I.pin p hp
   exact ⟨(hs.2 p.1 ne).trans e, n, ne, nf, d⟩
 ·have hfn : X.fn x = true := by
   rcases hf with z | z
   ·exact z
   ·rw [z] at hk; cases hk
  obtain ⟨c, hc⟩ := I.ok.has x (.inl hk)
  obtain ⟨w', z⟩ := I.cell x c hc
  refine wpAny_storeName_cell I.ok.kind hk hc z (fun h' hc' hs => ?_)
  obtain ⟨oc, hoc, hocd⟩ := id z
  refine h { s with heap := h' } ⟨I.ok, I.os, I.bare, ⟨fun b o e n hb hx => ?_, fun b o e n hb hx => ?_, I.base.free, fun b o e hx => ?_, I.base.tups, I.base.frzs, I.base.tbls⟩, ⟨m, hn.sameBut hs (Ne.symm (cne x c hc)), fun j y v' e1 e2 e3 => ?_⟩, fun y c' e => ?_, I.free, I.freeC, fun p hp => ?_, tracked ⟨oc, hoc, I.freeC x c hc⟩ hs, by simpa using I.len⟩ ⟨c, hs, .inr hc⟩
  ·exact (hs.2 b (Nat.ne_of_lt (Nat.lt_of_lt_of_le (Heap.lt_size e) (I.ok.cab x c hfn hc)))).trans (I.base.keep b o e n hb hx)
  ·obtain ⟨sl, e1⟩ := I.base.slot b o e n hb hx
   exact ⟨sl, (hs.2 b (Nat.ne_of_lt (Nat.lt_of_lt_of_le (Heap.lt_size e) (I.ok.cab x c hfn hc)))).trans e1⟩
  ·obtain ⟨o', e1⟩ := I.base.there b o e hx
   exact ⟨o', (hs.2 b (Nat.ne_of_lt (Nat.lt_of_lt_of_le (Heap.lt_size e) (I.ok.cab x c hfn hc)))).trans e1⟩
  ·by_cases hj : j = i
   ·subst hj
    rw [hi] at e1; cases e1
    rw [List.getElem?_set_self hiσ] at e2
    cases e2
    exact ⟨u, r, .inr ⟨.inl hk, c, hc, hc'⟩⟩
   ·rw [List.getElem?_set_ne (Ne.symm hj)] at e2
    obtain ⟨u', r', q⟩ := hl j y v' e1 e2 e3
    refine ⟨u', r', ?_⟩
    rcases q with q | ⟨k, c', e, z'⟩
    ·exact .inl q
    ·refine .inr ⟨k, c', e, z'.sameBut hs ?_⟩
     rintro rfl
     exact hj (nodup_ix hN e1 (I.ok.inj _ _ _ e hc ▸ hi))
  ·by_cases hcc : c' = c
   ·subst hcc; exact ⟨_, hc'⟩
   ·obtain ⟨w2, z2⟩ := I.cell y c' e
    exact ⟨w2, z2.sameBut hs hcc⟩
  ·obtain ⟨e, n, ne, nf, d⟩ := I.pin p hp
   refine ⟨(hs.2 p.1 ?_).trans e, n, ne, nf, d⟩
   intro q
   rw [q, hoc] at e
   have q' : oc = p.2 := Option.some.inj e
   exact d w' (by rw [← q']; exact hocd)
theorem store_ok {M : Model} {A : Around} {E : Value -> Shared -> Prop} {i : Nat} {x : Str} {v : V} {u : Value} {Q : Unit -> Shared -> Prop} (I : Inv X pins σ H s) (hN : X.N.Nodup) (hi : X.N[i]? = some x) (hx : Loc X.env.scope x) (r : RelV v u)
  (h : ∀ s', Inv X pins (σ.set i (some v)) H s' -> Q () s') (hf : X.fn x = true \/ X.env.scope.names.lookup x = some .local := by first | exact .inl rfl | exact .inr rfl | assumption) : wpAny M A (storeName X.env x u) Q E s :=
 store_ok2 I hN hi hx r (fun s' I' _ => h s' I') hf
theorem Inv.call' {s' : Shared} {ch : List Addr} (I : Inv X pins σ H s) (ho : s'.os = s.os) (u : Un (frs X.stack) ch H H' s.heap s'.heap) (hok : HOk X.prog X.w H' s'.heap) (hg : AllBare s'.gens)
  (hch : ∀ b ∈ ch, (b ∈ X.ex \/ X.s₀.heap.objs.size <= b) /\ b ≠ X.env.locals /\ (∀ x c, X.env.cells.lookup x = some c -> c ≠ b) /\ ∀ p ∈ X.pn ++ pins, p.1 ≠ b) : Inv X pins σ H' s' := by
 obtain ⟨h', g', d', t', o'⟩ := s'
 have e : o' = s.os := ho
 subst e
 exact I.call (g' := g') (t' := t') (d' := d') u hok hg hch
end
noncomputable abbrev XK := Value -> Option Addr -> Hp -> Prop
noncomputable abbrev St := List (Option V)
noncomputable abbrev VK := V -> Hp -> Prop
noncomputable abbrev TE := St -> Hp -> VK -> Prop
noncomputable abbrev TT := St -> Hp -> (Bool -> Hp -> Prop) -> Prop
noncomputable abbrev TA := St -> Hp -> (List V -> Hp -> Prop) -> Prop
structure Ends where
 nx : St -> Hp -> Prop
 rt : VK
 bk : St -> Hp -> Prop := fun _ _ => False
 ct : St -> Hp -> Prop := fun _ _ => False
noncomputable abbrev TS := Ends -> St -> Hp -> Prop
def EP (X : Cx) (pins : List (Addr × Obj)) (σ : St) (Q : VK) (u : Value) (s' : Shared) : Prop := ∃ v H', Inv X pins σ H' s' /\ RelV v u /\ Q v H'
def TP (X : Cx) (pins : List (Addr × Obj)) (σ : St) (Q : Bool -> Hp -> Prop) (b : Bool) (s' : Shared) : Prop := ∃ H', Inv X pins σ H' s' /\ Q b H'
def AP (X : Cx) (pins : List (Addr × Obj)) (σ : St) (Q : List V -> Hp -> Prop) (us : List Value) (s' : Shared) : Prop := ∃ vs H', Inv X pins σ H' s' /\ Vals vs us /\ Q vs H'
def SP (X : Cx) (pins : List (Addr × Obj)) (D : Ends) (f : Flow) (s' : Shared) : Prop :=
 match f with
 | .next => ∃ σ' H', Inv X pins σ' H' s' /\ D.nx σ' H'
 | .brk => ∃ σ' H', Inv X pins σ' H' s' /\ D.bk σ' H'
 | .cont => ∃ σ' H', Inv X pins σ' H' s' /\ D.ct σ' H'
 | .ret u => ∃ v σ' H', Inv X pins σ' H' s' /\ RelV v u /\ D.rt v H'
def PE (X : Cx) (e : Expr) (t : TE) : Prop :=
 ∀ (pins : List (Addr × Obj)) (s : Shared) (σ : St) (H : Hp) (Q : VK), Inv X pins σ H s -> t σ H Q -> wpAny (model X.prog X.w) X.A (eval e X.env) (EP X pins σ Q) X.xe s
def PT (X : Cx) (e : Expr) (t : TT) : Prop :=
 ∀ (pins : List (Addr × Obj)) (s : Shared) (σ : St) (H : Hp) (Q : Bool -> Hp -> Prop), Inv X pins σ H s -> t σ H Q -> wpAny (model X.prog X.w) X.A (isTrue e X.env (eval e X.env)) (TP X pins σ Q) X.xe s
def PW (X : Cx) (e : Expr) (t : TT) : Prop :=
 ∀ (whole : Sem Value) (pins : List (Addr × Obj)) (s : Shared) (σ : St) (H : Hp) (Q : Bool -> Hp -> Prop), Inv X pins σ H s -> t σ H Q -> wpAny (model X.prog X.w) X.A (isTrue e X.env whole) (TP X pins σ Q) X.xe s
theorem PW.pt {X : Cx} {e : Expr} {t : TT} (h : PW X e t) : PT X e t := h _
def PA (X : Cx) (es : List Expr) (t : TA) : Prop :=
 ∀ (pos : Pos) (pins : List (Addr × Obj)) (s : Shared) (σ : St) (H : Hp) (Q : List V -> Hp -> Prop), Inv X pins σ H s -> t σ H Q -> wpAny (model X.prog X.w) X.A (spliced (backTo pos (starEach es X.env))) (AP X pins σ Q) X.xe s
def PS (X : Cx) (st : Stmt) (t : TS) : Prop :=
 ∀ (pins : List (Addr × Obj)) (s : Shared) (σ : St) (H : Hp) (D : Ends), Inv X pins σ H s -> t D σ H -> wpAny (model X.prog X.w) X.A (exec st X.env) (SP X pins D) X.xe s
def PSs (X : Cx) (st : List Stmt) (t : TS) : Prop :=
 ∀ (pins : List (Addr × Obj)) (s : Shared) (σ : St) (H : Hp) (D : Ends), Inv X pins σ H s -> t D σ H -> wpAny (model X.prog X.w) X.A (execs st X.env) (SP X pins D) X.xe s
theorem thn {α : Type} {t : Sem α} {Q Q' : α -> Shared -> Prop} {M : Model} {A : Around} {E : Value -> Shared -> Prop} {s : Shared} (h : wpAny M A t Q E s) (hQ : ∀ a s, Q a s -> Q' a s) : wpAny M A t Q' E s := wpAny_mono h hQ fun _ _ x => x
end L2
namespace L2
open PySem PySem.Spec PyProof.Rows
section
variable {X : Cx}
def tVar (i : Nat) : TE := fun σ H Q => ∃ v, σ[i]? = some (some v) /\ Q v H
def tC (v : V) : TE := fun _ H Q => Q v H
theorem pe_var {i : Nat} {x : Str} {pos : Pos} (hN : X.N[i]? = some x) (hv : Vis X.env.scope x) (hd : (x == ("__debug__" : Str)) = false := by decide) (hcd : (x == ("__classdict__" : Str)) = false := by decide) : PE X (.Name x pos) (tVar i) := by
 intro pins s σ H Q I h
 obtain ⟨v, e, h⟩ := h
 obtain ⟨m, hn, hl⟩ := I.loc
 obtain ⟨u, r, l⟩ := hl i x v hN e hv
 have fin : EP X pins σ Q u s := ⟨v, H, I, r, h⟩
 rcases l with ⟨hk, hm⟩ | ⟨hk, c, hc, hcell⟩
 ·exact wpAny_Name (wpAny_loadName_local I.ok.kind hk hn hm fin) hd
 ·rcases hk with hk | hk
  ·exact wpAny_Name (wpAny_loadName_cell I.ok.kind hk hc hcell fin) hd
  ·exact wpAny_Name (wpAny_loadName_free I.ok.kind hk hc hcell fin hcd) hd
theorem pe_int {i j pos} : PE X (.Constant (.int i) j pos) (tC (.int i)) := fun _ _ _ H _ I h => wpAny_Constant_int ⟨.int i, H, I.tok _, ⟨_, rfl⟩, h⟩
theorem pe_bl {b j pos} : PE X (.Constant (.bool b) j pos) (tC (.bl b)) := fun _ _ _ H _ I h => Constant_bool ⟨.bl b, H, I, rfl, h⟩
theorem pe_non {j pos} : PE X (.Constant .none j pos) (tC .non) := fun _ _ _ H _ I h => Constant_none ⟨.non, H, I, rfl, h⟩
theorem pe_str {x j pos} : PE X (.Constant (.str x) j pos) (tC (.str x)) := fun _ _ _ H _ I h => Calls.Constant_str ⟨.str x, H, I.tok _, ⟨_, rfl⟩, h⟩
def Gl (X : Cx) (x : Str) : Prop := X.env.kindOf x = some .globalImplicit
theorem ld_glob {E : Value -> Shared -> Prop} {pins : List (Addr × Obj)} {s : Shared} {σ : St} {H : Hp} {x : Str} {u : Value} {pos : Pos} {Q : Value -> Shared -> Prop} (I : Inv X pins σ H s) (hg : Gl X x) (hm : X.mg x = some u) (h : Q u s)
  (hd : (x == ("__debug__" : Str)) = false := by decide) : wpAny (model X.prog X.w) X.A (eval (.Name x pos) X.env) Q E s :=
 Calls.Name_function_global I.ok.kind hg (Calls.loadGlobal_global (by rw [I.ok.glob]; exact I.mod.glob.keeps I.bk) hm h) hd
theorem ld_blt {E : Value -> Shared -> Prop} {pins : List (Addr × Obj)} {s : Shared} {σ : St} {H : Hp} {x : Str} {u : Value} {pos : Pos} {Q : Value -> Shared -> Prop} (I : Inv X pins σ H s) (hg : Gl X x) (hm : X.mg x = none) (hv : bootBuiltins x = some u) (h : Q u s)
  (hn : x ≠ "__name__" := by decide) (hd : (x == ("__debug__" : Str)) = false := by decide) : wpAny (model X.prog X.w) X.A (eval (.Name x pos) X.env) Q E s := by
 obtain ⟨mb, h1, h2⟩ := I.mod.blt
 exact Calls.Name_function_global I.ok.kind hg (Calls.loadGlobal_builtin (by rw [I.ok.glob]; exact I.mod.glob.keeps I.bk) hm (by rw [I.ok.blt]; exact h1.keeps I.bk) ((h2 x hn).trans hv) h) hd
theorem pe_glob {x : Str} {v : V} {u : Value} {pos : Pos} (hg : Gl X x) (hm : X.mg x = some u) (r : RelV v u) (hd : (x == ("__debug__" : Str)) = false := by decide) : PE X (.Name x pos) (tC v) :=
 fun _ _ _ H _ I h => ld_glob I hg hm ⟨v, H, I, r, h⟩ hd
theorem pe_bltn {x : Str} {v : V} {u : Value} {pos : Pos} (hg : Gl X x) (hm : X.mg x = none) (hv : bootBuiltins x = some u) (r : RelV v u) (hn : x ≠ "__name__" := by decide) (hd : (x == ("__debug__" : Str)) = false := by decide) : PE X (.Name x pos) (tC v) :=
 fun _ _ _ H _ I h => ld_blt I hg hm hv ⟨v, H, I, r, h⟩ hn hd
variable {a b : Expr} {ta tb : TE} {pos : Pos}
def tB (t : TE) : TT := fun σ H Q => t σ H fun x H1 => ∃ c, x = .bl c /\ Q c H1
variable {tA tB' : TT} {rest : List Expr}
def tAnd (t u : TT) : TT := fun σ H Q => t σ H fun c H1 => if c = true then u σ H1 Q else Q false H1
def tOr (t u : TT) : TT := fun σ H Q => t σ H fun c H1 => if c = true then Q true H1 else u σ H1 Q
def tNot (t : TT) : TT := fun σ H Q => t σ H fun c H1 => Q (!c) H1
theorem pw_and1 (ha : PT X a tA) : PW X (.BoolOp .And [a] pos) tA := by
 intro wh pins s σ H Q I h
 refine isTrue_and (thn (ha pins s σ H Q I h) fun c s1 e => ?_)
 cases c with
 | true => exact isTrue_and_nil e
 | false => exact e
theorem pw_or1 (ha : PT X a tA) : PW X (.BoolOp .Or [a] pos) tA := by
 intro wh pins s σ H Q I h
 refine isTrue_or (thn (ha pins s σ H Q I h) fun c s1 e => ?_)
 cases c with
 | false => exact isTrue_or_nil e
 | true => exact e
theorem pw_and (ha : PT X a tA) (hb : PW X (.BoolOp .And (b :: rest) pos) tB') : PW X (.BoolOp .And (a :: b :: rest) pos) (tAnd tA tB') := by
 intro wh pins s σ H Q I h
 refine isTrue_and (thn (ha pins s σ H _ I h) fun c s1 hh => ?_)
 obtain ⟨H1, I1, q1⟩ := hh
 cases c with
 | true => exact hb wh pins s1 σ H1 Q I1 q1
 | false => exact ⟨H1, I1, q1⟩
theorem pw_or (ha : PT X a tA) (hb : PW X (.BoolOp .Or (b :: rest) pos) tB') : PW X (.BoolOp .Or (a :: b :: rest) pos) (tOr tA tB') := by
 intro wh pins s σ H Q I h
 refine isTrue_or (thn (ha pins s σ H _ I h) fun c s1 hh => ?_)
 obtain ⟨H1, I1, q1⟩ := hh
 cases c with
 | true => exact ⟨H1, I1, q1⟩
 | false => exact hb wh pins s1 σ H1 Q I1 q1
theorem pt_not (ha : PT X a tA) : PT X (.UnaryOp .Not a pos) (tNot tA) := by
 intro pins s σ H Q I h
 exact isTrue_not (ha pins s σ H (fun c H1 => Q (!c) H1) I h)
def tAndV (ta tb : TE) : TE := fun σ H Q => ta σ H fun x H1 => ∃ c, x = .bl c /\ if c = true then tb σ H1 Q else Q (.bl false) H1
def tNotV (ta : TE) : TE := fun σ H Q => ta σ H fun x H1 => ∃ c, x = .bl c /\ Q (.bl (!c)) H1
theorem pe_one {op} {t : TE} (h : PE X a t) : PE X (.BoolOp op [a] pos) t := fun pins s σ H Q I hw => BoolOp_one (h pins s σ H Q I hw)
theorem pe_and (ha : PE X a ta) (hb : PE X (.BoolOp .And (b :: rest) pos) tb) : PE X (.BoolOp .And (a :: b :: rest) pos) (tAndV ta tb) := by
 intro pins s σ H Q I h
 refine BoolOp_and (thn (ha pins s σ H _ I h) fun v s1 hh => ?_)
 obtain ⟨x, H1, I1, r1, q1⟩ := hh
 obtain ⟨c, rfl, q1⟩ := q1
 cases r1
 refine wpAny_truthy_bool ?_
 cases c with
 | true => exact hb pins s1 σ H1 Q I1 q1
 | false => exact ⟨.bl false, H1, I1, rfl, q1⟩
theorem pe_not (ha : PE X a ta) : PE X (.UnaryOp .Not a pos) (tNotV ta) := by
 intro pins s σ H Q I h
 refine UnaryOp_ (thn (ha pins s σ H _ I h) fun v s1 hh => ?_)
 obtain ⟨x, H1, I1, r1, q1⟩ := hh
 obtain ⟨c, rfl, q1⟩ := q1
 cases r1
 exact not_of (wpAny_truthy_bool ⟨.bl (!c), H1, I1, rfl, q1⟩)
def tIf (t : TT) (ta tb : TE) : TE := fun σ H Q => t σ H fun c H1 => if c = true then ta σ H1 Q else tb σ H1 Q
theorem pe_ifExp {c : Expr} (hc : PT X c tA) (ha : PE X a ta) (hb : PE X b tb) : PE X (.IfExp c a b pos) (tIf tA ta tb) := by
 intro pins s σ H Q I h
 refine wpAny_IfExp (thn (hc pins s σ H _ I h) fun d s1 hh => ?_)
 obtain ⟨H1, I1, q1⟩ := hh
 cases d with
 | true => exact ha pins s1 σ H1 Q I1 q1
 | false => exact hb pins s1 σ H1 Q I1 q1
end
end L2
namespace L2
open PySem PySem.Spec PyProof.Rows
def SqL (K : PySem.W.Frag) (H : Hp) (a : Addr) (xs : List V) : Prop :=
 Rd H a (.lst xs) \/
  ∃ (o : Obj) (its : Array Value) (n : Nat), K.lookup a = some o /\ o.cls = .type "list" /\ (o.dict = none /\ o.slots = #[]) /\ o.data = .seq its n /\ its.size <= sizeLine /\ Vals xs its.toList
def SqT (K : PySem.W.Frag) (H : Hp) (a : Addr) (xs : List V) : Prop :=
 Rd H a (.tup xs) \/
  ∃ (o : Obj) (its : Array Value) (n : Nat), K.lookup a = some o /\ o.cls = .type "tuple" /\ o.dict = none /\ o.data = .seq its n /\ its.size <= sizeLine /\ Vals xs its.toList
noncomputable def absV : Value -> Option V
 | .none => some .non
 | .bool b => some (.bl b)
 | .int i _ => some (.int i)
 | .str x _ => some (.str x)
 | .bytes b _ => some (.byt b)
 | .float b _ => some (.flt b)
 | .ref a => some (.ref a)
 | .type n => some (.ty n)
 | _ => none
theorem RelV.abs {x : V} {u : Value} (r : RelV x u) : absV u = some x := by
 cases x with
 | non => cases r; rfl
 | bl _ => cases r; rfl
 | int _ => obtain ⟨t, rfl⟩ := r; rfl
 | str _ => obtain ⟨t, rfl⟩ := r; rfl
 | byt _ => obtain ⟨t, rfl⟩ := r; rfl
 | flt _ => obtain ⟨t, rfl⟩ := r; rfl
 | ref _ => cases r; rfl
 | ty _ => cases r; rfl
theorem RelV.inj {x y : V} {u : Value} (r : RelV x u) (q : RelV y u) : x = y := Option.some.inj (r.abs.symm.trans q.abs)
theorem Vals.inj {xs ys : List V} {us : List Value} (h : Vals xs us) : Vals ys us -> xs = ys := by
 induction h generalizing ys with
 | nil => intro q; cases q; rfl
 | cons r t ih => intro q; cases q with | cons r' t' => rw [r.inj r', ih t']
section
variable {X : Cx} {pins : List (Addr × Obj)} {σ : St} {H : Hp} {s : Shared} {a : Addr} {xs ys : List V}
theorem Inv.list (I : Inv X pins σ H s) (h : SqL X.K H a xs) : ∃ its : List Value, Vals xs its /\ PlainL s.heap a its.toArray /\ xs.length <= sizeLine := by
 rcases h with h | ⟨o, its, n, hk, hc, hd, hs, hz, r⟩
 ·obtain ⟨z, its, n, r, e⟩ := h.ok I.hok
  exact ⟨its, r, ⟨_, n, e, rfl, rfl, rfl⟩, z⟩
 ·refine ⟨its.toList, r, ⟨o, n, I.kIn a o hk, hc, hd.1, by simpa using hs⟩, ?_⟩
  have e := r.length
  simp only [Array.length_toList] at e
  omega
theorem Inv.tuple (I : Inv X pins σ H s) (h : SqT X.K H a xs) : ∃ its : List Value, Vals xs its /\ IsTup s.heap a its.toArray /\ xs.length <= sizeLine := by
 rcases h with h | ⟨o, its, n, hk, hc, hn, hs, hz, r⟩
 ·obtain ⟨z, its, r, p⟩ := h.ok I.hok
  exact ⟨its, r, p.1, z⟩
 ·refine ⟨its.toList, r, ⟨o, I.kIn a o hk, hc, n, by simpa using hs⟩, ?_⟩
  have e := r.length
  simp only [Array.length_toList] at e
  omega
theorem Inv.list_inj (I : Inv X pins σ H s) (h : SqL X.K H a xs) (h' : SqL X.K H a ys) : xs = ys := by
 obtain ⟨its, r, ⟨o, n, e, _, _, d⟩, _⟩ := I.list h
 obtain ⟨its', r', ⟨o', n', e', _, _, d'⟩, _⟩ := I.list h'
 rw [e] at e'; cases e'
 rw [d] at d'
 injection d' with d1 _
 have : its = its' := by simpa using congrArg Array.toList d1
 subst this
 exact r.inj r'
theorem Inv.tuple_inj (I : Inv X pins σ H s) (h : SqT X.K H a xs) (h' : SqT X.K H a ys) : xs = ys := by
 obtain ⟨its, r, ⟨o, e, _, n, d⟩, _⟩ := I.tuple h
 obtain ⟨its', r', ⟨o', e', _, n', d'⟩, _⟩ := I.tuple h'
 rw [e] at e'; cases e'
 rw [d] at d'
 injection d' with d1 _
 have : its = its' := by simpa using congrArg Array.toList d1
 subst this
 exact r.inj r'
end
abbrev Cx.wish (X : Cx) (E : Value -> Shared -> Prop) : Cx := { X with xe := E }
noncomputable abbrev Cx.nox (X : Cx) : Cx := X.wish fun _ _ => False
theorem Cx.Ok.wish {X : Cx} (ok : X.Ok) (E : Value -> Shared -> Prop) : (X.wish E).Ok :=
 ⟨ok.mod, ok.kind, ok.glob, ok.blt, ok.above, ok.inj, ok.has, ok.cab, ok.hd, ok.frames, ok.stk, ok.exf, ok.bs, ok.bsz, ok.noex, ok.exfs, ok.funs, ok.frf⟩
theorem Cx.Ok.unwish {X : Cx} {E : Value -> Shared -> Prop} (ok : (X.wish E).Ok) : X.Ok :=
 ⟨ok.mod, ok.kind, ok.glob, ok.blt, ok.above, ok.inj, ok.has, ok.cab, ok.hd, ok.frames, ok.stk, ok.exf, ok.bs, ok.bsz, ok.noex, ok.exfs, ok.funs, ok.frf⟩
section
variable {X : Cx} {pins : List (Addr × Obj)} {σ : St} {H : Hp} {s : Shared} {E : Value -> Shared -> Prop}
theorem Inv.wish (I : Inv X pins σ H s) (E : Value -> Shared -> Prop) : Inv (X.wish E) pins σ H s := ⟨I.ok.wish E, I.os, I.bare, I.base, I.loc, I.cell, I.free, I.freeC, I.pin, I.hok, I.len⟩
theorem Inv.unwish (I : Inv (X.wish E) pins σ H s) : Inv X pins σ H s := ⟨I.ok.unwish, I.os, I.bare, I.base, I.loc, I.cell, I.free, I.freeC, I.pin, I.hok, I.len⟩
theorem SP.unwish {D : Ends} {f : Flow} {s' : Shared} (h : SP (X.wish E) pins D f s') : SP X pins D f s' := by
 cases f with
 | next => obtain ⟨σ', H', I, q⟩ := h; exact ⟨σ', H', I.unwish, q⟩
 | brk => obtain ⟨σ', H', I, q⟩ := h; exact ⟨σ', H', I.unwish, q⟩
 | cont => obtain ⟨σ', H', I, q⟩ := h; exact ⟨σ', H', I.unwish, q⟩
 | ret u => obtain ⟨v, σ', H', I, r, q⟩ := h; exact ⟨v, σ', H', I.unwish, r, q⟩
theorem PSs.nox {st : List Stmt} {t : TS} (h : PSs X.nox st t) : PSs X st t := fun pins s σ H D I hw =>
 wpAny_mono (h pins s σ H D (I.wish _) hw) (fun _ _ q => q.unwish) fun _ _ z => False.elim z
end
section
variable {X : Cx} {st : Stmt} {rest : List Stmt} {t u : TS} {e : Expr} {te : TE} {pos : Pos}
def tNext : TS := fun D σ H => D.nx σ H
def tSeq (t u : TS) : TS := fun D σ H => t { D with nx := u D } σ H
theorem pss_nil : PSs X [] tNext := fun _ _ σ H _ I h => wpAny_execs_nil ⟨σ, H, I, h⟩
theorem pss_cons (h1 : PS X st t) (h2 : PSs X rest u) : PSs X (st :: rest) (tSeq t u) := by
 intro pins s σ H D I h
 refine wpAny_execs_cons (thn (h1 pins s σ H { D with nx := u D } I h) fun f s1 q => ?_)
 cases f with
 | next =>
  obtain ⟨σ', H', I', q⟩ := q
  exact h2 pins s1 σ' H' D I' q
 | ret v => exact q
 | brk => exact q
 | cont => exact q
theorem pss_one (h1 : PS X st t) : PSs X [st] t := by
 intro pins s σ H D I h
 refine wpAny_execs_cons (thn (h1 pins s σ H D I h) fun f s1 q => ?_)
 cases f with
 | next => exact wpAny_execs_nil q
 | ret v => exact q
 | brk => exact q
 | cont => exact q
theorem Inv.quiet {pins : List (Addr × Obj)} {σ : St} {H : Hp} {s : Shared} (I : Inv X pins σ H s) : interactive X.env = false := by simp [interactive, I.ok.kind]
def tDrop (te : TE) : TS := fun D σ H => te σ H fun _ H1 => D.nx σ H1
theorem ps_expr (he : PE X e te) (hs : swapsWith e none pos.line X.env = pure false := by rfl) : PS X (.Expr e pos) (tDrop te) := by
 intro pins s σ H D I h
 exact wpAny_Expr_any (thn (he pins s σ H _ I h) fun v s1 ⟨x, H1, I1, r1, q1⟩ => ⟨σ, H1, I1, q1⟩) I.quiet hs
def tRet (te : TE) : TS := fun D σ H => te σ H D.rt
theorem ps_ret (he : PE X e te) : PS X (.Return (some e) pos) (tRet te) := by
 intro pins s σ H D I h
 exact wpAny_Return_some (thn (he pins s σ H _ I h) fun v s1 ⟨x, H1, I1, r1, q1⟩ => ⟨x, σ, H1, I1, r1, q1⟩)
def tIfS (c : TT) (t u : TS) : TS := fun D σ H => c σ H fun b H1 => if b = true then t D σ H1 else u D σ H1
theorem ps_if {c : Expr} {a b : List Stmt} {tc : TT} (hc : PT X c tc) (ha : PSs X a t) (hb : PSs X b u) : PS X (.If c a b pos) (tIfS tc t u) := by
 intro pins s σ H D I h
 refine wpAny_If (thn (hc pins s σ H _ I h) fun d s1 hh => ?_)
 obtain ⟨H1, I1, q1⟩ := hh
 cases d with
 | true => exact ha pins s1 σ H1 D I1 q1
 | false => exact hb pins s1 σ H1 D I1 q1
end
noncomputable abbrev TG := V -> St -> Hp -> (St -> Hp -> Prop) -> Prop
noncomputable abbrev TGs := List V -> St -> Hp -> (St -> Hp -> Prop) -> Prop
def PG (X : Cx) (target : Expr) (t : TG) : Prop :=
 ∀ (pins : List (Addr × Obj)) (s : Shared) (σ : St) (H : Hp) (v : V) (u : Value) (Q : St -> Hp -> Prop), Inv X pins σ H s -> RelV v u -> t v σ H Q ->
  wpAny (model X.prog X.w) X.A (assign target X.env u) (fun _ s' => ∃ σ' H', Inv X pins σ' H' s' /\ Q σ' H') X.xe s
def PGs (X : Cx) (ts : List Expr) (t : TGs) : Prop :=
 ∀ (pins : List (Addr × Obj)) (s : Shared) (σ : St) (H : Hp) (vs : List V) (us : List Value) (Q : St -> Hp -> Prop), Inv X pins σ H s -> Vals vs us -> t vs σ H Q ->
  wpAny (model X.prog X.w) X.A (assignInOrder ((assignEach ts X.env).map (·.2)) us) (fun _ s' => ∃ σ' H', Inv X pins σ' H' s' /\ Q σ' H') X.xe s
noncomputable abbrev TSet := V -> V -> V -> Hp -> (Hp -> Prop) -> Prop
def PSet (X : Cx) (t : TSet) : Prop :=
 ∀ (pins : List (Addr × Obj)) (s : Shared) (σ : St) (H : Hp) (o i v : V) (ov iv u : Value) (Q : Hp -> Prop), Inv X pins σ H s -> RelV o ov -> RelV i iv -> RelV v u -> t o i v H Q ->
  wpAny (model X.prog X.w) X.A (setItem ov iv u) (fun _ s' => ∃ H', Inv X pins σ H' s' /\ Q H') X.xe s
section
variable {X : Cx} {pos : Pos}
def gName (i : Nat) : TG := fun v σ H Q => Q (σ.set i (some v)) H
theorem pg_name {i : Nat} {x : Str} (hN : X.N.Nodup) (hi : X.N[i]? = some x) (hx : Loc X.env.scope x) (hf : X.fn x = true \/ X.env.scope.names.lookup x = some .local := by first | exact .inl rfl | exact .inr rfl | assumption) : PG X (.Name x pos) (gName i) := by
 intro pins s σ H v u Q I r h
 exact wpAny_assign_Name (store_ok I hN hi hx r (fun s' I' => ⟨_, H, I', h⟩) hf)
def gNil : TGs := fun vs σ H Q => vs = [] /\ Q σ H
def gCons (t : TG) (u : TGs) : TGs := fun vs σ H Q => ∃ v r, vs = v :: r /\ t v σ H fun σ' H' => u r σ' H' Q
theorem pgs_nil : PGs X [] gNil := by
 intro pins s σ H vs us Q I r h
 obtain ⟨e, h⟩ := h
 subst e
 cases r
 exact assignInOrder_nil ⟨σ, H, I, h⟩
theorem pgs_cons {e : Expr} {es : List Expr} {t : TG} {u : TGs} (h1 : PG X e t) (h2 : PGs X es u)
  (hs : (assignEach (e :: es) X.env).map (·.2) = assign e X.env :: (assignEach es X.env).map (·.2) := by rfl) : PGs X (e :: es) (gCons t u) := by
 intro pins s σ H vs us Q I r h
 obtain ⟨v, vr, e1, h⟩ := h
 subst e1
 cases r with
 | cons r rr =>
  rw [hs]
  refine assignInOrder_cons (thn (h1 pins s σ H _ _ _ I r h) fun _ s1 hh => ?_)
  obtain ⟨σ1, H1, I1, q1⟩ := hh
  exact h2 pins s1 σ1 H1 _ _ Q I1 rr q1
def gTup (K : PySem.W.Frag) (n : Nat) (t : TGs) : TG := fun v σ H Q => ∃ a xs, v = .ref a /\ SqT K H a xs /\ xs.length = n /\ t xs σ H Q
theorem pg_tup {es : List Expr} {k : Nat} {t : TGs} {n : Nat} (hc : X.calm = true) (h : PGs X es t)
  (hn : (assignEach es X.env).length = n := by rfl) (hst : (assignEach es X.env).findIdx? (·.1) = none := by rfl) : PG X (.Tuple es k pos) (gTup X.K n t) := by
 intro pins s σ H v u Q I r hw
 obtain ⟨a, xs, e1, hq, hl, hw⟩ := hw
 subst e1
 cases r
 obtain ⟨its, rv, ht, hz⟩ := I.tuple hq
 refine assign_Tuple_tuple (I.ok.hd hc) ht (by simp [hn, ← hl, rv.length]) hst fun h' hx => ?_
 have I1 : Inv X pins σ H { s with heap := h' } := I.kept (t' := s.toks) fun b o e => hx b o (Nat.ne_of_lt (Heap.lt_size e)) e
 exact h pins _ σ H xs _ Q I1 (by simpa using rv) hw
def gSub (to ti : TE) (t : TSet) : TG := fun v σ H Q => to σ H fun o H1 => ti σ H1 fun i H2 => t o i v H2 fun H3 => Q σ H3
theorem pg_sub {o i : Expr} {to ti : TE} {t : TSet} (ho : PE X o to) (hi : PE X i ti) (hs : PSet X t)
  (ha : ∀ v, assign (.Subscript o i pos) X.env v = (do
   let ov ← holding [v] (eval o X.env)
   let iv ← holding [v, ov] (eval i X.env)
   standAt pos
   holding [v, ov, iv] (setItem ov iv v)
   release [v, ov, iv] []) := by intro _; rfl) : PG X (.Subscript o i pos) (gSub to ti t) := by
 intro pins s σ H v u Q I r h
 rw [ha]
 refine wpAny_bind (wpAny_holding (thn (ho pins s σ H _ I h) fun ov s1 hh => ?_))
 obtain ⟨x, H1, I1, r1, q1⟩ := hh
 refine wpAny_bind (wpAny_holding (thn (hi pins s1 σ H1 _ I1 q1) fun iv s2 hh => ?_))
 obtain ⟨y, H2, I2, r2, q2⟩ := hh
 refine wpAny_bind (wpAny_standAt (wpAny_bind (wpAny_holding (thn (hs pins s2 σ H2 x y v ov iv u _ I2 r1 r2 r q2) fun _ s3 hh => ?_))))
 obtain ⟨H3, I3, q3⟩ := hh
 exact wpAny_release ⟨σ, H3, I3, q3⟩
def tAsg (te : TE) (g : TG) : TS := fun D σ H => te σ H fun x H1 => g x σ H1 D.nx
theorem ps_asg {tg e : Expr} {te : TE} {g : TG} (he : PE X e te) (hg : PG X tg g) (hs : swapsWithSole [tg] e pos.line X.env = pure false := by rfl) (hw : swappedStores [tg] e X.env = pure none := by rfl)
  (h1 : (assignEach [tg] X.env).map (·.2) = [assign tg X.env] := by rfl) : PS X (.Assign [tg] e pos) (tAsg te g) := by
 intro pins s σ H D I h
 refine wpAny_Assign_stores (thn (he pins s σ H _ I h) fun v s1 hh => ?_) hs hw
 obtain ⟨x, H1, I1, r1, q1⟩ := hh
 rw [h1]
 exact thn (hg pins s1 σ H1 x v _ I1 r1 q1) fun _ s2 q => q
theorem ps_set {i : Nat} {x : Str} {e : Expr} {te : TE} {pos' : Pos} (hN : X.N.Nodup) (hi : X.N[i]? = some x) (hx : Loc X.env.scope x) (he : PE X e te) (hs : swapsWith e (some (.Name x pos')) pos.line X.env = pure false := by rfl) (hf : X.fn x = true \/ X.env.scope.names.lookup x = some .local := by first | exact .inl rfl | exact .inr rfl | assumption) :
  PS X (.Assign [.Name x pos'] e pos) (tAsg te (gName i)) := by
 intro pins s σ H D I h
 refine wpAny_Assign_Name (thn (he pins s σ H _ I h) fun v s1 hh => ?_) hs
 obtain ⟨y, H1, I1, r1, q1⟩ := hh
 exact store_ok I1 hN hi hx r1 (fun s2 I2 => ⟨_, H1, I2, q1⟩) hf
end
section
variable {X : Cx} {pos : Pos}
end
structure It where
 go : Nat -> Hp -> Prop
 yld : Nat -> Hp -> V -> Hp -> Prop
 stop : Nat -> Hp -> Prop
def FpOk (X : Cx) (pins : List (Addr × Obj)) (H : Hp) (b : Addr) : Prop :=
 H b = none /\ b ≠ X.env.locals /\ b ∉ X.fs /\ (b ∈ X.ex \/ X.s₀.heap.objs.size <= b) /\ (∀ x c, X.env.cells.lookup x = some c -> c ≠ b) /\ ∀ p ∈ X.pn ++ pins, p.1 ≠ b
theorem Inv.fpOk {X : Cx} {pins : List (Addr × Obj)} {σ : St} {H H' : Hp} {s : Shared} {b : Addr} (I : Inv X pins σ H s) (hb : s.heap.objs.size <= b) (hn : H' b = none) : FpOk X pins H' b := by
 refine ⟨hn, Nat.ne_of_gt (Nat.lt_of_lt_of_le I.lt hb), I.nofs hb, .inr (Nat.le_trans I.sz hb), fun x c e z => ?_, fun p hp z => ?_⟩
 ·obtain ⟨v, q⟩ := I.cell x c e
  exact absurd (Nat.lt_of_lt_of_le q.lt (by rw [z]; exact hb)) (Nat.lt_irrefl _)
 ·exact absurd (Nat.lt_of_lt_of_le (Heap.lt_size (I.pin p hp).1) (by rw [z]; exact hb)) (Nat.lt_irrefl _)
structure Turn (P : Program) (w : World) (K : PySem.W.Frag) (tg : Expr) (J : It) (fp : List Addr) (it : Addr) (tn : Nat -> Heap -> Prop) : Prop where
 mem : it ∈ fp
 obj : ∀ i h, tn i h -> ∀ b ∈ fp, ∃ o, h.get? b = some o /\ ∀ v, o.data ≠ .cell v
 keep : ∀ i h h', tn i h -> (∀ b ∈ fp, ∀ o, h.get? b = some o -> h'.get? b = some o) -> tn i h'
 item : ∀ (X : Cx), X.prog = P -> X.w = w -> X.K = K -> X.calm = true -> ∀ (i : Nat) (pins : List (Addr × Obj)) (s : Shared) (σ : St) (H : Hp) (E : Value -> Shared -> Prop), Inv X pins σ H s -> (∀ b ∈ fp, FpOk X pins H b) -> tn i s.heap -> J.go i H ->
  wpAny (model P w) X.A (pyNext (.ref it)) (fun r s1 => ∃ u, r = some u /\
   wpAny (model P w) X.A (letOwnedTupleGo tg (.ref it) u) (fun _ s2 => ∃ x H', Inv X pins σ H' s2 /\ RelV x u /\ J.yld i H x H' /\ tn (i + 1) s2.heap /\ ∀ b ∈ fp, H' b = none) E s1) E s
 done : ∀ (X : Cx), X.prog = P -> X.w = w -> X.K = K -> X.calm = true -> ∀ (i : Nat) (pins : List (Addr × Obj)) (s : Shared) (σ : St) (H : Hp) (E : Value -> Shared -> Prop), Inv X pins σ H s -> (∀ b ∈ fp, FpOk X pins H b) -> tn i s.heap -> J.stop i H ->
  wpAny (model P w) X.A (pyNext (.ref it)) (fun r s1 => r = none /\ Inv X pins σ H s1) E s
 self : ∀ (A : Around) (i : Nat) (s : Shared) (Q : Value -> Shared -> Prop) (E : Value -> Shared -> Prop), tn i s.heap -> Q (.ref it) s -> wpAny (model P w) A (pyIter (.ref it)) Q E s
noncomputable abbrev TI := St -> Hp -> (It -> Hp -> Prop) -> Prop
def PIE (X : Cx) (pins : List (Addr × Obj)) (σ : St) (tg : Expr) (R : It -> Hp -> Prop) (itv : Value) (s2 : Shared) : Prop :=
 ∃ (it : Addr) (fp : List Addr) (tn : Nat -> Heap -> Prop) (J : It) (H' : Hp), itv = .ref it /\ Inv X pins σ H' s2 /\ Turn X.prog X.w X.K tg J fp it tn /\ tn 0 s2.heap /\ (∀ b ∈ fp, FpOk X pins H' b) /\ R J H'
def PI (X : Cx) (tg iter : Expr) (wi : TI) : Prop :=
 ∀ (pins : List (Addr × Obj)) (s : Shared) (σ : St) (H : Hp) (R : It -> Hp -> Prop), Inv X pins σ H s -> wi σ H R ->
  wpAny (model X.prog X.w) X.A (eval iter X.env) (fun v s1 => wpAny (model X.prog X.w) X.A (pyIter v) (PIE X pins σ tg R) X.xe s1) X.xe s
theorem go_of {M : Model} {A : Around} {E : Value -> Shared -> Prop} {s : Shared} {tg : Expr} {it : Addr} {u : Value} {o : Obj} {n : String} {vs : Array Value} {Q : Unit -> Shared -> Prop} (ho : s.heap.get? it = some o) (hc : o.cls = .type n) (hd : o.data = .fields vs)
    (hn : ["enumerate", "zip", "dict_itemiterator", "dict_reverseitemiterator", "odict_iterator", "itertools.zip_longest", "itertools.pairwise"].contains n = false) (hQ : Q () s) : wpAny M A (letOwnedTupleGo tg (.ref it) u) Q E s := by
  unfold letOwnedTupleGo
  cases tg <;> first
    | exact wpAny_pure hQ
    | (cases u <;> first
        | exact wpAny_pure hQ
        | (refine wpAny_bind (wpAny_load ho ?_)
           rw [hc, hd]
           show wpAny M A (if (["enumerate", "zip", "dict_itemiterator", "dict_reverseitemiterator", "odict_iterator", "itertools.zip_longest", "itertools.pairwise"].contains n && vs[0]? == some (rawInt _)) = true then _ else _) Q E s
           rw [if_neg (by intro h; rw [hn, Bool.false_and] at h; cases h)]
           exact wpAny_pure hQ))
noncomputable def Itl (K : PySem.W.Frag) (a : Addr) : It :=
 ⟨fun i H => ∃ xs x, SqL K H a xs /\ xs[i]? = some x, fun i H x H' => H' = H /\ ∀ xs, SqL K H a xs -> xs[i]? = some x, fun i H => ∃ xs, SqL K H a xs /\ xs.length <= i⟩
noncomputable def Itt (K : PySem.W.Frag) (a : Addr) : It :=
 ⟨fun i H => ∃ xs x, SqT K H a xs /\ xs[i]? = some x, fun i H x H' => H' = H /\ ∀ xs, SqT K H a xs -> xs[i]? = some x, fun i H => ∃ xs, SqT K H a xs /\ xs.length <= i⟩
noncomputable def Itr (lo : Int) (n : Nat) : It := ⟨fun i _ => i < n, fun i H x H' => H' = H /\ x = .int (lo + i), fun i _ => n <= i⟩
theorem turn_list {P : Program} {w : World} {K : PySem.W.Frag} {tg : Expr} (a it : Addr) : Turn P w K tg (Itl K a) [it] it (fun i h => h.IsListIter it a i) where
 mem := by simp
 obj := fun i h st b hb => by
  have e : b = it := by simpa using hb
  subst e
  obtain ⟨o, e, c, d⟩ := st
  exact ⟨o, e, fun v z => by rw [d] at z; cases z⟩
 keep := fun i h h' st k => st.at fun o e => k it (by simp) o e
 item := by
  intro X hP hw hK hc i pins s σ H E I hf st hg
  subst hP hw hK
  obtain ⟨xs, x, hq, hx⟩ := hg
  obtain ⟨its, rv, p, hz⟩ := I.list hq
  obtain ⟨u, hu, ru⟩ := rv.get hx
  obtain ⟨f0, f1, f2, f3, f4, f5⟩ := hf it (by simp)
  refine wpAny_pyNext_list_item st p.isList (x := u) (by simpa using hu) fun h' st' sb => ?_
  have I1 : Inv X pins σ H { s with heap := h' } := I.turned (t' := s.toks) (fun b o hb e => (sb.2 b hb).trans e) f0 f1 f3 f4 f5
  obtain ⟨o, e, c, d⟩ := id st'
  exact ⟨u, rfl, go_of (s := { s with heap := h' }) e c d (by decide) ⟨x, H, I1, ru, ⟨rfl, fun ys hy => by rw [I.list_inj hy hq]; exact hx⟩, st', fun b hb => (hf b hb).1⟩⟩
 done := by
  intro X hP hw hK hc i pins s σ H E I hf st hg
  subst hP hw hK
  obtain ⟨xs, hq, hx⟩ := hg
  obtain ⟨its, rv, p, hz⟩ := I.list hq
  obtain ⟨f0, f1, f2, f3, f4, f5⟩ := hf it (by simp)
  have hl := rv.length
  exact wpAny_pyNext_list_end (I.ok.hd hc) st p.isList (by simp; omega) fun h' eb => ⟨rfl, I.turned (t' := s.toks) (fun b o hb e => eb b o hb e) f0 f1 f3 f4 f5⟩
 self := fun _ _ _ _ _ st h => wpAny_pyIter_listiter st h
theorem turn_tuple {P : Program} {w : World} {K : PySem.W.Frag} {tg : Expr} (a it : Addr) : Turn P w K tg (Itt K a) [it] it (fun i h => h.IsTupleIter it a i) where
 mem := by simp
 obj := fun i h st b hb => by
  have e : b = it := by simpa using hb
  subst e
  obtain ⟨o, e, c, d⟩ := st
  exact ⟨o, e, fun v z => by rw [d] at z; cases z⟩
 keep := fun i h h' st k => st.at fun o e => k it (by simp) o e
 item := by
  intro X hP hw hK hc i pins s σ H E I hf st hg
  subst hP hw hK
  obtain ⟨xs, x, hq, hx⟩ := hg
  obtain ⟨its, rv, p, hz⟩ := I.tuple hq
  obtain ⟨u, hu, ru⟩ := rv.get hx
  obtain ⟨f0, f1, f2, f3, f4, f5⟩ := hf it (by simp)
  refine wpAny_pyNext_tuple_item st (show s.heap.IsTuple a its.toArray from p) (x := u) (by simpa using hu) fun h' st' sb => ?_
  have I1 : Inv X pins σ H { s with heap := h' } := I.turned (t' := s.toks) (fun b o hb e => (sb.2 b hb).trans e) f0 f1 f3 f4 f5
  obtain ⟨o, e, c, d⟩ := id st'
  exact ⟨u, rfl, go_of (s := { s with heap := h' }) e c d (by decide) ⟨x, H, I1, ru, ⟨rfl, fun ys hy => by rw [I.tuple_inj hy hq]; exact hx⟩, st', fun b hb => (hf b hb).1⟩⟩
 done := by
  intro X hP hw hK hc i pins s σ H E I hf st hg
  subst hP hw hK
  obtain ⟨xs, hq, hx⟩ := hg
  obtain ⟨its, rv, p, hz⟩ := I.tuple hq
  obtain ⟨f0, f1, f2, f3, f4, f5⟩ := hf it (by simp)
  have hl := rv.length
  exact wpAny_pyNext_tuple_end (I.ok.hd hc) st (show s.heap.IsTuple a its.toArray from p) (by simp; omega) fun h' eb => ⟨rfl, I.turned (t' := s.toks) (fun b o hb e => eb b o hb e) f0 f1 f3 f4 f5⟩
 self := fun _ _ _ _ _ st h => wpAny_pyIter_tupleiter st h
theorem turn_range {P : Program} {w : World} {K : PySem.W.Frag} {tg : Expr} (it : Addr) (lo : Int) (n : Nat) : Turn P w K tg (Itr lo n) [it] it (fun i h => IsRangeIter h it (lo + (i : Nat) * 1) ((n : Int) - (i : Nat)) 1) where
 mem := by simp
 obj := fun i h st b hb => by
  have e : b = it := by simpa using hb
  subst e
  exact ⟨_, st, fun v z => by
   have z' : Data.fields _ = Data.cell v := z
   cases z'⟩
 keep := fun i h h' st k => k it (by simp) _ st
 item := by
  intro X hP hw hK hc i pins s σ H E I hf st hg
  subst hP hw hK
  obtain ⟨f0, f1, f2, f3, f4, f5⟩ := hf it (by simp)
  have W := Walks.range (prog := X.prog) (w := X.w) (I.ok.hd hc) it lo 1 n
  refine W.item i s _ _ hg st fun v h' tk hv st' kk => ?_
  obtain ⟨t, rfl⟩ := hv
  have I1 : Inv X pins σ H { s with heap := h', toks := tk } := I.turned (fun b o hb e => kk b o (by simpa using hb) e) f0 f1 f3 f4 f5
  refine ⟨_, rfl, go_of (s := { s with heap := h', toks := tk }) (n := "range_iterator") st' rfl rfl (by decide) ⟨.int (lo + i), H, I1, ⟨t, ?_⟩, ⟨rfl, rfl⟩, st', fun b hb => (hf b hb).1⟩⟩
  rw [Int.mul_one]
 done := by
  intro X hP hw hK hc i pins s σ H E I hf st hg
  subst hP hw hK
  obtain ⟨f0, f1, f2, f3, f4, f5⟩ := hf it (by simp)
  exact wpAny_pyNext_range_end (I.ok.hd hc) st (by have : n <= i := hg; omega) fun h' eb => ⟨rfl, I.turned (t' := s.toks) (fun b o hb e => eb b o hb e) f0 f1 f3 f4 f5⟩
 self := fun _ _ _ _ _ st h => wpAny_pyIter_rangeiter st h
end L2
namespace L2
open PySem PySem.Spec PyProof.Rows
section
variable {X : Cx} {tg : Expr}
theorem range_it {pins : List (Addr × Obj)} {σ : St} {H : Hp} {s : Shared} {R : It -> Hp -> Prop} {E : Value -> Shared -> Prop} {lo hi : Int} {t u v : Tok} {tk : Nat} (I : Inv X pins σ H s) (h1 : -(2 ^ 62) <= lo) (h2 : lo < 2 ^ 62) (h3 : -(2 ^ 62) <= hi) (h4 : hi < 2 ^ 62)
  (q : R (Itr lo (hi - lo).toNat) H) : wpAny (model X.prog X.w) X.A (pyIter (.ref s.heap.objs.size)) (PIE X pins σ tg R) E { s with heap := s.heap.push { cls := .type "range", data := .fields #[.int lo t, .int hi u, .int 1 v] }, toks := tk } := by
 refine wpAny_pyIter_range (IsRange.new ..) (small_one h1 h2 h3 h4) ?_
 have I1 : Inv X pins σ H { s with heap := s.heap.push { cls := .type "range", data := .fields #[.int lo t, .int hi u, .int 1 v] }, toks := tk } := I.kept fun b o e => Heap.get?_push_of_some _ e
 refine ⟨(s.heap.push { cls := .type "range", data := .fields #[.int lo t, .int hi u, .int 1 v] }).objs.size, [(s.heap.push { cls := .type "range", data := .fields #[.int lo t, .int hi u, .int 1 v] }).objs.size], _, _, H, rfl,
  I1.kept (t' := tk) fun b o e => Heap.get?_push_of_some _ e, turn_range _ lo (hi - lo).toNat, ?_, fun b hb => ?_, q⟩
 ·have e1 : lo + ((0 : Nat) : Int) * 1 = lo := by simp
  have e2 : (((hi - lo).toNat : Nat) : Int) - ((0 : Nat) : Int) = Builtin.Range.rangeSize lo hi 1 := by rw [rangeSize_one]; split <;> omega
  show IsRangeIter _ _ (lo + ((0 : Nat) : Int) * 1) ((((hi - lo).toNat : Nat) : Int) - ((0 : Nat) : Int)) 1
  rw [e1, e2]
  exact Heap.get?_push_size _ rfl
 ·have e : b = (s.heap.push { cls := .type "range", data := .fields #[.int lo t, .int hi u, .int 1 v] }).objs.size := by simpa using hb
  subst e
  exact I1.fpOk (Nat.le_refl _) (I1.hok.fresh (Nat.le_refl _))
def iRng1 (ta : TA) : TI := fun σ H R => ta σ H fun vs H1 => ∃ j : Int, vs = [.int j] /\ -(2 ^ 62) <= j /\ j < 2 ^ 62 /\ R (Itr 0 j.toNat) H1
theorem pi_range1 {a : Expr} {ta : TA} {p pos : Pos} (hg : Gl X "range") (hm : X.mg "range" = none) (ha : PA X [a] ta) (hs : starEach [a] X.env = [(false, eval a X.env)] := by rfl) : PI X tg (.Call (.Name "range" p) [a] [] pos) (iRng1 ta) := by
 intro pins s σ H R I h
 refine Call_ (ld_blt I hg hm boot_range (PyProof.Rows.callWith_type1 (thn (ha pos pins s σ H _ I h) fun us s1 hh => ?_) hs rfl))
 obtain ⟨vs, H1, I1, r1, q1⟩ := hh
 obtain ⟨j, e, q1, q2, q⟩ := q1
 subst e
 cases r1 with
 | cons r rr =>
  cases rr
  obtain ⟨t, rfl⟩ := r
  exact call_range_1 (range_it I1 (by omega) (by omega) q1 q2 (by simpa using q))
def tFor (wi : TI) (g : TG) (tb : TS) : TS := fun D σ H => wi σ H fun J H1 => ∃ W : Nat -> Nat -> St -> Hp -> Prop, (∃ m, W 0 m σ H1) /\ ∀ i m σ H, W i m σ H ->
 (J.stop i H /\ D.nx σ H) \/ (J.go i H /\ ∃ N : St -> Hp -> Prop, (∀ σ' H', N σ' H' -> ∃ m', m' < m /\ W (i + 1) m' σ' H') /\ ∀ x H', J.yld i H x H' -> g x σ H' fun σ2 H2 => tb { D with nx := N, ct := N, bk := D.nx } σ2 H2)
noncomputable def pinsAt (fp : List Addr) (h : Heap) : List (Addr × Obj) := fp.filterMap fun b => (h.get? b).map fun o => (b, o)
theorem mem_pinsAt {fp : List Addr} {h : Heap} {b : Addr} {o : Obj} (hb : b ∈ fp) (e : h.get? b = some o) : (b, o) ∈ pinsAt fp h := List.mem_filterMap.mpr ⟨b, hb, by rw [e]; rfl⟩
theorem of_pinsAt {fp : List Addr} {h : Heap} {p : Addr × Obj} (hp : p ∈ pinsAt fp h) : p.1 ∈ fp /\ h.get? p.1 = some p.2 := by
 obtain ⟨b, hb, e⟩ := List.mem_filterMap.mp hp
 cases q : h.get? b with
 | none => rw [q] at e; cases e
 | some o =>
  rw [q] at e
  have e' : (b, o) = p := Option.some.inj e
  subst e'
  exact ⟨hb, q⟩
theorem Inv.pinned {pins : List (Addr × Obj)} {σ : St} {H : Hp} {s : Shared} {fp : List Addr} (I : Inv X pins σ H s) (hf : ∀ b ∈ fp, FpOk X pins H b) (ho : ∀ b ∈ fp, ∃ o, s.heap.get? b = some o /\ ∀ v, o.data ≠ .cell v) : Inv X (pins ++ pinsAt fp s.heap) σ H s :=
 I.pins_of fun p hp => (List.mem_append.mp hp).elim (fun z => I.pin p (List.mem_append_right _ z)) fun z => by
  obtain ⟨hb, e⟩ := of_pinsAt z
  obtain ⟨f0, f1, f2, _⟩ := hf p.1 hb
  obtain ⟨o, e', d⟩ := ho p.1 hb
  rw [e] at e'; cases e'
  exact ⟨e, f0, f1, f2, d⟩
theorem Inv.unpinned {pins pl : List (Addr × Obj)} {σ : St} {H : Hp} {s : Shared} (I : Inv X (pins ++ pl) σ H s) : Inv X pins σ H s := I.pins_of fun p hp => I.pin p (List.mem_append_right _ (List.mem_append_left _ hp))
theorem ps_for {iter : Expr} {body : List Stmt} {wi : TI} {g : TG} {tb : TS} {pos : Pos} (hp : PassesOwn (model X.prog X.w) X.A X.env X.xe) (hc : X.calm = true) (hi : PI X tg iter wi) (hg : PG X tg g) (hb : PSs X body tb)
  (hs : ∀ x, foldedSetIterable iter X.env x = pure x := by intro _; rfl) : PS X (.For tg iter body [] pos) (tFor wi g tb) := by
 intro pins s σ H D I h
 refine wpAny_For (thn (hi pins s σ H _ I h) fun v s1 h1 => thn h1 fun itv s2 h2 => ?_) hs
 obtain ⟨it, fp, tn, J, H2, e, I2, T, st2, f2, W, ⟨m0, w0⟩, turn⟩ := h2
 subst e
 have stat : ∀ {H' : Hp}, (∀ b ∈ fp, H' b = none) -> ∀ b ∈ fp, FpOk X pins H' b := fun hn b hb => ⟨hn b hb, (f2 b hb).2⟩
 refine codeAny_forLoop_any (fun n s' => ∃ i σ' H', Inv X pins σ' H' s' /\ tn i s'.heap /\ (∀ b ∈ fp, H' b = none) /\ W i n σ' H') ?_ m0 ⟨0, σ, H2, I2, st2, fun b hb => (f2 b hb).1, w0⟩
 rintro n s3 ⟨i, σ3, H3, I3, st3, fr3, w3⟩
 rcases turn i n σ3 H3 w3 with ⟨stop, qn⟩ | ⟨go, N, hN, step⟩
 ·refine wpAny_passesOwn hp (thn (T.done X rfl rfl rfl hc i pins s3 σ3 H3 X.xe I3 (stat fr3) st3 stop) fun r s4 hh => ?_)
  obtain ⟨hr, I4⟩ := hh
  subst hr
  exact wpAny_execs_nil ⟨σ3, H3, I4, qn⟩
 ·refine wpAny_passesOwn hp (thn (T.item X rfl rfl rfl hc i pins s3 σ3 H3 X.xe I3 (stat fr3) st3 go) fun r s4 hh => ?_)
  obtain ⟨u, hr, h4⟩ := hh
  subst hr
  refine wpAny_passesOwn hp (thn h4 fun _ s5 hh => ?_)
  obtain ⟨x, H5, I5, r5, y5, st5, fr5⟩ := hh
  have I5' := I5.pinned (stat fr5) (T.obj _ _ st5)
  refine wpAny_passesOwn hp (thn (hg _ s5 σ3 H5 x u _ I5' r5 (step x H5 y5)) fun _ s6 hh => ?_)
  obtain ⟨σ6, H6, I6, q6⟩ := hh
  refine wpAny_passesOwn hp (thn (hb _ s6 σ6 H6 _ I6 q6) fun f s7 q7 => ?_)
  have again : ∀ {σ7 : St} {H7 : Hp}, Inv X (pins ++ pinsAt fp s5.heap) σ7 H7 s7 -> N σ7 H7 -> ∃ m, m < n /\ ∃ i σ' H', Inv X pins σ' H' s7 /\ tn i s7.heap /\ (∀ b ∈ fp, H' b = none) /\ W i m σ' H' := fun {σ7 H7} I7 n7 => by
   obtain ⟨m', hm, w7⟩ := hN σ7 H7 n7
   refine ⟨m', hm, i + 1, σ7, H7, I7.unpinned, T.keep _ _ _ st5 fun b hb o e => (I7.pin (b, o) (List.mem_append_right _ (List.mem_append_right _ (mem_pinsAt hb e)))).1, fun b hb => ?_, w7⟩
   obtain ⟨o, e, d⟩ := T.obj _ _ st5 b hb
   exact (I7.pin (b, o) (List.mem_append_right _ (List.mem_append_right _ (mem_pinsAt hb e)))).2.1
  cases f with
  | next => obtain ⟨σ7, H7, I7, n7⟩ := q7; exact again I7 n7
  | cont => obtain ⟨σ7, H7, I7, n7⟩ := q7; exact again I7 n7
  | brk => obtain ⟨σ7, H7, I7, q7⟩ := q7; exact ⟨σ7, H7, I7.unpinned, q7⟩
  | ret v => obtain ⟨x7, σ7, H7, I7, r7, q7⟩ := q7; exact ⟨x7, σ7, H7, I7.unpinned, r7, q7⟩
end
end L2
namespace L2
open PySem PySem.Spec PyProof.Rows
noncomputable abbrev R2 := V -> V -> Hp -> VK -> Prop
def OpR (X : Cx) (f : Value -> Value -> Sem Value) (r : R2) : Prop :=
 ∀ (pins : List (Addr × Obj)) (s : Shared) (σ : St) (H : Hp) (x y : V) (v u : Value) (Q : VK), Inv X pins σ H s -> RelV x v -> RelV y u -> r x y H Q ->
  wpAny (model X.prog X.w) X.A (f v u) (EP X pins σ Q) X.xe s
def UnR (X : Cx) (f : Value -> Sem Value) (r : V -> Hp -> VK -> Prop) : Prop :=
 ∀ (pins : List (Addr × Obj)) (s : Shared) (σ : St) (H : Hp) (x : V) (v : Value) (Q : VK), Inv X pins σ H s -> RelV x v -> r x H Q ->
  wpAny (model X.prog X.w) X.A (f v) (EP X pins σ Q) X.xe s
def CallR (X : Cx) (f : Value) (r : List V -> Hp -> VK -> Prop) : Prop :=
 ∀ (pins : List (Addr × Obj)) (s : Shared) (σ : St) (H : Hp) (xs : List V) (us : List Value) (Q : VK), Inv X pins σ H s -> Vals xs us -> r xs H Q ->
  wpAny (model X.prog X.w) X.A (call f us) (EP X pins σ Q) X.xe s
def TruR (X : Cx) (r : V -> Hp -> (Bool -> Hp -> Prop) -> Prop) : Prop :=
 ∀ (pins : List (Addr × Obj)) (s : Shared) (σ : St) (H : Hp) (x : V) (v : Value) (Q : Bool -> Hp -> Prop), Inv X pins σ H s -> RelV x v -> r x H Q ->
  wpAny (model X.prog X.w) X.A (truthy v) (TP X pins σ Q) X.xe s
def tOp (r : R2) (ta tb : TE) : TE := fun σ H Q => ta σ H fun x H1 => tb σ H1 fun y H2 => r x y H2 Q
def tUn (r : V -> Hp -> VK -> Prop) (ta : TE) : TE := fun σ H Q => ta σ H fun x H1 => r x H1 Q
def rI (C : Int -> Int -> Prop) (g : Int -> Int -> V) : R2 := fun x y H Q => ∃ i j, x = .int i /\ y = .int j /\ C i j /\ Q (g i j) H
noncomputable def rI0 (g : Int -> Int -> V) : R2 := fun x y H Q => ∃ i j, x = .int i /\ y = .int j /\ Q (g i j) H
def rU (g : Int -> V) : V -> Hp -> VK -> Prop := fun x H Q => ∃ i, x = .int i /\ Q (g i) H
section
variable {X : Cx} {a b c : Expr} {ta tb tc : TE} {pos : Pos}
theorem binT (ha : PE X a ta) (hb : PE X b tb) {pins : List (Addr × Obj)} {s : Shared} {σ : St} {H : Hp} {R : V -> V -> Hp -> Prop} (I : Inv X pins σ H s)
  (h : ta σ H fun x H1 => tb σ H1 fun y H2 => R x y H2) {Q : Value -> Shared -> Prop} {f : Value -> Value -> Sem Value}
  (hf : ∀ v u s2 x y H2, Inv X pins σ H2 s2 -> RelV x v -> RelV y u -> R x y H2 -> wpAny (model X.prog X.w) X.A (f v u) Q X.xe s2) :
  wpAny (model X.prog X.w) X.A (eval a X.env) (fun v s₁ => wpAny (model X.prog X.w) X.A (eval b X.env) (fun u s₂ => wpAny (model X.prog X.w) X.A (f v u) Q X.xe s₂) X.xe s₁) X.xe s := by
 refine thn (ha pins s σ H _ I h) fun v s1 hh => ?_
 obtain ⟨x, H1, I1, r1, q1⟩ := hh
 refine thn (hb pins s1 σ H1 _ I1 q1) fun u s2 hh => ?_
 obtain ⟨y, H2, I2, r2, q2⟩ := hh
 exact hf v u s2 x y H2 I2 r1 r2 q2
theorem pe_op {op : Operator} {r : R2} (ho : OpR X (binaryOp op) r) (ha : PE X a ta) (hb : PE X b tb) : PE X (.BinOp a op b pos) (tOp r ta tb) := by
 intro pins s σ H Q I h
 exact wpAny_BinOp (binT ha hb I h fun v u s2 x y H2 I2 rx ry q => ho pins s2 σ H2 x y v u Q I2 rx ry q)
theorem pe_un {op : UnaryOp} {r : V -> Hp -> VK -> Prop} (ho : UnR X (unaryOp op) r) (ha : PE X a ta) : PE X (.UnaryOp op a pos) (tUn r ta) := by
 intro pins s σ H Q I h
 exact UnaryOp_ (thn (ha pins s σ H _ I h) fun v s1 ⟨x, H1, I1, r1, q1⟩ => ho pins s1 σ H1 x v Q I1 r1 q1)
theorem opI {f : Value -> Value -> Sem Value} {C : Int -> Int -> Prop} {g : Int -> Int -> Int}
  (rule : ∀ (i j : Int) (t u : Tok) (s : Shared) (Q : Value -> Shared -> Prop) (E : Value -> Shared -> Prop), C i j -> Q (.int (g i j) s.toks) { s with toks := s.toks + 1 } -> wpAny (model X.prog X.w) X.A (f (.int i t) (.int j u)) Q E s) :
  OpR X f (rI C fun i j => .int (g i j)) := by
 intro pins s σ H x y v u Q I rx ry h
 obtain ⟨i, j, rfl, rfl, hc, q⟩ := h
 obtain ⟨t, rfl⟩ := rx
 obtain ⟨t', rfl⟩ := ry
 exact rule i j t t' s _ _ hc ⟨.int (g i j), H, I.tok _, ⟨_, rfl⟩, q⟩
theorem opI0 {f : Value -> Value -> Sem Value} {g : Int -> Int -> Int}
  (rule : ∀ (i j : Int) (t u : Tok) (s : Shared) (Q : Value -> Shared -> Prop) (E : Value -> Shared -> Prop), Q (.int (g i j) s.toks) { s with toks := s.toks + 1 } -> wpAny (model X.prog X.w) X.A (f (.int i t) (.int j u)) Q E s) :
  OpR X f (rI0 fun i j => .int (g i j)) := by
 intro pins s σ H x y v u Q I rx ry h
 obtain ⟨i, j, rfl, rfl, q⟩ := h
 obtain ⟨t, rfl⟩ := rx
 obtain ⟨t', rfl⟩ := ry
 exact rule i j t t' s _ _ ⟨.int (g i j), H, I.tok _, ⟨_, rfl⟩, q⟩
theorem opB0 {f : Value -> Value -> Sem Value} {g : Int -> Int -> Bool}
  (rule : ∀ (i j : Int) (t u : Tok) (s : Shared) (Q : Value -> Shared -> Prop) (E : Value -> Shared -> Prop), Q (.bool (g i j)) s -> wpAny (model X.prog X.w) X.A (f (.int i t) (.int j u)) Q E s) :
  OpR X f (rI0 fun i j => .bl (g i j)) := by
 intro pins s σ H x y v u Q I rx ry h
 obtain ⟨i, j, rfl, rfl, q⟩ := h
 obtain ⟨t, rfl⟩ := rx
 obtain ⟨t', rfl⟩ := ry
 exact rule i j t t' s _ _ ⟨.bl (g i j), H, I, rfl, q⟩
def CDiv (i j : Int) : Prop := 0 < j /\ j < 1073741824
def CPow (i j : Int) : Prop := 0 <= j /\ j <= 1000000 /\ i.natAbs < 2 ^ 64
def CMul (i j : Int) : Prop := (-(2 ^ 64) < i /\ i < 2 ^ 64) \/ (-(2 ^ 64) < j /\ j < 2 ^ 64)
theorem CMul.ok {i j : Int} (h : CMul i j) : IntMulOk i j := by
 rcases h with ⟨h1, h2⟩ | ⟨h1, h2⟩
 ·exact .of_left (intBits_le_64 h1 h2)
 ·exact .of_right (intBits_le_64 h1 h2)
theorem op_add : OpR X (binaryOp .Add) (rI0 fun i j => .int (i + j)) := opI0 fun _ _ _ _ _ _ _ q => add_int q
theorem op_sub : OpR X (binaryOp .Sub) (rI0 fun i j => .int (i - j)) := opI0 fun _ _ _ _ _ _ _ q => sub_int q
theorem op_mul : OpR X (binaryOp .Mult) (rI CMul fun i j => .int (i * j)) := opI fun _ _ _ _ _ _ _ hc q => mul_int q hc.ok
theorem op_fdiv : OpR X (binaryOp .FloorDiv) (rI CDiv fun i j => .int (i / j)) := opI fun i j _ _ _ _ _ hc q => by
 have h1 : (0 : Int) < j := hc.1
 have h2 : j < 1073741824 := hc.2
 exact floordiv_int (by omega) (by rw [Int.fdiv_eq_ediv_of_nonneg i (by omega)]; exact q) (.inl (PyProof.noPylong_small (by omega)))
theorem op_mod : OpR X (binaryOp .Mod) (rI (fun _ j => 0 < j) fun i j => .int (i % j)) := opI fun i j _ _ _ _ _ hc q => by
 have h1 : (0 : Int) < j := hc
 exact mod_int' (by omega) (by rw [Int.fmod_eq_emod_of_nonneg i (by omega)]; exact q)
theorem op_pow : OpR X (binaryOp .Pow) (rI CPow fun i j => .int (i ^ j.toNat)) := opI fun _ _ _ _ _ _ _ hc q => pow_int_small hc.1 hc.2.1 hc.2.2 q
theorem unI {f : Value -> Sem Value} {g : Int -> Int}
  (rule : ∀ (i : Int) (t : Tok) (s : Shared) (Q : Value -> Shared -> Prop) (E : Value -> Shared -> Prop), Q (.int (g i) s.toks) { s with toks := s.toks + 1 } -> wpAny (model X.prog X.w) X.A (f (.int i t)) Q E s) :
  UnR X f (rU fun i => .int (g i)) := by
 intro pins s σ H x v Q I rx h
 obtain ⟨i, rfl, q⟩ := h
 obtain ⟨t, rfl⟩ := rx
 exact rule i t s _ _ ⟨.int (g i), H, I.tok _, ⟨_, rfl⟩, q⟩
theorem un_neg : UnR X (unaryOp .USub) (rU fun i => .int (-i)) := unI fun _ _ _ _ _ q => neg_int q
end
section
variable {X : Cx} {a b c : Expr} {ta tb tc : TE} {pos : Pos}
theorem fin_bl {pins : List (Addr × Obj)} {σ : St} {H : Hp} {s : Shared} {Q : VK} {k k' : Bool} (I : Inv X pins σ H s) (q : Q (.bl k) H) (e : k = k') : EP X pins σ Q (.bool k') s := by
 subst e
 exact ⟨.bl k, H, I, rfl, q⟩
theorem op_lt : OpR X (compareOp .Lt) (rI0 fun i j => .bl (decide (i < j))) := opB0 fun _ _ _ _ _ _ _ q => lt_int q
theorem op_le : OpR X (compareOp .LtE) (rI0 fun i j => .bl (decide (i <= j))) := opB0 fun _ _ _ _ _ _ _ q => le_int q
theorem op_gt : OpR X (compareOp .Gt) (rI0 fun i j => .bl (decide (j < i))) := opB0 fun _ _ _ _ _ _ _ q => gt_int q
theorem op_in_str : OpR X (compareOp .In) (fun x y H Q => ∃ i j, x = .str i /\ y = .str j /\ Q (.bl (!(Builtin.Str.occurrences j i 0 j.length 1).isEmpty)) H) := by
 intro pins s σ H x y v u Q I rx ry h
 obtain ⟨i, j, rfl, rfl, q⟩ := h
 obtain ⟨t, rfl⟩ := rx
 obtain ⟨t', rfl⟩ := ry
 exact in_str (fin_bl I q rfl)
theorem op_isN : OpR X (compareOp .Is) (fun x y H Q => y = .non /\ Q (.bl (decide (x = .non))) H) := by
 intro pins s σ H x y v u Q I rx ry h
 obtain ⟨rfl, q⟩ := h
 cases ry
 refine is_none_gen (fin_bl I q ?_)
 cases x <;> first
  | (cases rx; rfl)
  | (obtain ⟨t, rfl⟩ := rx; rfl)
theorem OpR.or {f : Value -> Value -> Sem Value} {r r' : R2} (h : OpR X f r) (h' : OpR X f r') : OpR X f (fun x y H Q => r x y H Q \/ r' x y H Q) := by
 intro pins s σ H x y v u Q I rx ry q
 rcases q with q | q
 ·exact h pins s σ H x y v u Q I rx ry q
 ·exact h' pins s σ H x y v u Q I rx ry q
theorem nomark (b : Expr) {op : CmpOp} (h : op ≠ .In := by decide) (h2 : op ≠ .NotIn := by decide) : behindInMarks op b = false := by
 have e1 : (op == CmpOp.In) = false := by cases op <;> first | rfl | exact absurd rfl h
 have e2 : (op == CmpOp.NotIn) = false := by cases op <;> first | rfl | exact absurd rfl h2
 cases b <;> simp [behindInMarks, e1, e2]
theorem pe_cmpR {op : CmpOp} {r : R2} (ho : OpR X (compareOp op) r) (ha : PE X a ta) (hb : PE X b tb) (hm : behindInMarks op b = false) : PE X (.Compare a [op] [b] pos) (tOp r ta tb) := by
 intro pins s σ H Q I h
 exact wpAny_Compare1 (binT ha hb I h fun v u s2 x y H2 I2 rx ry q => ho pins s2 σ H2 x y v u Q I2 rx ry q) hm
def tTest (t : TE) : TT := fun σ H Q => t σ H fun x H' => ∃ k, x = .bl k /\ Q k H'
theorem pt_cmpR {op : CmpOp} {r : R2} (ho : OpR X (compareOp op) r) (ha : PE X a ta) (hb : PE X b tb) (hm : behindInMarks op b = false) : PT X (.Compare a [op] [b] pos) (tTest (tOp r ta tb)) := by
 intro pins s σ H Q I h
 refine wpAny_isTrue_Compare1 (thn (ha pins s σ H _ I h) fun v s1 hh => ?_) hm
 obtain ⟨x, H1, I1, r1, q1⟩ := hh
 refine thn (hb pins s1 σ H1 _ I1 q1) fun u s2 hh => ?_
 obtain ⟨y, H2, I2, r2, q2⟩ := hh
 refine thn (ho pins s2 σ H2 x y v u _ I2 r1 r2 q2) fun c s3 hh => ?_
 obtain ⟨z, H3, I3, r3, k, e, q3⟩ := hh
 subst e
 cases r3
 exact wpAny_truthy_bool ⟨H3, I3, q3⟩
def tChain (r r' : R2) (ta tb tc : TE) : TE := fun σ H Q => ta σ H fun x H1 => tb σ H1 fun y H2 => r x y H2 fun z H3 => ∃ k, z = .bl k /\
 (if k = true then tc σ H3 fun w' H4 => r' y w' H4 Q else Q (.bl false) H3)
theorem pe_chain {op op' : CmpOp} {r r' : R2} (ho : OpR X (compareOp op) r) (ho' : OpR X (compareOp op') r') (ha : PE X a ta) (hb : PE X b tb) (hc : PE X c tc)
  (hm : lastMarks [op, op'] [b, c] = false := by with_unfolding_all rfl) : PE X (.Compare a [op, op'] [b, c] pos) (tChain r r' ta tb tc) := by
 intro pins s σ H Q I h
 refine Compare_chain (thn (ha pins s σ H _ I h) fun v s1 hh => ?_) hm
 obtain ⟨x, H1, I1, r1, q1⟩ := hh
 refine chain_link (thn (hb pins s1 σ H1 _ I1 q1) fun u s2 hh => ?_)
 obtain ⟨y, H2, I2, r2, q2⟩ := hh
 refine thn (ho pins s2 σ H2 x y v u _ I2 r1 r2 q2) fun d s3 hh => ?_
 obtain ⟨z, H3, I3, r3, k, e, q3⟩ := hh
 subst e
 cases r3
 refine wpAny_truthy_bool ?_
 cases k with
 | false => exact ite_ff ⟨.bl false, H3, I3, rfl, q3⟩
 | true => exact ite_tt (chain_last (thn (hc pins s3 σ H3 _ I3 q3) fun w' s4 ⟨z', H4, I4, r4, q4⟩ => ho' pins s4 σ H4 y z' u w' Q I4 r2 r4 q4))
def TruV (K : PySem.W.Frag) (x : V) (H : Hp) (k : Bool) : Prop :=
 match x with
 | .non => k = false
 | .bl b => k = b
 | .int i => k = (i != 0)
 | .str y => y.length <= sizeLine /\ k = ((y.length : Int) != 0)
 | .byt y => y.size <= sizeLine /\ k = ((y.size : Int) != 0)
 | .ref p => (∃ xs, SqL K H p xs /\ k = !xs.isEmpty) \/ (∃ xs, SqT K H p xs /\ k = !xs.isEmpty) \/ ∃ kvs, H p = some (.dK kvs) /\ k = !kvs.isEmpty
 | _ => False
theorem isEmpty_kv {κ : Type} {kvs : List (κ × V)} {vs : List (κ × Value)} (r : KV kvs vs) : (!vs.isEmpty) = !kvs.isEmpty := by
 cases r <;> rfl
theorem isEmpty_of {xs : List V} {its : List Value} (r : Vals xs its) : (!its.toArray.isEmpty) = !xs.isEmpty := by
 cases r <;> simp
theorem line63 : (sizeLine : Nat) < 2 ^ 63 := by rw [sizeLine_eq]; decide
theorem tru_ok : TruR X (fun x H Q => ∃ k, TruV X.K x H k /\ Q k H) := by
 intro pins s σ H x v Q I rx h
 obtain ⟨k, e, q⟩ := h
 have hl := line63
 have hs : sizeLine = 16777216 := sizeLine_eq
 cases x with
 | non =>
  cases rx
  have e' : k = false := e
  subst e'
  exact truthy_none ⟨H, I, q⟩
 | bl b =>
  cases rx
  have e' : k = b := e
  subst e'
  exact wpAny_truthy_bool ⟨H, I, q⟩
 | int i =>
  obtain ⟨t, rfl⟩ := rx
  have e' : k = (i != 0) := e
  subst e'
  exact PySem.P.truthy_int ⟨H, I, q⟩
 | str y =>
  obtain ⟨t, rfl⟩ := rx
  obtain ⟨hy, e'⟩ : y.length <= sizeLine /\ k = ((y.length : Int) != 0) := e
  subst e'
  exact PySem.P.truthy_str (by omega) ⟨H, I.tok _, q⟩
 | byt y =>
  obtain ⟨t, rfl⟩ := rx
  obtain ⟨hy, e'⟩ : y.size <= sizeLine /\ k = ((y.size : Int) != 0) := e
  subst e'
  exact PySem.W.truthy_bytes (by omega) ⟨H, I.tok _, q⟩
 | ref p =>
  cases rx
  have e' : (∃ xs, SqL X.K H p xs /\ k = !xs.isEmpty) \/ (∃ xs, SqT X.K H p xs /\ k = !xs.isEmpty) \/ ∃ kvs, H p = some (.dK kvs) /\ k = !kvs.isEmpty := e
  rcases e' with ⟨xs, hx, e'⟩ | ⟨xs, hx, e'⟩ | ⟨kvs, hx, e'⟩
  ·subst e'
   obtain ⟨its, r, pl, hz⟩ := I.list hx
   have hlen := r.length
   exact wpAny_truthy_list pl.isList (by simp only [List.size_toArray]; omega) ⟨H, I.tok _, by rw [isEmpty_of r]; exact q⟩
  ·subst e'
   obtain ⟨its, r, pl, hz⟩ := I.tuple hx
   have hlen := r.length
   exact truthy_tuple pl (by simp only [List.size_toArray]; omega) ⟨H, I.tok _, by rw [isEmpty_of r]; exact q⟩
  ·subst e'
   obtain ⟨hz, hS, vs, r, m⟩ : kvs.length <= sizeLine /\ (p == sysModules) = false /\ ∃ vs, KV kvs vs /\ s.heap.DictOf (mixKind X.prog X.w) p vs := I.hok p _ hx
   have hlen : kvs.length = vs.length := Paired.length r
   exact wpAny_truthy_dict hS m (by omega) ⟨H, I.tok _, by rw [isEmpty_kv r]; exact q⟩
 | _ => exact (show False from e).elim
theorem pt_truth (ha : PE X a ta) (he : ∀ whole, isTrue a X.env whole = (do let v ← whole; standAt a.pos; holding [v] (truthy v))) :
  PT X a (fun σ H Q => ta σ H fun x H' => ∃ k, TruV X.K x H' k /\ Q k H') := by
 intro pins s σ H Q I h
 exact isTrue_plain (thn (ha pins s σ H _ I h) fun v s1 ⟨x, H1, I1, r1, q1⟩ => tru_ok pins s1 σ H1 x v Q I1 r1 q1) (he _)
theorem op_add_str : OpR X (binaryOp .Add) (fun x y H Q => ∃ i j, x = .str i /\ y = .str j /\ i.length + j.length <= sizeLine /\ Q (.str (i ++ j)) H) := by
 intro pins s σ H x y v u Q I rx ry h
 obtain ⟨i, j, rfl, rfl, hz, q⟩ := h
 obtain ⟨t, rfl⟩ := rx
 obtain ⟨t', rfl⟩ := ry
 exact add_str (fun t' tk => ⟨.str (i ++ j), H, I.tok _, ⟨_, rfl⟩, q⟩) hz
def PlainIxT (b : Expr) : Prop := ∀ o i, subscripted b false o i = operate [o, i] (getItem o i)
theorem pe_item_str (ha : PE X a ta) (hb : PE X b tb) (hs : PlainIxT b) :
  PE X (.Subscript a b pos) (tOp (fun x y H Q => ∃ z i c, x = .str z /\ y = .int i /\ 0 <= i /\ i < 2 ^ 63 /\ i < z.length /\ z.cps[i.toNat]? = some c /\ Q (.str ⟨#[c]⟩) H) ta tb) := by
 intro pins s σ H Q I h
 refine Subscript_ (binT ha hb I h fun v u s2 x y H2 I2 rx ry q => ?_)
 obtain ⟨z, i, c, rfl, rfl, h0, h63, h1, hc, q⟩ := q
 obtain ⟨t, rfl⟩ := rx
 obtain ⟨t', rfl⟩ := ry
 have e : seqIndex? i z.length = some i.toNat := PySem.StrLaws.seqIndex_nonneg h0 h1
 exact tail_any (typeIs_str s2 z t) slot_str_getitem.lookup (getItem_str (c := c) (by
  have e1 : decide (i < -(2 ^ 63 : Int)) = false := decide_eq_false (by omega)
  have e2 : decide (i >= 2 ^ 63) = false := decide_eq_false (by omega)
  rw [e1, e2] <;> rfl) (by rw [e]; exact hc) ⟨.str ⟨#[c]⟩, H2, I2.tok _, ⟨_, rfl⟩, q⟩) (hs _ _)
theorem vals1 {x : V} {us : List Value} (r : Vals [x] us) : ∃ u, us = [u] /\ RelV x u := by
 cases r with
 | cons r1 r2 => cases r2; exact ⟨_, rfl, r1⟩
theorem vals2 {x y : V} {us : List Value} (r : Vals [x, y] us) : ∃ u w', us = [u, w'] /\ RelV x u /\ RelV y w' := by
 cases r with
 | cons r1 r2 =>
  cases r2 with
  | cons r3 r4 => cases r4; exact ⟨_, _, rfl, r1, r3⟩
theorem call_max2 (hc : X.calm = true) : CallR X (.builtin "max") (fun xs H Q => ∃ i j, xs = [.int i, .int j] /\ Q (.int (if j > i then j else i)) H) := by
 intro pins s σ H xs us Q I r h
 obtain ⟨i, j, rfl, q⟩ := h
 obtain ⟨u, w', rfl, ⟨t, rfl⟩, ⟨t', rfl⟩⟩ := vals2 r
 refine max_two_ints (I.ok.hd hc) fun h' tk k => ⟨_, H, I.kept k, ?_, q⟩
 by_cases hj : j > i
 ·rw [if_pos hj, if_pos hj]; exact ⟨_, rfl⟩
 ·rw [if_neg hj, if_neg hj]; exact ⟨_, rfl⟩
theorem call_min2 (hc : X.calm = true) : CallR X (.builtin "min") (fun xs H Q => ∃ i j, xs = [.int i, .int j] /\ Q (.int (if j < i then j else i)) H) := by
 intro pins s σ H xs us Q I r h
 obtain ⟨i, j, rfl, q⟩ := h
 obtain ⟨u, w', rfl, ⟨t, rfl⟩, ⟨t', rfl⟩⟩ := vals2 r
 refine min_two_ints (I.ok.hd hc) fun h' tk k => ⟨_, H, I.kept k, ?_, q⟩
 by_cases hj : j < i
 ·rw [if_pos hj, if_pos hj]; exact ⟨_, rfl⟩
 ·rw [if_neg hj, if_neg hj]; exact ⟨_, rfl⟩
theorem call_str_int : CallR X (.type "str") (fun xs H Q => ∃ i, xs = [.int i] /\ i.natAbs.log2 < 1920 /\ Q (.str (toString i)) H) := by
 intro pins s σ H xs us Q I r h
 obtain ⟨i, rfl, hz, q⟩ := h
 obtain ⟨u, rfl, t, rfl⟩ := vals1 r
 exact PySem.P.str_of_int hz ⟨.str _, H, I.tok _, ⟨_, rfl⟩, q⟩
end
end L2
namespace L2
open PySem PySem.Spec PyProof.Rows
structure ObjM (h : Heap) (x dx C : Addr) (mA : Str -> Option Value) : Prop where
 obj : h.get? x = some (PySem.W.instObj C dx)
 ns : h.Ns1 dx mA
 ne : dx ≠ x
theorem lookIn_ns {h : Heap} {dx : Addr} {mA : Str -> Option Value} (n : h.Ns1 dx mA) : ∃ od, h.get? dx = some od /\ ∀ name, PySem.W.lookIn name od = some (mA name) := by
 obtain ⟨o, es, ep, ho, hd, hk, _, hm⟩ := n
 refine ⟨o, ho, fun name => ?_⟩
 have e := hm name
 unfold nsFind findBy at e
 rw [← Array.find?_toList] at e
 unfold PySem.W.lookIn
 rw [hd]
 dsimp only
 split
 ·rename_i y q
  rw [q] at e
  exact congrArg some e
 ·rename_i q
  rw [q] at e
  have a : es.toList.any (·.refKey) = false := by
   rw [List.any_eq_false]
   intro y hy
   obtain ⟨z, t, hkey⟩ := hk y (Array.mem_toList_iff.mp hy)
   simp [DictEntry.refKey, hkey]
  have a' : ¬ es.toList.any (·.refKey) = true := by rw [a]; exact Bool.false_ne_true
  rw [if_neg a']
  exact congrArg some e
theorem ObjM.look {h : Heap} {x dx C : Addr} {mA : Str -> Option Value} (I : ObjM h x dx C mA) : ∃ od, PySem.W.InstAt h x (PySem.W.instObj C dx) C (some od) /\ ∀ name, PySem.W.lookIn name od = some (mA name) :=
 let ⟨od, ho, hl⟩ := lookIn_ns I.ns
 ⟨od, ⟨I.obj, rfl, rfl, ho⟩, hl⟩
section
variable {prog : Program} {w : World} {A : Around} {E : Value -> Shared -> Prop} {s : Shared} {K : PySem.W.Frag} {x dx C f : Addr} {mA : Str -> Option Value} {name : Str} {v : Value}
theorem get_map {expr : Bool} {Q : Value -> Shared -> Prop} (X : K.In s.heap) (I : ObjM s.heap x dx C mA) (hg : PySem.W.plainGet K C name = true) (hh : PySem.W.hasDictIn K C = true)
  (ha : PySem.W.findIn K (.ref C) name = some none) (hv : mA name = some v) (hv' : PySem.W.handedIn v = true) (h : Q v { s with toks := s.toks + 1 }) :
  wpAny (model prog w) A (getAttr (.ref x) name expr) Q E s := by
 obtain ⟨od, J, hl⟩ := I.look
 exact PySem.W.get_value X J (PySem.W.plainGet_of hg).1 (PySem.W.findObj_own hh ha rfl (by rw [hl, hv])) hv' h
theorem get_meth {pl : Sem Bool} {Q : Value × List Value -> Shared -> Prop} (X : K.In s.heap) (I : ObjM s.heap x dx C mA) (hg : PySem.W.plainGet K C name = true)
  (hf : PySem.W.findIn K (.ref C) name = some (some (.ref f))) (ht : PySem.W.isFn K (.ref f) = true) (hv : mA name = none) (h : Q (.ref f, [.ref x]) s) :
  wpAny (model prog w) A (getMethod (.ref x) name pl) Q E s := by
 obtain ⟨od, J, hl⟩ := I.look
 exact PySem.W.method_fn X J (PySem.W.plainGet_of hg).1 (PySem.W.plainGet_of hg).2 hf (beq_iff_eq.mp ht) (by show (PySem.W.lookIn name od).map (·.isSome) = some false; rw [hl, hv]; rfl) h
theorem set_map {ns : List Str} {Q : Unit -> Shared -> Prop} (X : K.In s.heap) (I : ObjM s.heap x dx C mA)
  (hs : PySem.W.findIn K (.ref C) "__setattr__" = some (some (.builtin "object.__setattr__"))) (hp : PySem.W.plainOver K C = true) (ht : PySem.W.takerIn K C name = some none) (hh : PySem.W.hasDictIn K C = true)
  (hw : PySem.Within mA ns) (hsz : ns.length <= sizeLine)
  (h : ∀ h', ObjM h' x dx C (fun y => if y = name then some v else mA y) -> Heap.SameBut dx s.heap h' -> Q () { s with heap := h', toks := s.toks + 2 }) :
  wpAny (model prog w) A (setAttr (.ref x) name v) Q E s := by
 obtain ⟨od, J, hl⟩ := I.look
 refine PySem.W.set_plain X J hs (PySem.W.osa_open (s := { s with toks := s.toks + 1 }) (r := none) X J hp ht fun b => ?_)
 obtain ⟨cd, hc, hd'⟩ := PySem.W.any_some hh
 have hx : s.heap.get? x = some ⟨.ref C, some dx, .plain, #[]⟩ := I.obj
 refine wpAny_bind (wpAny_pure (wpAny_bind (wpAny_bind (wpAny_loadPart hx (wpAny_bind (PySem.W.Looks.here (s := { s with toks := s.toks + 1 }) (PySem.W.looks_clsIn X hc) ?_))))))
 rw [hd']
 refine wpAny_pure (a := some dx) (wpAny_bind (wpAny_pure (wpAny_bind ?_)))
 refine wpAny_nsSet1 (s := { s with toks := s.toks + 1 }) I.ns fun h' hn2 hs2 => ?_
 obtain ⟨oD, esD, epD, hoD, hdD, hcD⟩ := hn2.count (PySem.Within.cons name v hw)
 refine wpAny_bind (wpAny_lookBehind hoD (by rw [hdD]; exact pastItsLine_dict (Nat.le_trans hcD (by rw [List.length_cons]; omega))) ?_)
 exact wpAny_pure (h _ ⟨(hs2.2 _ (Ne.symm I.ne)).trans I.obj, hn2, I.ne⟩ hs2)
theorem make_map {R : Result -> Shared -> Prop} {vs : List Value} {kw : List (Str × Value)} (X : K.In s.heap) (hm : PySem.W.makesIn K C = true)
  (hi : PySem.W.findIn K (.ref C) "__init__" = some (some (.ref f))) (hf : PySem.W.typeIn K (.ref f) = some (.type "function"))
  (h : codeAny (model prog w) (A.under (.builtin "type.__call__" ⟨.ref C :: vs, kw⟩)) (.call (.ref f) ⟨.ref (s.heap.objs.size + 1) :: vs, kw⟩) (PySem.W.InitBack (s.heap.objs.size + 1) R)
   { s with heap := (s.heap.push PySem.W.emptyDict).push (PySem.W.instObj C s.heap.objs.size) }) :
  codeAny (model prog w) A (.call (.ref C) ⟨vs, kw⟩) R s := by
 obtain ⟨hh, g, d, t, os⟩ := s
 exact PySem.W.make_core (PySem.W.makes_of X hm) (PySem.W.looks_findIn X hi) (fun self => PySem.W.bind_fn X self hf) (.inl rfl) h
end
noncomputable def putF (f : Str) (v : V) : List (Str × V) -> List (Str × V)
 | [] => [(f, v)]
 | (g, x) :: r => if g = f then (g, v) :: r else (g, x) :: putF f v r
theorem lookup_putF (f g : Str) (v : V) : ∀ fs : List (Str × V), (putF f v fs).lookup g = if g = f then some v else fs.lookup g
 | [] => by
  show List.lookup g [(f, v)] = _
  by_cases h : g = f
  ·have hb : (g == f) = true := beq_iff_eq.mpr h
   simp only [List.lookup, hb, if_pos h]
  ·have hb : (g == f) = false := beq_eq_false_iff_ne.mpr h
   simp only [List.lookup, hb, if_neg h]
 | (k, x) :: r => by
  have ih := lookup_putF f g v r
  rw [show putF f v ((k, x) :: r) = (if k = f then (k, v) :: r else (k, x) :: putF f v r) from rfl]
  by_cases hk : k = f
  ·rw [if_pos hk]
   by_cases h : g = k
   ·have hb : (g == k) = true := beq_iff_eq.mpr h
    simp only [List.lookup, hb, if_pos (h.trans hk)]
   ·have hb : (g == k) = false := beq_eq_false_iff_ne.mpr h
    simp only [List.lookup, hb, if_neg (fun e : g = f => h (e.trans hk.symm))]
  ·rw [if_neg hk]
   by_cases h : g = k
   ·have hb : (g == k) = true := beq_iff_eq.mpr h
    simp only [List.lookup, hb, if_neg (fun e : g = f => hk (h.symm.trans e))]
   ·have hb : (g == k) = false := beq_eq_false_iff_ne.mpr h
    simp only [List.lookup, hb]
    exact ih
theorem keys_putF (f : Str) (v : V) : ∀ fs : List (Str × V), f ∈ (putF f v fs).map (·.1) /\ ∀ g, g ∈ fs.map (·.1) -> g ∈ (putF f v fs).map (·.1)
 | [] => ⟨by simp [putF], fun g h => by simp at h⟩
 | (k, x) :: r => by
  obtain ⟨i1, i2⟩ := keys_putF f v r
  rw [show putF f v ((k, x) :: r) = (if k = f then (k, v) :: r else (k, x) :: putF f v r) from rfl]
  by_cases hk : k = f
  ·rw [if_pos hk]
   subst hk
   exact ⟨by simp, fun g h => by simpa using h⟩
  ·rw [if_neg hk]
   refine ⟨?_, fun g h => ?_⟩
   ·rw [List.map_cons]
    exact List.mem_cons_of_mem _ i1
   ·rw [List.map_cons] at h ⊢
    rcases List.mem_cons.mp h with e | e
    ·exact List.mem_cons.mpr (.inl e)
    ·exact List.mem_cons_of_mem _ (i2 g e)
theorem length_putF (f : Str) (v : V) : ∀ fs : List (Str × V), (putF f v fs).length <= fs.length + 1
 | [] => by simp [putF]
 | (k, x) :: r => by
  have ih := length_putF f v r
  rw [show putF f v ((k, x) :: r) = (if k = f then (k, v) :: r else (k, x) :: putF f v r) from rfl]
  by_cases hk : k = f
  ·rw [if_pos hk, List.length_cons, List.length_cons]; omega
  ·rw [if_neg hk, List.length_cons, List.length_cons]; omega
theorem RelO.some_of {v : V} {o : Option Value} (r : RelO (some v) o) : ∃ u, o = some u /\ RelV v u := by
 cases o with
 | none => exact (show False from r).elim
 | some u => exact ⟨u, rfl, r⟩
theorem RelO.none_of {o : Option Value} (r : RelO none o) : o = none := by
 cases o with
 | none => rfl
 | some u => exact (show False from r).elim
theorem handed_of {v : V} {u : Value} (r : RelV v u) : PySem.W.handedIn u = true := by
 cases v with
 | non => cases (show u = Value.none from r); rfl
 | bl b => cases (show u = Value.bool b from r); rfl
 | int i => obtain ⟨t, e⟩ := (show ∃ t, u = Value.int i t from r); cases e; rfl
 | str x => obtain ⟨t, e⟩ := (show ∃ t, u = Value.str x t from r); cases e; rfl
 | byt b => obtain ⟨t, e⟩ := (show ∃ t, u = Value.bytes b t from r); cases e; rfl
 | flt b => obtain ⟨t, e⟩ := (show ∃ t, u = Value.float b t from r); cases e; rfl
 | ref a => cases (show u = Value.ref a from r); rfl
 | ty n => cases (show u = Value.type n from r); rfl
section
variable {P : Program} {w : World} {H H' : Hp} {h h' : Heap} {a C dx : Addr} {fs fs' : List (Str × V)}
theorem ins_get (hok : HOk P w H h) (e : H a = some (.ins C dx fs)) : ∃ mA, ObjM h a dx C mA /\ (∀ f, RelO (fs.lookup f) (mA f)) /\ PySem.Within mA (fs.map (·.1)) /\ fs.length <= 1000 /\ H dx = some (.own a) := by
 obtain ⟨d, z, ne, ob, mA, n, r, q⟩ := (show ObjOk P w H h a (.ins C dx fs) from hok a _ e)
 exact ⟨mA, ⟨ob, n, ne⟩, r, q, z, d⟩
end
structure Cls (K : PySem.W.Frag) (C : Addr) : Prop where
 pg : PySem.W.plainGet K C Str.empty = true
 hd : PySem.W.hasDictIn K C = true
 po : PySem.W.plainOver K C = true
 sa : PySem.W.findIn K (.ref C) "__setattr__" = some (some (.builtin "object.__setattr__"))
theorem Cls.get {K : PySem.W.Frag} {C : Addr} (c : Cls K C) (f : Str) : PySem.W.plainGet K C f = true := c.pg
def NoAttr (K : PySem.W.Frag) (C : Addr) (f : Str) : Prop := PySem.W.findIn K (.ref C) f = some none
theorem NoAttr.taker {K : PySem.W.Frag} {C : Addr} {f : Str} (n : NoAttr K C f) : PySem.W.takerIn K C f = some none := by
 unfold PySem.W.takerIn
 rw [show PySem.W.findIn K (.ref C) f = some none from n]
 rfl
structure Meth (K : PySem.W.Frag) (C : Addr) (m : Str) (f : Addr) : Prop where
 at_ : PySem.W.findIn K (.ref C) m = some (some (.ref f))
 fn : PySem.W.isFn K (.ref f) = true
 kp : PySem.W.keepIn K (.ref f) = true
section
variable {X : Cx} {pins : List (Addr × Obj)} {σ : St} {H : Hp} {s : Shared} {a C dx : Addr} {fs : List (Str × V)} {f : Str} {v : V} {A : Around} {E : Value -> Shared -> Prop}
theorem getattr_ok {b : Bool} {Q : Value -> Shared -> Prop} (I : Inv X pins σ H s) (e : H a = some (.ins C dx fs)) (c : Cls X.K C) (n : NoAttr X.K C f) (l : fs.lookup f = some v)
  (h : ∀ u s', Inv X pins σ H s' -> RelV v u -> Q u s') : wpAny (model X.prog X.w) A (getAttr (.ref a) f b) Q E s := by
 obtain ⟨mA, O, r, _, _, _⟩ := ins_get I.hok e
 obtain ⟨u, hu, ru⟩ := RelO.some_of (v := v) (o := mA f) (by rw [← l]; exact r f)
 exact get_map I.kIn O (c.get f) c.hd n hu (handed_of ru) (h u _ (I.tok _) ru)
theorem getmeth_ok {m : Str} {g : Addr} {pl : Sem Bool} {Q : Value × List Value -> Shared -> Prop} (I : Inv X pins σ H s) (e : H a = some (.ins C dx fs)) (c : Cls X.K C) (k : Meth X.K C m g) (l : fs.lookup m = none)
  (h : Q (.ref g, [.ref a]) s) : wpAny (model X.prog X.w) A (getMethod (.ref a) m pl) Q E s := by
 obtain ⟨mA, O, r, _, _, _⟩ := ins_get I.hok e
 have hn : mA m = none := RelO.none_of (by rw [← l]; exact r m)
 exact get_meth I.kIn O (c.get m) k.at_ k.fn hn h
theorem setattr_ok {y : V} {u : Value} {Q : Unit -> Shared -> Prop} (I : Inv X pins σ H s) (e : H a = some (.ins C dx fs)) (c : Cls X.K C) (n : NoAttr X.K C f) (hl : fs.length < 1000) (ry : RelV y u)
  (h : ∀ s', Inv X pins σ (upd H a (.ins C dx (putF f y fs))) s' -> Q () s') : wpAny (model X.prog X.w) A (setAttr (.ref a) f u) Q E s := by
 obtain ⟨mA, O, r, wi, _, ho⟩ := ins_get I.hok e
 have hz : (fs.map (·.1)).length <= sizeLine := by rw [List.length_map, sizeLine_eq]; omega
 refine set_map I.kIn O c.sa c.po n.taker c.hd wi hz fun h' O' sb => h _ ?_
 have hd : ∃ o, h'.get? dx = some o := let ⟨o, _, _, e', _⟩ := O'.ns; ⟨o, e'⟩
 refine I.write (x := a) (e := dx) (by rw [e]; exact True.intro) (.inr ho) (fun b q hb z => (sb.2 b hb).trans z) hd ?_
 refine ⟨by rw [upd_ne O.ne]; exact ho, ?_, O.ne, O'.obj, _, O'.ns, fun g => ?_, fun g hg => ?_⟩
 ·have := length_putF f y fs; omega
 ·show RelO ((putF f y fs).lookup g) (if g = f then some u else mA g)
  rw [lookup_putF]
  by_cases q : g = f
  ·rw [if_pos q, if_pos q]; exact ry
  ·rw [if_neg q, if_neg q]; exact r g
 ·by_cases q : g = f
  ·rw [q]; exact (keys_putF f y fs).1
  ·refine (keys_putF f y fs).2 g (wi g fun z => hg ?_)
   show (if g = f then some u else mA g) = none
   rw [if_neg q]; exact z
theorem Inv.made (I : Inv X pins σ H s) : Inv X pins σ (upd (upd H s.heap.objs.size (.own (s.heap.objs.size + 1))) (s.heap.objs.size + 1) (.ins C s.heap.objs.size []))
  { s with heap := (s.heap.push PySem.W.emptyDict).push (PySem.W.instObj C s.heap.objs.size) } := by
 have e1 : (s.heap.push PySem.W.emptyDict).get? s.heap.objs.size = some PySem.W.emptyDict := Heap.get?_push_size s.heap rfl
 have e2 : ((s.heap.push PySem.W.emptyDict).push (PySem.W.instObj C s.heap.objs.size)).get? (s.heap.objs.size + 1) = some (PySem.W.instObj C s.heap.objs.size) := by
  have := Heap.get?_push_size (s.heap.push PySem.W.emptyDict) (o := PySem.W.instObj C s.heap.objs.size) rfl
  rwa [Heap.size_push] at this
 have e3 : (s.heap.push PySem.W.emptyDict).Ns s.heap.objs.size (fun _ => none) := ⟨PySem.W.emptyDict, #[], _, e1, rfl, (fun e he => absurd he (by simp)), fun _ => rfl⟩
 have I1 := I.laid (a := s.heap.objs.size) (o := .own (s.heap.objs.size + 1)) (h' := s.heap.push PySem.W.emptyDict) (t' := s.toks) (fun b u q => Heap.get?_push_of_some _ q) (Nat.le_refl _) ⟨_, e1⟩
 refine I1.laid (a := s.heap.objs.size + 1) (o := .ins C s.heap.objs.size []) (t' := s.toks) (fun b u q => Heap.get?_push_of_some _ q) (Nat.le_of_eq (Heap.size_push _ _)) ?_
 have ne : s.heap.objs.size ≠ s.heap.objs.size + 1 := Nat.ne_of_lt (Nat.lt_succ_self _)
 refine ⟨by rw [upd_ne ne, upd_same], Nat.zero_le _, ne, e2, fun _ => none, (Heap.Ns1.of_empty e3).at fun o q => Heap.get?_push_of_some _ q, fun _ => True.intro, fun y hy => absurd rfl hy⟩
theorem attr_of {prog : Program} {w : World} {env : Env} {e : Expr} {f : Str} {pos : Pos} {s : Shared} {Q : Value -> Shared -> Prop} (hb : attributeBase e f env (eval e env) = eval e env)
  (h : wpAny (model prog w) A (eval e env) (fun o s₁ => wpAny (model prog w) A (getAttr o f true) Q E s₁) E s) : wpAny (model prog w) A (eval (.Attribute e f pos) env) Q E s :=
 Attribute_any_ h (by rw [arm_eval_Attribute, hb])
end
def tFld (K : PySem.W.Frag) (ta : TE) (f : Str) : TE := fun σ H Q => ta σ H fun x H1 => ∃ a C dx fs v, x = .ref a /\ H1 a = some (.ins C dx fs) /\ Cls K C /\ NoAttr K C f /\ fs.lookup f = some v /\ Q v H1
def sFld (K : PySem.W.Frag) (ta tv : TE) (f : Str) : TS := fun D σ H => tv σ H fun y H1 => ta σ H1 fun x H2 => ∃ a C dx fs, x = .ref a /\ H2 a = some (.ins C dx fs) /\ Cls K C /\ NoAttr K C f /\ fs.length < 1000 /\
 D.nx σ (upd H2 a (.ins C dx (putF f y fs)))
def InOp (X : Cx) (op : Operator) (rd : V -> V -> Hp -> VK -> Prop) : Prop :=
 ∀ (pins : List (Addr × Obj)) (s : Shared) (σ : St) (H : Hp) (x y : V) (u v : Value) (Q : VK), Inv X pins σ H s -> RelV x u -> RelV y v -> rd x y H Q -> wpAny (model X.prog X.w) X.A (inplaceOp op u v) (EP X pins σ Q) X.xe s
def sFldAug (K : PySem.W.Frag) (ta tv : TE) (rd : V -> V -> Hp -> VK -> Prop) (f : Str) : TS := fun D σ H => ta σ H fun x H1 => ∃ a C dx fs v, x = .ref a /\ H1 a = some (.ins C dx fs) /\ Cls K C /\ NoAttr K C f /\ fs.lookup f = some v /\
 tv σ H1 fun y H2 => rd v y H2 fun z H3 => ∃ dx' fs', H3 a = some (.ins C dx' fs') /\ fs'.length < 1000 /\ D.nx σ (upd H3 a (.ins C dx' (putF f z fs')))
section
variable {X : Cx} {o e value : Expr} {f : Str} {pos pos' tpos : Pos} {ta tv : TE}
theorem pe_fld (he : PE X e ta) (hb : attributeBase e f X.env (eval e X.env) = eval e X.env) : PE X (.Attribute e f pos) (tFld X.K ta f) := by
 intro pins s σ H Q I h
 refine attr_of hb (thn (he pins s σ H _ I h) fun u s1 hh => ?_)
 obtain ⟨x, H1, I1, rx, a, C, dx, fs, v, ex, ea, c, n, l, q⟩ := hh
 subst ex
 obtain rfl : u = Value.ref a := rx
 exact getattr_ok I1 ea c n l fun u' s2 I2 ru => ⟨v, H1, I2, ru, q⟩
theorem ps_fld (ha : PE X o ta) (hv : PE X value tv) (hs : swapsWith value (some (.Attribute o f pos')) pos.line X.env = pure false) : PS X (.Assign [.Attribute o f pos'] value pos) (sFld X.K ta tv f) := by
 intro pins s σ H D I h
 refine plainObj_wpAny_Assign_Attribute (thn (hv pins s σ H _ I h) fun u s1 hh => ?_) hs
 obtain ⟨y, H1, I1, ry, q⟩ := hh
 refine thn (ha pins s1 σ H1 _ I1 q) fun ov s2 hh => ?_
 obtain ⟨x, H2, I2, rx, a, C, dx, fs, ex, ea, c, n, l, q2⟩ := hh
 subst ex
 obtain rfl : ov = Value.ref a := rx
 exact setattr_ok I2 ea c n l ry fun s3 I3 => ⟨σ, _, I3, q2⟩
theorem ps_fldaug {op : Operator} {rd : V -> V -> Hp -> VK -> Prop} (ha : PE X o ta) (hv : PE X value tv) (hop : InOp X op rd) : PS X (.AugAssign (.Attribute o f tpos) op value pos) (sFldAug X.K ta tv rd f) := by
 intro pins s σ H D I h
 refine wpAny_AugAssign_AttributeAny (thn (ha pins s σ H _ I h) fun ov s1 hh => ?_)
 obtain ⟨x, H1, I1, rx, a, C, dx, fs, v, ex, ea, c, n, l, q⟩ := hh
 subst ex
 obtain rfl : ov = Value.ref a := rx
 refine getattr_ok I1 ea c n l fun u s2 I2 ru => thn (hv pins s2 σ H1 _ I2 q) fun w3 s3 hh => ?_
 obtain ⟨y, H2, I3, ry, q3⟩ := hh
 refine thn (hop pins s3 σ H2 v y u w3 _ I3 ru ry q3) fun w4 s4 hh => ?_
 obtain ⟨z, H3, I4, rz, dx', fs', ea', l', q4⟩ := hh
 exact setattr_ok I4 ea' c n l' rz fun s5 I5 => ⟨σ, _, I5, q4⟩
def rAdd : V -> V -> Hp -> VK -> Prop := fun x y H Q => ∃ i j, x = .int i /\ y = .int j /\ Q (.int (i + j)) H
theorem in_add : InOp X .Add rAdd := by
 rintro pins s σ H x y u v Q I rx ry ⟨i, j, rfl, rfl, q⟩
 obtain ⟨t, rfl⟩ := (show ∃ t, u = Value.int i t from rx)
 obtain ⟨t', rfl⟩ := (show ∃ t', v = Value.int j t' from ry)
 exact PyProof.Rows.iadd_int ⟨.int (i + j), H, I.tok _, ⟨_, rfl⟩, q⟩
end
section
variable {X : Cx} {pins : List (Addr × Obj)} {σ : St} {H : Hp} {s : Shared} {A : Around} {E : Value -> Shared -> Prop} {Q : Value -> Shared -> Prop} {c : Value} {b : Bool}
end
end L2
namespace L2
open PySem PySem.Spec PyProof.Rows
structure Room (k : Nat) (A : Around) : Prop where
 hd : A.handled = none
 dp : A.depth + 3 * k + 5 < recursionLimit
 un : A.units + 16 * k + 200 < cLine
theorem Room.mono {j k : Nat} {A : Around} (r : Room k A) (h : j <= k) : Room j A := ⟨r.hd, by have := r.dp; omega, by have := r.un; omega⟩
theorem Room.deeper {k : Nat} {A : Around} (r : Room (k + 1) A) (env : Env) : Room k (A.deeper env) :=
 ⟨r.hd, by have := r.dp; show A.depth + 1 + 3 * k + 5 < _; omega, by have := r.un; show A.units + 3 + 16 * k + 200 < _; omega⟩
theorem make_depth {A : Around} {C : Addr} {us : List Value} {kw : List (Str × Value)} : (A.under (.builtin "type.__call__" ⟨.ref C :: us, kw⟩)).depth = A.depth + 1 := by
 first | rfl | simp [Around.under, Code.weight, Code.isCreation, Code.isGuard, Code.isCaller, Code.frames, Code.isFrame, guardIds]
theorem make_units {A : Around} {C : Addr} {us : List Value} {kw : List (Str × Value)} : (A.under (.builtin "type.__call__" ⟨.ref C :: us, kw⟩)).units = A.units + 1 := by
 first | rfl | simp [Around.under, Code.cUnits, Code.frames, Code.isFrame]
theorem Room.make {k : Nat} {A : Around} (r : Room (k + 1) A) (C : Addr) (us : List Value) (kw : List (Str × Value)) : Room k (A.under (.builtin "type.__call__" ⟨.ref C :: us, kw⟩)) :=
 ⟨r.hd, by have := r.dp; rw [make_depth]; omega, by have := r.un; rw [make_units]; omega⟩
theorem Room.depth {k : Nat} {A : Around} (r : Room k A) : A.depth < recursionLimit := by have := r.dp; omega
theorem Room.units {k : Nat} {A : Around} (r : Room k A) : A.units + 64 < cLine := by have := r.un; omega
def tNil : TA := fun _ H Q => Q [] H
def tCons (ta : TE) (tr : TA) : TA := fun σ H Q => ta σ H fun x H1 => tr σ H1 fun xs H2 => Q (x :: xs) H2
section
variable {X : Cx} {e : Expr} {es : List Expr} {te : TE} {t : TA} {pos : Pos}
theorem pa_nil : PA X [] tNil := fun _ _ _ _ H Q I h => Calls.spliced_nil ⟨[], H, I, .nil, h⟩
theorem pa_cons (ha : PE X e te) (hr : PA X es t) (hs : starEach (e :: es) X.env = (false, eval e X.env) :: starEach es X.env := by rfl) : PA X (e :: es) (tCons te t) := by
 intro pos pins s σ H Q I h
 rw [hs]
 show wpAny _ _ (spliced ((false, eval e X.env) :: backTo pos (starEach es X.env))) _ _ s
 refine Calls.spliced_cons (thn (ha pins s σ H _ I h) fun u s1 hh => ?_)
 obtain ⟨x, H1, I1, r1, q1⟩ := hh
 exact thn (hr pos pins s1 σ H1 _ I1 q1) fun us s2 ⟨xs, H2, I2, r2, q2⟩ => ⟨x :: xs, H2, I2, .cons r1 r2, q2⟩
def tTup (t : TA) : TE := fun σ H Q => t σ H fun xs H1 => xs.length <= sizeLine /\ ∀ p, H1 p = none -> Q (.ref p) (upd H1 p (.tup xs))
def tLst (t : TA) : TE := fun σ H Q => t σ H fun xs H1 => xs.length <= sizeLine /\ ∀ p, H1 p = none -> Q (.ref p) (upd H1 p (.lst xs))
theorem pe_tup {x1} (h : PA X es t) : PE X (.Tuple es x1 pos) (tTup t) := by
 intro pins s σ H Q I hq
 refine wpAny_Tuple_spliced (thn (h pos pins s σ H _ I hq) fun us s1 hh => ?_)
 obtain ⟨xs, H1, I1, r, z, q⟩ := hh
 refine ⟨by rw [← r.length]; exact z, ?_⟩
 have hf : H1 s1.heap.objs.size = none := I1.hok.fresh (Nat.le_refl _)
 refine ⟨.ref s1.heap.objs.size, upd H1 s1.heap.objs.size (.tup xs), I1.laid (t' := s1.toks) (fun b u e => Heap.get?_push_of_some _ e) (Nat.le_refl _) ?_, rfl, q _ hf⟩
 exact ⟨z, us, r, IsTupD.new _ _⟩
theorem pe_lst (h : PA X es t) : PE X (.List es pos) (tLst t) := by
 intro pins s σ H Q I hq
 refine wpAny_List_spliced (thn (h pos pins s σ H _ I hq) fun us s1 hh => ?_)
 obtain ⟨xs, H1, I1, r, z, q⟩ := hh
 refine ⟨by rw [← r.length]; exact z, ?_⟩
 have hf : H1 s1.heap.objs.size = none := I1.hok.fresh (Nat.le_refl _)
 refine ⟨.ref s1.heap.objs.size, upd H1 s1.heap.objs.size (.lst xs), I1.laid (t' := s1.toks) (fun b u e => Heap.get?_push_of_some _ e) (Nat.le_refl _) ?_, rfl, q _ hf⟩
 exact ⟨z, us, 0, r, Heap.get?_push_size _ rfl⟩
end
noncomputable abbrev Sp := List V -> Hp -> VK -> XK -> Prop
noncomputable abbrev CXT := List Env -> Hp -> Shared -> XK -> Value -> Shared -> Prop
structure Env0 (P : Program) (w : World) (K : PySem.W.Frag) (mg : Str -> Option Value) (base : Heap) (A : Around) (outer : List Env) (s : Shared) (H : Hp) : Prop where
 frames : A.frames = some outer
 mod : Mod K mg base
 bs : ∀ b o, base.get? b = some o -> s.heap.get? b = some o /\ H b = none
 bsz : base.objs.size <= s.heap.objs.size
 funs : s.heap.FunFrames base outer
 frf : ∀ b ∈ frs outer, H b = none
 hok : HOk P w H s.heap
 bare : AllBare s.gens
def CE (outer : List Env) (P : Program) (w : World) (H : Hp) (s : Shared) (Q : VK) (u : Value) (s' : Shared) : Prop :=
 ∃ v H', s'.os = s.os /\ AllBare s'.gens /\ Un (frs outer) [] H H' s.heap s'.heap /\ HOk P w H' s'.heap /\ RelV v u /\ Q v H'
def CR (CX : CXT) (outer : List Env) (P : Program) (w : World) (H : Hp) (s : Shared) (Q : VK) (E : XK) (r : Result) (s' : Shared) : Prop :=
 match r with
 | .ok (.ret u) => CE outer P w H s Q u s'
 | .ok _ => False
 | .error e => CX outer H s E e s'
structure FnOk (P : Program) (w : World) (K : PySem.W.Frag) (mg : Str -> Option Value) (base : Heap) (CX : CXT) (k : Nat) (f : Addr) (fd : FuncData) (ps : List Str) (sp : Sp) : Prop where
 len : ∀ vs H Q E, sp vs H Q E -> vs.length = ps.length
 run : ∀ (A : Around) (outer : List Env) (s : Shared) (H : Hp) (args : Args) (us : List Value) (vs : List V) (Q : VK) (E : XK), Room k A -> Env0 P w K mg base A outer s H -> BindsTo s fd args (ps.zip us) -> Vals vs us -> sp vs H Q E ->
  codeAny (model P w) A (.call (.ref f) args) (CR CX outer P w H s Q E) s
theorem FnOk.imp {P : Program} {w : World} {K : PySem.W.Frag} {mg : Str -> Option Value} {base : Heap} {CX : CXT} {k : Nat} {f : Addr} {fd : FuncData} {ps : List Str} {sp sp' : Sp} (F : FnOk P w K mg base CX k f fd ps sp)
  (h : ∀ vs H Q E, sp' vs H Q E -> sp vs H Q E) : FnOk P w K mg base CX k f fd ps sp' :=
 ⟨fun vs H Q E q => F.len vs H Q E (h _ _ _ _ q), fun A outer s H args us vs Q E hr he hb hv hs => F.run A outer s H args us vs Q E hr he hb hv (h _ _ _ _ hs)⟩
theorem Env0.make {P : Program} {w : World} {K : PySem.W.Frag} {mg : Str -> Option Value} {base : Heap} {A : Around} {outer : List Env} {s : Shared} {H : Hp} (e : Env0 P w K mg base A outer s H) (C : Addr) (us : List Value) (kw : List (Str × Value)) :
  Env0 P w K mg base (A.under (.builtin "type.__call__" ⟨.ref C :: us, kw⟩)) outer s H := ⟨by first | exact e.frames | (simpa [Around.under, Code.envs, Code.isFrame, pushEnvs] using e.frames), e.mod, e.bs, e.bsz, e.funs, e.frf, e.hok, e.bare⟩
section
variable {X : Cx} {pins : List (Addr × Obj)} {σ : St} {H : Hp} {s s' : Shared}
theorem Inv.env0 (I : Inv X pins σ H s) : Env0 X.prog X.w X.K X.mg X.base X.A X.stack s H :=
 ⟨I.ok.frames, I.ok.mod, I.bs, Nat.le_trans I.ok.bsz I.sz, I.stack, I.stkFree, I.hok, I.bare⟩
theorem Inv.after {Q : VK} {u : Value} (I : Inv X pins σ H s) (h : CE X.stack X.prog X.w H s Q u s') : EP X pins σ Q u s' := by
 obtain ⟨v, H', os, bare, un, hok, r, q⟩ := h
 obtain ⟨hh, g, d, t, os'⟩ := s'
 obtain rfl : os' = s.os := os
 exact ⟨v, H', I.call (h' := hh) (g' := g) (d' := d) (t' := t) (ch := []) un hok bare (fun b z => absurd z (by simp)), r, q⟩
end
def tCall (sp : Sp) (dvs : List V) (E : XK) (t : TA) : TE := fun σ H Q => t σ H fun vs H1 => sp (vs ++ dvs) H1 Q E
def tMeth (C : Addr) (m : Str) (sp : Sp) (dvs : List V) (E : XK) (ta : TE) (t : TA) : TE := fun σ H Q => ta σ H fun x H1 => ∃ a dx fs, x = .ref a /\ H1 a = some (.ins C dx fs) /\ fs.lookup m = none /\
 t σ H1 fun vs H2 => sp (x :: (vs ++ dvs)) H2 Q E
def tMake (C : Addr) (sp : Sp) (dvs : List V) (E : XK) (t : TA) : TE := fun σ H Q => t σ H fun vs H1 => ∀ x dx, H1 x = none -> H1 dx = none -> dx ≠ x ->
 sp (.ref x :: (vs ++ dvs)) (upd (upd H1 dx (.own x)) x (.ins C dx [])) (fun v H2 => v = .non /\ Q (.ref x) H2) E
def Binds (K : PySem.W.Frag) (fd : FuncData) (ps : List Str) (ds : List Value) : Prop :=
 ∀ (s : Shared) (us : List Value), K.In s.heap -> (us ++ ds).length = ps.length -> BindsTo s fd ⟨us, []⟩ (ps.zip (us ++ ds))
theorem Binds.all {K : PySem.W.Frag} {fd : FuncData} {ps : List Str} (h : ∀ us : List Value, us.length = ps.length -> bindArgs fd ⟨us, []⟩ = pure (ps.zip us)) : Binds K fd ps [] := fun s us _ hl => by
 rw [List.append_nil] at hl ⊢
 exact .of_eq (h us hl)
def Passes (CX : CXT) (X : Cx) (E : XK) : Prop := ∀ (pins : List (Addr × Obj)) (σ : St) (H : Hp) (s : Shared) (e : Value) (s' : Shared), Inv X pins σ H s -> CX X.stack H s E e s' -> X.xe e s'
section
variable {X : Cx} {CX : CXT} {k : Nat} {f C : Addr} {fd : FuncData} {ps : List Str} {sp : Sp} {dvs : List V} {ds : List Value} {E : XK} {x m : Str} {p pos apos : Pos} {e o : Expr} {es : List Expr} {ta : TE} {t : TA}
theorem run_fn {pins : List (Addr × Obj)} {σ : St} {H : Hp} {s : Shared} {Q : VK} {us : List Value} {vs : List V} (F : FnOk X.prog X.w X.K X.mg X.base CX k f fd ps sp) (hr : Room k X.A) (hb : Binds X.K fd ps ds) (hd : Vals dvs ds) (hx : Passes CX X E)
  (I : Inv X pins σ H s) (r : Vals vs us) (h : sp (vs ++ dvs) H Q E) : wpAny (model X.prog X.w) X.A (call (.ref f) us) (EP X pins σ Q) X.xe s := by
 have r2 : Vals (vs ++ dvs) (us ++ ds) := r.append hd
 have hl : (us ++ ds).length = ps.length := by rw [← r2.length]; exact F.len _ _ _ _ h
 refine wpAny_call (codeAny_mono (F.run X.A X.stack s H ⟨us, []⟩ (us ++ ds) (vs ++ dvs) Q E hr I.env0 (hb s us I.kIn hl) r2 h) fun r s' hq => ?_)
 cases r with
 | error e => exact hx pins σ H s e s' I hq
 | ok fl =>
  cases fl with
  | ret u => exact I.after hq
  | next => exact False.elim hq
  | brk => exact False.elim hq
  | cont => exact False.elim hq
theorem pe_call (F : FnOk X.prog X.w X.K X.mg X.base CX k f fd ps sp) (hr : Room k X.A) (hg : Gl X x) (hm : X.mg x = some (.ref f)) (hk : PySem.W.keepIn X.K (.ref f) = true) (hb : Binds X.K fd ps ds) (hd : Vals dvs ds) (hx : Passes CX X E)
  (ha : PA X (e :: es) t) (hdb : (x == ("__debug__" : Str)) = false := by decide) (he : starEach (e :: es) X.env = (false, eval e X.env) :: starEach es X.env := by rfl) (hpl : (backTo pos (starEach es X.env)).any (·.1) = false := by rfl) :
  PE X (.Call (.Name x p) (e :: es) [] pos) (tCall sp dvs E t) := by
 intro pins s σ H Q I h
 refine wpAny_Call_Name_kw (ld_glob I hg hm ?_ hdb)
 refine PySem.W.callWith_K (h₀ := X.base) I.ok.mod.kin hk (thn (ha pos pins s σ H _ I h) fun us s1 hh => ?_) he hpl
 obtain ⟨vs, H1, I1, r, q⟩ := hh
 refine ⟨I1.kIn, ?_⟩
 exact run_fn F hr hb hd hx I1 r q
theorem pe_meth0 {pl : Sem Bool} (he : PE X o ta) (c : Cls X.K C) (hm : Meth X.K C m f) (F : FnOk X.prog X.w X.K X.mg X.base CX k f fd ps sp) (hr : Room k X.A) (hb : Binds X.K fd ps ds) (hd : Vals dvs ds) (hx : Passes CX X E)
  (ht : eval (.Call (.Attribute o m apos) [] [] pos) X.env = (do
   let ov ← eval o X.env
   standAt apos.atName
   let (f, first) ← holding [ov] (getMethod ov m pl)
   callWith pos f first (backTo pos (starEach [] X.env)) (backToKw pos (keywordEach [] X.env))) := by rfl) :
  PE X (.Call (.Attribute o m apos) [] [] pos) (tMeth C m sp dvs E ta tNil) := by
 intro pins s σ H Q I h
 refine PySem.W.methodCall_KW (pl := pl) (thn (he pins s σ H _ I h) fun u s1 hh => ?_) ht
 obtain ⟨x, H1, I1, rx, a, dx, fs, ex, ea, l, q⟩ := hh
 subst ex
 obtain rfl : u = Value.ref a := rx
 refine getmeth_ok I1 ea c hm l ?_
 exact PySem.W.callWith_K0 (first := [.ref a]) I1.kIn hm.kp (run_fn (us := [.ref a]) (vs := [.ref a]) F hr hb hd hx I1 (.cons rfl .nil) q)
structure Mk (K : PySem.W.Frag) (C f : Addr) : Prop where
 makes : PySem.W.makesIn K C = true
 init : PySem.W.findIn K (.ref C) "__init__" = some (some (.ref f))
 fn : PySem.W.isFn K (.ref f) = true
 kp : PySem.W.keepIn K (.ref C) = true
theorem run_make {pins : List (Addr × Obj)} {σ : St} {H : Hp} {s : Shared} {Q : VK} {us : List Value} {vs : List V} (M : Mk X.K C f) (F : FnOk X.prog X.w X.K X.mg X.base CX k f fd ps sp) (hr : Room (k + 1) X.A) (hb : Binds X.K fd ps ds) (hd : Vals dvs ds)
  (hx : Passes CX X E) (I : Inv X pins σ H s) (r : Vals vs us)
  (h : ∀ x dx, H x = none -> H dx = none -> dx ≠ x -> sp (.ref x :: (vs ++ dvs)) (upd (upd H dx (.own x)) x (.ins C dx [])) (fun v H2 => v = .non /\ Q (.ref x) H2) E) :
  wpAny (model X.prog X.w) X.A (call (.ref C) us) (EP X pins σ Q) X.xe s := by
 have hq := h (s.heap.objs.size + 1) s.heap.objs.size (I.hok.fresh (Nat.le_succ _)) (I.hok.fresh (Nat.le_refl _)) (Nat.ne_of_lt (Nat.lt_succ_self _))
 have I2 := Inv.made (C := C) I
 have r2 : Vals (V.ref (s.heap.objs.size + 1) :: (vs ++ dvs)) (Value.ref (s.heap.objs.size + 1) :: (us ++ ds)) := .cons rfl (r.append hd)
 have hl : (Value.ref (s.heap.objs.size + 1) :: us ++ ds).length = ps.length := by
  have e := r2.length
  rw [F.len _ _ _ _ hq] at e
  exact e.symm
 refine wpAny_call (make_map (f := f) I.kIn M.makes M.init (beq_iff_eq.mp M.fn) (codeAny_mono (F.run _ X.stack _ _ ⟨Value.ref (s.heap.objs.size + 1) :: us, []⟩ (Value.ref (s.heap.objs.size + 1) :: (us ++ ds)) _ _ E (hr.make C us [])
  (I2.env0.make C us []) (hb _ (Value.ref (s.heap.objs.size + 1) :: us) I2.kIn hl) r2 hq) fun r s' hq' => ?_))
 cases r with
 | error e => exact hx pins σ _ _ e s' I2 hq'
 | ok fl =>
  cases fl with
  | ret u =>
   obtain ⟨v, H', I3, rv, ev, q3⟩ := I2.after hq'
   subst ev
   exact ⟨rv, ⟨V.ref (s.heap.objs.size + 1), H', I3, rfl, q3⟩⟩
  | next => exact False.elim hq'
  | brk => exact False.elim hq'
  | cont => exact False.elim hq'
theorem pe_make (M : Mk X.K C f) (F : FnOk X.prog X.w X.K X.mg X.base CX k f fd ps sp) (hr : Room (k + 1) X.A) (hg : Gl X x) (hm : X.mg x = some (.ref C)) (hb : Binds X.K fd ps ds) (hd : Vals dvs ds) (hx : Passes CX X E)
  (ha : PA X (e :: es) t) (hdb : (x == ("__debug__" : Str)) = false := by decide) (he : starEach (e :: es) X.env = (false, eval e X.env) :: starEach es X.env := by rfl) (hpl : (backTo pos (starEach es X.env)).any (·.1) = false := by rfl) :
  PE X (.Call (.Name x p) (e :: es) [] pos) (tMake C sp dvs E t) := by
 intro pins s σ H Q I h
 refine wpAny_Call_Name_kw (ld_glob I hg hm ?_ hdb)
 refine PySem.W.callWith_K (h₀ := X.base) I.ok.mod.kin M.kp (thn (ha pos pins s σ H _ I h) fun us s1 hh => ?_) he hpl
 obtain ⟨vs, H1, I1, r, q⟩ := hh
 refine ⟨I1.kIn, ?_⟩
 exact run_make M F hr hb hd hx I1 r q
end
section
variable {X : Cx} {CX : CXT} {k : Nat} {f C : Addr} {fd : FuncData} {ps ks : List Str} {sp : Sp} {E : XK} {x m : Str} {p pos apos kpos : Pos} {e o : Expr} {es : List Expr} {kws : List Keyword} {te ta : TE} {t tk : TA} {nm : Option Str}
variable {g : List Value -> List Value -> List Value} {gV : List V -> List V -> List V}
end
structure FnScope (N P : List Str) (sc : Scope) : Prop where
 kind : sc.kind = .function
 co : sc.isCoroutine = false
 gen : sc.isGenerator = false
 nd : N.Nodup
 pre : N.take P.length = P
 par : ∀ x ∈ P, sc.names.lookup x = some .local \/ sc.names.lookup x = some .cell
 nofree : ∀ y ∈ sc.names, y.2 ≠ .free
theorem bindL_out {kindOf : Str -> Option NameKind} {x : Str} : ∀ {binds : List (Str × Value)} {m : Str -> Option Value}, (∀ v, (x, v) ∉ binds) -> bindL kindOf binds m x = m x
 | [], _, _ => rfl
 | (n, v) :: r, m, h => by
  unfold bindL
  rw [bindL_out fun w hw => h w (List.mem_cons_of_mem _ hw)]
  split
  ·have : x ≠ n := by rintro rfl; exact h v List.mem_cons_self
   simp [this]
  ·rfl
theorem bindC_out {kindOf : Str -> Option NameKind} {x : Str} : ∀ {binds : List (Str × Value)} {m : Str -> Option Value}, (∀ v, (x, v) ∉ binds) -> bindC kindOf binds m x = m x
 | [], _, _ => rfl
 | (n, v) :: r, m, h => by
  unfold bindC
  rw [bindC_out fun w hw => h w (List.mem_cons_of_mem _ hw)]
  split
  ·rfl
  ·have : x ≠ n := by rintro rfl; exact h v List.mem_cons_self
   simp [this]
theorem bindL_get {kindOf : Str -> Option NameKind} {x : Str} {v : Value} : ∀ {P : List Str} {vs : List Value} {i : Nat} {m : Str -> Option Value}, P.Nodup -> P[i]? = some x -> vs[i]? = some v -> kindOf x = some .local ->
  bindL kindOf (P.zip vs) m x = some v
 | [], _, _, _, _, h, _, _ => by simp at h
 | _ :: _, [], _, _, _, _, h, _ => by simp at h
 | p :: P, w :: vs, 0, m, nd, h1, h2, hk => by
  simp at h1 h2; subst h1; subst h2
  show bindL kindOf ((p, w) :: P.zip vs) m p = _
  unfold bindL
  rw [bindL_out fun v hv => (List.nodup_cons.mp nd).1 (List.of_mem_zip hv).1, if_pos hk]
  simp
 | p :: P, w :: vs, i + 1, m, nd, h1, h2, hk => by
  show bindL kindOf ((p, w) :: P.zip vs) m x = _
  unfold bindL
  exact bindL_get (i := i) (List.nodup_cons.mp nd).2 (by simpa using h1) (by simpa using h2) hk
theorem bindC_get {kindOf : Str -> Option NameKind} {x : Str} {v : Value} : ∀ {P : List Str} {vs : List Value} {i : Nat} {m : Str -> Option Value}, P.Nodup -> P[i]? = some x -> vs[i]? = some v -> kindOf x ≠ some .local ->
  bindC kindOf (P.zip vs) m x = some v
 | [], _, _, _, _, h, _, _ => by simp at h
 | _ :: _, [], _, _, _, _, h, _ => by simp at h
 | p :: P, w :: vs, 0, m, nd, h1, h2, hk => by
  simp at h1 h2; subst h1; subst h2
  show bindC kindOf ((p, w) :: P.zip vs) m p = _
  unfold bindC
  rw [bindC_out fun v hv => (List.nodup_cons.mp nd).1 (List.of_mem_zip hv).1, if_neg hk]
  simp
 | p :: P, w :: vs, i + 1, m, nd, h1, h2, hk => by
  show bindC kindOf ((p, w) :: P.zip vs) m x = _
  unfold bindC
  exact bindC_get (i := i) (List.nodup_cons.mp nd).2 (by simpa using h1) (by simpa using h2) hk
noncomputable def start (N : List Str) (vs : List V) : St := vs.map some ++ List.replicate (N.length - vs.length) none
def cxOf (CX : CXT) (P : Program) (w : World) (K : PySem.W.Frag) (mg : Str -> Option Value) (base : Heap) (N : List Str) (qual : Str) (scope : Scope) (f : Addr) (cd : Value) (A : Around) (outer : List Env) (s : Shared) (H : Hp) (E : XK) : Cx where
 prog := P
 w := w
 K := K
 mg := mg
 base := base
 A := A.deeper (envOfC qual scope s.heap.objs.size f cd)
 N := N
 s₀ := s
 H₀ := H
 env := envOfC qual scope s.heap.objs.size f cd
 outer := outer
 stack := envOfC qual scope s.heap.objs.size f cd :: outer
 ex := []
 calm := true
 fn := fun _ => true
 pn := []
 xe := fun e s' => wpAny (model P w) (A.deeper (envOfC qual scope s.heap.objs.size f cd)) (leaving (envOfC qual scope s.heap.objs.size f cd) e) (fun _ s'' => CX outer H s E e s'') (fun e' s'' => CX outer H s E e' s'') s'
theorem cell_has {sc : Scope} {n : Nat} {x : Str} (h : sc.names.lookup x = some .cell) : ∃ c, (cellsFrom n sc.names []).lookup x = some c := by
 have q := PySem.W.cellsFrom_some sc.names n [] (.inl h)
 exact Option.isSome_iff_exists.mp q
theorem inv_start {CX : CXT} {P : Program} {w : World} {K : PySem.W.Frag} {mg : Str -> Option Value} {base : Heap} {N ps : List Str} {qual : Str} {scope : Scope} {f : Addr} {cd : Value} {A : Around} {outer : List Env} {s s1 : Shared} {H : Hp} {E : XK} {us : List Value} {vs : List V}
  (S : FnScope N ps scope) (hd : A.handled = none) (e0 : Env0 P w K mg base A outer s H) (hl : vs.length = ps.length) (r : Vals vs us)
  (x : InCallC s s.heap.objs.size (bindL (envOfC qual scope s.heap.objs.size f cd).kindOf (ps.zip us) fun _ => none) (cellsFrom (s.heap.objs.size + 1) scope.names []) (bindC (envOfC qual scope s.heap.objs.size f cd).kindOf (ps.zip us) fun _ => none) s1) :
  Inv (cxOf CX P w K mg base N qual scope f cd A outer s H E) [] (start N vs) H s1 := by
 have hpl : ps.length <= N.length := by have := congrArg List.length S.pre; rw [List.length_take] at this; omega
 obtain ⟨h1, tk, rfl, hk⟩ := x.done
 have noA : ∀ b : Addr, b ∉ (cxOf CX P w K mg base N qual scope f cd A outer s H E).ex := fun b z => absurd (show b ∈ ([] : List Addr) from z) (by simp)
 refine ⟨⟨e0.mod, S.kind, rfl, rfl, Nat.le_refl _, fun y z c h1 h2 => ?_, fun y hy => ?_, fun y c _ h => ?_, fun _ => hd, Around.frames_deeper e0.frames, .inr ⟨rfl, rfl⟩, fun b z => absurd z (noA b), e0.bs, e0.bsz, fun b _ _ => noA b, fun b z => absurd z (noA b), e0.funs, e0.frf⟩,
  rfl, e0.bare, Un.kept hk, ⟨_, x.toInCall.ns, fun i y v h1 h2 h3 => ?_⟩, fun y c h => ⟨_, x.cell y c h⟩, e0.hok.fresh (Nat.le_refl _), fun y c h => ?_, fun p hp => absurd (show p ∈ ([] : List (Addr × Obj)) from hp) (by simp), e0.hok.kept hk, ?_⟩
 ·exact name_of_addr x.apart (PySem.mem_of_lookup h1) (PySem.mem_of_lookup h2)
 ·have hy : scope.names.lookup y = some .cell \/ scope.names.lookup y = some .free := hy
  rcases hy with hy | hy
  ·exact cell_has hy
  ·exact absurd rfl (S.nofree _ (PySem.mem_of_lookup hy))
 ·exact Nat.le_of_lt (x.above y c (PySem.mem_of_lookup h))
 ·have hi : i < vs.length := by
   unfold start at h2
   by_cases hi : i < vs.length
   ·exact hi
   ·rw [List.getElem?_append_right (by simpa using hi)] at h2
    rw [List.getElem?_replicate] at h2
    split at h2 <;> cases h2
  have ha : vs[i]? = some v := by
   unfold start at h2
   rw [List.getElem?_append_left (by simpa using hi), List.getElem?_map] at h2
   cases e : vs[i]? with
   | none => rw [e] at h2; cases h2
   | some a => rw [e] at h2; cases h2; rfl
  obtain ⟨u, hu, rv⟩ := r.get ha
  have hp : ps[i]? = some y := by
   rw [← S.pre, List.getElem?_take_of_lt (by omega)]; exact h1
  have ndP : ps.Nodup := by rw [← S.pre]; exact S.nd.sublist (List.take_sublist _ _)
  refine ⟨u, rv, ?_⟩
  rcases S.par y (List.mem_of_getElem? hp) with k | k
  ·exact .inl ⟨k, bindL_get ndP hp hu k⟩
  ·obtain ⟨c, e⟩ := cell_has (n := s.heap.objs.size + 1) k
   refine .inr ⟨.inl k, c, e, ?_⟩
   have q := x.cell y c e
   rw [bindC_get ndP hp hu (by show scope.names.lookup y ≠ _; rw [k]; decide)] at q
   exact q
 ·exact e0.hok.fresh (Nat.le_of_lt (x.above y c (PySem.mem_of_lookup h)))
 ·unfold start
  show _ = N.length
  rw [List.length_append, List.length_map, List.length_replicate]
  omega
theorem fn_of {CX : CXT} {P : Program} {w : World} {K : PySem.W.Frag} {mg : Str -> Option Value} {base : Heap} {k : Nat} {f : Addr} {name qual : Str} {params : Arguments} {body : List Stmt} {scope : Scope} {dV kV doc pm cdv ct oc : Value} {an od : Option Addr}
  {osl : Array (Option Value)} {N ps : List Str} {sp : Sp} (lk : K.lookup f = some ⟨oc, od, .func (PySem.W.fnOf name qual params body scope dV kV doc pm an cdv ct), osl⟩) (hcd : PySem.W.codeIn K cdv qual = true) (S : FnScope N ps scope)
  (len : ∀ vs H Q E, sp vs H Q E -> vs.length = ps.length)
  (hbody : ∀ (A : Around) (outer : List Env) (s : Shared) (H : Hp) (vs : List V) (Q : VK) (E : XK), Room k (A.deeper (envOfC qual scope s.heap.objs.size f cdv)) -> sp vs H Q E ->
   ∃ t, PSs (cxOf CX P w K mg base N qual scope f cdv A outer s H E) body t /\ t { nx := fun _ H' => Q .non H', rt := Q } (start N vs) H) :
  FnOk P w K mg base CX (k + 1) f (PySem.W.fnOf name qual params body scope dV kV doc pm an cdv ct) ps sp := by
 refine ⟨len, fun A outer s H args us vs Q E hr e0 hb r hsp => ?_⟩
 have hl := len _ _ _ _ hsp
 have KX : K.In s.heap := e0.mod.kin.keeps fun b o e => (e0.bs b o e).1
 have lim : s.heap.NoLimit := e0.mod.nolimit.keeps fun b o e => (e0.bs b o e).1
 have hkind : ∀ y ∈ ps.zip us, scope.names.lookup y.1 = some .local \/ (scope.names.lookup y.1 = some .cell /\ ((cellsFrom (s.heap.objs.size + 1) scope.names []).lookup y.1).isSome = true) := fun ⟨n, v⟩ hy => by
  rcases S.par n (List.of_mem_zip hy).1 with q | q
  ·exact .inl q
  ·exact .inr ⟨q, PySem.W.cellsFrom_some _ _ _ (.inl q)⟩
 refine codeAny_call_function hr.depth (KX _ _ lk) rfl S.co S.gen rfl (PySem.W.codeRec_of KX hcd) (hb _ _ _ _ ?_)
 refine wpAny_newFunctionEnv_cells S.kind hkind fun env he s1 x => ?_
 subst he
 refine ⟨lim.keeps x.toInCall.keep, codeAny_func ?_⟩
 obtain ⟨t, ht, hq⟩ := hbody A outer s H vs Q E (hr.deeper _) hsp
 have I : Inv (cxOf CX P w K mg base N qual scope f cdv A outer s H E) [] (start N vs) H s1 := inv_start S hr.hd e0 hl r x
 refine wpAny_mono (ht [] s1 (start N vs) H _ I hq) (fun fl s' hs => ?_) fun e s' hs => hs
 have fin : ∀ {σ' : St} {H' : Hp} {v : V} {u : Value}, Inv (cxOf CX P w K mg base N qual scope f cdv A outer s H E) [] σ' H' s' -> RelV v u -> Q v H' -> CE outer P w H s Q u s' :=
  fun {σ' H' v u} J rv q => ⟨v, H', J.os, J.bare, J.base, J.hok, rv, q⟩
 cases fl with
 | ret u =>
  obtain ⟨v, σ', H', J, rv, q⟩ := hs
  exact fin J rv q
 | next =>
  obtain ⟨σ', H', J, q⟩ := hs
  exact fin (v := V.non) (u := Value.none) J rfl q
 | brk =>
  obtain ⟨_, _, _, q⟩ := hs
  exact False.elim q
 | cont =>
  obtain ⟨_, _, _, q⟩ := hs
  exact False.elim q
end L2
namespace L2
open PySem PySem.Spec PyProof.Rows
section
variable {X : Cx} {x : Str} {p pos : Pos} {e : Expr} {es : List Expr} {t : TA} {id T : String} {r : List V -> Hp -> VK -> Prop}
def tCB (r : List V -> Hp -> VK -> Prop) (t : TA) : TE := fun σ H Q => t σ H fun vs H1 => r vs H1 Q
theorem pe_callB (hc : CallR X (.builtin id) r) (hg : Gl X x) (hm : X.mg x = none) (hv : bootBuiltins x = some (.builtin id)) (ha : PA X (e :: es) t) (hn : x ≠ "__name__" := by decide) (hdb : (x == ("__debug__" : Str)) = false := by decide)
  (he : starEach (e :: es) X.env = (false, eval e X.env) :: starEach es X.env := by rfl) (hpl : (backTo pos (starEach es X.env)).any (·.1) = false := by rfl) : PE X (.Call (.Name x p) (e :: es) [] pos) (tCB r t) := by
 intro pins s σ H Q I h
 refine wpAny_Call_Name_kw (ld_blt I hg hm hv ?_ hn hdb)
 exact PyProof.Rows.callWith_builtin1 (thn (ha pos pins s σ H _ I h) fun us s1 ⟨vs, H1, I1, r1, q1⟩ => hc pins s1 σ H1 vs us Q I1 r1 q1) he hpl
theorem pe_callTy (hc : CallR X (.type T) r) (hg : Gl X x) (hm : X.mg x = none) (hv : bootBuiltins x = some (.type T)) (ha : PA X (e :: es) t) (hn : x ≠ "__name__" := by decide) (hdb : (x == ("__debug__" : Str)) = false := by decide)
  (he : starEach (e :: es) X.env = (false, eval e X.env) :: starEach es X.env := by rfl) (hpl : (backTo pos (starEach es X.env)).any (·.1) = false := by rfl) : PE X (.Call (.Name x p) (e :: es) [] pos) (tCB r t) := by
 intro pins s σ H Q I h
 refine wpAny_Call_Name_kw (ld_blt I hg hm hv ?_ hn hdb)
 exact PyProof.Rows.callWith_type1 (thn (ha pos pins s σ H _ I h) fun us s1 ⟨vs, H1, I1, r1, q1⟩ => hc pins s1 σ H1 vs us Q I1 r1 q1) he hpl
end
end L2
namespace HT
open PySem PyProof.Rows
section
open PySem.SeqAt
open PySem.AutoSeq1 (wpAny_loadPart')
open PySem.MeetsSeq PySem.MeetsSeq2 PySem.MeetsSeq3
end
section
variable {prog : Program} {w : World} {A : Around} {E : Value -> Shared -> Prop} {s : Shared}
theorem cat_tup {t b : Addr} {vs ws : List Value} {Q : Value -> Shared -> Prop} (ht : IsTup s.heap t vs.toArray) (hb : IsTup s.heap b ws.toArray) (hv : vs ≠ [])
  (h1 : ws = [] -> Q (.ref t) s) (h2 : ws ≠ [] -> Q (.ref s.heap.objs.size) { s with heap := s.heap.push { cls := .type "tuple", data := .seq (vs ++ ws).toArray } })
  (hsz : vs.length + ws.length <= sizeLine) : wpAny (model prog w) A (binaryOp .Add (.ref t) (.ref b)) Q E s := by
 obtain ⟨⟨cls, dd, data, sl⟩, ho, hc, n, hd⟩ := id ht
 obtain ⟨⟨cls2, dd2, data2, sl2⟩, ho2, hc2, n2, hd2⟩ := id hb
 simp only at hc hd hc2 hd2
 subst hc hd hc2 hd2
 have e : vs.toArray ++ ws.toArray = (vs ++ ws).toArray := by simp
 by_cases hw : ws = []
 ·exact concat_meets ⟨_, ho, rfl⟩ ⟨_, ho2, rfl⟩ noFill_tuple_add seq_tuple_add PySem.F.slot_tuple_add PySem.F.entry_tuple_add (PySem.F.args_tuple_add_2 _ _)
   (tuple_addW1 t b vs.toArray ws.toArray n n2 dd dd2 sl sl2 (by simpa using hv) (by simp [hw])) ⟨ho, ho2, h1 hw⟩
 ·refine concat_meets ⟨_, ho, rfl⟩ ⟨_, ho2, rfl⟩ noFill_tuple_add seq_tuple_add PySem.F.slot_tuple_add PySem.F.entry_tuple_add (PySem.F.args_tuple_add_2 _ _)
   (tuple_addW2 t b vs.toArray ws.toArray n n2 dd dd2 sl sl2 (by simpa using hv) (by simpa using hw) (by rw [List.size_toArray, List.size_toArray]; exact hsz)) ⟨ho, ho2, ?_⟩
  rw [e]
  exact h2 hw
noncomputable def sIx (n d : Nat) : Option Int -> Nat
 | none => d
 | some v => if v < 0 then (v + (n : Int)).toNat else min v.toNat n
theorem sIx_nat (n d k : Nat) : sIx n d (some (k : Int)) = min k n := by
 show (if (k : Int) < 0 then ((k : Int) + (n : Int)).toNat else min (k : Int).toNat n) = min k n
 rw [if_neg (by omega), Int.toNat_natCast]
theorem sIx_le (n d : Nat) (hd : d <= n) (o : Option Int) : sIx n d o <= n := by
 cases o with
 | none => exact hd
 | some v =>
  show (if v < 0 then (v + (n : Int)).toNat else min v.toNat n) <= n
  by_cases hv : v < 0
  ·rw [if_pos hv]; omega
  ·rw [if_neg hv]; exact Nat.min_le_right _ _
theorem clip_eq (v : Int) (n d : Nat) : (if v < 0 then max (v + (n : Int)) 0 else min v (n : Int)) = ((sIx n d (some v) : Nat) : Int) := by
 show (if v < 0 then max (v + (n : Int)) 0 else min v (n : Int)) = (((if v < 0 then (v + (n : Int)).toNat else min v.toNat n) : Nat) : Int)
 by_cases hv : v < 0
 ·simp only [if_pos hv]; omega
 ·simp only [if_neg hv]; omega
theorem adjust_gen (lo hi : Option Int) (n : Nat) : Builtin.Slice.sliceAdjust lo hi 1 (n : Int) = (((sIx n 0 lo : Nat) : Int), ((sIx n n hi : Nat) : Int)) := by
 have h1 : ¬ ((1 : Int) < 0) := by omega
 unfold Builtin.Slice.sliceAdjust
 simp only [h1, if_false]
 refine Prod.ext ?_ ?_
 ·cases lo with
  | none => rfl
  | some v => exact clip_eq v n 0
 ·cases hi with
  | none => rfl
  | some v => exact clip_eq v n n
theorem places_gen (i j : Nat) : Builtin.Slice.slicePlaces (i : Int) (j : Int) 1 = j - i := by
 unfold Builtin.Slice.slicePlaces
 have h1 : (1 : Int) > 0 := by omega
 simp only [h1, if_true, Int.ediv_one]
 split <;> omega
theorem slicePart_ {v : Value} {o : Option Int} {Q : Option Int -> Shared -> Prop} (p : IsPart v o) (h : Q o s) : wpAny (model prog w) A (Builtin.Slice.slicePartIndex v) Q E s := by
 cases p with
 | none => exact slicePart_none h
 | int i t => exact slicePart_int h
theorem sliceApplied_gen {sl : Addr} {vl vu : Value} {lo hi : Option Int} {n : Nat} {Q : Int × Int × Nat -> Shared -> Prop} (hs : s.heap.IsSliceOf sl vl vu .none) (pl : IsPart vl lo) (pu : IsPart vu hi)
  (h : Q (((sIx n 0 lo : Nat) : Int), 1, sIx n n hi - sIx n 0 lo) s) : wpAny (model prog w) A (Builtin.Slice.sliceApplied (.ref sl) (pure (n : Int))) Q E s := by
 obtain ⟨os, hos, hcs, hds⟩ := id hs
 unfold Builtin.Slice.sliceApplied Builtin.Slice.sliceFields
 refine wpAny_bind (wpAny_bind (wpAny_field hos hds (x := vl) rfl (wpAny_bind (wpAny_field hos hds (x := vu) rfl (wpAny_bind (wpAny_field hos hds (x := .none) rfl (wpAny_pure ?_)))))))
 refine wpAny_bind (slicePart_none ?_)
 show wpAny _ _ (if ((1 : Int) == 0) = true then _ else _) _ _ s
 rw [if_neg (by decide)]
 refine wpAny_bind (slicePart_ pl (wpAny_bind (slicePart_ pu (wpAny_bind (wpAny_pure ?_)))))
 show wpAny _ _ (match Builtin.Slice.sliceAdjust lo hi 1 (n : Int) with | (lo, hi) => pure (lo, (1 : Int), Builtin.Slice.slicePlaces lo hi 1)) _ _ s
 rw [adjust_gen lo hi n]
 show wpAny _ _ (pure (((sIx n 0 lo : Nat) : Int), (1 : Int), Builtin.Slice.slicePlaces ((sIx n 0 lo : Nat) : Int) ((sIx n n hi : Nat) : Int) 1)) _ _ s
 rw [places_gen]
 exact wpAny_pure h
theorem pick_gen (xs : Array Value) (i k : Nat) : ((List.range k).filterMap fun (m : Nat) => xs[((i : Int) + (m : Int) * 1).toNat]?).toArray = ((xs.toList.drop i).take k).toArray := by
 have e : (fun (m : Nat) => xs[((i : Int) + (m : Int) * 1).toNat]?) = fun m => xs[i + m]? := by
  funext m
  have : ((i : Int) + (m : Int) * 1).toNat = i + m := by omega
  rw [this]
 rw [e]
 have := pick_run xs i k
 rw [List.filterMap_map] at this
 have e2 : ((fun x => xs[x]?) ∘ fun x => i + x) = fun m => xs[i + m]? := rfl
 rw [e2] at this
 rw [this]
theorem getItem_tuple_cut {t sl : Addr} {items : Array Value} {vl vu : Value} {lo hi : Option Int} {Q : Value -> Shared -> Prop} (ht : IsTup s.heap t items) (hs : s.heap.IsSliceOf sl vl vu .none) (pl : IsPart vl lo) (pu : IsPart vu hi)
  (hw : ¬ (sIx items.size 0 lo = 0 /\ sIx items.size items.size hi = items.size))
  (h : Q (.ref s.heap.objs.size) { s with heap := s.heap.push { cls := .type "tuple", data := .seq ((items.toList.drop (sIx items.size 0 lo)).take (sIx items.size items.size hi - sIx items.size 0 lo)).toArray } })
  (hsz : items.size <= sizeLine) : wpAny (model prog w) A (getItem (.ref t) (.ref sl)) Q E s := by
 have htake : sizeOk (.seq ((items.toList.drop (sIx items.size 0 lo)).take (sIx items.size items.size hi - sIx items.size 0 lo)).toArray) := by
  show ((items.toList.drop (sIx items.size 0 lo)).take (sIx items.size items.size hi - sIx items.size 0 lo)).toArray.size <= sizeLine
  rw [List.size_toArray, List.length_take, List.length_drop, Array.length_toList]
  omega
 have hj : sIx items.size items.size hi <= items.size := sIx_le _ _ (Nat.le_refl _) hi
 obtain ⟨os, hos, hcs, hds⟩ := id hs
 have hTs : s.TypeIs (.ref sl) "slice" := ⟨os, hos, hcs⟩
 unfold getItem
 try with_reducible refine wpAny_holding ?_
 first | refine wpAny_bind (wpAny_pure ?_) | skip
 refine wpAny_bind (wpAny_sequenceKey ht.typeIs (by decide) ?_)
 refine wpAny_bind (wpAny_callSpecial?_slot (name := Str.ofString "__getitem__") ht.typeIs PyProof.Rows.slot_tuple_getitem
  (wpAny_call_entry PyProof.Rows.slot_tuple_getitem ht.typeIs entry_tuple_getitem ?_ (args_tuple_getitem _ _)))
 show wpAny _ _ (Builtin.Tuple.tupleItemsOf (.ref t) >>= _) _ _ s
 refine wpAny_bind (tupleItemsOf_ ht ?_)
 refine wpAny_bind (wpAny_typeOf hTs ?_)
 rw [if_pos (by decide)]
 refine wpAny_bind (sliceApplied_gen hs pl pu ?_)
 have hno : ¬ ((((sIx items.size 0 lo : Nat) : Int) == 0 && (1 : Int) == 1 && (sIx items.size items.size hi - sIx items.size 0 lo) == items.size) = true) := by
  intro q
  rw [Bool.and_eq_true, Bool.and_eq_true] at q
  have q1 : ((sIx items.size 0 lo : Nat) : Int) = 0 := eq_of_beq q.1.1
  have q2 : sIx items.size items.size hi - sIx items.size 0 lo = items.size := eq_of_beq q.2
  exact hw ⟨by omega, by omega⟩
 show wpAny _ _ (if (((sIx items.size 0 lo : Nat) : Int) == 0 && (1 : Int) == 1 && (sIx items.size items.size hi - sIx items.size 0 lo) == items.size) = true then _ else _) _ _ s
 rw [if_neg hno, pick_gen]
 first
  | exact wpAny_bind (m := Builtin.Tuple.tupleExact _) (wpAny_newObj_type (wpAny_pure ⟨_, rfl, wpAny_pure h⟩) htake)
  | exact wpAny_bind (m := Builtin.Tuple.tupleExact _) (wpAny_newObj_type (wpAny_bind (wpAny_pure (wpAny_pure ⟨_, rfl, wpAny_pure h⟩))) htake)
  | exact wpAny_bind (wpAny_bind (m := Builtin.Tuple.tupleExact _) (wpAny_newObj_type (wpAny_pure (wpAny_pure ⟨_, rfl, wpAny_pure h⟩)) htake))
  | exact wpAny_bind (wpAny_bind (m := Builtin.Tuple.tupleExact _) (wpAny_newObj_type (wpAny_pure ⟨_, rfl, wpAny_pure h⟩) htake))
end
end HT
namespace L2
open PySem PySem.Spec PyProof.Rows
noncomputable abbrev TO := St -> Hp -> (Option Int -> Hp -> Prop) -> Prop
def PO (X : Cx) (e : Option Expr) (t : TO) : Prop :=
 ∀ (pins : List (Addr × Obj)) (s : Shared) (σ : St) (H : Hp) (Q : Option Int -> Hp -> Prop), Inv X pins σ H s -> t σ H Q ->
  wpAny (model X.prog X.w) X.A (evalPart e X.env) (fun u s' => ∃ o H', Inv X pins σ H' s' /\ IsPart u o /\ Q o H') X.xe s
def tNoPart : TO := fun _ H Q => Q none H
def tPart (t : TE) : TO := fun σ H Q => t σ H fun x H1 => ∃ i, x = .int i /\ Q (some i) H1
section
variable {X : Cx} {e : Expr} {te : TE} {lo hi : Option Expr} {tl th : TO} {pos p2 : Pos}
theorem po_none : PO X none tNoPart := by
 intro pins s σ H Q I h
 rw [evalPart_none]
 exact wpAny_pure ⟨none, H, I, .none, h⟩
theorem po_some (h : PE X e te) : PO X (some e) (tPart te) := by
 intro pins s σ H Q I hw
 rw [evalPart_some]
 refine thn (h pins s σ H _ I hw) fun u s1 hh => ?_
 obtain ⟨x, H1, I1, r1, q1⟩ := hh
 obtain ⟨i, rfl, q⟩ := q1
 obtain ⟨t, rfl⟩ := r1
 exact ⟨some i, H1, I1, .int i t, q⟩
def SlR (X : Cx) (r : V -> Option Int -> Option Int -> Hp -> VK -> Prop) : Prop :=
 ∀ (pins : List (Addr × Obj)) (s : Shared) (σ : St) (H : Hp) (x : V) (v vl vu : Value) (lo hi : Option Int) (sl : Addr) (Q : VK), Inv X pins σ H s -> RelV x v -> s.heap.IsSliceOf sl vl vu .none -> IsPart vl lo -> IsPart vu hi -> r x lo hi H Q ->
  ∃ T id, typeLookup (.type T) "__getitem__" = pure (some (.builtin id)) /\ s.TypeIs v T /\ wpAny (model X.prog X.w) X.A (getItem v (.ref sl)) (EP X pins σ Q) X.xe s
theorem SlR.or {r r' : V -> Option Int -> Option Int -> Hp -> VK -> Prop} (h : SlR X r) (h' : SlR X r') : SlR X (fun x lo hi H Q => r x lo hi H Q \/ r' x lo hi H Q) := by
 intro pins s σ H x v vl vu lo hi sl Q I rx hs pl pu q
 rcases q with q | q
 ·exact h pins s σ H x v vl vu lo hi sl Q I rx hs pl pu q
 ·exact h' pins s σ H x v vl vu lo hi sl Q I rx hs pl pu q
def tSl (r : V -> Option Int -> Option Int -> Hp -> VK -> Prop) (te : TE) (tl th : TO) : TE := fun σ H Q => te σ H fun x H1 => tl σ H1 fun l H2 => th σ H2 fun u H3 => r x l u H3 Q
theorem pe_slice {r : V -> Option Int -> Option Int -> Hp -> VK -> Prop} (hr : SlR X r) (he : PE X e te) (hl : PO X lo tl) (hu : PO X hi th) : PE X (.Subscript e (.Slice lo hi none p2) pos) (tSl r te tl th) := by
 intro pins s σ H Q I h
 refine Subscript_ (thn (he pins s σ H _ I h) fun v s1 hh => ?_)
 obtain ⟨x, H1, I1, r1, q1⟩ := hh
 refine wpAny_Slice (thn (hl pins s1 σ H1 _ I1 q1) fun vl s2 hh => ?_)
 obtain ⟨l, H2, I2, pl, q2⟩ := hh
 refine thn (hu pins s2 σ H2 _ I2 q2) fun vu s3 hh => ?_
 obtain ⟨u, H3, I3, pu, q3⟩ := hh
 rw [evalPart_none]
 refine wpAny_pure ?_
 have I4 : Inv X pins σ H3 { s3 with heap := s3.heap.push { cls := .type "slice", data := .fields #[vl, vu, .none] } } := I3.kept (t' := s3.toks) fun b ob q => Heap.get?_push_of_some _ q
 obtain ⟨T, id, hT, ht, hg⟩ := hr pins { s3 with heap := s3.heap.push { cls := .type "slice", data := .fields #[vl, vu, .none] } } σ H3 x v vl vu l u s3.heap.objs.size Q I4 r1 (Heap.IsSliceOf.new ..) pl pu q3
 show wpAny (model X.prog X.w) X.A (subscriptTail e (.Slice lo hi none p2) v (.ref s3.heap.objs.size)) (EP X pins σ Q) X.xe { s3 with heap := s3.heap.push { cls := .type "slice", data := .fields #[vl, vu, .none] } }
 exact tail_any (ops := [.ref s3.heap.objs.size, v]) ht hT hg (by with_unfolding_all rfl)
noncomputable def cutV (xs : List V) (lo hi : Option Int) : List V := (xs.drop (HT.sIx xs.length 0 lo)).take (HT.sIx xs.length xs.length hi - HT.sIx xs.length 0 lo)
theorem cutV_length (xs : List V) (lo hi : Option Int) : (cutV xs lo hi).length <= xs.length := by
 unfold cutV
 rw [List.length_take, List.length_drop]
 omega
def rSlT (K : PySem.W.Frag) : V -> Option Int -> Option Int -> Hp -> VK -> Prop := fun x lo hi H Q => ∃ a xs, x = .ref a /\ SqT K H a xs /\
 ¬ (HT.sIx xs.length 0 lo = 0 /\ HT.sIx xs.length xs.length hi = xs.length) /\ ∀ p, H p = none -> Q (.ref p) (upd H p (.tup (cutV xs lo hi)))
theorem sl_tup : SlR X (rSlT X.K) := by
 intro pins s σ H x v vl vu lo hi sl Q I rx hs pl pu h
 obtain ⟨a, xs, rfl, hx, hw, q⟩ := h
 cases rx
 obtain ⟨its, r, ht, hz⟩ := I.tuple hx
 have hlen : its.toArray.size = xs.length := by rw [List.size_toArray]; exact r.length.symm
 refine ⟨"tuple", _, PyProof.Rows.slot_tuple_getitem.lookup, ht.typeIs, ?_⟩
 refine HT.getItem_tuple_cut ht hs pl pu (by rw [hlen]; exact hw) ?_ (by rw [hlen]; exact hz)
 rw [hlen]
 refine ⟨.ref s.heap.objs.size, _, I.laid (t' := s.toks) (o := .tup (cutV xs lo hi)) (fun b ob q => Heap.get?_push_of_some _ q) (Nat.le_refl _) ?_, rfl, q _ (I.hok.fresh (Nat.le_refl _))⟩
 exact ⟨Nat.le_trans (cutV_length xs lo hi) hz, _, (r.drop (HT.sIx xs.length 0 lo)).take (HT.sIx xs.length xs.length hi - HT.sIx xs.length 0 lo), IsTupD.new _ _⟩
noncomputable def rCatT (K : PySem.W.Frag) : R2 := fun x y H Q => ∃ a b xs ys, x = .ref a /\ y = .ref b /\ SqT K H a xs /\ SqT K H b ys /\ xs ≠ [] /\ xs.length + ys.length <= sizeLine /\
 (ys = [] -> Q (.ref a) H) /\ (ys ≠ [] -> ∀ p, H p = none -> Q (.ref p) (upd H p (.tup (xs ++ ys))))
theorem Vals.nil_iff {xs : List V} {us : List Value} (r : Vals xs us) : us = [] ↔ xs = [] := by
 cases r with
 | nil => simp
 | cons _ _ => simp
theorem op_catT : OpR X (binaryOp .Add) (rCatT X.K) := by
 intro pins s σ H x y v u Q I rx ry h
 obtain ⟨a, b, xs, ys, rfl, rfl, ha, hb, hx, hz, q1, q2⟩ := h
 cases rx
 cases ry
 obtain ⟨its, r1, p1, _⟩ := I.tuple ha
 obtain ⟨its2, r2, p2, _⟩ := I.tuple hb
 refine HT.cat_tup p1 p2 (fun z => hx (r1.nil_iff.mp z)) (fun z => ⟨.ref a, H, I, rfl, q1 (r2.nil_iff.mp z)⟩) (fun z => ?_) (by rw [← r1.length, ← r2.length]; exact hz)
 refine ⟨.ref s.heap.objs.size, _, I.laid (t' := s.toks) (o := .tup (xs ++ ys)) (fun b ob q => Heap.get?_push_of_some _ q) (Nat.le_refl _) ?_, rfl, q2 (fun w => z (r2.nil_iff.mpr w)) _ (I.hok.fresh (Nat.le_refl _))⟩
 exact ⟨by rw [List.length_append]; exact hz, _, r1.append r2, IsTupD.new _ _⟩
end
end L2
namespace L2
open PySem PySem.Spec PyProof.Rows
noncomputable def ixN (n : Nat) (i : Int) : Option Nat := if 0 <= i then (if i < n then some i.toNat else none) else if -(n : Int) <= i then some (i + n).toNat else none
noncomputable def atI {α : Type} (xs : List α) (i : Int) : Option α := (ixN xs.length i).bind fun j => xs[j]?
theorem ixN_seq {n : Nat} {i : Int} {j : Nat} (h : ixN n i = some j) : seqIndex? i n = some j /\ j < n /\ -(n : Int) <= i /\ i < n := by
 unfold ixN at h
 by_cases h0 : 0 <= i
 ·rw [if_pos h0] at h
  by_cases h1 : i < n
  ·rw [if_pos h1] at h
   have e : i.toNat = j := Option.some.inj h
   exact ⟨by rw [seqIndex_of h0 h1, e], by omega, by omega, h1⟩
  ·rw [if_neg h1] at h; cases h
 ·rw [if_neg h0] at h
  by_cases h1 : -(n : Int) <= i
  ·rw [if_pos h1] at h
   have e : (i + n).toNat = j := Option.some.inj h
   exact ⟨by rw [seqIndex_neg (by omega) h1, e], by omega, h1, by omega⟩
  ·rw [if_neg h1] at h; cases h
theorem atI_get {α : Type} {xs : List α} {i : Int} {v : α} (h : atI xs i = some v) : ∃ j, seqIndex? i xs.length = some j /\ xs[j]? = some v /\ j < xs.length /\ -(xs.length : Int) <= i /\ i < xs.length := by
 unfold atI at h
 cases e : ixN xs.length i with
 | none => rw [e] at h; cases h
 | some j =>
  rw [e] at h
  obtain ⟨h1, h2, h3, h4⟩ := ixN_seq e
  exact ⟨j, h1, h, h2, h3, h4⟩
def PlainIx (b : Expr) : Prop := ∀ o i, subscripted b false o i = operate [o, i] (getItem o i)
def IxR (X : Cx) (r : R2) : Prop :=
 ∀ (value slice : Expr) (pins : List (Addr × Obj)) (s : Shared) (σ : St) (H : Hp) (x y : V) (v u : Value) (Q : VK), Inv X pins σ H s -> RelV x v -> RelV y u -> r x y H Q ->
  subscripted slice false v u = operate [v, u] (getItem v u) -> wpAny (model X.prog X.w) X.A (subscriptTail value slice v u) (EP X pins σ Q) X.xe s
def MtR (X : Cx) (id : String) (r : V -> List V -> Hp -> VK -> Prop) : Prop :=
 ∀ (pins : List (Addr × Obj)) (s : Shared) (σ : St) (H : Hp) (x : V) (xs : List V) (v : Value) (us : List Value) (Q : VK), Inv X pins σ H s -> RelV x v -> Vals xs us -> r x xs H Q ->
  wpAny (model X.prog X.w) X.A (call (.builtin id) (v :: us)) (EP X pins σ Q) X.xe s
section
variable {X : Cx} {a b : Expr} {ta tb : TE} {pos : Pos}
theorem IxR.or {r r' : R2} (h : IxR X r) (h' : IxR X r') : IxR X (fun x y H Q => r x y H Q \/ r' x y H Q) := by
 intro value slice pins s σ H x y v u Q I rx ry q hs
 rcases q with q | q
 ·exact h value slice pins s σ H x y v u Q I rx ry q hs
 ·exact h' value slice pins s σ H x y v u Q I rx ry q hs
theorem pe_ix {r : R2} (hr : IxR X r) (ha : PE X a ta) (hb : PE X b tb) (hs : PlainIx b) : PE X (.Subscript a b pos) (tOp r ta tb) := by
 intro pins s σ H Q I h
 exact Subscript_ (binT ha hb I h fun v u s2 x y H2 I2 rx ry q => hr a b pins s2 σ H2 x y v u Q I2 rx ry q (hs _ _))
noncomputable def rIxL (K : PySem.W.Frag) : R2 := fun x y H Q => ∃ p xs i v, x = .ref p /\ y = .int i /\ SqL K H p xs /\ atI xs i = some v /\ Q v H
noncomputable def rIxT (K : PySem.W.Frag) : R2 := fun x y H Q => ∃ p xs i v, x = .ref p /\ y = .int i /\ SqT K H p xs /\ atI xs i = some v /\ Q v H
noncomputable def rIxS : R2 := fun x y H Q => ∃ z i c, x = .str z /\ y = .int i /\ z.length <= sizeLine /\ atI z.cps.toList i = some c /\ Q (.str ⟨#[c]⟩) H
theorem ix_list : IxR X (rIxL X.K) := by
 intro value slice pins s σ H x y v u Q I rx ry h hs
 obtain ⟨p, xs, i, z, rfl, rfl, hq, he, q⟩ := h
 cases rx
 obtain ⟨t, rfl⟩ := ry
 obtain ⟨its, r, pl, hz⟩ := I.list hq
 obtain ⟨j, h1, h2, h3, h4, h5⟩ := atI_get he
 obtain ⟨w, ew, rw'⟩ := r.get h2
 have hl := r.length
 have hn := line63
 have fin : EP X pins σ Q w s := ⟨z, H, I, rw', q⟩
 by_cases h0 : 0 <= i
 ·have hj : i.toNat = j := by
   rw [seqIndex_of h0 h5] at h1
   exact Option.some.inj h1
  exact item_listR pl.isList h0 (by omega) (by rw [hj]; simpa using ew) fin hs
 ·have hj : (i + (its.toArray.size : Int)).toNat = j := by
   rw [seqIndex_neg (by omega) h4] at h1
   rw [List.size_toArray, ← hl]
   exact Option.some.inj h1
  exact subscriptTail_builtinR (x := w) pl.isList.typeIs slot_list_getitem.lookup
   (wpAny_getItem_list_neg (Q := fun r s' => r = w /\ EP X pins σ Q r s') pl.isList (by omega) (by rw [List.size_toArray] <;> omega) (by omega) (by rw [hj]; simpa using ew) ⟨rfl, fin⟩) hs
theorem ix_tup : IxR X (rIxT X.K) := by
 intro value slice pins s σ H x y v u Q I rx ry h hs
 obtain ⟨p, xs, i, z, rfl, rfl, hq, he, q⟩ := h
 cases rx
 obtain ⟨t, rfl⟩ := ry
 obtain ⟨its, r, pl, hz⟩ := I.tuple hq
 obtain ⟨j, h1, h2, h3, h4, h5⟩ := atI_get he
 obtain ⟨w, ew, rw'⟩ := r.get h2
 have hl := r.length
 have hn := line63
 have fin : EP X pins σ Q w s := ⟨z, H, I, rw', q⟩
 exact subscriptTail_builtinR (x := w) pl.typeIs slot_tuple_getitem.lookup
  (getItem_tuple (j := j) (Q := fun r s' => r = w /\ EP X pins σ Q r s') pl (by omega) (by omega) (by rw [List.size_toArray, ← hl]; exact h1) (by simpa using ew) ⟨rfl, fin⟩) hs
theorem ix_str : IxR X rIxS := by
 intro value slice pins s σ H x y v u Q I rx ry h hs
 obtain ⟨z, i, c, rfl, rfl, hz, he, q⟩ := h
 obtain ⟨t, rfl⟩ := rx
 obtain ⟨t', rfl⟩ := ry
 obtain ⟨j, h1, h2, h3, h4, h5⟩ := atI_get he
 have hl : z.cps.toList.length = z.length := by simp [Str.length]
 rw [hl] at h1 h4 h5
 have hn := line63
 exact tail_any (typeIs_str s z t) slot_str_getitem.lookup (getItem_str (c := c) (by
  have e1 : decide (i < -(2 ^ 63 : Int)) = false := decide_eq_false (by omega)
  have e2 : decide (i >= 2 ^ 63) = false := decide_eq_false (by omega)
  rw [e1, e2, Bool.or_false]) (by rw [h1]; simpa using h2) ⟨.str ⟨#[c]⟩, H, I.tok _, ⟨_, rfl⟩, q⟩) hs
noncomputable def rIx (K : PySem.W.Frag) : R2 := fun x y H Q => rIxL K x y H Q \/ rIxT K x y H Q \/ rIxS x y H Q
theorem ix_seq : IxR X (rIx X.K) := ix_list.or (ix_tup.or ix_str)
theorem mapSeq_set (its : List Value) (n j : Nat) (u : Value) : Obj.mapSeq (·.setIfInBounds j u) { cls := .type "list", data := .seq its.toArray n } = { cls := .type "list", data := .seq (its.set j u).toArray n } := by
 simp [Obj.mapSeq]
theorem Inv.lst {pins : List (Addr × Obj)} {σ : St} {H : Hp} {s : Shared} {p : Addr} {xs : List V} (I : Inv X pins σ H s) (h : H p = some (.lst xs)) :
  ∃ (its : List Value) (n : Nat), Vals xs its /\ s.heap.get? p = some { cls := .type "list", data := .seq its.toArray n } /\ xs.length <= sizeLine := by
 obtain ⟨z, its, n, r, e⟩ := I.hok p _ h
 exact ⟨its, n, r, e, z⟩
theorem Inv.lstUpd {pins : List (Addr × Obj)} {σ : St} {H : Hp} {s : Shared} {p : Addr} {xs ys : List V} {its its' : List Value} {n n' : Nat} {f : Obj -> Obj} (I : Inv X pins σ H s) (h : H p = some (.lst xs))
  (ho : s.heap.get? p = some { cls := .type "list", data := .seq its.toArray n }) (hf : f { cls := .type "list", data := .seq its.toArray n } = { cls := .type "list", data := .seq its'.toArray n' }) (r : Vals ys its') (hz : ys.length <= sizeLine) (t : Nat) :
  Inv X pins σ (upd H p (.lst ys)) { s with heap := s.heap.update p f, toks := t } := by
 have e : (s.heap.update p f).get? p = some { cls := .type "list", data := .seq its'.toArray n' } := by
  rw [Heap.get?_update_self f ho (by rw [hf] <;> rfl), hf]
 refine I.write (x := p) (e := p) (by rw [h]; trivial) (.inl rfl) (fun b u hb q => (Heap.get?_update_other _ _ (Ne.symm hb)).trans q) ⟨_, e⟩ ?_
 exact ⟨hz, its', n', r, e⟩
def rSetL : V -> V -> V -> Hp -> (Hp -> Prop) -> Prop := fun o i v H Q => ∃ p xs k j, o = .ref p /\ i = .int k /\ H p = some (.lst xs) /\ ixN xs.length k = some j /\ Q (upd H p (.lst (xs.set j v)))
theorem set_list : PSet X rSetL := by
 intro pins s σ H o i v ov iv u Q I ro ri rv h
 obtain ⟨p, xs, k, j, rfl, rfl, hp, hj, q⟩ := h
 cases ro
 obtain ⟨t, rfl⟩ := ri
 obtain ⟨its, n, r, ho, hz⟩ := I.lst hp
 obtain ⟨h1, h2, h3, h4⟩ := ixN_seq hj
 have hl := r.length
 have hn := line63
 have I' : Inv X pins σ (upd H p (.lst (xs.set j v))) { s with heap := s.heap.update p (Obj.mapSeq (·.setIfInBounds j u)) } :=
  I.lstUpd hp ho (mapSeq_set its n j u) (r.set rv j) (by rw [List.length_set]; exact hz) s.toks
 by_cases h0 : 0 <= k
 ·have hk : k.toNat = j := by
   rw [seqIndex_of h0 h4] at h1
   exact Option.some.inj h1
  exact PySem.W.ki_setAt ho h0 (by omega) (by rw [List.size_toArray, ← hl]; exact h4) (by rw [hk]; exact ⟨_, I', q⟩)
 ·have hk : (k + (its.toArray.size : Int)).toNat = j := by
   rw [seqIndex_neg (by omega) h3] at h1
   rw [List.size_toArray, ← hl]
   exact Option.some.inj h1
  exact PySem.W.ki_setBack ho (by omega) (by rw [List.size_toArray, ← hl]; exact h3) (by omega) (by rw [hk]; exact ⟨_, I', q⟩)
theorem slice_bounds (lo hi : Option Int) (n : Nat) : (sliceBounds lo hi none n).1 = ((HT.sIx n 0 lo : Nat) : Int) /\ (sliceBounds lo hi none n).2.1 = ((HT.sIx n n hi : Nat) : Int) /\ (sliceBounds lo hi none n).2.2 = 1 := by
 refine ⟨?_, ?_, rfl⟩
 ·cases lo with
  | none => simp [sliceBounds, HT.sIx]
  | some i =>
   simp only [sliceBounds, HT.sIx, Option.getD_none, show (1 : Int) > 0 by decide, if_true]
   by_cases h : i < 0
   ·simp only [h, if_true] <;> omega
   ·simp only [h, if_false] <;> omega
 ·cases hi with
  | none => simp [sliceBounds, HT.sIx]
  | some i =>
   simp only [sliceBounds, HT.sIx, Option.getD_none, show (1 : Int) > 0 by decide, if_true]
   by_cases h : i < 0
   ·simp only [h, if_true] <;> omega
   ·simp only [h, if_false] <;> omega
theorem slicePick_cut (its : List Value) (lo hi : Option Int) : slicePick its.toArray lo hi none = ((its.drop (HT.sIx its.length 0 lo)).take (HT.sIx its.length its.length hi - HT.sIx its.length 0 lo)).toArray := by
 obtain ⟨h1, h2, h3⟩ := slice_bounds lo hi its.toArray.size
 unfold slicePick
 rw [h1, h2, h3]
 simp only [sliceRange_one, pick_run, List.size_toArray] <;> rfl
def rSlL (K : PySem.W.Frag) : V -> Option Int -> Option Int -> Hp -> VK -> Prop := fun x lo hi H Q => ∃ a xs, x = .ref a /\ SqL K H a xs /\ ∀ p, H p = none -> Q (.ref p) (upd H p (.lst (cutV xs lo hi)))
theorem sl_list : SlR X (rSlL X.K) := by
 intro pins s σ H x v vl vu lo hi sl Q I rx hs pl pu h
 obtain ⟨a, xs, rfl, hx, q⟩ := h
 cases rx
 obtain ⟨its, r, ht, hz⟩ := I.list hx
 have hlen := r.length
 refine ⟨"list", _, slot_list_getitem.lookup, ht.isList.typeIs, ?_⟩
 refine wpAny_getItem_list_slice ht.isList hs pl pu .none (by simp) ?_ (by rw [List.size_toArray] <;> omega)
 rw [slicePick_cut, ← hlen]
 refine ⟨.ref s.heap.objs.size, _, I.laid (t' := s.toks) (o := .lst (cutV xs lo hi)) (fun b ob q => Heap.get?_push_of_some _ q) (Nat.le_refl _) ?_, rfl, q _ (I.hok.fresh (Nat.le_refl _))⟩
 exact ⟨Nat.le_trans (cutV_length xs lo hi) hz, _, 0, (r.drop (HT.sIx xs.length 0 lo)).take (HT.sIx xs.length xs.length hi - HT.sIx xs.length 0 lo), Heap.get?_push_size _ rfl⟩
noncomputable def flatV : V -> Bool
 | .non => true
 | .bl _ => true
 | .int _ => true
 | .str _ => true
 | _ => false
noncomputable def eqV : V -> V -> Bool
 | .non, .non => true
 | .bl a, .bl b => a == b
 | .bl a, .int b => (if a then 1 else 0) == b
 | .int a, .bl b => a == (if b then 1 else 0)
 | .int a, .int b => a == b
 | .str a, .str b => a == b
 | _, _ => false
theorem eqAt_V {A : Around} {s : Shared} {y x : V} {u v : Value} (ry : RelV y u) (rx : RelV x v) (fy : flatV y = true) (fx : flatV x = true) : SeqAt.EqAt A s u v (eqV y x) := by
 cases y with
 | non =>
  cases ry
  cases x with
  | non => cases rx; exact SeqAt.EqAt.same _
  | bl b => cases rx; exact SeqAt.EqAt.none_bool b
  | int b => obtain ⟨t, rfl⟩ := rx; exact SeqAt.EqAt.none_int b t
  | str b => obtain ⟨t, rfl⟩ := rx; exact SeqAt.EqAt.none_str b t
  | _ => exact absurd (show false = true from fx) Bool.false_ne_true
 | bl a =>
  cases ry
  cases x with
  | non => cases rx; exact SeqAt.EqAt.bool_none a
  | bl b => cases rx; exact SeqAt.EqAt.bool_bool a b
  | int b => obtain ⟨t, rfl⟩ := rx; exact SeqAt.EqAt.bool_int a b t
  | str b => obtain ⟨t, rfl⟩ := rx; exact SeqAt.EqAt.bool_str a b t
  | _ => exact absurd (show false = true from fx) Bool.false_ne_true
 | int a =>
  obtain ⟨t', rfl⟩ := ry
  cases x with
  | non => cases rx; exact SeqAt.EqAt.int_none a t'
  | bl b => cases rx; exact SeqAt.EqAt.int_bool a t' b
  | int b => obtain ⟨t, rfl⟩ := rx; exact SeqAt.EqAt.int_int a t' b t
  | str b => obtain ⟨t, rfl⟩ := rx; exact SeqAt.EqAt.int_str a t' b t
  | _ => exact absurd (show false = true from fx) Bool.false_ne_true
 | str a =>
  obtain ⟨t', rfl⟩ := ry
  cases x with
  | non => cases rx; exact SeqAt.EqAt.str_none a t'
  | bl b => cases rx; exact SeqAt.EqAt.str_bool a t' b
  | int b => obtain ⟨t, rfl⟩ := rx; exact SeqAt.EqAt.str_int a t' b t
  | str b => obtain ⟨t, rfl⟩ := rx; exact SeqAt.EqAt.str_str a t' b t
  | _ => exact absurd (show false = true from fx) Bool.false_ne_true
 | _ => exact absurd (show false = true from fy) Bool.false_ne_true
noncomputable def eqU (x : V) (u : Value) : Bool := match u with
 | .none => eqV .non x
 | .bool b => eqV (.bl b) x
 | .int i _ => eqV (.int i) x
 | .str z _ => eqV (.str z) x
 | _ => false
theorem eqU_of {x y : V} {u : Value} (r : RelV y u) (f : flatV y = true) : eqU x u = eqV y x := by
 cases y with
 | non => cases r; rfl
 | bl b => cases r; rfl
 | int i => obtain ⟨t, rfl⟩ := r; rfl
 | str z => obtain ⟨t, rfl⟩ := r; rfl
 | _ => exact absurd (show false = true from f) Bool.false_ne_true
theorem any_eqU {x : V} : ∀ {xs : List V} {us : List Value}, Vals xs us -> xs.all flatV = true -> us.any (eqU x) = xs.any fun y => eqV y x
 | _, _, .nil, _ => rfl
 | y :: xs, u :: us, .cons r t, f => by
  rw [List.all_cons, Bool.and_eq_true] at f
  rw [List.any_cons, List.any_cons, eqU_of r f.1, any_eqU t f.2]
theorem mem_eqAt {A : Around} {s : Shared} {x : V} {v : Value} (rx : RelV x v) (fx : flatV x = true) : ∀ {xs : List V} {us : List Value}, Vals xs us -> xs.all flatV = true -> ∀ u ∈ us, SeqAt.EqAt A s u v (eqU x u)
 | _, _, .nil, _ => fun u hu => by cases hu
 | y :: xs, u :: us, .cons r t, f => fun u' hu => by
  rw [List.all_cons, Bool.and_eq_true] at f
  rcases List.mem_cons.mp hu with rfl | hu
  ·rw [eqU_of r f.1]; exact eqAt_V r rx f.1 fx
  ·exact mem_eqAt rx fx t f.2 u' hu
noncomputable def inV (x : V) (xs : List V) : Bool := xs.any fun y => eqV y x
noncomputable def rIn (K : PySem.W.Frag) (neg : Bool) : R2 := fun x y H Q => ∃ p xs, y = .ref p /\ (SqL K H p xs \/ SqT K H p xs) /\ flatV x = true /\ xs.all flatV = true /\ Q (.bl (if neg then !inV x xs else inV x xs)) H
theorem op_in_seq : OpR X (compareOp .In) (rIn X.K false) := by
 intro pins s σ H x y v u Q I rx ry h
 obtain ⟨p, xs, rfl, hq, fx, fs, q⟩ := h
 cases ry
 rcases hq with hq | hq
 ·obtain ⟨its, r, pl, hz⟩ := I.list hq
  refine SeqAt.in_listAt (eqU x) pl.isList (fun w hw => mem_eqAt rx fx r fs w (by simpa using hw)) ⟨.bl _, H, I, rfl, ?_⟩
  rw [show its.toArray.any (eqU x) = its.any (eqU x) by simp, any_eqU r fs]
  exact q
 ·obtain ⟨its, r, pl, hz⟩ := I.tuple hq
  refine SeqAt.in_tupleAt (eqU x) pl (fun w hw => mem_eqAt rx fx r fs w (by simpa using hw)) ⟨.bl _, H, I, rfl, ?_⟩
  rw [show its.toArray.any (eqU x) = its.any (eqU x) by simp, any_eqU r fs]
  exact q
theorem call_len_seq : CallR X (.builtin "len") (fun xs H Q => ∃ p ys, xs = [.ref p] /\ (SqL X.K H p ys \/ SqT X.K H p ys) /\ Q (.int ys.length) H) := by
 intro pins s σ H xs us Q I r h
 obtain ⟨p, ys, rfl, hq, q⟩ := h
 obtain ⟨u, rfl, rx⟩ := vals1 r
 cases rx
 have hn := line63
 rcases hq with hq | hq
 ·obtain ⟨its, r', pl, hz⟩ := I.list hq
  have hlen := r'.length
  exact Calls.call_len_list pl.isList (by simp only [List.size_toArray] <;> omega) ⟨.int ys.length, H, I.tok _, ⟨s.toks + 1, by rw [List.size_toArray, hlen]⟩, q⟩
 ·obtain ⟨its, r', pl, hz⟩ := I.tuple hq
  have hlen := r'.length
  exact len_tuple pl (by simp only [List.size_toArray] <;> omega) ⟨.int ys.length, H, I.tok _, ⟨s.toks + 1, by rw [List.size_toArray, hlen]⟩, q⟩
theorem call_len_str : CallR X (.builtin "len") (fun xs H Q => ∃ z, xs = [.str z] /\ z.length <= sizeLine /\ Q (.int z.length) H) := by
 intro pins s σ H xs us Q I r h
 obtain ⟨z, rfl, hz, q⟩ := h
 obtain ⟨u, rfl, t, rfl⟩ := vals1 r
 have hn := line63
 exact len_str (by omega) ⟨.int z.length, H, I.tok _, ⟨_, rfl⟩, q⟩
theorem call_tuple_of : CallR X (.type "tuple") (fun xs H Q => ∃ p ys, xs = [.ref p] /\ ((SqL X.K H p ys /\ ∀ l, H l = none -> Q (.ref l) (upd H l (.tup ys))) \/ (SqT X.K H p ys /\ Q (.ref p) H))) := by
 intro pins s σ H xs us Q I r h
 obtain ⟨p, ys, rfl, h⟩ := h
 obtain ⟨u, rfl, rx⟩ := vals1 r
 cases rx
 rcases h with ⟨hq, q⟩ | ⟨hq, q⟩
 ·obtain ⟨its, r', pl, hz⟩ := I.list hq
  have hlen := r'.length
  refine call_tuple_list pl.isList (fun h' kp => ?_) (by simp only [List.size_toArray] <;> omega)
  have I1 : Inv X pins σ H { s with heap := h' } := I.kept (t' := s.toks) kp
  have I2 : Inv X pins σ (upd H h'.objs.size (.tup ys)) { s with heap := h'.push { cls := .type "tuple", data := .seq its.toArray } } :=
   I1.laid (t' := s.toks) (fun b o e => Heap.get?_push_of_some _ e) (Nat.le_refl _) (show ObjOk X.prog X.w _ _ _ (.tup ys) from ⟨hz, its, r', IsTupD.new _ _⟩)
  exact ⟨.ref h'.objs.size, _, I2, rfl, q _ (I1.hok.fresh (Nat.le_refl _))⟩
 ·obtain ⟨its, r', pl, hz⟩ := I.tuple hq
  exact call_tuple_same pl ⟨.ref p, H, I, rfl, q⟩
def tyV (K : PySem.W.Frag) (T : String) (x : V) (H : Hp) : Prop := match x with
 | .str _ => T = "str"
 | .int _ => T = "int"
 | .ref p => (T = "list" /\ ∃ xs, SqL K H p xs) \/ (T = "tuple" /\ ∃ o, K.lookup p = some o /\ o.cls = .type "tuple" /\ o.dict = none) \/
   (T = "dict" /\ ((∃ kvs, H p = some (.dK kvs)) \/ ∃ kvs, H p = some (.dT kvs))) \/ (T = "set" /\ ∃ S n, H p = some (.set S n))
 | _ => False
theorem tyV_is {pins : List (Addr × Obj)} {σ : St} {H : Hp} {s : Shared} {T : String} {x : V} {v : Value} (I : Inv X pins σ H s) (r : RelV x v) (ty : tyV X.K T x H) :
  s.TypeIs v T /\ ∀ a, v = .ref a -> ∃ ob, s.heap.get? a = some ob /\ ob.dict = none := by
 cases x with
 | str z =>
  obtain ⟨t, rfl⟩ := r
  cases (show T = "str" from ty)
  exact ⟨typeIs_str s z t, fun _ e => nomatch e⟩
 | int i =>
  obtain ⟨t, rfl⟩ := r
  cases (show T = "int" from ty)
  exact ⟨typeIs_int s i t, fun _ e => nomatch e⟩
 | ref p =>
  cases r
  rcases ty with ⟨rfl, xs, hq⟩ | ⟨rfl, o, hk, hc, hd⟩ | ⟨rfl, hk⟩ | ⟨rfl, S, n, hk⟩
  ·obtain ⟨its, _, pl, _⟩ := I.list hq
   refine ⟨pl.isList.typeIs, fun a e => ?_⟩
   cases e
   obtain ⟨o, n, e, c, hd, _⟩ := pl
   exact ⟨o, e, hd⟩
  ·refine ⟨⟨o, I.kIn p o hk, hc⟩, fun a e => ?_⟩
   cases e
   exact ⟨o, I.kIn _ o hk, hd⟩
  ·have z : ∃ o, s.heap.get? p = some o /\ o.ExactDict := by
    rcases hk with ⟨kvs, hk⟩ | ⟨kvs, hk⟩
    ·obtain ⟨_, _, _, _, o, _, _, e, ex, _⟩ := I.hok p _ hk
     exact ⟨o, e, ex⟩
    ·obtain ⟨_, _, _, _, o, _, _, e, ex, _⟩ := I.hok p _ hk
     exact ⟨o, e, ex⟩
   obtain ⟨o, e, ex⟩ := z
   refine ⟨⟨o, e, ex.1⟩, fun a e2 => ?_⟩
   cases e2
   exact ⟨o, e, ex.2.1⟩
  ·obtain ⟨o, _, _, _, e, ex, _⟩ := I.hok p _ hk
   refine ⟨⟨o, e, ex.1⟩, fun a e2 => ?_⟩
   cases e2
   exact ⟨o, e, ex.2.1⟩
 | _ => exact False.elim ty
def tBM0 (K : PySem.W.Frag) (T : String) (r : V -> List V -> Hp -> VK -> Prop) (to : TE) : TE := fun σ H Q => to σ H fun x H1 => tyV K T x H1 /\ r x [] H1 Q
def tBM (K : PySem.W.Frag) (T : String) (r : V -> List V -> Hp -> VK -> Prop) (to : TE) (t : TA) : TE := fun σ H Q => to σ H fun x H1 => tyV K T x H1 /\ t σ H1 fun xs H2 => r x xs H2 Q
variable {o e : Expr} {es : List Expr} {to : TE} {t : TA} {name : Str} {apos cpos : Pos} {T id : String} {r : V -> List V -> Hp -> VK -> Prop}
theorem pe_bm0 (pa : PlainAttrs T) (slot : Slot T name id) (hty : typeOf (.builtin id) = pure (.type "method_descriptor")) (hm : MtR X id r) (ho : PE X o to)
  (hbase : attributeBase o name X.env (eval o X.env) = eval o X.env := by rfl) (hline : (apos.endLine == cpos.line) = true := by rfl) : PE X (.Call (.Attribute o name apos) [] [] cpos) (tBM0 X.K T r to) := by
 intro pins s σ H Q I h
 refine wpAny_Call_method0_late hbase hline (thn (ho pins s σ H _ I h) fun v s1 hh => ?_)
 obtain ⟨x, H1, I1, r1, ty, q1⟩ := hh
 obtain ⟨h1, h2⟩ := tyV_is I1 r1 ty
 exact ⟨T, id, pa, slot, hty, h1, h2, Calls.callWith_builtin rfl (PySem.evalArgs_none (hm pins s1 σ H1 x [] v [] Q I1 r1 .nil q1))⟩
theorem pe_bm (pa : PlainAttrs T) (slot : Slot T name id) (hty : typeOf (.builtin id) = pure (.type "method_descriptor")) (hm : MtR X id r) (ho : PE X o to) (ha : PA X (e :: es) t)
  (hbase : attributeBase o name X.env (eval o X.env) = eval o X.env := by rfl)
  (hfew : ((backTo cpos (starEach (e :: es) X.env)).all (fun x => !x.1) && (backToKw cpos (keywordEach [] X.env)).all (fun x => x.1.isSome)
   && decide ((e :: es).length + ([] : List Keyword).length + (if ([] : List Keyword).isEmpty then 0 else 1) < 30)) = true := by rfl)
  (hline : (apos.endLine == cpos.line) = true := by rfl) (hs : starEach (e :: es) X.env = (false, eval e X.env) :: starEach es X.env := by rfl) (hplain : (backTo cpos (starEach es X.env)).any (·.1) = false := by rfl) :
  PE X (.Call (.Attribute o name apos) (e :: es) [] cpos) (tBM X.K T r to t) := by
 intro pins s σ H Q I h
 refine wpAny_Call_method_late hbase hfew hline rfl (thn (ho pins s σ H _ I h) fun v s1 hh => ?_)
 obtain ⟨x, H1, I1, r1, ty, q1⟩ := hh
 obtain ⟨h1, h2⟩ := tyV_is I1 r1 ty
 refine ⟨T, id, pa, slot, hty, h1, h2, ?_⟩
 have hA := ha cpos pins s1 σ H1 _ I1 q1
 rw [hs] at hA ⊢
 refine Calls.callWith_builtin (by show (false || (backTo cpos (starEach es X.env)).any (·.1)) = false; rw [hplain] <;> rfl) (Calls.evalArgs_plain ?_)
 exact thn hA fun us s2 ⟨vs, H2, I2, r2, q2⟩ => hm pins s2 σ H2 x vs v us Q I2 r1 r2 q2
end
end L2
namespace L2
open PySem PySem.Spec PyProof.Rows
def MtM (X : Cx) (id : String) (r : V -> List V -> Hp -> VK -> Prop) : Prop :=
 ∀ (pins : List (Addr × Obj)) (s : Shared) (σ : St) (H : Hp) (x : V) (xs : List V) (v : Value) (us : List Value) (Q : VK), Inv X pins σ H s -> RelV x v -> Vals xs us -> r x xs H Q ->
  wpAny (model X.prog X.w) X.A (call (.builtin id) (v :: us)) (EP X pins σ Q) X.xe s
theorem Vals.one {x : V} {us : List Value} (h : Vals [x] us) : ∃ u, us = [u] /\ RelV x u := by
 cases h with | cons r t => cases t; exact ⟨_, rfl, r⟩
theorem Vals.zero : ∀ {us : List Value}, Vals [] us -> us = []
 | _, .nil => rfl
theorem Vals.dropLast {xs : List V} {us : List Value} (h : Vals xs us) : Vals xs.dropLast us.dropLast := by
 induction h with
 | nil => exact .nil
 | cons r t ih =>
  cases t with
  | nil => exact .nil
  | cons q t' => exact .cons r ih
theorem erase_last {α : Type} (l : List α) : l.eraseIdx (l.length - 1) = l.dropLast := by
 induction l with
 | nil => rfl
 | cons a r ih =>
  cases r with
  | nil => rfl
  | cons b r =>
   have e : (a :: b :: r).length - 1 = ((b :: r).length - 1) + 1 := by
    have h1 : (a :: b :: r).length = r.length + 2 := rfl
    have h2 : (b :: r).length = r.length + 1 := rfl
    omega
   rw [e, List.eraseIdx_cons_succ, ih]
   all_goals rfl
section
variable {X : Cx} {pins : List (Addr × Obj)} {σ : St} {H : Hp} {s : Shared} {l b : Addr} {xs ys zs : List V}
theorem Inv.lset {its its' : List Value} {n : Nat} {f : Array Value -> Array Value} {t' : Nat} (I : Inv X pins σ H s) (hH : H l = some (.lst xs))
  (e : s.heap.get? l = some { cls := .type "list", data := .seq its.toArray n }) (hf : f its.toArray = its'.toArray) (hv : Vals ys its') (hz : ys.length <= sizeLine) :
  Inv X pins σ (upd H l (.lst ys)) { s with heap := s.heap.update l (Obj.mapSeq f), toks := t' } := by
 have q := PySem.IsL.update e f
 rw [hf] at q
 refine I.write (x := l) (e := l) (by rw [hH]; exact trivial) (.inl rfl) (fun b' u hb hu => (Heap.get?_update_other s.heap (Obj.mapSeq f) (Ne.symm hb)).trans hu) ⟨_, q⟩ ?_
 exact ⟨hz, its', _, hv, q⟩
theorem Inv.lnew {its : List Value} {t' : Nat} (I : Inv X pins σ H s) (hv : Vals ys its) (hz : ys.length <= sizeLine) :
  Inv X pins σ (upd H s.heap.objs.size (.lst ys)) { s with heap := s.heap.push { cls := .type "list", data := .seq its.toArray }, toks := t' } :=
 I.laid (fun _ _ q => Heap.get?_push_of_some _ q) (Nat.le_refl _) ⟨hz, its, 0, hv, Heap.get?_push_size _ rfl⟩
theorem Inv.fresh (I : Inv X pins σ H s) : H s.heap.objs.size = none := I.hok.fresh (Nat.le_refl _)
theorem Inv.lstM (I : Inv X pins σ H s) (hH : H l = some (.lst xs)) : xs.length <= sizeLine /\ ∃ (its : List Value) (n : Nat), Vals xs its /\ xs.length = its.length /\ s.heap.get? l = some { cls := .type "list", data := .seq its.toArray n } := by
 obtain ⟨z, its, n, r, e⟩ := I.hok l _ hH
 exact ⟨z, its, n, r, r.length, e⟩
theorem notLongL {n : Nat} (h : n <= sizeLine) : Builtin.List.listTooLong n = false := by
 unfold Builtin.List.listTooLong
 exact decide_eq_false (by omega)
end
section
variable {X : Cx}
def rAppend : V -> List V -> Hp -> VK -> Prop := fun x vs H Q => ∃ l xs y, x = .ref l /\ vs = [y] /\ H l = some (.lst xs) /\ xs.length < sizeLine /\ Q .non (upd H l (.lst (xs ++ [y])))
theorem mt_append : MtM X "list.append" rAppend := by
 intro pins s σ H x vs v us Q I rx rv h
 obtain ⟨l, xs, y, rfl, rfl, hH, hz, q⟩ := h
 cases rx
 obtain ⟨u, rfl, ru⟩ := rv.one
 obtain ⟨z, its, n, r, hl, e⟩ := I.lstM hH
 refine call_meets F.slot_list_append ⟨_, e, rfl⟩ F.entry_list_append (F.args_list_append_2 _ _) (PySem.list_append l its.toArray n u (by rw [List.size_toArray]; omega)) ⟨e, ?_⟩
 refine ⟨.non, _, I.lset (its' := its ++ [u]) hH e (by simp) (r.append (.cons ru .nil)) ?_, rfl, q⟩
 rw [List.length_append, List.length_singleton]
 omega
def rExtend : V -> List V -> Hp -> VK -> Prop := fun x vs H Q => ∃ l b xs zs, x = .ref l /\ vs = [.ref b] /\ H l = some (.lst xs) /\ H b = some (.lst zs) /\ xs.length + zs.length <= sizeLine /\ Q .non (upd H l (.lst (xs ++ zs)))
theorem mt_extend : MtM X "list.extend" rExtend := by
 intro pins s σ H x vs v us Q I rx rv h
 obtain ⟨l, b, xs, zs, rfl, rfl, hH, hB, hz, q⟩ := h
 cases rx
 obtain ⟨u, rfl, ru⟩ := rv.one
 cases ru
 obtain ⟨z, its, n, r, hl, e⟩ := I.lstM hH
 obtain ⟨z2, its2, n2, r2, hl2, e2⟩ := I.lstM hB
 have hsz : its.toArray.size + its2.toArray.size <= sizeLine := by rw [List.size_toArray, List.size_toArray]; omega
 have hlong : ¬ (!its.toArray.isEmpty && Builtin.List.listTooLong (its.toArray.size + its2.toArray.size)) = true := by
  rw [notLongL hsz, Bool.and_false]
  exact Bool.false_ne_true
 refine call_meets F.slot_list_extend ⟨_, e, rfl⟩ F.entry_list_extend (F.args_list_extend_2 _ _)
  (AutoSeq1.list_extend_list_list_0 l its.toArray n b its2.toArray n2 hlong (by rw [List.size_toArray]; omega) (by omega)) ⟨e, e2, ?_⟩
 refine ⟨.non, _, I.lset (its' := its ++ its2) hH e (by simp) (r.append r2) ?_, rfl, q⟩
 rw [List.length_append]
 omega
def rPop : V -> List V -> Hp -> VK -> Prop := fun x vs H Q => ∃ l xs y, x = .ref l /\ vs = [] /\ H l = some (.lst xs) /\ xs[xs.length - 1]? = some y /\ Q y (upd H l (.lst xs.dropLast))
theorem mt_pop : MtM X "list.pop" rPop := by
 intro pins s σ H x vs v us Q I rx rv h
 obtain ⟨l, xs, y, rfl, rfl, hH, hy, q⟩ := h
 cases rx
 have hus := rv.zero
 subst hus
 obtain ⟨z, its, n, r, hl, e⟩ := I.lstM hH
 obtain ⟨u, hu, ru⟩ := r.get hy
 have hy' : its.toArray[its.toArray.size - 1]? = some u := by
  show its.toArray[its.length - 1]? = some u
  rw [← Array.getElem?_toList, ← hl]
  exact hu
 refine call_meets F.slot_list_pop ⟨_, e, rfl⟩ F.entry_list_pop (F.args_list_pop_1 _) (MeetsSeq.list_pop_last l its.toArray n u hy' (by rw [List.size_toArray]; omega)) ⟨e, ?_⟩
 refine ⟨y, _, I.lset (its' := its.dropLast) hH e ?_ r.dropLast ?_, ru, q⟩
 ·show its.toArray.eraseIdxIfInBounds (its.toArray.size - 1) = its.dropLast.toArray
  rw [List.size_toArray, List.eraseIdxIfInBounds_toArray, erase_last]
 ·rw [List.length_dropLast]
  omega
noncomputable def rCat : R2 := fun x y H Q => ∃ l b xs zs, x = .ref l /\ y = .ref b /\ H l = some (.lst xs) /\ H b = some (.lst zs) /\ xs.length + zs.length <= sizeLine /\ ∀ p, H p = none -> Q (.ref p) (upd H p (.lst (xs ++ zs)))
theorem op_cat : OpR X (binaryOp .Add) rCat := by
 intro pins s σ H x y v u Q I rx ry h
 obtain ⟨l, b, xs, zs, rfl, rfl, hH, hB, hz, q⟩ := h
 cases rx
 cases ry
 obtain ⟨z, its, n, r, hl, e⟩ := I.lstM hH
 obtain ⟨z2, its2, n2, r2, hl2, e2⟩ := I.lstM hB
 refine PySem.P.add_list e e2 ?_ (by rw [List.size_toArray, List.size_toArray]; omega)
 have ea : its.toArray ++ its2.toArray = (its ++ its2).toArray := by simp
 rw [ea]
 exact ⟨.ref _, _, I.lnew (t' := s.toks) (r.append r2) (by rw [List.length_append]; omega), rfl, q _ I.fresh⟩
end
section
variable {prog : Program} {w : World} {A : Around} {E : Value -> Shared -> Prop} {s : Shared}
end
section
variable {X : Cx}
end
end L2
namespace L2
open PySem PySem.Spec PyProof.Rows
section
variable {κ : Type} [DecidableEq κ]
noncomputable def valV (kvs : List (κ × V)) (k : κ) : Option V := (kvs.find? fun kv => decide (kv.1 = k)).map (·.2)
noncomputable def putK (kvs : List (κ × V)) (k : κ) (v : V) : List (κ × V) :=
 if (kvs.any fun kv => decide (kv.1 = k)) = true then kvs.map (fun kv => if kv.1 = k then (kv.1, v) else kv) else kvs ++ [(k, v)]
theorem valV_pos {p : κ × V} {r : List (κ × V)} {k : κ} (e : p.1 = k) : valV (p :: r) k = some p.2 := by simp [valV, List.find?_cons, e]
theorem valV_neg {p : κ × V} {r : List (κ × V)} {k : κ} (e : ¬ p.1 = k) : valV (p :: r) k = valV r k := by simp [valV, List.find?_cons, e]
theorem valV_any (k : κ) : ∀ kvs : List (κ × V), (kvs.any fun kv => decide (kv.1 = k)) = (valV kvs k).isSome
 | [] => rfl
 | p :: r => by
  rw [List.any_cons]
  by_cases e : p.1 = k
  ·simp only [valV_pos e, decide_eq_true e, Bool.true_or, Option.isSome_some]
  ·rw [valV_neg e, decide_eq_false e, Bool.false_or]; exact valV_any k r
theorem length_putK (kvs : List (κ × V)) (k : κ) (v : V) : (putK kvs k v).length <= kvs.length + 1 := by
 unfold putK
 split
 ·rw [List.length_map]; omega
 ·rw [List.length_append, List.length_cons, List.length_nil]; omega
theorem RelO.isSome_eq {o : Option V} {u : Option Value} (r : RelO o u) : o.isSome = u.isSome := by
 cases o with
 | none => cases u with
  | none => rfl
  | some _ => exact (show False from r).elim
 | some _ => cases u with
  | none => exact (show False from r).elim
  | some _ => rfl
theorem KV.any {kvs : List (κ × V)} {vs : List (κ × Value)} (r : KV kvs vs) (k : κ) : (kvs.any fun kv => decide (kv.1 = k)) = vs.any fun kv => decide (kv.1 = k) := by
 unfold KV at r
 induction r with
 | nil => rfl
 | cons h t ih => rw [List.any_cons, List.any_cons, ih, h.1]
theorem KV.repl {kvs : List (κ × V)} {vs : List (κ × Value)} (r : KV kvs vs) (k : κ) {y : V} {u : Value} (ry : RelV y u) :
  KV (kvs.map fun kv => if kv.1 = k then (kv.1, y) else kv) (vs.map fun kv => if kv.1 = k then (kv.1, u) else kv) := by
 unfold KV at r ⊢
 induction r with
 | nil => exact .nil
 | @cons p q ps qs h t ih =>
  rw [List.map_cons, List.map_cons]
  refine .cons ?_ ih
  obtain ⟨h1, h2⟩ := h
  by_cases e : p.1 = k
  ·rw [if_pos e, if_pos (h1.symm.trans e)]; exact ⟨h1, ry⟩
  ·rw [if_neg e, if_neg (fun z => e (h1.trans z))]; exact ⟨h1, h2⟩
theorem KV.put {kvs : List (κ × V)} {vs : List (κ × Value)} (r : KV kvs vs) (k : κ) {y : V} {u : Value} (ry : RelV y u) : KV (putK kvs k y) (stored vs k u) := by
 unfold putK stored
 rw [r.any k]
 by_cases e : (vs.any fun kv => decide (kv.1 = k)) = true
 ·rw [if_pos e, if_pos e]; exact r.repl k ry
 ·rw [if_neg e, if_neg e]; exact Paired.snoc r ⟨rfl, ry⟩
theorem KV.length {kvs : List (κ × V)} {vs : List (κ × Value)} (r : KV kvs vs) : kvs.length = vs.length := Paired.length r
end
theorem kV_is {P : Program} {w : World} {k : Key} {u : Value} (r : RelV (kV k) u) : (mixKind P w).is k u = true := by
 cases k with
 | inl i => obtain ⟨t, e⟩ := (show ∃ t, u = Value.int i t from r); subst e; exact mixKind_int P w i t
 | inr o => cases o with
  | some x => obtain ⟨t, e⟩ := (show ∃ t, u = Value.str x t from r); subst e; exact mixKind_str P w x t
  | none => have e : u = Value.none := r; subst e; exact keyIs_non
theorem items_are {P : Program} {w : World} : ∀ {ks : List Key} {us : List Value}, Vals (ks.map kV) us -> ItemsAre (mixKind P w) ks us
 | [], _, r => by rw [List.map_nil] at r; cases r; exact .nil
 | k :: ks, _, r => by
  rw [List.map_cons] at r
  cases r with
  | cons h t => exact .cons (kV_is h) (items_are t)
abbrev KT (H : Hp) : List (List Key × V) -> List (List Key × Addr × Value) -> Prop := Paired fun p q => p.1 = q.1 /\ H q.2.1 = some (.tup (p.1.map kV)) /\ RelV p.2 q.2.2
theorem KT.val {H : Hp} {kvs : List (List Key × V)} {xs : List (List Key × Addr × Value)} (r : KT H kvs xs) (k : List Key) : RelO (valV kvs k) ((atKey xs k).map (·.2)) := by
 induction r with
 | nil => exact True.intro
 | @cons p q ps qs h t ih =>
  obtain ⟨h1, _, h2⟩ := h
  by_cases e : p.1 = k
  ·have e' : q.1 = k := h1.symm.trans e
   have b : atKey (q :: qs) k = some q.2 := by simp [atKey, List.find?_cons, e']
   rw [valV_pos e, b]; exact h2
  ·have e' : ¬ q.1 = k := fun z => e (h1.trans z)
   have b : atKey (q :: qs) k = atKey qs k := by simp [atKey, List.find?_cons, e']
   rw [valV_neg e, b]; exact ih
theorem KT.repl {H : Hp} {kvs : List (List Key × V)} {xs : List (List Key × Addr × Value)} (r : KT H kvs xs) (k : List Key) {y : V} {u : Value} (ry : RelV y u) :
  KT H (kvs.map fun kv => if kv.1 = k then (kv.1, y) else kv) (xs.map (putAt k u)) := by
 induction r with
 | nil => exact .nil
 | @cons p q ps qs h t ih =>
  rw [List.map_cons, List.map_cons]
  refine .cons ?_ ih
  obtain ⟨h1, h2, h3⟩ := h
  unfold putAt
  by_cases e : p.1 = k
  ·rw [if_pos e, if_pos (h1.symm.trans e)]; exact ⟨h1, h2, ry⟩
  ·rw [if_neg e, if_neg (fun z => e (h1.trans z))]; exact ⟨h1, h2, h3⟩
theorem KT.put {H : Hp} {kvs : List (List Key × V)} {xs : List (List Key × Addr × Value)} (r : KT H kvs xs) (k : List Key) {b : Addr} {y : V} {u : Value} (hb : H b = some (.tup (k.map kV))) (ry : RelV y u) :
  KT H (putK kvs k y) (storedH xs k b u) := by
 have e : (kvs.any fun kv => decide (kv.1 = k)) = (atKey xs k).isSome := by
  rw [valV_any, (r.val k).isSome_eq, Option.isSome_map]
 unfold putK storedH
 rw [e]
 by_cases q : (atKey xs k).isSome = true
 ·rw [if_pos q, if_pos q]; exact r.repl k ry
 ·rw [if_neg q, if_neg q]; exact Paired.snoc r ⟨rfl, hb, ry⟩
theorem KT.keeps {H H' : Hp} {kvs : List (List Key × V)} {xs : List (List Key × Addr × Value)} (r : KT H kvs xs) (ht : ∀ b ys, H b = some (.tup ys) -> H' b = some (.tup ys)) : KT H' kvs xs :=
 Paired.mapP r fun _ _ z => ⟨z.1, ht _ _ z.2.1, z.2.2⟩
section
variable {P : Program} {w : World} {H : Hp} {h : Heap} {a : Addr}
theorem rd_of {u : HO} (ok : HOk P w H h) (e : Rd H a u) : ObjOk P w H h a u := e.ok ok
theorem dk_rd {kvs : List (Key × V)} (ok : HOk P w H h) (e : Rd H a (.dK kvs)) : kvs.length <= sizeLine /\ (a == sysModules) = false /\ ∃ vs, KV kvs vs /\ h.DictOf (mixKind P w) a vs :=
 show ObjOk P w H h a (.dK kvs) from rd_of ok e
theorem dk_of {kvs : List (Key × V)} (ok : HOk P w H h) (e : H a = some (.dK kvs)) : kvs.length <= sizeLine /\ (a == sysModules) = false /\ ∃ vs, KV kvs vs /\ h.DictOf (mixKind P w) a vs := dk_rd ok (.inl e)
theorem key_of {ks : List Key} (ok : HOk P w H h) (e : H a = some (.tup (ks.map kV))) : (tupleKind (mixKind P w)).is h ks a := by
 obtain ⟨_, its, r, ⟨o, h1, h2, n, h3⟩, _⟩ := (show ObjOk P w H h a (.tup (ks.map kV)) from ok a _ e)
 exact ⟨o, its.toArray, n, h1, h2, h3, by simpa using items_are r⟩
theorem dt_rd {kvs : List (List Key × V)} (ok : HOk P w H h) (e : Rd H a (.dT kvs)) : kvs.length <= sizeLine /\ (a == sysModules) = false /\
  ∃ xs, KT H kvs xs /\ h.DictOfH (tupleKind (mixKind P w)) a xs := by
 obtain ⟨z, y, xs, r, o, es, ep, h1, h2, h3, h4, h5⟩ := (show ObjOk P w H h a (.dT kvs) from rd_of ok e)
 refine ⟨z, y, xs, r, o, es, ep, h1, h2, h3, h4, fun x hx => ?_, h5⟩
 have all : ∀ {l : List (List Key × V)} {m : List (List Key × Addr × Value)}, KT H l m -> ∀ x ∈ m, (tupleKind (mixKind P w)).is h x.1 x.2.1 := by
  intro l m q
  induction q with
  | nil => intro x hx; exact nomatch hx
  | @cons p q ps qs hq t ih =>
   intro x hx
   rcases List.mem_cons.mp hx with e | hx
   ·subst e
    exact key_of ok (by rw [← hq.1]; exact hq.2.1)
   ·exact ih x hx
 exact all r x hx
theorem dt_of {kvs : List (List Key × V)} (ok : HOk P w H h) (e : H a = some (.dT kvs)) : kvs.length <= sizeLine /\ (a == sysModules) = false /\
  ∃ xs, KT H kvs xs /\ h.DictOfH (tupleKind (mixKind P w)) a xs := dt_rd ok (.inl e)
end
def DPut (H : Hp) (a : Addr) (y v : V) (H' : Hp) : Prop :=
 (∃ kvs k, H a = some (.dK kvs) /\ y = kV k /\ kvs.length < sizeLine /\ H' = upd H a (.dK (putK kvs k v))) \/
 ∃ kvs k b, H a = some (.dT kvs) /\ y = .ref b /\ H b = some (.tup (k.map kV)) /\ kvs.length < sizeLine /\ H' = upd H a (.dT (putK kvs k v))
theorem DPut.k {H : Hp} {a : Addr} {kvs : List (Key × V)} {k : Key} {v : V} (e : H a = some (.dK kvs)) (hl : kvs.length < sizeLine) : DPut H a (kV k) v (upd H a (.dK (putK kvs k v))) := .inl ⟨kvs, k, e, rfl, hl, rfl⟩
section
variable {X : Cx} {pins : List (Addr × Obj)} {σ : St} {H : Hp} {s : Shared} {a : Addr} {y v : V} {u r : Value} {o : Option V} {A : Around} {E : Value -> Shared -> Prop}
theorem d_write {h' : Heap} {t' : Nat} {ob : HO} (I : Inv X pins σ H s) (mu : Mut (H a)) (hs : Heap.SameBut a s.heap h') (he : ∃ q, h'.get? a = some q) (new : ObjOk X.prog X.w (upd H a ob) h' a ob) :
  Inv X pins σ (upd H a ob) { s with heap := h', toks := t' } :=
 I.write (x := a) (e := a) mu (.inl rfl) (fun b q hb z => (hs.2 b hb).trans z) he new
theorem dk_new {P : Program} {w : World} {H' : Hp} {h' : Heap} {kvs : List (Key × V)} {vs : List (Key × Value)} (z : kvs.length <= sizeLine) (hd : (a == sysModules) = false) (rel : KV kvs vs) (dd : h'.DictOf (mixKind P w) a vs) :
  ObjOk P w H' h' a (.dK kvs) := ⟨z, hd, vs, rel, dd⟩
theorem d_setItem {H' : Hp} {Q : Unit -> Shared -> Prop} (hu : A.units + 1 < cLine) (I : Inv X pins σ H s) (g : DPut H a y v H') (ry : RelV y u) (rv : RelV v r) (h : ∀ s', Inv X pins σ H' s' -> Q () s') :
  wpAny (model X.prog X.w) A (setItem (.ref a) u r) Q E s := by
 rcases g with ⟨kvs, k, e, ey, l, eH⟩ | ⟨kvs, k, b, e, ey, eb, l, eH⟩
 ·subst ey eH
  obtain ⟨z, hd, vs, rel, dd⟩ := dk_of I.hok e
  have hz : vs.length <= sizeLine := by rw [← rel.length]; exact z
  have hl : (putK kvs k v).length <= sizeLine := by have := length_putK kvs k v; omega
  refine wpAny_setItem_pairs (hsz := hz) (kV_is ry) dd fun h' dd' hs => h _ ?_
  have he : ∃ q, h'.get? a = some q := let ⟨q, _, _, hq, _⟩ := dd'; ⟨q, hq⟩
  exact d_write I (by rw [e]; exact True.intro) hs he (dk_new hl hd (rel.put k rv) dd')
 ·subst ey eH
  cases (show u = Value.ref b from ry)
  obtain ⟨z, hd, xs, rel, dd⟩ := dt_of I.hok e
  have hz : xs.length <= sizeLine := by rw [← Paired.length rel]; exact z
  have hl : (putK kvs k v).length <= sizeLine := by have := length_putK kvs k v; omega
  refine wpAny_setItem_heap (hsz := hz) (tupleKind_room_in1 hu) (key_of I.hok eb) dd fun h' dd' hs => h _ ?_
  obtain ⟨q, es, ep, hq, h2, h3, h4, _, h5⟩ := dd'
  refine d_write I (by rw [e]; exact True.intro) hs ⟨q, hq⟩ ⟨hl, hd, _, (rel.put k eb rv).keeps fun c ys ec => ?_, q, es, ep, hq, h2, h3, h4, h5⟩
  rw [upd_ne (ne_of ec e (fun z => nomatch z))]
  exact ec
end
section
variable {X : Cx} {pins : List (Addr × Obj)} {σ : St} {H : Hp} {s : Shared} {a : Addr} {kvs : List (Key × V)} {k : Key} {u : Value} {A : Around} {E : Value -> Shared -> Prop}
end
section
variable {X : Cx} {o i e value : Expr} {pos pos' tpos : Pos} {td ty tv : TE}
end
section
variable {X : Cx} {pos : Pos}
end
structure M1 (X : Cx) (o : Expr) (m : Str) (apos : Pos) (e : Expr) (cpos : Pos) : Prop where
 base : attributeBase o m X.env (eval o X.env) = eval o X.env
 few : ((backTo cpos (starEach [e] X.env)).all (fun x => !x.1) && (backToKw cpos (keywordEach [] X.env)).all (fun x => x.1.isSome)
  && decide (([e] : List Expr).length + ([] : List Keyword).length + (if ([] : List Keyword).isEmpty then 0 else 1) < 30)) = true
 line : (apos.endLine == cpos.line) = true
 trees : backTo cpos (starEach [e] X.env) = [(false, eval e X.env)]
section
variable {X : Cx} {pins : List (Addr × Obj)} {σ : St} {H : Hp} {s : Shared} {a : Addr} {y d : V} {u r : Value} {o : Option V} {A : Around} {E : Value -> Shared -> Prop}
end
section
variable {X : Cx} {o e f : Expr} {apos cpos : Pos} {td ty tx : TE}
end
section
variable {X : Cx} {pins : List (Addr × Obj)} {σ : St} {H : Hp} {s : Shared} {a : Addr} {kvs : List (Key × V)} {A : Around} {E : Value -> Shared -> Prop}
end
section
variable {X : Cx} {pins : List (Addr × Obj)} {σ : St} {H : Hp} {s : Shared} {a : Addr} {y : V} {u : Value} {A : Around} {E : Value -> Shared -> Prop}
end
end L2
namespace Att
open PySem PySem.W PySem.Calls PyProof.Rows
theorem ints_of_wellAll {P : Params} {h : Heap} : ∀ (ns : List Int) (vs : List Value), WellAll P h vs (ns.map WData.int) -> IntsAre vs ns := by
 intro ns
 induction ns with
 | nil =>
  intro vs w
  rw [List.map_nil] at w
  cases w
  exact .nil
 | cons n ns ih =>
  intro vs w
  rw [List.map_cons] at w
  cases w with
  | cons a b =>
   cases a
   exact .cons _ _ (ih _ b)
theorem script_of {l : OpenLaw} {n : Nat} (hn : l.most = some n) {P : Params} {h : Heap} {args : List WData} {vals : List Value}
  (hpre : l.row.toRowW.claim.pre args = true) (hwl : WellAll P h vals args) :
  ∃ a vs ns, vals = [Value.ref a] /\ args = [WData.list (ns.map WData.int)] /\ h.get? a = some { cls := .type "list", data := .seq vs.toArray } /\ IntsAre vs ns /\ ns.length <= n := by
 have hsh : WShape.hasAll [] args [.list .int] = true := (pre_splitW hpre).1
 have hc : l.pre.holds [] { args := args } = true := (pre_splitW hpre).2
 obtain ⟨d, r, rfl, h1, h2⟩ := hasAllW_cons hsh
 obtain rfl := hasAllW_nil h2
 obtain ⟨xs, rfl, h3⟩ := hasW_list h1
 obtain ⟨ns, rfl⟩ := items_int h3
 have hlen : ns.length <= n := by
  unfold OpenLaw.pre at hc
  have h4 : (WTm.not (.lt (.lit (.int (n : Int))) (.len (.arg 0)))).holds [] { args := [.list (ns.map .int)] } = true := by
   have h4 := (holds_andW hc).1
   rw [hn] at h4
   exact h4
  have h5 := condW_of h4 (w_not (w_lt w_lit (w_len_list (w_arg rfl))))
  rw [List.length_map] at h5
  refine Nat.le_of_not_lt fun q => ?_
  have q' : (n : Int) < ((ns.length : Nat) : Int) := by omega
  first
   | (rw [decide_eq_true q'] at h5; exact absurd h5 (by decide))
   | (simp at h5; omega)
 cases hwl with
 | cons w1 w2 =>
  cases w2
  cases w1 with
  | list ho hall => exact ⟨_, _, ns, rfl, rfl, ho, ints_of_wellAll ns _ hall, hlen⟩
theorem post_true (l : OpenLaw) (args : List WData) : l.row.toRowW.claim.post args (.bool true) args = true :=
 postW_of (r := l.row.toRowW) (X := (true == true))
  (show WShape.has [] (.bool true) .bool = true by first | rfl | decide | simp [WShape.has, WShape.arms, WShape.armsAll])
  (show (WTm.eq .res (.lit (.bool true))).value [] { args := args, res := some (.bool true), after := args } = some (.bool (true == true)) from w_eq_bool (w_res rfl) w_lit) rfl
theorem attach_call {l : OpenLaw} {n : Nat} {q : Program} {loose : List Str} {XP : (Str -> Option Value) -> Heap -> Prop} {YP : World -> Heap -> Prop} {d : DefRec}
  (hn : l.most = some n) (hdf : d.params.defaults = [])
  (call : ∀ (w : World) (s₀ s₁ : Shared) (mg mb : Str -> Option Value) (fa : Addr) (o : Obj) (pm cd doc : Value) (a : Addr) (vs : List Value) (ns : List Int),
   Ground q loose [] XP w s₀ mg mb s₁.heap -> YP w s₁.heap ->
   s₁.heap.get? fa = some o -> o.data = .func (docDef d.name d.params d.body d.scope pm cd doc) -> s₁.heap.CodeRec cd d.name -> mg d.name = some (.ref fa) ->
   s₁.heap.get? a = some { cls := .type "list", data := .seq vs.toArray } -> IntsAre vs ns -> ns.length <= n -> s₁.gens = #[] ->
   codeAny (model l.prog w) callerA (.call (.ref fa) ⟨[.ref a], []⟩) (fun r s' => r = .ok (.ret (.bool true)) /\ OldK s₁.heap s'.heap /\ s'.os = s₁.os /\ AllBare s'.gens) s₁) :
  WalkO q loose XP YP l.row.toRowW d [] (fun f vs => PySem.call f vs) := by
 intro w s₀ s₁ mg mb G Y fa o pm cd doc dV kV ho hd hcd hD hmg hg args vals as hpre hlay hrd hwl hlo
 obtain rfl : dV = .none := Dflts.none hD hdf
 obtain rfl : kV = .none := Dflts.noKw hD
 obtain ⟨a, vs, ns, rfl, rfl, hobj, hints, hlen⟩ := script_of hn hpre hwl
 refine enter_call (codeAny_mono (call w s₀ s₁ mg mb fa o pm cd doc a vs ns G Y ho (fd_plain hd) hcd hmg hobj hints hlen hg) fun r s' hq => ?_)
 obtain ⟨rfl, h2, h3, h4⟩ := hq
 exact ⟨.inl ⟨.bool true, .bool true, [], rfl, fun _ => rfl, .bool true, post_true l _, fun _ => ⟨List.Pairwise.nil, fun _ hm => (nomatch hm)⟩⟩, h2, h3, h4⟩
section
variable {prog : Program} {w : World} {A : Around} {E : Value -> Shared -> Prop} {s : Shared} {K : Frag}
end
end Att
namespace L2
open PySem PySem.Spec PyProof.Rows
theorem vals_ints : ∀ {vs : List Value} {ns : List Int}, IntsAre vs ns -> Vals (ns.map V.int) vs
 | _, _, .nil => .nil
 | _, _, .cons n t h => .cons ⟨t, rfl⟩ (vals_ints h)
def Only (H : Hp) : Prop := ∀ b, H b = none \/ ∃ o xs, H b = some (.frz o (.lst xs))
theorem law_call {P : Program} {w : World} {K : PySem.W.Frag} {mg mb : Str -> Option Value} {CX : CXT} {k : Nat} {fa a : Addr} {fd : FuncData} {x : Str} {sp : Sp} {s₁ : Shared} {vs : List Value} {ns : List Int}
  (KX : K.In s₁.heap) (hns : s₁.heap.Ns mainGlobals mg) (hb : s₁.heap.Ns builtinsNs mb) (hbb : ∀ x : Str, x ≠ "__name__" -> mb x = bootBuiltins x) (hlim : s₁.heap.NoLimit) (hg : s₁.gens = #[])
  (ha : s₁.heap.get? a = some { cls := .type "list", data := .seq vs.toArray }) (hi : IntsAre vs ns) (hl : ns.length <= sizeLine) (hr : Room k callerA)
  (F : ∀ base : Heap, K.In base -> base.Ns mainGlobals mg -> FnOk P w K mg base CX k fa fd [x] sp) (hbind : ∀ (s : Shared) (u : Value), BindsTo s fd ⟨[u], []⟩ [(x, u)])
  (hsp : ∀ H : Hp, Only H -> SqL K H a (ns.map V.int) -> sp [.ref a] H (fun v _ => v = .bl true) fun _ _ _ => False)
  (hCX : ∀ H e s', CX [] H s₁ (fun _ _ _ => False) e s' -> False) :
  codeAny (model P w) callerA (.call (.ref fa) ⟨[.ref a], []⟩) (fun r s' => r = .ok (.ret (.bool true)) /\ OldK s₁.heap s'.heap /\ s'.os = s₁.os /\ AllBare s'.gens) s₁ := by
 have rv := vals_ints hi
 have lenV := hi.length
 have core : ∀ H : Hp, Only H -> SqL K H a (ns.map V.int) -> HOk P w H s₁.heap -> (∀ b, H b ≠ none -> b = a) -> (H a ≠ none -> K.lookup a = none) ->
   codeAny (model P w) callerA (.call (.ref fa) ⟨[.ref a], []⟩) (fun r s' => r = .ok (.ret (.bool true)) /\ OldK s₁.heap s'.heap /\ s'.os = s₁.os /\ AllBare s'.gens) s₁ := by
  intro H hO hS hok hA hK
  have base_of : ∀ {b : Addr} {o : Obj}, s₁.heap.get? b = some o -> H b = none -> (hidT s₁.heap H).get? b = some o := fun e n => hidT_get e n
  have noA : ∀ {b : Addr} {o : Obj} {es : Array DictEntry} {ep : Nat}, s₁.heap.get? b = some o -> o.data = .dict es ep -> H b = none := fun {b o es ep} e d => by
   cases q : H b with
   | none => rfl
   | some u =>
    have e' : b = a := hA b (by rw [q]; simp)
    subst e'
    rw [ha] at e; cases e
    have d' : Data.seq vs.toArray _ = Data.dict es ep := d
    cases d'
  have nsK : ∀ {b : Addr} {m : Str -> Option Value}, s₁.heap.Ns b m -> (hidT s₁.heap H).Ns b m := fun {b m} ⟨o, es, ep, e, d, r⟩ => ⟨o, es, ep, base_of e (noA e d), d, r⟩
  have hKb : K.In (hidT s₁.heap H) := fun b o e => base_of (KX b o e) (by
   cases q : H b with
   | none => rfl
   | some u =>
    have e' : b = a := hA b (by rw [q]; simp)
    subst e'
    rw [hK (by rw [q]; simp)] at e; cases e)
  have hM : Mod K mg (hidT s₁.heap H) := ⟨hKb, nsK hns, ⟨mb, nsK hb, hbb⟩, let ⟨mc, h1, h2⟩ := hlim; ⟨mc, nsK h1, h2⟩⟩
  have e0 : Env0 P w K mg (hidT s₁.heap H) callerA [] s₁ H := ⟨rfl, hM, fun b o e => of_hidT e, Nat.le_of_eq (hidT_size _ _), trivial, fun b hb => absurd (show b ∈ ([] : List Addr) from hb) (by simp), hok, .of_eq hg⟩
  refine codeAny_mono ((F _ hKb (nsK hns)).run callerA [] s₁ H ⟨[.ref a], []⟩ [.ref a] [.ref a] _ _ hr e0 (hbind s₁ (.ref a)) (.cons rfl .nil) (hsp H hO hS)) fun r s' h => ?_
  cases r with
  | error e => exact (hCX H e s' h).elim
  | ok fl =>
   cases fl with
   | next => exact False.elim h
   | brk => exact False.elim h
   | cont => exact False.elim h
   | ret u =>
    obtain ⟨v, H', os, bare, un, hok', r', q⟩ := h
    have q' : v = .bl true := q
    subst q'
    obtain rfl : u = Value.bool true := r'
    refine ⟨rfl, OldK.of_keep fun b o e => ?_, os, bare⟩
    cases q : H b with
    | none => exact un.keep b o e q (by intro z; exact absurd (show b ∈ ([] : List Addr) from z) (by simp)) (by simp)
    | some u =>
     rcases hO b with z | ⟨ob, xs, z⟩
     ·rw [q] at z; cases z
     ·have z2 := un.frzs b ob _ z
      obtain ⟨e1, _⟩ := hok b _ z
      obtain ⟨e2, _⟩ := hok' b _ z2
      rw [e] at e1; cases e1
      exact e2
 cases hk : K.lookup a with
 | some o =>
  have e := KX a o hk
  rw [ha] at e
  cases e
  refine core (fun _ => none) (fun _ => .inl rfl) (.inr ⟨_, vs.toArray, _, hk, rfl, ⟨rfl, rfl⟩, rfl, by rw [List.size_toArray, lenV]; exact hl, by simpa using rv⟩) (fun b u z => by have z' : (none : Option HO) = some u := z; cases z') (fun b z => absurd rfl z) fun z => absurd rfl z
 | none =>
  refine core (fun b => if b = a then some (.frz { cls := .type "list", data := .seq vs.toArray } (.lst (ns.map V.int))) else none) (fun b => ?_) (.inl (.inr ⟨{ cls := .type "list", data := .seq vs.toArray }, if_pos rfl⟩)) (fun b u z => ?_) (fun b z => ?_) fun _ => hk
  ·by_cases hb : b = a
   ·exact .inr ⟨_, _, if_pos hb⟩
   ·exact .inl (if_neg hb)
  ·by_cases hb : b = a
   ·have z' := (if_pos hb).symm.trans z
    cases z'
    subst hb
    exact ⟨ha, by rw [List.length_map]; exact hl, vs, _, rv, ha⟩
   ·have z' := (if_neg hb).symm.trans z
    cases z'
  ·by_cases hb : b = a
   ·exact hb
   ·exact absurd (if_neg hb) z
end L2
namespace L2
open PySem PySem.Spec PyProof.Rows
theorem walk_of {l : PySem.W.OpenLaw} {n k : Nat} {q : Program} {loose : List Str} {XP : (Str -> Option Value) -> Heap -> Prop} {YP : World -> Heap -> Prop} {d : DefRec} {K : Params -> PySem.W.Frag} {CX : World -> CXT} {sp : World -> Sp} {x : Str}
  (hn : l.most = some n) (hn2 : n <= sizeLine) (hdf : d.params.defaults = []) (hr : Room k callerA)
  (hY : ∀ (w : World) (h : Heap), YP w h -> (K w.params).In h)
  (F : ∀ (w : World) (mg : Str -> Option Value) (fa : Addr) (h : Heap), (K w.params).In h -> h.Ns mainGlobals mg -> mg d.name = some (.ref fa) ->
   ∃ fd : FuncData, (∀ (s : Shared) (u : Value), BindsTo s fd ⟨[u], []⟩ [(x, u)]) /\
    ∀ base : Heap, (K w.params).In base -> base.Ns mainGlobals mg -> FnOk l.prog w (K w.params) mg base (CX w) k fa fd [x] (sp w))
  (hsp : ∀ (w : World) (H : Hp) (a : Addr) (ns : List Int), ns.length <= n -> Only H -> SqL (K w.params) H a (ns.map V.int) -> sp w [.ref a] H (fun v _ => v = .bl true) fun _ _ _ => False)
  (hCX : ∀ (w : World) (H : Hp) (s : Shared) (e : Value) (s' : Shared), CX w [] H s (fun _ _ _ => False) e s' -> False) :
  PySem.W.WalkO q loose XP YP l.row.toRowW d [] (fun f vs => PySem.call f vs) := by
 refine Att.attach_call hn hdf fun w s₀ s₁ mg mb fa o pm cd doc a vs ns G Y ho hd hcd hmg hobj hints hlen hg => ?_
 have KX := hY w _ Y
 obtain ⟨fd, hb, hF⟩ := F w mg fa _ KX G.T.g hmg
 exact law_call KX G.T.g G.T.b G.T.builtins G.T.nolimit hg hobj hints (Nat.le_trans hlen hn2) hr hF hb (fun H hO hS => hsp w H a ns hlen hO hS) fun H e s' => hCX w H s₁ e s'
theorem walk_ofK {l : PySem.W.OpenLaw} {n k : Nat} {q : Program} {loose : List Str} {XP : (Str -> Option Value) -> Heap -> Prop} {YP : World -> Heap -> Prop} {d : DefRec} {K : Params -> PySem.W.Frag} {CX : CXT} {sp : PySem.W.Frag -> Sp} {x : Str}
  (hn : l.most = some n) (hn2 : n <= sizeLine) (hdf : d.params.defaults = []) (hr : Room k callerA)
  (hY : ∀ (w : World) (h : Heap), YP w h -> (K w.params).In h)
  (F : ∀ (w : World) (mg : Str -> Option Value) (fa : Addr) (h : Heap), (K w.params).In h -> h.Ns mainGlobals mg -> mg d.name = some (.ref fa) ->
   ∃ fd : FuncData, (∀ (s : Shared) (u : Value), BindsTo s fd ⟨[u], []⟩ [(x, u)]) /\
    ∀ base : Heap, (K w.params).In base -> base.Ns mainGlobals mg -> FnOk l.prog w (K w.params) mg base CX k fa fd [x] (sp (K w.params)))
  (hsp : ∀ (K : PySem.W.Frag) (H : Hp) (a : Addr) (ns : List Int), ns.length <= n -> Only H -> SqL K H a (ns.map V.int) -> sp K [.ref a] H (fun v _ => v = .bl true) fun _ _ _ => False)
  (hCX : ∀ (H : Hp) (s : Shared) (e : Value) (s' : Shared), CX [] H s (fun _ _ _ => False) e s' -> False) :
  PySem.W.WalkO q loose XP YP l.row.toRowW d [] (fun f vs => PySem.call f vs) :=
 walk_of (K := K) (CX := fun _ => CX) (sp := fun w => sp (K w.params)) hn hn2 hdf hr hY F (fun w H a ns h1 h2 h3 => hsp (K w.params) H a ns h1 h2 h3) fun _ H s e s' => hCX H s e s'
end L2
namespace L2
open PySem PySem.Spec PyProof.Rows
noncomputable def inClass (s : Stmt) (j : Nat) : Stmt := match s with
 | .ClassDef _ _ _ body _ _ _ _ _ _ _ => body.getD j (.Pass ⟨0, 0, 0, 0⟩)
 | _ => .Pass ⟨0, 0, 0, 0⟩
noncomputable def defArgs (s : Stmt) : Arguments := match s with
 | .FunctionDef _ a _ _ _ _ _ _ _ _ => a
 | _ => { posonlyargs := [], args := [], vararg := none, kwonlyargs := [], kw_defaults := [], kwarg := none, defaults := [] }
noncomputable def defBody (s : Stmt) : List Stmt := match s with
 | .FunctionDef _ _ b _ _ _ _ _ _ _ => b
 | _ => []
noncomputable def defScope (s : Stmt) : Scope := match s with
 | .FunctionDef _ _ _ _ _ _ sc _ _ _ => sc
 | _ => { kind := .function, names := [], isGenerator := false, isCoroutine := false }
noncomputable abbrev CX0 : CXT := fun _ _ _ _ _ _ => False
abbrev E0 : XK := fun _ _ _ => False
theorem pass0 {X : Cx} : Passes CX0 X E0 := fun _ _ _ _ _ _ _ h => h.elim
structure Fun (K : PySem.W.Frag) (x qual : Str) (st : Stmt) (f : Addr) (fd : FuncData) : Prop where
 ex : ∃ (oc : Value) (od : Option Addr) (kV doc pm : Value) (an : Option Addr) (cdv ct : Value) (osl : Array (Option Value)),
  fd = PySem.W.fnOf x qual (defArgs st) (defBody st) (defScope st) .none kV doc pm an cdv ct /\ K.lookup f = some ⟨oc, od, .func fd, osl⟩ /\ PySem.W.codeIn K cdv qual = true
 kp : PySem.W.keepIn K (.ref f) = true
section
variable {P : Program} {w : World} {K : PySem.W.Frag} {mg : Str -> Option Value} {base : Heap}
theorem Fun.ok {x qual : Str} {st : Stmt} {f : Addr} {fd : FuncData} {N ps : List Str} {k : Nat} {sp : Sp} (F : Fun K x qual st f fd) (S : FnScope N ps (defScope st)) (len : ∀ vs H Q E, sp vs H Q E -> vs.length = ps.length)
  (hbody : ∀ (cdv : Value) (A : Around) (outer : List Env) (s : Shared) (H : Hp) (vs : List V) (Q : VK) (E : XK), Room k (A.deeper (envOfC qual (defScope st) s.heap.objs.size f cdv)) -> sp vs H Q E ->
   ∃ t, PSs (cxOf CX0 P w K mg base N qual (defScope st) f cdv A outer s H E).nox (defBody st) t /\ t { nx := fun _ H' => Q .non H', rt := Q } (start N vs) H) : FnOk P w K mg base CX0 (k + 1) f fd ps sp := by
 obtain ⟨oc, od, kV, doc, pm, an, cdv, ct, osl, rfl, lk, hcd⟩ := F.ex
 refine fn_of lk hcd S len fun A outer s H vs Q E hr hsp => ?_
 obtain ⟨t, h, q⟩ := hbody cdv A outer s H vs Q E hr hsp
 exact ⟨t, h.nox, q⟩
theorem Fun.binds {x qual : Str} {st : Stmt} {f : Addr} {fd : FuncData} {ps : List Str} (F : Fun K x qual st f fd)
  (h : ∀ (kV doc pm : Value) (an : Option Addr) (cdv ct : Value) (us : List Value), us.length = ps.length -> bindArgs (PySem.W.fnOf x qual (defArgs st) (defBody st) (defScope st) .none kV doc pm an cdv ct) ⟨us, []⟩ = pure (ps.zip us)) : Binds K fd ps [] := by
 obtain ⟨oc, od, kV, doc, pm, an, cdv, ct, osl, rfl, lk, hcd⟩ := F.ex
 exact .all (h kV doc pm an cdv ct)
theorem fun_mk {x qual : Str} {st : Stmt} {f : Addr} {oc : Value} {od an : Option Addr} {osl : Array (Option Value)} {kV doc pm cdv ct : Value} (l : K.lookup f = some ⟨oc, od, .func (PySem.W.fnOf x qual (defArgs st) (defBody st) (defScope st) .none kV doc pm an cdv ct), osl⟩)
  (c : PySem.W.codeIn K cdv qual = true) (k : PySem.W.keepIn K (.ref f) = true) : Fun K x qual st f (PySem.W.fnOf x qual (defArgs st) (defBody st) (defScope st) .none kV doc pm an cdv ct) := ⟨⟨oc, od, kV, doc, pm, an, cdv, ct, osl, rfl, l, c⟩, k⟩
end
section
variable {X : Cx}
end
end L2
namespace HS
open PySem PySem.Spec
def Rises (t : SetTable) : Prop := t.plain = true -> t.place.toList.Pairwise (· < ·)
end HS
namespace HS
open PySem PySem.Spec PyProof.Rows
noncomputable def val (e : Int × Value) : Int := match e.2 with | .int n _ => n | _ => 0
def IsE (e : Int × Value) : Prop := ∃ n t, e = (hashInt n, .int n t)
structure TabOk (led : Bool) (es : Array (Int × Value)) (t : SetTable) (xs : List Int) : Prop where
 el : ∀ e ∈ es.toList, IsE e
 pm : (es.toList.map val).Perm xs
 nd : xs.Nodup
 bd : es.size < scanBound
 ft : t.fits es.size = true
 rs : Rises t
 ld : t.led = led
structure TabW (led : Bool) (es : Array (Int × Value)) (t : SetTable) : Prop where
 bd : es.size < scanBound
 ft : t.fits es.size = true
 rs : Rises t
 ld : t.led = led
def SetG (led : Bool) (o : Obj) (xs : List Int) : Prop := ∃ es ep t, o.ExactSet /\ o.data = .set es ep t /\ TabOk led es t xs
section
variable {prog : Program} {w : World} {A : Around} {E : Value -> Shared -> Prop} {s : Shared}
noncomputable def plus (xs : List Int) (k : Int) : List Int := if k ∈ xs then xs else xs ++ [k]
theorem store_ok {a : Addr} {o : Obj} {es es' : Array (Int × Value)} {ep : Nat} {t t' : SetTable} {Q : Unit -> Shared -> Prop} (ho : s.heap.get? a = some o) (hx : o.ExactSet) (hd : o.data = .set es ep t)
  (hb : es'.size < scanBound)
  (h : ∀ h', Heap.SameBut a s.heap h' -> h'.get? a = some { o with data := .set es' (ep + 1) t' } -> Q () { s with heap := h' }) : wpAny (model prog w) A (storeSet a es' t') Q E s := by
 refine wpAny_storeSet_of ho hd (h _ (Heap.SameBut.update s.heap a _) ?_) (fits_of_scanBound hb)
 have q := Heap.get?_update_self (Obj.putSet es' t') ho (by rw [putSet_of es' t' hd]; rfl)
 rwa [putSet_of es' t' hd] at q
end
end HS
namespace HS
open PySem PySem.Spec PyProof.Rows
noncomputable def metOf (xs : List Int) (ns : List Int) : List Int := ns.foldl plus xs
section
variable {prog : Program} {w : World} {A : Around} {R : Result -> Shared -> Prop} {I : Addr} {fp wr : List Addr} {G : Array GenState -> Array GenState -> Prop} {n : Nat} {P : Nat -> Value -> Prop} {St : Nat -> Shared -> Prop}
end
section
variable {prog : Program} {w : World} {A : Around} {E : Value -> Shared -> Prop} {s : Shared}
end
end HS
namespace HS
open PySem PySem.Spec PyProof.Rows
section
variable {α : Type} {M : Model} {A : Around} {E : Value -> Shared -> Prop} {s : Shared}
end
end HS
namespace HS
open PySem PySem.Spec PyProof.Rows
section
variable {prog : Program} {w : World} {A : Around} {E : Value -> Shared -> Prop} {s : Shared}
end
end HS
namespace HS
open PySem PySem.Spec PyProof.Rows
section
variable {prog : Program} {w : World} {A : Around} {E : Value -> Shared -> Prop} {s : Shared}
end
end HS
namespace HS
open PySem PySem.Spec PyProof.Rows
section
variable {prog : Program} {w : World} {A : Around} {E : Value -> Shared -> Prop} {s : Shared}
end
variable {prog : Program} {w : World}
end HS
namespace HS
open PySem PySem.Spec PyProof.Rows
section
variable {prog : Program} {w : World} {A : Around} {E : Value -> Shared -> Prop} {s : Shared}
end
end HS
namespace HS
open PySem PySem.Spec PyProof.Rows
noncomputable def masks : List Nat := [7, 15, 31, 63, 127, 255]
end HS
namespace HS
open PySem PySem.Spec PyProof.Rows
section
variable {prog : Program} {w : World} {A : Around} {E : Value -> Shared -> Prop} {s : Shared}
end
end HS
namespace HS
open PySem PySem.Spec PyProof.Rows
section
variable {prog : Program} {w : World} {A : Around} {E : Value -> Shared -> Prop} {s : Shared}
end
end HS
namespace HS
open PySem PySem.Spec PyProof.Rows
section
variable {prog : Program} {w : World} {A : Around} {E : Value -> Shared -> Prop} {s : Shared}
end
end HS
namespace HS
open PySem PySem.Spec PyProof.Rows
section
variable {prog : Program} {w : World} {A : Around} {E : Value -> Shared -> Prop} {s : Shared}
end
end HS
namespace HS
open PySem PySem.Spec PyProof.Rows
section
variable {prog : Program} {w : World} {A : Around} {E : Value -> Shared -> Prop} {h : Heap} {g : Array GenState} {d : Drawn} {t : Nat} {os : OsState} {a : Addr} {its : Array Value} {n : Nat}
end
section
variable {prog : Program} {w : World} {A : Around} {R : Result -> Shared -> Prop} {I : Addr} {fp wr : List Addr} {n : Nat} {P : Nat -> Value -> Prop} {St : Nat -> Heap -> Prop}
structure PairAt (h : Heap) (v key val : Value) : Prop where
 ex : ∃ a o c, v = .ref a /\ h.get? a = some o /\ o.cls = .type "tuple" /\ o.data = .seq #[key, val] c
end
end HS
namespace HS
open PySem PySem.Spec PyProof.Rows
section
variable {prog : Program} {w : World} {A : Around} {E : Value -> Shared -> Prop} {s : Shared}
end
end HS
namespace L2
open PySem PySem.Spec PyProof.Rows
end L2
namespace L2
open PySem PySem.Spec PyProof.Rows
def LamGood (H : Hp) (q : Str) (ps : Array Value) : Prop := TriplesOk ps.toList /\ ∀ pos cv, codeAmong pos ps.toList = some cv -> ∃ c' oc vs t, cv = .ref c' /\ H c' = some (.frz oc (.ext fun _ => True)) /\ oc.data = .fields vs /\ vs[1]? = some (.str q t)
theorem LamGood.mono {H H' : Hp} {q : Str} {ps : Array Value} (g : LamGood H q ps) (k : ∀ b o u, H b = some (.frz o u) -> H' b = some (.frz o u)) : LamGood H' q ps :=
 ⟨g.1, fun pos cv e => let ⟨c', oc, vs, t, e1, e2, r⟩ := g.2 pos cv e; ⟨c', oc, vs, t, e1, k _ _ _ e2, r⟩⟩
end L2
namespace L2
open PySem PySem.Spec PyProof.Rows
structure LamScope (x : Str) (caps : List Str) (sc : Scope) (cl : List (Str × Addr)) : Prop where
 kind : sc.kind = .function
 co : sc.isCoroutine = false
 gen : sc.isGenerator = false
 nd : (x :: caps).Nodup
 par : sc.names.lookup x = some .local
 nocell : ∀ y ∈ sc.names, y.2 ≠ .cell
 free : ∀ y, sc.names.lookup y = some .free -> ∃ c, cl.lookup y = some c
 inj : ∀ y z c, cl.lookup y = some c -> cl.lookup z = some c -> y = z
end L2
namespace HW
open PySem L2
inductive D where
 | non | bl (b : Bool) | int (i : Int) | str (x : Str)
 | tup (xs : List D) | fl (xs : List D) | fd (ks : List Key) (ds : List D) | key (ks : List Int)
structure LamD where
 qual : Str
 params : Arguments
 body : Expr
 scope : Scope
 x : Str
 caps : List Str
inductive R where
 | v (d : D) | p (n : Nat) | s (b : Bool) (xs : List Int) | x (c : Str) | f (L : LamD) (ds : List D)
inductive Cell where
 | lst (xs : List D) | fz (xs : List D) | dct (kvs : List (Key × D)) | fzd (kvs : List (Key × D)) | dr (kvs : List (Key × R)) | lr (xs : List R) | dt (kvs : List (List Int × D)) | tb (P : Nat) (q : Str) | ob (c : Str) (fs : List (Str × R)) | tr (xs : List R) | fzr (kvs : List (Key × R)) | dtr (kvs : List (List Int × R)) | fzt (kvs : List (List Int × D)) | hk (kvs : List (Key × D))
noncomputable abbrev Store := List Cell
noncomputable abbrev Lo := List (Option R)
noncomputable abbrev FE := Lo -> Store -> Option (R × Store)
noncomputable abbrev FT := Lo -> Store -> Option (Bool × Store)
noncomputable abbrev FA := Lo -> Store -> Option (List R × Store)
inductive Out where
 | nx (ρ : Lo) (μ : Store) | rt (d : R) (μ : Store) | bk (ρ : Lo) (μ : Store) | ct (ρ : Lo) (μ : Store)
noncomputable abbrev FS := Lo -> Store -> Option Out
def FAt (K : PySem.W.Frag) (H : Hp) (a : Addr) (vs : List V) : Prop := (∃ o, H a = some (.frz o (.lst vs))) \/ SqL K (fun _ => none) a vs
mutual
def RelD (K : PySem.W.Frag) (H : Hp) : D -> V -> Prop
 | .non, v => v = .non
 | .bl b, v => v = .bl b
 | .int i, v => v = .int i
 | .str x, v => v = .str x
 | .tup xs, v => ∃ a vs, v = .ref a /\ SqT K H a vs /\ RelDs K H xs vs
 | .fl xs, v => ∃ a vs, v = .ref a /\ FAt K H a vs /\ RelDs K H xs vs
 | .fd ks ds, v => ∃ a o es, v = .ref a /\ H a = some (.frz o (.dK es)) /\ es.map (·.1) = ks /\ RelDs K H ds (es.map (·.2))
 | .key ks, v => ∃ a, v = .ref a /\ H a = some (.tup (ks.map V.int))
def RelDs (K : PySem.W.Frag) (H : Hp) : List D -> List V -> Prop
 | [], vs => vs = []
 | x :: xs, vs => ∃ v r, vs = v :: r /\ RelD K H x v /\ RelDs K H xs r
end
structure LamR (K : PySem.W.Frag) (H : Hp) (L : LamD) (ds : List D) (a : Addr) (cl : List (Str × Addr)) (pm ctv : Value) (c' : Addr) : Prop where
 fn : H a = some (.frz (PySem.W.kla_obj "<lambda>" L.qual L.params L.body L.scope cl pm c' ctv) (.ext fun _ => True))
 code : ∃ oc vs t, H c' = some (.frz oc (.ext fun _ => True)) /\ oc.data = .fields vs /\ vs[1]? = some (.str L.qual t)
 len : ds.length = L.caps.length
 cell : ∀ y c, cl.lookup y = some c -> ∃ z o, H c = some (.frz o (.ext fun _ => True)) /\ o.data = .cell z
 cap : ∀ (i : Nat) y d, L.caps[i]? = some y -> ds[i]? = some d -> ∃ c o u vy, L.scope.names.lookup y = some .free /\ cl.lookup y = some c /\ H c = some (.frz o (.ext fun _ => True)) /\ o.data = .cell (some u) /\ RelV vy u /\ RelD K H d vy
 sc : LamScope L.x L.caps L.scope cl
def RelR (K : PySem.W.Frag) (m : List Addr) (H : Hp) : R -> V -> Prop
 | .v d, v => RelD K H d v
 | .p n, v => ∃ a, v = .ref a /\ m[n]? = some a
 | .s b xs, v => ∃ a o, v = .ref a /\ H a = some (.frz o (.ext fun _ => True)) /\ HS.SetG b o xs
 | .x c, v => ∃ a vs C, v = .ref a /\ H a = some (.frz { cls := .ref C, dict := none, data := .fields vs, slots := #[] } (.ext fun _ => True)) /\ PySem.W.nsIn K mainGlobals c = some (some (.ref C))
 | .f L ds, v => ∃ a cl pm ctv c', v = .ref a /\ LamR K H L ds a cl pm ctv c'
def RelRs (K : PySem.W.Frag) (m : List Addr) (H : Hp) : List R -> List V -> Prop
 | [], vs => vs = []
 | x :: xs, vs => ∃ v r, vs = v :: r /\ RelR K m H x v /\ RelRs K m H xs r
def CellR (K : PySem.W.Frag) (m : List Addr) (H : Hp) : Cell -> Addr -> Prop
 | .lst xs, a => ∃ vs, H a = some (.lst vs) /\ RelDs K H xs vs
 | .fz xs, a => ∃ o vs, H a = some (.frz o (.lst vs)) /\ RelDs K H xs vs
 | .dct kvs, a => ∃ es, H a = some (.dK es) /\ es.map (·.1) = kvs.map (·.1) /\ RelDs K H (kvs.map (·.2)) (es.map (·.2))
 | .fzd kvs, a => ∃ o es, H a = some (.frz o (.dK es)) /\ es.map (·.1) = kvs.map (·.1) /\ RelDs K H (kvs.map (·.2)) (es.map (·.2))
 | .dr kvs, a => ∃ es, H a = some (.dK es) /\ es.map (·.1) = kvs.map (·.1) /\ RelRs K m H (kvs.map (·.2)) (es.map (·.2))
 | .lr xs, a => ∃ vs, H a = some (.lst vs) /\ RelRs K m H xs vs
 | .tb P q, a => a = P /\ ∃ ps, H P = some (.tbl ps) /\ LamGood H q ps
 | .ob c fs, a => ∃ C dx es, PySem.W.nsIn K mainGlobals c = some (some (.ref C)) /\ H a = some (.ins C dx es) /\ es.map (·.1) = fs.map (·.1) /\ RelRs K m H (fs.map (·.2)) (es.map (·.2))
 | .tr xs, a => ∃ vs, H a = some (.tup vs) /\ RelRs K m H xs vs
 | .fzr kvs, a => ∃ o es, H a = some (.frz o (.dK es)) /\ es.map (·.1) = kvs.map (·.1) /\ RelRs K m H (kvs.map (·.2)) (es.map (·.2))
 | .dtr kvs, a => ∃ es, H a = some (.dT es) /\ es.map (·.1) = kvs.map (fun p => p.1.map Sum.inl) /\ RelRs K m H (kvs.map (·.2)) (es.map (·.2))
 | .dt kvs, a => ∃ es, H a = some (.dT es) /\ es.map (·.1) = kvs.map (fun p => p.1.map Sum.inl) /\ RelDs K H (kvs.map (·.2)) (es.map (·.2))
 | .fzt kvs, a => ∃ o es, H a = some (.frz o (.dT es)) /\ es.map (·.1) = kvs.map (fun p => p.1.map Sum.inl) /\ RelDs K H (kvs.map (·.2)) (es.map (·.2))
 | .hk kvs, a => ∃ o es, H a = some (.frz o (.frz o (.dK es))) /\ es.map (·.1) = kvs.map (·.1) /\ RelDs K H (kvs.map (·.2)) (es.map (·.2))
structure SRel (K : PySem.W.Frag) (m : List Addr) (H : Hp) (μ : Store) : Prop where
 nd : m.Nodup
 len : m.length = μ.length
 cell : ∀ (i : Nat) c a, μ[i]? = some c -> m[i]? = some a -> CellR K m H c a
structure TF (H H' : Hp) : Prop where
 tup : ∀ a xs, H a = some (.tup xs) -> H' a = some (.tup xs)
 frz : ∀ a o u, H a = some (.frz o u) -> H' a = some (.frz o u)
structure Ext (m : List Addr) (H : Hp) (m' : List Addr) (H' : Hp) : Prop where
 ext : ∃ e, m' = m ++ e /\ ∀ a ∈ e, H a = none
 tf : TF H H'
 keep : ∀ a o, H a = some o -> a ∉ m -> H' a = some o
 live : ∀ a, H' a = none -> H a = none
def LRel (K : PySem.W.Frag) (m : List Addr) (H : Hp) (ρ : Lo) (σ : St) : Prop :=
 ρ.length = σ.length /\ ∀ (i : Nat) d, ρ[i]? = some (some d) -> ∃ v, σ[i]? = some (some v) /\ RelR K m H d v
section
variable {K : PySem.W.Frag} {m m' m1 m2 : List Addr} {H H' H1 H2 : Hp} {μ μ' : Store} {ρ : Lo} {σ : St}
theorem TF.refl : TF H H := ⟨fun _ _ h => h, fun _ _ _ h => h⟩
theorem TF.trans (a : TF H H1) (b : TF H1 H2) : TF H H2 := ⟨fun _ _ h => b.tup _ _ (a.tup _ _ h), fun _ _ _ h => b.frz _ _ _ (a.frz _ _ _ h)⟩
theorem TF.of (h : ∀ a o, H a = some o -> H' a = some o) : TF H H' := ⟨fun _ _ e => h _ _ e, fun _ _ _ e => h _ _ e⟩
theorem SqT.tf {a vs} (t : TF H H') (h : SqT K H a vs) : SqT K H' a vs := by
 rcases h with (h | ⟨o, h⟩) | h
 ·exact .inl (.inl (t.tup _ _ h))
 ·exact .inl (.inr ⟨o, t.frz _ _ _ h⟩)
 ·exact .inr h
theorem FAt.tf {a vs} (t : TF H H') (h : FAt K H a vs) : FAt K H' a vs := by
 rcases h with ⟨o, h⟩ | h
 ·exact .inl ⟨o, t.frz _ _ _ h⟩
 ·exact .inr h
theorem FAt.sq {a vs} (h : FAt K H a vs) : SqL K H a vs := by
 rcases h with ⟨o, h⟩ | (h | ⟨_, h⟩) | h
 ·exact .inl (.inr ⟨o, h⟩)
 ·cases h
 ·cases h
 ·exact .inr h
mutual
theorem RelD.tf (t : TF H H') : ∀ (d : D) (v : V), RelD K H d v -> RelD K H' d v
 | .non, _, h => by simpa only [RelD] using h
 | .bl _, _, h => by simpa only [RelD] using h
 | .int _, _, h => by simpa only [RelD] using h
 | .str _, _, h => by simpa only [RelD] using h
 | .tup xs, v, h => by
  simp only [RelD] at h ⊢
  obtain ⟨a, vs, e, s, r⟩ := h
  exact ⟨a, vs, e, SqT.tf t s, RelDs.tf t xs vs r⟩
 | .fl xs, v, h => by
  simp only [RelD] at h ⊢
  obtain ⟨a, vs, e, s, r⟩ := h
  exact ⟨a, vs, e, s.tf t, RelDs.tf t xs vs r⟩
 | .fd ks ds, v, h => by
  simp only [RelD] at h ⊢
  obtain ⟨a, o, es, e, s, k, r⟩ := h
  exact ⟨a, o, es, e, t.frz _ _ _ s, k, RelDs.tf t ds _ r⟩
 | .key ks, v, h => by
  simp only [RelD] at h ⊢
  obtain ⟨a, e, q⟩ := h
  exact ⟨a, e, t.tup _ _ q⟩
theorem RelDs.tf (t : TF H H') : ∀ (ds : List D) (vs : List V), RelDs K H ds vs -> RelDs K H' ds vs
 | [], _, h => by simpa only [RelDs] using h
 | d :: ds, vs, h => by
  simp only [RelDs] at h ⊢
  obtain ⟨v, r, e, h1, h2⟩ := h
  exact ⟨v, r, e, RelD.tf t d v h1, RelDs.tf t ds r h2⟩
end
theorem LamR.tf {L ds a cl pm ctv c'} (t : TF H H') (h : LamR K H L ds a cl pm ctv c') : LamR K H' L ds a cl pm ctv c' := by
 refine ⟨t.frz _ _ _ h.fn, ?_, h.len, fun y c e => ?_, fun i y d e1 e2 => ?_, h.sc⟩
 ·obtain ⟨oc, vs, u, e, r⟩ := h.code; exact ⟨oc, vs, u, t.frz _ _ _ e, r⟩
 ·obtain ⟨z, o, q, r⟩ := h.cell y c e; exact ⟨z, o, t.frz _ _ _ q, r⟩
 ·obtain ⟨c, o, u, vy, k1, k2, k3, k4, k5, k6⟩ := h.cap i y d e1 e2; exact ⟨c, o, u, vy, k1, k2, t.frz _ _ _ k3, k4, k5, RelD.tf t _ _ k6⟩
theorem Ext.refl : Ext m H m H := ⟨⟨[], by simp⟩, .refl, fun _ _ h _ => h, fun _ h => h⟩
theorem Ext.trans (x : Ext m H m1 H1) (y : Ext m1 H1 m2 H2) : Ext m H m2 H2 := by
 obtain ⟨e1, rfl, f1⟩ := x.ext
 obtain ⟨e2, rfl, f2⟩ := y.ext
 refine ⟨⟨e1 ++ e2, by simp, fun a ha => ?_⟩, x.tf.trans y.tf, fun a o h n => ?_, fun a h => x.live a (y.live a h)⟩
 ·rcases List.mem_append.mp ha with h | h
  ·exact f1 a h
  ·exact x.live a (f2 a h)
 ·refine y.keep a o (x.keep a o h n) fun z => ?_
  rcases List.mem_append.mp z with z | z
  ·exact n z
  ·rw [f1 a z] at h; cases h
theorem RelR.ext (x : Ext m H m' H') {d : R} {v : V} (h : RelR K m H d v) : RelR K m' H' d v := by
 cases d with
 | v d => exact RelD.tf x.tf d v h
 | p n =>
  obtain ⟨a, e, q⟩ := h
  obtain ⟨e1, rfl, _⟩ := x.ext
  refine ⟨a, e, ?_⟩
  obtain ⟨hl, hq⟩ := List.getElem?_eq_some_iff.mp q
  rw [List.getElem?_append_left hl]; exact q
 | s b xs =>
  obtain ⟨a, o, e, q, r⟩ := h
  exact ⟨a, o, e, x.tf.frz _ _ _ q, r⟩
 | x c =>
  obtain ⟨a, vs, C, e, q, r⟩ := h
  exact ⟨a, vs, C, e, x.tf.frz _ _ _ q, r⟩
 | f L ds =>
  obtain ⟨a, cl, pm, ctv, c', e, q⟩ := h
  exact ⟨a, cl, pm, ctv, c', e, q.tf x.tf⟩
theorem RelRs.ext (x : Ext m H m' H') : ∀ {ds : List R} {vs : List V}, RelRs K m H ds vs -> RelRs K m' H' ds vs
 | [], _, h => h
 | _ :: _, _, ⟨v, r, e, h1, h2⟩ => ⟨v, r, e, h1.ext x, RelRs.ext x h2⟩
theorem LRel.ext (x : Ext m H m' H') (h : LRel K m H ρ σ) : LRel K m' H' ρ σ :=
 ⟨h.1, fun i d e => let ⟨v, q, r⟩ := h.2 i d e; ⟨v, q, r.ext x⟩⟩
theorem RelR.tfm (t : TF H H') (y : ∃ e, m' = m ++ e) {d : R} {v : V} (h : RelR K m H d v) : RelR K m' H' d v := by
 cases d with
 | v d => exact RelD.tf t d v h
 | p n =>
  obtain ⟨a, e, q⟩ := h
  obtain ⟨e1, rfl⟩ := y
  refine ⟨a, e, ?_⟩
  obtain ⟨hl, hq⟩ := List.getElem?_eq_some_iff.mp q
  rw [List.getElem?_append_left hl]; exact q
 | s b xs =>
  obtain ⟨a, o, e, q, r⟩ := h
  exact ⟨a, o, e, t.frz _ _ _ q, r⟩
 | x c =>
  obtain ⟨a, vs, C, e, q, r⟩ := h
  exact ⟨a, vs, C, e, t.frz _ _ _ q, r⟩
 | f L ds =>
  obtain ⟨a, cl, pm, ctv, c', e, q⟩ := h
  exact ⟨a, cl, pm, ctv, c', e, q.tf t⟩
theorem RelRs.tfm (t : TF H H') (y : ∃ e, m' = m ++ e) : ∀ {ds : List R} {vs : List V}, RelRs K m H ds vs -> RelRs K m' H' ds vs
 | [], _, h => h
 | _ :: _, _, ⟨v, r, e, h1, h2⟩ => ⟨v, r, e, h1.tfm t y, RelRs.tfm t y h2⟩
theorem CellR.same (s : ∀ a o, H a = some o -> H' a = some o) (y : ∃ e, m' = m ++ e) {c : Cell} {a : Addr} (h : CellR K m H c a) : CellR K m' H' c a := by
 cases c with
 | lst xs => obtain ⟨vs, e, r⟩ := h; exact ⟨vs, s _ _ e, RelDs.tf (.of s) _ _ r⟩
 | fz xs => obtain ⟨o, vs, e, r⟩ := h; exact ⟨o, vs, s _ _ e, RelDs.tf (.of s) _ _ r⟩
 | dct kvs => obtain ⟨es, e, k, r⟩ := h; exact ⟨es, s _ _ e, k, RelDs.tf (.of s) _ _ r⟩
 | fzd kvs => obtain ⟨o, es, e, k, r⟩ := h; exact ⟨o, es, s _ _ e, k, RelDs.tf (.of s) _ _ r⟩
 | fzt kvs => obtain ⟨o, es, e, k, r⟩ := h; exact ⟨o, es, s _ _ e, k, RelDs.tf (.of s) _ _ r⟩
 | hk kvs => obtain ⟨o, es, e, k, r⟩ := h; exact ⟨o, es, s _ _ e, k, RelDs.tf (.of s) _ _ r⟩
 | dr kvs => obtain ⟨es, e, k, r⟩ := h; exact ⟨es, s _ _ e, k, RelRs.tfm (.of s) y r⟩
 | lr xs => obtain ⟨vs, e, r⟩ := h; exact ⟨vs, s _ _ e, RelRs.tfm (.of s) y r⟩
 | dt kvs => obtain ⟨es, e, k, r⟩ := h; exact ⟨es, s _ _ e, k, RelDs.tf (.of s) _ _ r⟩
 | tb P q => obtain ⟨e, ps, k, r⟩ := h; exact ⟨e, ps, s _ _ k, r.mono fun b o u g => s _ _ g⟩
 | ob c fs => obtain ⟨C, dx, es, n, e, k, r⟩ := h; exact ⟨C, dx, es, n, s _ _ e, k, RelRs.tfm (.of s) y r⟩
 | tr xs => obtain ⟨vs, e, r⟩ := h; exact ⟨vs, s _ _ e, RelRs.tfm (.of s) y r⟩
 | fzr kvs => obtain ⟨o, es, e, k, r⟩ := h; exact ⟨o, es, s _ _ e, k, RelRs.tfm (.of s) y r⟩
 | dtr kvs => obtain ⟨es, e, k, r⟩ := h; exact ⟨es, s _ _ e, k, RelRs.tfm (.of s) y r⟩
theorem CellR.some {c : Cell} {a : Addr} (h : CellR K m H c a) : ∃ o, H a = some o := by
 cases c with
 | lst xs => obtain ⟨vs, e, r⟩ := h; exact ⟨_, e⟩
 | fz xs => obtain ⟨o, vs, e, r⟩ := h; exact ⟨_, e⟩
 | dct kvs => obtain ⟨es, e, k, r⟩ := h; exact ⟨_, e⟩
 | fzd kvs => obtain ⟨o, es, e, k, r⟩ := h; exact ⟨_, e⟩
 | fzt kvs => obtain ⟨o, es, e, k, r⟩ := h; exact ⟨_, e⟩
 | hk kvs => obtain ⟨o, es, e, k, r⟩ := h; exact ⟨_, e⟩
 | dr kvs => obtain ⟨es, e, k, r⟩ := h; exact ⟨_, e⟩
 | lr xs => obtain ⟨vs, e, r⟩ := h; exact ⟨_, e⟩
 | dt kvs => obtain ⟨es, e, k, r⟩ := h; exact ⟨_, e⟩
 | tb P q => obtain ⟨e, ps, k, r⟩ := h; exact ⟨_, e ▸ k⟩
 | ob c fs => obtain ⟨C, dx, es, n, e, k, r⟩ := h; exact ⟨_, e⟩
 | tr xs => obtain ⟨vs, e, r⟩ := h; exact ⟨_, e⟩
 | fzr kvs => obtain ⟨o, es, e, k, r⟩ := h; exact ⟨_, e⟩
 | dtr kvs => obtain ⟨es, e, k, r⟩ := h; exact ⟨_, e⟩
theorem SRel.same (h : SRel K m H μ) (s : ∀ a o, H a = some o -> H' a = some o) : SRel K m H' μ :=
 ⟨h.nd, h.len, fun i c a e1 e2 => (h.cell i c a e1 e2).same s ⟨[], by simp⟩⟩
theorem SRel.mem (h : SRel K m H μ) {a : Addr} (ha : a ∈ m) : ∃ o, H a = some o := by
 obtain ⟨i, hi, e⟩ := List.getElem_of_mem ha
 have hi' : i < μ.length := by rw [← h.len]; exact hi
 exact (h.cell i μ[i] a (List.getElem?_eq_getElem hi') (by rw [← e]; exact List.getElem?_eq_getElem hi)).some
theorem SRel.fresh (h : SRel K m H μ) {p : Addr} (hp : H p = none) : p ∉ m := fun z => by
 obtain ⟨o, e⟩ := h.mem z
 rw [hp] at e; cases e
theorem SRel.nil : SRel K [] H [] := ⟨.nil, rfl, fun i c a e => by simp at e⟩
theorem upd_keeps {p : Addr} {o : HO} (hp : H p = none) : ∀ a u, H a = some u -> upd H p o a = some u := fun a u e => by
 unfold upd; rw [if_neg (fun z => by rw [z, hp] at e; cases e)]; exact e
theorem upd_live {p : Addr} {o : HO} {a : Addr} (h : upd H p o a = none) : H a = none := by
 unfold upd at h; split at h
 ·cases h
 ·exact h
theorem upd_at {p : Addr} {o : HO} : upd H p o p = some o := by unfold upd; rw [if_pos rfl]
theorem Ext.new {p : Addr} {o : HO} (hp : H p = none) : Ext m H m (upd H p o) :=
 ⟨⟨[], by simp⟩, .of (upd_keeps hp), fun a u e _ => upd_keeps hp a u e, fun _ h => upd_live h⟩
theorem Ext.newH {p : Addr} {o : HO} (hp : H p = none) : Ext m H (m ++ [p]) (upd H p o) :=
 ⟨⟨[p], rfl, fun a h => by rw [List.mem_singleton.mp h]; exact hp⟩, .of (upd_keeps hp), fun a u e _ => upd_keeps hp a u e, fun _ h => upd_live h⟩
theorem SRel.newH {p : Addr} {o : HO} {c : Cell} (h : SRel K m H μ) (hp : H p = none) (hc : CellR K (m ++ [p]) (upd H p o) c p) : SRel K (m ++ [p]) (upd H p o) (μ ++ [c]) := by
 refine ⟨?_, by simp [h.len], fun i c' a e1 e2 => ?_⟩
 ·refine List.nodup_append.mpr ⟨h.nd, by simp, fun a ha b hb => ?_⟩
  rw [List.mem_singleton.mp hb]
  rintro rfl
  exact h.fresh hp ha
 ·by_cases hi : i < m.length
  ·rw [List.getElem?_append_left hi] at e2
   rw [List.getElem?_append_left (by rw [← h.len]; exact hi)] at e1
   exact (h.cell i c' a e1 e2).same (upd_keeps hp) ⟨[p], rfl⟩
  ·rw [List.getElem?_append_right (by omega)] at e2
   rw [List.getElem?_append_right (by have := h.len; omega)] at e1
   have hl := h.len
   have : i - m.length = 0 := by
    cases q : i - m.length with
    | zero => rfl
    | succ k => rw [q] at e2; simp at e2
   have e3 : i - μ.length = 0 := by omega
   rw [this] at e2; rw [e3] at e1
   simp at e1 e2
   subst e1 e2
   exact hc
theorem Ext.put {a : Addr} {o o' : HO} (ha : a ∈ m) (e : H a = some o) (ho : ∀ xs, o ≠ .tup xs) (hf : ∀ x u, o ≠ .frz x u) : Ext m H m (upd H a o') := by
 have ne : ∀ b u, H b = some u -> u ≠ o -> b ≠ a := fun b u q n z => by rw [z, e] at q; exact n (Option.some.inj q).symm
 refine ⟨⟨[], by simp⟩, ⟨fun b xs q => ?_, fun b x u q => ?_⟩, fun b u q n => ?_, fun b h => upd_live h⟩
 ·unfold upd; rw [if_neg (ne b _ q fun z => ho xs z.symm)]; exact q
 ·unfold upd; rw [if_neg (ne b _ q fun z => hf x u z.symm)]; exact q
 ·unfold upd; rw [if_neg (fun z : b = a => n (by rw [z]; exact ha))]; exact q
theorem SRel.put {n : Nat} {a : Addr} {o o' : HO} {c : Cell} (h : SRel K m H μ) (hn : m[n]? = some a) (e : H a = some o) (ho : ∀ xs, o ≠ .tup xs) (hf : ∀ x u, o ≠ .frz x u) (hc : CellR K m (upd H a o') c a) : SRel K m (upd H a o') (μ.set n c) := by
 have ha : a ∈ m := List.mem_of_getElem? hn
 have x : Ext m H m (upd H a o') := .put ha e ho hf
 refine ⟨h.nd, by simp [h.len], fun i c' b e1 e2 => ?_⟩
 by_cases hi : i = n
 ·subst hi
  rw [hn] at e2; cases e2
  rw [List.getElem?_set_self (by have := (List.getElem?_eq_some_iff.mp hn).1; have := h.len; omega)] at e1
  cases e1
  exact hc
 ·rw [List.getElem?_set_ne (Ne.symm hi)] at e1
  have nb : b ≠ a := by
   rintro rfl
   obtain ⟨h1, q1⟩ := List.getElem?_eq_some_iff.mp e2
   obtain ⟨h2, q2⟩ := List.getElem?_eq_some_iff.mp hn
   exact hi ((List.getElem_inj h.nd).mp (q1.trans q2.symm))
  have at' : ∀ u, H b = some u -> upd H a o' b = some u := fun u q => by unfold upd; rw [if_neg nb]; exact q
  have z := h.cell i c' b e1 e2
  cases c' with
  | lst xs => obtain ⟨vs, e, r⟩ := z; exact ⟨vs, at' _ e, RelDs.tf x.tf _ _ r⟩
  | fz xs => obtain ⟨o, vs, e, r⟩ := z; exact ⟨o, vs, at' _ e, RelDs.tf x.tf _ _ r⟩
  | dct kvs => obtain ⟨es, e, k, r⟩ := z; exact ⟨es, at' _ e, k, RelDs.tf x.tf _ _ r⟩
  | fzd kvs => obtain ⟨o, es, e, k, r⟩ := z; exact ⟨o, es, at' _ e, k, RelDs.tf x.tf _ _ r⟩
  | fzt kvs => obtain ⟨o, es, e, k, r⟩ := z; exact ⟨o, es, at' _ e, k, RelDs.tf x.tf _ _ r⟩
  | hk kvs => obtain ⟨o, es, e, k, r⟩ := z; exact ⟨o, es, at' _ e, k, RelDs.tf x.tf _ _ r⟩
  | dr kvs => obtain ⟨es, e, k, r⟩ := z; exact ⟨es, at' _ e, k, RelRs.tfm x.tf ⟨[], by simp⟩ r⟩
  | lr xs => obtain ⟨vs, e, r⟩ := z; exact ⟨vs, at' _ e, RelRs.tfm x.tf ⟨[], by simp⟩ r⟩
  | dt kvs => obtain ⟨es, e, k, r⟩ := z; exact ⟨es, at' _ e, k, RelDs.tf x.tf _ _ r⟩
  | tb P q => obtain ⟨e, ps, k, r⟩ := z; subst e; exact ⟨rfl, ps, at' _ k, r.mono x.tf.frz⟩
  | ob c fs => obtain ⟨C, dx, es, n, e, k, r⟩ := z; exact ⟨C, dx, es, n, at' _ e, k, RelRs.tfm x.tf ⟨[], by simp⟩ r⟩
  | tr xs => obtain ⟨vs, e, r⟩ := z; exact ⟨vs, at' _ e, RelRs.tfm x.tf ⟨[], by simp⟩ r⟩
  | fzr kvs => obtain ⟨o, es, e, k, r⟩ := z; exact ⟨o, es, at' _ e, k, RelRs.tfm x.tf ⟨[], by simp⟩ r⟩
  | dtr kvs => obtain ⟨es, e, k, r⟩ := z; exact ⟨es, at' _ e, k, RelRs.tfm x.tf ⟨[], by simp⟩ r⟩
end
def rdE (K : PySem.W.Frag) (f : FE) : TE := fun σ H Q => ∃ ρ μ m d μ', LRel K m H ρ σ /\ SRel K m H μ /\ f ρ μ = some (d, μ') /\
 ∀ v H' m', Ext m H m' H' -> SRel K m' H' μ' -> RelR K m' H' d v -> Q v H'
def rdT (K : PySem.W.Frag) (f : FT) : TT := fun σ H Q => ∃ ρ μ m b μ', LRel K m H ρ σ /\ SRel K m H μ /\ f ρ μ = some (b, μ') /\
 ∀ H' m', Ext m H m' H' -> SRel K m' H' μ' -> Q b H'
def rdA (K : PySem.W.Frag) (f : FA) : TA := fun σ H Q => ∃ ρ μ m ds μ', LRel K m H ρ σ /\ SRel K m H μ /\ f ρ μ = some (ds, μ') /\
 ∀ vs H' m', Ext m H m' H' -> SRel K m' H' μ' -> RelRs K m' H' ds vs -> Q vs H'
def Ends.of (K : PySem.W.Frag) (m : List Addr) (H : Hp) (D : Ends) : Out -> Prop
 | .nx ρ μ => ∀ σ H' m', Ext m H m' H' -> SRel K m' H' μ -> LRel K m' H' ρ σ -> D.nx σ H'
 | .bk ρ μ => ∀ σ H' m', Ext m H m' H' -> SRel K m' H' μ -> LRel K m' H' ρ σ -> D.bk σ H'
 | .ct ρ μ => ∀ σ H' m', Ext m H m' H' -> SRel K m' H' μ -> LRel K m' H' ρ σ -> D.ct σ H'
 | .rt d μ => ∀ v H' m', Ext m H m' H' -> SRel K m' H' μ -> RelR K m' H' d v -> D.rt v H'
def rdS (K : PySem.W.Frag) (f : FS) : TS := fun D σ H => ∃ ρ μ m out, LRel K m H ρ σ /\ SRel K m H μ /\ f ρ μ = some out /\ Ends.of K m H D out
noncomputable def fVar (i : Nat) : FE := fun ρ μ => match ρ[i]? with | some (some d) => some (d, μ) | _ => none
noncomputable def fK (d : D) : FE := fun _ μ => some (.v d, μ)
noncomputable def fOp (g : R -> R -> Store -> Option (R × Store)) (fa fb : FE) : FE := fun ρ μ => (fa ρ μ).bind fun a => (fb ρ a.2).bind fun b => g a.1 b.1 b.2
noncomputable def fUn (g : R -> Store -> Option (R × Store)) (fa : FE) : FE := fun ρ μ => (fa ρ μ).bind fun a => g a.1 a.2
def GOp (K : PySem.W.Frag) (g : R -> R -> Store -> Option (R × Store)) (r : R2) : Prop :=
 ∀ m H μ x y d μ' v u Q, SRel K m H μ -> RelR K m H x v -> RelR K m H y u -> g x y μ = some (d, μ') -> (∀ w H' m', Ext m H m' H' -> SRel K m' H' μ' -> RelR K m' H' d w -> Q w H') -> r v u H Q
def GUn (K : PySem.W.Frag) (g : R -> Store -> Option (R × Store)) (r : V -> Hp -> VK -> Prop) : Prop :=
 ∀ m H μ x d μ' v Q, SRel K m H μ -> RelR K m H x v -> g x μ = some (d, μ') -> (∀ w H' m', Ext m H m' H' -> SRel K m' H' μ' -> RelR K m' H' d w -> Q w H') -> r v H Q
def GAr (K : PySem.W.Frag) (g : List R -> Store -> Option (R × Store)) (r : List V -> Hp -> VK -> Prop) : Prop :=
 ∀ m H μ xs d μ' vs Q, SRel K m H μ -> RelRs K m H xs vs -> g xs μ = some (d, μ') -> (∀ w H' m', Ext m H m' H' -> SRel K m' H' μ' -> RelR K m' H' d w -> Q w H') -> r vs H Q
noncomputable def fNil : FA := fun _ μ => some ([], μ)
noncomputable def fCons (fa : FE) (fr : FA) : FA := fun ρ μ => (fa ρ μ).bind fun a => (fr ρ a.2).bind fun r => some (a.1 :: r.1, r.2)
noncomputable def fAr (g : List R -> Store -> Option (R × Store)) (fa : FA) : FE := fun ρ μ => (fa ρ μ).bind fun a => g a.1 a.2
section
variable {K : PySem.W.Frag} {σ : St} {H : Hp} {Q : VK}
theorem rd_var {i : Nat} (h : rdE K (fVar i) σ H Q) : tVar i σ H Q := by
 obtain ⟨ρ, μ, m, d, μ', hl, hs, e, k⟩ := h
 unfold fVar at e
 split at e
 ·rename_i d' q
  cases e
  obtain ⟨v, q1, q2⟩ := hl.2 i _ q
  exact ⟨v, q1, k v H m .refl hs q2⟩
 ·cases e
theorem rd_const {d : D} {v : V} (hv : ∀ m H, RelR K m H (.v d) v) (h : rdE K (fK d) σ H Q) : tC v σ H Q := by
 obtain ⟨ρ, μ, m, d', μ', hl, hs, e, k⟩ := h
 cases e
 exact k v H m .refl hs (hv _ _)
theorem rd_op {g r fa fb} (hg : GOp K g r) (h : rdE K (fOp g fa fb) σ H Q) : tOp r (rdE K fa) (rdE K fb) σ H Q := by
 obtain ⟨ρ, μ, m, d, μ', hl, hs, e, k⟩ := h
 obtain ⟨⟨x, μ1⟩, e1, e⟩ := Option.bind_eq_some_iff.mp e
 obtain ⟨⟨y, μ2⟩, e2, e⟩ := Option.bind_eq_some_iff.mp e
 refine ⟨ρ, μ, m, x, μ1, hl, hs, e1, fun v H1 m1 x1 s1 r1 => ?_⟩
 refine ⟨ρ, μ1, m1, y, μ2, hl.ext x1, s1, e2, fun u H2 m2 x2 s2 r2 => ?_⟩
 exact hg m2 H2 μ2 x y d μ' v u Q s2 (r1.ext x2) r2 e fun w H3 m3 x3 s3 r3 => k w H3 m3 ((x1.trans x2).trans x3) s3 r3
theorem rd_un {g r fa} (hg : GUn K g r) (h : rdE K (fUn g fa) σ H Q) : tUn r (rdE K fa) σ H Q := by
 obtain ⟨ρ, μ, m, d, μ', hl, hs, e, k⟩ := h
 obtain ⟨⟨x, μ1⟩, e1, e⟩ := Option.bind_eq_some_iff.mp e
 refine ⟨ρ, μ, m, x, μ1, hl, hs, e1, fun v H1 m1 x1 s1 r1 => ?_⟩
 exact hg m1 H1 μ1 x d μ' v Q s1 r1 e fun w H3 m3 x3 s3 r3 => k w H3 m3 (x1.trans x3) s3 r3
theorem rd_nil {Q : List V -> Hp -> Prop} (h : rdA K fNil σ H Q) : tNil σ H Q := by
 obtain ⟨ρ, μ, m, ds, μ', hl, hs, e, k⟩ := h
 cases e
 exact k [] H m .refl hs rfl
theorem rd_cons {fa fr} {Q : List V -> Hp -> Prop} (h : rdA K (fCons fa fr) σ H Q) : tCons (rdE K fa) (rdA K fr) σ H Q := by
 obtain ⟨ρ, μ, m, ds, μ', hl, hs, e, k⟩ := h
 obtain ⟨⟨x, μ1⟩, e1, e⟩ := Option.bind_eq_some_iff.mp e
 obtain ⟨⟨xs, μ2⟩, e2, e⟩ := Option.bind_eq_some_iff.mp e
 cases e
 refine ⟨ρ, μ, m, x, μ1, hl, hs, e1, fun v H1 m1 x1 s1 r1 => ?_⟩
 refine ⟨ρ, μ1, m1, xs, μ2, hl.ext x1, s1, e2, fun vs H2 m2 x2 s2 r2 => ?_⟩
 exact k (v :: vs) H2 m2 (x1.trans x2) s2 ⟨v, vs, rfl, r1.ext x2, r2⟩
theorem rd_ar {g r fa} (hg : GAr K g r) (h : rdE K (fAr g fa) σ H Q) : tCB r (rdA K fa) σ H Q := by
 obtain ⟨ρ, μ, m, d, μ', hl, hs, e, k⟩ := h
 obtain ⟨⟨xs, μ1⟩, e1, e⟩ := Option.bind_eq_some_iff.mp e
 refine ⟨ρ, μ, m, xs, μ1, hl, hs, e1, fun vs H1 m1 x1 s1 r1 => ?_⟩
 exact hg m1 H1 μ1 xs d μ' vs Q s1 r1 e fun w H3 m3 x3 s3 r3 => k w H3 m3 (x1.trans x3) s3 r3
end
noncomputable def fB (fa : FE) : FT := fun ρ μ => (fa ρ μ).bind fun a => match a.1 with | .v (.bl b) => some (b, a.2) | _ => none
noncomputable def truD : R -> Store -> Option Bool
 | .v .non, _ => some false
 | .v (.bl b), _ => some b
 | .v (.int i), _ => some (i != 0)
 | .v (.str x), _ => if x.length <= sizeLine then some ((x.length : Int) != 0) else none
 | .v (.tup xs), _ => some (!xs.isEmpty)
 | .v (.fl xs), _ => some (!xs.isEmpty)
 | .v (.fd _ _), _ => none
 | .v (.key _), _ => none
 | .s _ _, _ => none
 | .x _, _ => none
 | .f _ _, _ => none
 | .p n, μ => match μ[n]? with | some (.lst xs) => some (!xs.isEmpty) | some (.fz xs) => some (!xs.isEmpty) | some (.dct kvs) => some (!kvs.isEmpty) | _ => none
noncomputable def fTru (fa : FE) : FT := fun ρ μ => (fa ρ μ).bind fun a => (truD a.1 a.2).bind fun b => some (b, a.2)
noncomputable def tAndF (t u : FT) : FT := fun ρ μ => (t ρ μ).bind fun c => if c.1 = true then u ρ c.2 else some (false, c.2)
noncomputable def tOrF (t u : FT) : FT := fun ρ μ => (t ρ μ).bind fun c => if c.1 = true then some (true, c.2) else u ρ c.2
noncomputable def tNotF (t : FT) : FT := fun ρ μ => (t ρ μ).bind fun c => some (!c.1, c.2)
noncomputable def fAnd (fa fb : FE) : FE := fun ρ μ => (fa ρ μ).bind fun a => match a.1 with | .v (.bl c) => if c = true then fb ρ a.2 else some (.v (.bl false), a.2) | _ => none
noncomputable def fOr (fa fb : FE) : FE := fun ρ μ => (fa ρ μ).bind fun a => match a.1 with | .v (.bl c) => if c = true then some (.v (.bl true), a.2) else fb ρ a.2 | _ => none
noncomputable def fNot (fa : FE) : FE := fun ρ μ => (fa ρ μ).bind fun a => match a.1 with | .v (.bl c) => some (.v (.bl (!c)), a.2) | _ => none
noncomputable def fIf (t : FT) (fa fb : FE) : FE := fun ρ μ => (t ρ μ).bind fun c => if c.1 = true then fa ρ c.2 else fb ρ c.2
theorem RelDs.length {K : PySem.W.Frag} {H : Hp} : ∀ {ds : List D} {vs : List V}, RelDs K H ds vs -> ds.length = vs.length
 | [], _, h => by simp only [RelDs] at h; subst h; rfl
 | _ :: _, _, h => by
  simp only [RelDs] at h
  obtain ⟨v, r, rfl, _, h2⟩ := h
  simp [RelDs.length h2]
theorem RelDs.empty {K : PySem.W.Frag} {H : Hp} {ds : List D} {vs : List V} (h : RelDs K H ds vs) : ds.isEmpty = vs.isEmpty := by
 have := h.length
 cases ds <;> cases vs <;> simp_all
section
variable {K : PySem.W.Frag} {σ : St} {H : Hp} {Q : VK} {B : Bool -> Hp -> Prop}
theorem rd_B {fa} (h : rdT K (fB fa) σ H B) : tB (rdE K fa) σ H B := by
 obtain ⟨ρ, μ, m, d, μ', hl, hs, e, k⟩ := h
 obtain ⟨⟨x, μ1⟩, e1, e⟩ := Option.bind_eq_some_iff.mp e
 split at e
 ·rename_i b q
  cases e
  subst q
  exact ⟨ρ, μ, m, _, μ1, hl, hs, e1, fun v H1 m1 x1 s1 r1 => ⟨_, by simpa only [RelR, RelD] using r1, k H1 m1 x1 s1⟩⟩
 ·cases e
theorem rd_Test {fa} (h : rdT K (fB fa) σ H B) : tTest (rdE K fa) σ H B := rd_B h
theorem tru_ok {m : List Addr} {μ : Store} {x : R} {b : Bool} {v : V} (s : SRel K m H μ) (r : RelR K m H x v) (e : truD x μ = some b) : TruV K v H b := by
 cases x with
 | v d =>
  cases d with
  | non => cases e; cases r; rfl
  | bl c => cases e; simp only [RelR, RelD] at r; subst r; rfl
  | int i => cases e; simp only [RelR, RelD] at r; subst r; rfl
  | str x =>
   simp only [RelR, RelD] at r
   subst r
   delta truD at e
   dsimp only at e
   split at e
   ·rename_i z; cases e; exact ⟨z, rfl⟩
   ·cases e
  | tup xs =>
   cases e
   simp only [RelR, RelD] at r
   obtain ⟨a, vs, rfl, q, r⟩ := r
   exact .inr (.inl ⟨vs, q, by rw [r.empty]⟩)
  | fl xs =>
   cases e
   simp only [RelR, RelD] at r
   obtain ⟨a, vs, rfl, q, r⟩ := r
   exact .inl ⟨vs, q.sq, by rw [r.empty]⟩
  | fd ks ds => cases e
  | key ks => cases e
 | s b xs => cases e
 | x _ => cases e
 | f _ _ => cases e
 | p n =>
  obtain ⟨a, rfl, ha⟩ := r
  delta truD at e
  dsimp only at e
  split at e
  ·rename_i xs q
   cases e
   obtain ⟨vs, e, r⟩ := s.cell n _ a q ha
   exact .inl ⟨vs, .inl (.inl e), by rw [r.empty]⟩
  ·rename_i xs q
   cases e
   obtain ⟨o, vs, e, r⟩ := s.cell n _ a q ha
   exact .inl ⟨vs, .inl (.inr ⟨o, e⟩), by rw [r.empty]⟩
  ·rename_i kvs q
   cases e
   obtain ⟨es, e, k, r⟩ := s.cell n _ a q ha
   refine .inr (.inr ⟨es, e, ?_⟩)
   have := congrArg List.length k
   cases es <;> cases kvs <;> simp_all
  ·cases e
theorem rd_tru {fa} (h : rdT K (fTru fa) σ H B) : (fun σ H (Q : Bool -> Hp -> Prop) => rdE K fa σ H fun x H1 => ∃ k, TruV K x H1 k /\ Q k H1) σ H B := by
 obtain ⟨ρ, μ, m, d, μ', hl, hs, e, k⟩ := h
 obtain ⟨⟨x, μ1⟩, e1, e⟩ := Option.bind_eq_some_iff.mp e
 obtain ⟨b, e2, e⟩ := Option.bind_eq_some_iff.mp e
 cases e
 exact ⟨ρ, μ, m, x, _, hl, hs, e1, fun v H1 m1 x1 s1 r1 => ⟨_, tru_ok s1 r1 e2, k H1 m1 x1 s1⟩⟩
theorem rd_tand {t u} (h : rdT K (tAndF t u) σ H B) : tAnd (rdT K t) (rdT K u) σ H B := by
 obtain ⟨ρ, μ, m, d, μ', hl, hs, e, k⟩ := h
 obtain ⟨⟨c, μ1⟩, e1, e⟩ := Option.bind_eq_some_iff.mp e
 refine ⟨ρ, μ, m, c, μ1, hl, hs, e1, fun H1 m1 x1 s1 => ?_⟩
 cases c with
 | true => exact ⟨ρ, μ1, m1, d, μ', hl.ext x1, s1, e, fun H2 m2 x2 s2 => k H2 m2 (x1.trans x2) s2⟩
 | false => cases e; exact k H1 m1 x1 s1
theorem rd_tor {t u} (h : rdT K (tOrF t u) σ H B) : tOr (rdT K t) (rdT K u) σ H B := by
 obtain ⟨ρ, μ, m, d, μ', hl, hs, e, k⟩ := h
 obtain ⟨⟨c, μ1⟩, e1, e⟩ := Option.bind_eq_some_iff.mp e
 refine ⟨ρ, μ, m, c, μ1, hl, hs, e1, fun H1 m1 x1 s1 => ?_⟩
 cases c with
 | false => exact ⟨ρ, μ1, m1, d, μ', hl.ext x1, s1, e, fun H2 m2 x2 s2 => k H2 m2 (x1.trans x2) s2⟩
 | true => cases e; exact k H1 m1 x1 s1
theorem rd_tnot {t} (h : rdT K (tNotF t) σ H B) : tNot (rdT K t) σ H B := by
 obtain ⟨ρ, μ, m, d, μ', hl, hs, e, k⟩ := h
 obtain ⟨⟨c, μ1⟩, e1, e⟩ := Option.bind_eq_some_iff.mp e
 cases e
 exact ⟨ρ, μ, m, c, μ1, hl, hs, e1, fun H1 m1 x1 s1 => k H1 m1 x1 s1⟩
theorem rd_and {fa fb} (h : rdE K (fAnd fa fb) σ H Q) : tAndV (rdE K fa) (rdE K fb) σ H Q := by
 obtain ⟨ρ, μ, m, d, μ', hl, hs, e, k⟩ := h
 obtain ⟨⟨x, μ1⟩, e1, e⟩ := Option.bind_eq_some_iff.mp e
 split at e
 ·rename_i c q
  subst q
  refine ⟨ρ, μ, m, _, μ1, hl, hs, e1, fun v H1 m1 x1 s1 r1 => ⟨c, by simpa only [RelR, RelD] using r1, ?_⟩⟩
  cases c with
  | true => exact ⟨ρ, μ1, m1, d, μ', hl.ext x1, s1, e, fun w H2 m2 x2 s2 r2 => k w H2 m2 (x1.trans x2) s2 r2⟩
  | false => cases e; exact k _ H1 m1 x1 s1 (by simp only [RelR, RelD])
 ·cases e
theorem rd_not {fa} (h : rdE K (fNot fa) σ H Q) : tNotV (rdE K fa) σ H Q := by
 obtain ⟨ρ, μ, m, d, μ', hl, hs, e, k⟩ := h
 obtain ⟨⟨x, μ1⟩, e1, e⟩ := Option.bind_eq_some_iff.mp e
 split at e
 ·rename_i c q
  cases e
  subst q
  exact ⟨ρ, μ, m, _, μ1, hl, hs, e1, fun v H1 m1 x1 s1 r1 => ⟨c, by simpa only [RelR, RelD] using r1, k _ H1 m1 x1 s1 (by simp only [RelR, RelD])⟩⟩
 ·cases e
theorem rd_if {t fa fb} (h : rdE K (fIf t fa fb) σ H Q) : tIf (rdT K t) (rdE K fa) (rdE K fb) σ H Q := by
 obtain ⟨ρ, μ, m, d, μ', hl, hs, e, k⟩ := h
 obtain ⟨⟨c, μ1⟩, e1, e⟩ := Option.bind_eq_some_iff.mp e
 refine ⟨ρ, μ, m, c, μ1, hl, hs, e1, fun H1 m1 x1 s1 => ?_⟩
 cases c with
 | true => exact ⟨ρ, μ1, m1, d, μ', hl.ext x1, s1, e, fun w H2 m2 x2 s2 r2 => k w H2 m2 (x1.trans x2) s2 r2⟩
 | false => exact ⟨ρ, μ1, m1, d, μ', hl.ext x1, s1, e, fun w H2 m2 x2 s2 r2 => k w H2 m2 (x1.trans x2) s2 r2⟩
end
noncomputable def vals : List R -> Option (List D)
 | [] => some []
 | .v d :: r => (vals r).bind fun ds => some (d :: ds)
 | .p _ :: _ => none
 | .s _ _ :: _ => none
 | .x _ :: _ => none
 | .f _ _ :: _ => none
theorem vals_rel {K : PySem.W.Frag} {m : List Addr} {H : Hp} : ∀ {rs : List R} {ds : List D} {vs : List V}, vals rs = some ds -> RelRs K m H rs vs -> RelDs K H ds vs
 | [], _, _, e, h => by cases e; simp only [RelDs]; exact h
 | .v d :: r, _, _, e, ⟨v, vs, rfl, h1, h2⟩ => by
  obtain ⟨ds, e1, e⟩ := Option.bind_eq_some_iff.mp e
  cases e
  simp only [RelDs]
  exact ⟨v, vs, rfl, h1, vals_rel e1 h2⟩
 | .p _ :: _, _, _, e, _ => by cases e
 | .s _ _ :: _, _, _, e, _ => by cases e
 | .x _ :: _, _, _, e, _ => by cases e
 | .f _ _ :: _, _, _, e, _ => by cases e
noncomputable def fTup (fa : FA) : FE := fun ρ μ => (fa ρ μ).bind fun a => (vals a.1).bind fun ds => if ds.length <= sizeLine then some (.v (.tup ds), a.2) else none
noncomputable def fLst (fa : FA) : FE := fun ρ μ => (fa ρ μ).bind fun a => (vals a.1).bind fun ds => if ds.length <= sizeLine then some (.p a.2.length, a.2 ++ [.lst ds]) else none
section
variable {K : PySem.W.Frag} {m : List Addr} {σ : St} {H : Hp} {Q : VK} {μ : Store}
theorem new_tup {ds : List D} {vs : List V} {p : Addr} (s : SRel K m H μ) (r : RelDs K H ds vs) (hp : H p = none) : Ext m H m (upd H p (.tup vs)) /\ SRel K m (upd H p (.tup vs)) μ /\ RelR K m (upd H p (.tup vs)) (.v (.tup ds)) (.ref p) := by
 refine ⟨.new hp, s.same (upd_keeps hp), ?_⟩
 simp only [RelR, RelD]
 exact ⟨p, vs, rfl, .inl (.inl upd_at), RelDs.tf (.of (upd_keeps hp)) _ _ r⟩
theorem new_lst {ds : List D} {vs : List V} {p : Addr} (s : SRel K m H μ) (r : RelDs K H ds vs) (hp : H p = none) : Ext m H (m ++ [p]) (upd H p (.lst vs)) /\ SRel K (m ++ [p]) (upd H p (.lst vs)) (μ ++ [.lst ds]) /\ RelR K (m ++ [p]) (upd H p (.lst vs)) (.p μ.length) (.ref p) := by
 refine ⟨.newH hp, s.newH hp ⟨vs, upd_at, RelDs.tf (.of (upd_keeps hp)) _ _ r⟩, p, rfl, ?_⟩
 rw [← s.len]; simp
theorem rd_tup {fa} (h : rdE K (fTup fa) σ H Q) : tTup (rdA K fa) σ H Q := by
 obtain ⟨ρ, μ, m, d, μ', hl, hs, e, k⟩ := h
 obtain ⟨⟨xs, μ1⟩, e1, e⟩ := Option.bind_eq_some_iff.mp e
 obtain ⟨ds, e2, e⟩ := Option.bind_eq_some_iff.mp e
 split at e
 ·rename_i z
  cases e
  refine ⟨ρ, μ, m, xs, _, hl, hs, e1, fun vs H1 m1 x1 s1 r1 => ?_⟩
  have r2 := vals_rel e2 r1
  refine ⟨by rw [← r2.length]; exact z, fun p hp => ?_⟩
  obtain ⟨a, b, c⟩ := new_tup s1 r2 hp
  exact k _ _ _ (x1.trans a) b c
 ·cases e
theorem rd_lst {fa} (h : rdE K (fLst fa) σ H Q) : tLst (rdA K fa) σ H Q := by
 obtain ⟨ρ, μ, m, d, μ', hl, hs, e, k⟩ := h
 obtain ⟨⟨xs, μ1⟩, e1, e⟩ := Option.bind_eq_some_iff.mp e
 obtain ⟨ds, e2, e⟩ := Option.bind_eq_some_iff.mp e
 split at e
 ·rename_i z
  cases e
  refine ⟨ρ, μ, m, xs, _, hl, hs, e1, fun vs H1 m1 x1 s1 r1 => ?_⟩
  have r2 := vals_rel e2 r1
  refine ⟨by rw [← r2.length]; exact z, fun p hp => ?_⟩
  obtain ⟨a, b, c⟩ := new_lst s1 r2 hp
  exact k _ _ _ (x1.trans a) b c
 ·cases e
end
noncomputable def sNext : FS := fun ρ μ => some (.nx ρ μ)
noncomputable def sSeq (a b : FS) : FS := fun ρ μ => (a ρ μ).bind fun o => match o with | .nx ρ' μ' => b ρ' μ' | o => some o
noncomputable def sBreak : FS := fun ρ μ => some (.bk ρ μ)
noncomputable def sCont : FS := fun ρ μ => some (.ct ρ μ)
noncomputable def sDrop (f : FE) : FS := fun ρ μ => (f ρ μ).bind fun a => some (.nx ρ a.2)
noncomputable def sRet (f : FE) : FS := fun ρ μ => (f ρ μ).bind fun a => some (.rt a.1 a.2)
noncomputable def sRetN : FS := fun _ μ => some (.rt (.v .non) μ)
noncomputable def sIf (t : FT) (a b : FS) : FS := fun ρ μ => (t ρ μ).bind fun c => if c.1 = true then a ρ c.2 else b ρ c.2
noncomputable def sSet (i : Nat) (f : FE) : FS := fun ρ μ => (f ρ μ).bind fun a => some (.nx (ρ.set i (some a.1)) a.2)
section
variable {K : PySem.W.Frag} {m m' m1 : List Addr} {σ : St} {H H' H1 : Hp} {D : Ends} {μ : Store} {ρ : Lo}
theorem Ends.of_ext {o : Out} (x : Ext m H m1 H1) (h : Ends.of K m H D o) : Ends.of K m1 H1 D o := by
 cases o with
 | nx ρ μ => exact fun σ H' m' y => h σ H' m' (x.trans y)
 | bk ρ μ => exact fun σ H' m' y => h σ H' m' (x.trans y)
 | ct ρ μ => exact fun σ H' m' y => h σ H' m' (x.trans y)
 | rt d μ => exact fun σ H' m' y => h σ H' m' (x.trans y)
theorem LRel.set {d : R} {v : V} (h : LRel K m H ρ σ) (r : RelR K m H d v) (i : Nat) : LRel K m H (ρ.set i (some d)) (σ.set i (some v)) := by
 refine ⟨by simp [h.1], fun j d' e => ?_⟩
 by_cases hj : j = i
 ·subst hj
  by_cases hi : j < ρ.length
  ·rw [List.getElem?_set_self hi] at e
   cases e
   exact ⟨v, List.getElem?_set_self (by rw [← h.1]; exact hi), r⟩
  ·rw [List.getElem?_eq_none (by simp; omega)] at e
   cases e
 ·rw [List.getElem?_set_ne (Ne.symm hj)] at e
  obtain ⟨u, q1, q2⟩ := h.2 j d' e
  exact ⟨u, by rw [List.getElem?_set_ne (Ne.symm hj)]; exact q1, q2⟩
theorem rd_next (h : rdS K sNext D σ H) : tNext D σ H := by
 obtain ⟨ρ, μ, m, o, hl, hs, e, k⟩ := h
 cases e
 exact k σ H m .refl hs hl
theorem rd_seq {a b} (h : rdS K (sSeq a b) D σ H) : tSeq (rdS K a) (rdS K b) D σ H := by
 obtain ⟨ρ, μ, m, o, hl, hs, e, k⟩ := h
 obtain ⟨o1, e1, e⟩ := Option.bind_eq_some_iff.mp e
 refine ⟨ρ, μ, m, o1, hl, hs, e1, ?_⟩
 cases o1 with
 | nx ρ1 μ1 => exact fun σ1 H1 m1 x1 s1 l1 => ⟨ρ1, μ1, m1, o, l1, s1, e, Ends.of_ext x1 k⟩
 | bk ρ1 μ1 => cases e; exact k
 | ct ρ1 μ1 => cases e; exact k
 | rt d μ1 => cases e; exact k
theorem rd_drop {f} (h : rdS K (sDrop f) D σ H) : tDrop (rdE K f) D σ H := by
 obtain ⟨ρ, μ, m, o, hl, hs, e, k⟩ := h
 obtain ⟨⟨x, μ1⟩, e1, e⟩ := Option.bind_eq_some_iff.mp e
 cases e
 exact ⟨ρ, μ, m, x, μ1, hl, hs, e1, fun v H1 m1 x1 s1 r1 => k σ H1 m1 x1 s1 (hl.ext x1)⟩
theorem rd_ret {f} (h : rdS K (sRet f) D σ H) : tRet (rdE K f) D σ H := by
 obtain ⟨ρ, μ, m, o, hl, hs, e, k⟩ := h
 obtain ⟨⟨x, μ1⟩, e1, e⟩ := Option.bind_eq_some_iff.mp e
 cases e
 exact ⟨ρ, μ, m, x, μ1, hl, hs, e1, k⟩
theorem rd_ifS {t a b} (h : rdS K (sIf t a b) D σ H) : tIfS (rdT K t) (rdS K a) (rdS K b) D σ H := by
 obtain ⟨ρ, μ, m, o, hl, hs, e, k⟩ := h
 obtain ⟨⟨c, μ1⟩, e1, e⟩ := Option.bind_eq_some_iff.mp e
 refine ⟨ρ, μ, m, c, μ1, hl, hs, e1, fun H1 m1 x1 s1 => ?_⟩
 cases c with
 | true => exact ⟨ρ, μ1, m1, o, hl.ext x1, s1, e, Ends.of_ext x1 k⟩
 | false => exact ⟨ρ, μ1, m1, o, hl.ext x1, s1, e, Ends.of_ext x1 k⟩
theorem rd_set {i f} (h : rdS K (sSet i f) D σ H) : tAsg (rdE K f) (gName i) D σ H := by
 obtain ⟨ρ, μ, m, o, hl, hs, e, k⟩ := h
 obtain ⟨⟨x, μ1⟩, e1, e⟩ := Option.bind_eq_some_iff.mp e
 cases e
 exact ⟨ρ, μ, m, x, μ1, hl, hs, e1, fun v H1 m1 x1 s1 r1 => k _ H1 m1 x1 s1 ((hl.ext x1).set r1 i)⟩
end
noncomputable abbrev FG := R -> Lo -> Store -> Option (Lo × Store)
def rdG (K : PySem.W.Frag) (g : FG) : TG := fun v σ H Q => ∃ ρ μ m d ρ' μ', LRel K m H ρ σ /\ SRel K m H μ /\ RelR K m H d v /\ g d ρ μ = some (ρ', μ') /\
 ∀ σ' H' m', Ext m H m' H' -> SRel K m' H' μ' -> LRel K m' H' ρ' σ' -> Q σ' H'
noncomputable abbrev FGs := List R -> Lo -> Store -> Option (Lo × Store)
def rdGs (K : PySem.W.Frag) (g : FGs) : TGs := fun vs σ H Q => ∃ ρ μ m ds ρ' μ', LRel K m H ρ σ /\ SRel K m H μ /\ RelRs K m H ds vs /\ g ds ρ μ = some (ρ', μ') /\
 ∀ σ' H' m', Ext m H m' H' -> SRel K m' H' μ' -> LRel K m' H' ρ' σ' -> Q σ' H'
noncomputable def gNm (i : Nat) : FG := fun d ρ μ => some (ρ.set i (some d), μ)
noncomputable def gsNil : FGs := fun ds ρ μ => match ds with | [] => some (ρ, μ) | _ => none
noncomputable def gsCons (g : FG) (r : FGs) : FGs := fun ds ρ μ => match ds with | [] => none | d :: ds => (g d ρ μ).bind fun a => r ds a.1 a.2
noncomputable def gTp (n : Nat) (g : FGs) : FG := fun d ρ μ => match d with | .v (.tup xs) => if xs.length = n then g (xs.map .v) ρ μ else none | _ => none
noncomputable def sAsg (f : FE) (g : FG) : FS := fun ρ μ => (f ρ μ).bind fun a => (g a.1 ρ a.2).bind fun b => some (.nx b.1 b.2)
section
variable {K : PySem.W.Frag} {m m' m1 : List Addr} {σ : St} {H H' H1 : Hp} {D : Ends} {μ : Store} {ρ : Lo} {v : V} {Q : St -> Hp -> Prop}
theorem rd_gNm {i} (h : rdG K (gNm i) v σ H Q) : gName i v σ H Q := by
 obtain ⟨ρ, μ, m, d, ρ', μ', hl, hs, r, e, k⟩ := h
 cases e
 exact k _ H m .refl hs (hl.set r i)
theorem rd_gsNil {vs} (h : rdGs K gsNil vs σ H Q) : gNil vs σ H Q := by
 obtain ⟨ρ, μ, m, ds, ρ', μ', hl, hs, r, e, k⟩ := h
 cases ds with
 | nil => cases e; exact ⟨r, k σ H m .refl hs hl⟩
 | cons d ds => cases e
theorem rd_gsCons {g r vs} (h : rdGs K (gsCons g r) vs σ H Q) : gCons (rdG K g) (rdGs K r) vs σ H Q := by
 obtain ⟨ρ, μ, m, ds, ρ', μ', hl, hs, rr, e, k⟩ := h
 cases ds with
 | nil => cases e
 | cons d ds =>
  obtain ⟨v, vr, rfl, r1, r2⟩ := rr
  obtain ⟨⟨ρ1, μ1⟩, e1, e⟩ := Option.bind_eq_some_iff.mp e
  refine ⟨v, vr, rfl, ρ, μ, m, d, ρ1, μ1, hl, hs, r1, e1, fun σ1 H1 m1 x1 s1 l1 => ?_⟩
  exact ⟨ρ1, μ1, m1, ds, ρ', μ', l1, s1, r2.ext x1, e, fun σ2 H2 m2 x2 s2 l2 => k σ2 H2 m2 (x1.trans x2) s2 l2⟩
theorem RelDs.rs : ∀ {ds : List HW.D} {vs : List V}, RelDs K H ds vs -> RelRs K m H (ds.map .v) vs
 | [], _, h => by simp only [RelDs] at h; exact h
 | d :: ds, _, h => by
  simp only [RelDs] at h
  obtain ⟨v, r, rfl, h1, h2⟩ := h
  exact ⟨v, r, rfl, h1, RelDs.rs h2⟩
theorem rd_gTp {n g} (h : rdG K (gTp n g) v σ H Q) : gTup K n (rdGs K g) v σ H Q := by
 obtain ⟨ρ, μ, m, d, ρ', μ', hl, hs, r, e, k⟩ := h
 unfold gTp at e
 split at e
 ·rename_i xs
  split at e
  ·rename_i hn
   simp only [RelR, RelD] at r
   obtain ⟨a, vs, rfl, q, rr⟩ := r
   exact ⟨a, vs, rfl, q, by rw [← rr.length]; exact hn, ρ, μ, m, _, ρ', μ', hl, hs, rr.rs, e, k⟩
  ·cases e
 ·cases e
theorem rd_asg {f g} (h : rdS K (sAsg f g) D σ H) : tAsg (rdE K f) (rdG K g) D σ H := by
 obtain ⟨ρ, μ, m, o, hl, hs, e, k⟩ := h
 obtain ⟨⟨x, μ1⟩, e1, e⟩ := Option.bind_eq_some_iff.mp e
 obtain ⟨⟨ρ2, μ2⟩, e2, e⟩ := Option.bind_eq_some_iff.mp e
 cases e
 exact ⟨ρ, μ, m, x, μ1, hl, hs, e1, fun v H1 m1 x1 s1 r1 => ⟨ρ, μ1, m1, x, ρ2, μ2, hl.ext x1, s1, r1, e2, fun σ2 H2 m2 x2 s2 l2 => k σ2 H2 m2 (x1.trans x2) s2 l2⟩⟩
end
def FzOk : HO -> Prop
 | .lst _ => True
 | .set _ _ => True
 | .dK _ => True
 | .dT _ => True
 | _ => False
def tFz (t : TE) : TE := fun σ H Q => t σ H fun v H1 => Q v H1 \/ ∃ a u, H1 a = some u /\ FzOk u /\ ∀ o, Q v (upd H1 a (.frz o u))
noncomputable def fzD : R -> Store -> Option (D × Store)
 | .v d, μ => some (d, μ)
 | .s _ _, _ => none
 | .x _, _ => none
 | .f _ _, _ => none
 | .p n, μ => match μ[n]? with | some (.lst xs) => some (.fl xs, μ.set n (.fz xs)) | some (.fz xs) => some (.fl xs, μ) | some (.dct kvs) => some (.fd (kvs.map (·.1)) (kvs.map (·.2)), μ.set n (.fzd kvs)) | some (.fzd kvs) => some (.fd (kvs.map (·.1)) (kvs.map (·.2)), μ) | _ => none
noncomputable def fFz (f : FE) : FE := fun ρ μ => (f ρ μ).bind fun a => (fzD a.1 a.2).bind fun b => some (.v b.1, b.2)
section
variable {K : PySem.W.Frag} {m : List Addr} {σ : St} {H : Hp} {μ : Store} {Q : VK}
theorem fz_ok {x : R} {d : D} {μ' : Store} {v : V} {B : Hp -> Prop} (hs : SRel K m H μ) (r : RelR K m H x v) (e : fzD x μ = some (d, μ'))
  (k : ∀ H', Ext m H m H' -> SRel K m H' μ' -> RelD K H' d v -> B H') : B H \/ ∃ a u, H a = some u /\ FzOk u /\ ∀ o, B (upd H a (.frz o u)) := by
 cases x with
 | v d' => cases e; exact .inl (k H .refl hs r)
 | s b xs => cases e
 | x _ => cases e
 | f _ _ => cases e
 | p n =>
  obtain ⟨a, rfl, ha⟩ := r
  simp only [fzD] at e
  split at e
  ·rename_i xs q
   cases e
   obtain ⟨vs, ea, rr⟩ := hs.cell n _ a q ha
   refine .inr ⟨a, _, ea, trivial, fun o => ?_⟩
   have x : Ext m H m (upd H a (.frz o (.lst vs))) := .put (List.mem_of_getElem? ha) ea (by simp) (by simp)
   refine k _ x (hs.put ha ea (by simp) (by simp) ⟨o, vs, upd_at, RelDs.tf x.tf _ _ rr⟩) ?_
   simp only [RelD]
   exact ⟨a, vs, rfl, .inl ⟨o, upd_at⟩, RelDs.tf x.tf _ _ rr⟩
  ·rename_i xs q
   cases e
   obtain ⟨o, vs, ea, rr⟩ := hs.cell n _ a q ha
   refine .inl (k H .refl hs ?_)
   simp only [RelD]
   exact ⟨a, vs, rfl, .inl ⟨o, ea⟩, rr⟩
  ·rename_i kvs q
   cases e
   obtain ⟨es, ea, ke, rr⟩ := hs.cell n _ a q ha
   refine .inr ⟨a, _, ea, trivial, fun o => ?_⟩
   have x : Ext m H m (upd H a (.frz o (.dK es))) := .put (List.mem_of_getElem? ha) ea (by simp) (by simp)
   refine k _ x (hs.put ha ea (by simp) (by simp) ⟨o, es, upd_at, ke, RelDs.tf x.tf _ _ rr⟩) ?_
   simp only [RelD]
   exact ⟨a, o, es, rfl, upd_at, ke, RelDs.tf x.tf _ _ rr⟩
  ·rename_i kvs q
   cases e
   obtain ⟨o, es, ea, ke, rr⟩ := hs.cell n _ a q ha
   refine .inl (k H .refl hs ?_)
   simp only [RelD]
   exact ⟨a, o, es, rfl, ea, ke, rr⟩
  ·cases e
theorem rd_fz {f} (h : rdE K (fFz f) σ H Q) : tFz (rdE K f) σ H Q := by
 obtain ⟨ρ, μ, m, d, μ', hl, hs, e, k⟩ := h
 obtain ⟨⟨x, μ1⟩, e1, e⟩ := Option.bind_eq_some_iff.mp e
 obtain ⟨⟨d1, μ2⟩, e2, e⟩ := Option.bind_eq_some_iff.mp e
 cases e
 refine ⟨ρ, μ, m, x, μ1, hl, hs, e1, fun v H1 m1 x1 s1 r1 => ?_⟩
 exact fz_ok (B := fun H' => Q v H') s1 r1 e2 fun H' y s2 r2 => k v H' m1 (x1.trans y) s2 r2
end
noncomputable abbrev FI := Lo -> Store -> Option (List D × Store)
structure ItOk (K : PySem.W.Frag) (J : It) (xs : List D) (P : Hp -> Prop) : Prop where
 st : ∀ H H', TF H H' -> P H -> P H'
 stop : ∀ i H, P H -> xs.length <= i -> J.stop i H
 go : ∀ (i : Nat) d H, xs[i]? = some d -> P H -> J.go i H
 yld : ∀ (i : Nat) d H x H', xs[i]? = some d -> P H -> J.yld i H x H' -> H' = H /\ RelD K H d x
def rdI (K : PySem.W.Frag) (f : FI) : TI := fun σ H R => ∃ ρ μ m xs μ', LRel K m H ρ σ /\ SRel K m H μ /\ f ρ μ = some (xs, μ') /\
 ∀ J P H' m', Ext m H m' H' -> SRel K m' H' μ' -> ItOk K J xs P -> P H' -> R J H'
noncomputable def loop (g : FG) (b : FS) : List D -> Lo -> Store -> Option Out
 | [], ρ, μ => some (.nx ρ μ)
 | x :: xs, ρ, μ => (g (.v x) ρ μ).bind fun a => (b a.1 a.2).bind fun o => match o with
  | .nx ρ' μ' => loop g b xs ρ' μ'
  | .ct ρ' μ' => loop g b xs ρ' μ'
  | .bk ρ' μ' => some (.nx ρ' μ')
  | .rt d μ' => some (.rt d μ')
noncomputable def sFor (i : FI) (g : FG) (b : FS) : FS := fun ρ μ => (i ρ μ).bind fun a => loop g b a.1 ρ a.2
section
variable {K : PySem.W.Frag} {m : List Addr} {σ : St} {H : Hp} {μ : Store} {D : Ends}
end
noncomputable def fiSeq (f : FE) : FI := fun ρ μ => (fFz f ρ μ).bind fun a => match a.1 with | .v (.fl xs) => some (xs, a.2) | .v (.tup xs) => some (xs, a.2) | _ => none
def iSeq (K : PySem.W.Frag) (tl : TE) : TI := fun σ H R => tl σ H fun x H1 => ∃ a, x = .ref a /\ (((∃ xs, SqL K H1 a xs) /\ R (Itl K a) H1) \/ ((∃ xs, SqT K H1 a xs) /\ R (Itt K a) H1))
noncomputable def fiR1 (f : FE) : FI := fun ρ μ => (f ρ μ).bind fun a => match a.1 with | .v (.int j) => if -(2 ^ 62) <= j /\ j < 2 ^ 62 then some ((List.range j.toNat).map fun i => .int (i : Nat), a.2) else none | _ => none
noncomputable def fiR2 (f g : FE) : FI := fun ρ μ => (f ρ μ).bind fun a => (g ρ a.2).bind fun b => match a.1, b.1 with
 | .v (.int i), .v (.int j) => if -(2 ^ 62) <= i /\ i < 2 ^ 62 /\ -(2 ^ 62) <= j /\ j < 2 ^ 62 then some ((List.range (j - i).toNat).map fun k => .int (i + (k : Nat)), b.2) else none | _, _ => none
section
variable {K : PySem.W.Frag} {m : List Addr} {σ : St} {H : Hp} {μ : Store} {R : It -> Hp -> Prop}
theorem RelDs.get : ∀ {ds : List D} {vs : List V} {i : Nat} {d : D}, RelDs K H ds vs -> ds[i]? = some d -> ∃ v, vs[i]? = some v /\ RelD K H d v
 | [], _, _, _, _, e => by simp at e
 | x :: xs, vs, 0, d, h, e => by
  simp only [RelDs] at h
  obtain ⟨v, r, rfl, h1, h2⟩ := h
  simp at e; subst e
  exact ⟨v, rfl, h1⟩
 | x :: xs, vs, i + 1, d, h, e => by
  simp only [RelDs] at h
  obtain ⟨v, r, rfl, h1, h2⟩ := h
  obtain ⟨u, q1, q2⟩ := RelDs.get (i := i) h2 (by simpa using e)
  exact ⟨u, by simpa using q1, q2⟩
theorem itl_ok {a vs xs} (r0 : RelDs K H xs vs) : ItOk K (Itl K a) xs (fun H => FAt K H a vs /\ RelDs K H xs vs) where
 st := fun H H' t ⟨f, r⟩ => ⟨f.tf t, RelDs.tf t _ _ r⟩
 stop := fun i H ⟨f, r⟩ hi => ⟨vs, f.sq, by rw [← r.length]; exact hi⟩
 go := fun i d H e ⟨f, r⟩ => let ⟨v, q, _⟩ := r.get e; ⟨vs, v, f.sq, q⟩
 yld := fun i d H x H' e ⟨f, r⟩ ⟨e1, e2⟩ => by
  obtain ⟨v, q, rv⟩ := r.get e
  have := e2 vs f.sq
  rw [q] at this; cases this
  exact ⟨e1, rv⟩
theorem itt_ok {a vs xs} (r0 : RelDs K H xs vs) : ItOk K (Itt K a) xs (fun H => SqT K H a vs /\ RelDs K H xs vs) where
 st := fun H H' t ⟨f, r⟩ => ⟨SqT.tf t f, RelDs.tf t _ _ r⟩
 stop := fun i H ⟨f, r⟩ hi => ⟨vs, f, by rw [← r.length]; exact hi⟩
 go := fun i d H e ⟨f, r⟩ => let ⟨v, q, _⟩ := r.get e; ⟨vs, v, f, q⟩
 yld := fun i d H x H' e ⟨f, r⟩ ⟨e1, e2⟩ => by
  obtain ⟨v, q, rv⟩ := r.get e
  have := e2 vs f
  rw [q] at this; cases this
  exact ⟨e1, rv⟩
theorem itr_ok (lo : Int) (n : Nat) : ItOk K (Itr lo n) ((List.range n).map fun k => .int (lo + (k : Nat))) (fun _ => True) where
 st := fun _ _ _ _ => trivial
 stop := fun i H _ hi => by show n <= i; simpa using hi
 go := fun i d H e _ => by
  have := (List.getElem?_eq_some_iff.mp e).1
  show i < n; simpa using this
 yld := fun i d H x H' e _ ⟨e1, e2⟩ => by
  have hi := (List.getElem?_eq_some_iff.mp e).1
  have hi' : i < n := by simpa using hi
  refine ⟨e1, ?_⟩
  simp [hi'] at e
  subst e e2
  simp only [RelD]
theorem rd_iSeq {f} (h : rdI K (fiSeq f) σ H R) : iSeq K (tFz (rdE K f)) σ H R := by
 obtain ⟨ρ, μ, m, xs, μ', hl, hs, e, k⟩ := h
 obtain ⟨⟨x, μ1⟩, e1, e⟩ := Option.bind_eq_some_iff.mp e
 refine rd_fz ⟨ρ, μ, m, x, μ1, hl, hs, e1, fun v H1 m1 x1 s1 r1 => ?_⟩
 split at e
 ·rename_i ys q
  cases e
  simp only at q
  subst q
  simp only [RelR, RelD] at r1
  obtain ⟨a, vs, rfl, f, r⟩ := r1
  exact ⟨a, rfl, .inl ⟨⟨vs, f.sq⟩, k _ _ H1 m1 x1 s1 (itl_ok r) ⟨f, r⟩⟩⟩
 ·rename_i ys q
  cases e
  simp only at q
  subst q
  simp only [RelR, RelD] at r1
  obtain ⟨a, vs, rfl, f, r⟩ := r1
  exact ⟨a, rfl, .inr ⟨⟨vs, f⟩, k _ _ H1 m1 x1 s1 (itt_ok r) ⟨f, r⟩⟩⟩
 ·cases e
theorem rd_iR1 {f} (h : rdI K (fiR1 f) σ H R) : iRng1 (rdA K (fCons f fNil)) σ H R := by
 obtain ⟨ρ, μ, m, xs, μ', hl, hs, e, k⟩ := h
 obtain ⟨⟨x, μ1⟩, e1, e⟩ := Option.bind_eq_some_iff.mp e
 refine ⟨ρ, μ, m, [x], μ1, hl, hs, by simp [fCons, fNil, e1], fun vs H1 m1 x1 s1 r1 => ?_⟩
 split at e
 ·rename_i j q
  split at e
  ·rename_i z
   cases e
   simp only at q
   subst q
   obtain ⟨v, r, rfl, r1, r2⟩ := r1
   have r2 : r = [] := r2
   simp only [RelR, RelD] at r1
   subst r1 r2
   have := itr_ok (K := K) 0 j.toNat
   simp only [Int.zero_add] at this
   exact ⟨j, rfl, z.1, z.2, k _ _ H1 m1 x1 s1 this trivial⟩
  ·cases e
 ·cases e
end
end HW
namespace HW
open PySem L2
noncomputable abbrev MF := List D -> Option D
def Sam (H H' : Hp) : Prop := ∀ a o, H a = some o -> H' a = some o
noncomputable def spP (K : PySem.W.Frag) (n : Nat) (f : MF) : Sp := fun vs H Q _ => ∃ ds d, ds.length = n /\ RelDs K H ds vs /\ f ds = some d /\ ∀ v H', Sam H H' -> RelD K H' d v -> Q v H'
noncomputable def fin : Out -> Option D
 | .rt r μ => (fzD r μ).bind fun a => some a.1
 | .nx _ _ => some .non
 | _ => none
noncomputable def runP (k : Nat) (b : FS) : MF := fun ds => (b (ds.map (fun d => some (.v d)) ++ List.replicate (k - ds.length) none) []).bind fin
noncomputable def fCall (f : MF) (n : Nat) (fa : FA) : FE := fun ρ μ => (fa ρ μ).bind fun a => (vals a.1).bind fun ds => if ds.length = n then (f ds).bind fun d => some (.v d, a.2) else none
section
variable {K : PySem.W.Frag} {m : List Addr} {σ : St} {H H' : Hp} {μ : Store} {Q : VK}
theorem Sam.ext (s : Sam H H') : Ext m H m H' := ⟨⟨[], by simp⟩, .of s, fun a o e _ => s a o e, fun a h => by
 cases q : H a with
 | none => rfl
 | some o => rw [s a o q] at h; cases h⟩
theorem rd_call {f n fa} {E : XK} (h : rdE K (fCall f n fa) σ H Q) : tCall (spP K n f) [] E (rdA K fa) σ H Q := by
 obtain ⟨ρ, μ, m, d, μ', hl, hs, e, k⟩ := h
 obtain ⟨⟨xs, μ1⟩, e1, e⟩ := Option.bind_eq_some_iff.mp e
 obtain ⟨ds, e2, e⟩ := Option.bind_eq_some_iff.mp e
 split at e
 ·rename_i hn
  obtain ⟨d1, e3, e⟩ := Option.bind_eq_some_iff.mp e
  cases e
  refine ⟨ρ, μ, m, xs, _, hl, hs, e1, fun vs H1 m1 x1 s1 r1 => ?_⟩
  refine ⟨ds, d1, hn, by simpa using vals_rel e2 r1, e3, fun v H2 z r2 => ?_⟩
  exact k v H2 m1 (x1.trans z.ext) (s1.same z) r2
 ·cases e
theorem start_rel {N : List Str} {ds : List D} {vs : List V} (r : RelDs K H ds vs) : LRel K [] H (ds.map (fun d => some (.v d)) ++ List.replicate (N.length - ds.length) none) (L2.start N vs) := by
 have hl := r.length
 unfold L2.start
 refine ⟨by simp [hl], fun i d e => ?_⟩
 by_cases hi : i < ds.length
 ·rw [List.getElem?_append_left (by simpa using hi), List.getElem?_map] at e
  cases q : ds[i]? with
  | none => rw [q] at e; cases e
  | some d' =>
   rw [q] at e
   cases e
   obtain ⟨v, q1, q2⟩ := r.get q
   exact ⟨v, by rw [List.getElem?_append_left (by simp; omega), List.getElem?_map, q1]; rfl, q2⟩
 ·rw [List.getElem?_append_right (by simpa using hi), List.getElem?_replicate] at e
  split at e <;> cases e
def orFz (Q : VK) : VK := fun v H => Q v H \/ ∃ a u, H a = some u /\ FzOk u /\ ∀ o, Q v (upd H a (.frz o u))
theorem Ext.sam (x : Ext [] H m H') : Sam H H' := fun a o e => x.keep a o e (by simp)
theorem run_ok {N : List Str} {b : FS} {ds : List D} {vs : List V} {d : D} {E : XK} (r : RelDs K H ds vs) (e : runP N.length b ds = some d) (k : ∀ v H', Sam H H' -> RelD K H' d v -> Q v H') :
  rdS K b { nx := fun _ H' => orFz Q .non H', rt := orFz Q } (L2.start N vs) H := by
 obtain ⟨o, e1, e⟩ := Option.bind_eq_some_iff.mp e
 refine ⟨_, [], [], o, start_rel r, .nil, e1, ?_⟩
 cases o with
 | nx ρ μ =>
  cases e
  exact fun σ H' m' x _ _ => .inl (k _ _ x.sam (by simp only [RelD]))
 | bk ρ μ => cases e
 | ct ρ μ => cases e
 | rt q μ =>
  obtain ⟨⟨d1, μ1⟩, e2, e⟩ := Option.bind_eq_some_iff.mp e
  cases e
  intro v H' m' x s r'
  exact fz_ok (B := fun H' => Q v H') s r' e2 fun H2 y s2 r2 => k v H2 (x.trans y).sam r2
end
noncomputable def iOp (C : Int -> Int -> Bool) (f : Int -> Int -> D) : R -> R -> Store -> Option (R × Store)
 | .v (.int i), .v (.int j), μ => if C i j = true then some (.v (f i j), μ) else none
 | _, _, _ => none
theorem gI {K : PySem.W.Frag} {C : Int -> Int -> Bool} {C' : Int -> Int -> Prop} {f : Int -> Int -> D} {g : Int -> Int -> V} (hC : ∀ i j, C i j = true -> C' i j) (hg : ∀ H i j, RelD K H (f i j) (g i j)) : GOp K (iOp C f) (rI C' g) := by
 intro m H μ x y d μ' v u Q s rx ry e k
 unfold iOp at e
 split at e
 ·rename_i i j
  split at e
  ·rename_i z
   cases e
   simp only [RelR, RelD] at rx ry
   subst rx ry
   exact ⟨i, j, rfl, rfl, hC i j z, k _ H m .refl s (hg H i j)⟩
  ·cases e
 ·cases e
theorem gI0 {K : PySem.W.Frag} {f : Int -> Int -> D} {g : Int -> Int -> V} (hg : ∀ H i j, RelD K H (f i j) (g i j)) : GOp K (iOp (fun _ _ => true) f) (rI0 g) := by
 intro m H μ x y d μ' v u Q s rx ry e k
 unfold iOp at e
 split at e
 ·rename_i i j
  split at e
  ·cases e
   simp only [RelR, RelD] at rx ry
   subst rx ry
   exact ⟨i, j, rfl, rfl, k _ H m .refl s (hg H i j)⟩
  ·cases e
 ·cases e
noncomputable abbrev subD := iOp (fun _ _ => true) fun i j => .int (i - j)
noncomputable abbrev mulD := iOp (fun i j => decide (-(2 ^ 64) < i /\ i < 2 ^ 64) || decide (-(2 ^ 64) < j /\ j < 2 ^ 64)) fun i j => .int (i * j)
noncomputable abbrev divD := iOp (fun _ j => decide (0 < j /\ j < 1073741824)) fun i j => .int (i / j)
noncomputable abbrev modD := iOp (fun _ j => decide (0 < j)) fun i j => .int (i % j)
noncomputable abbrev powD := iOp (fun i j => decide (0 <= j /\ j <= 1000000 /\ i.natAbs < 2 ^ 64)) fun i j => .int (i ^ j.toNat)
noncomputable abbrev ltD := iOp (fun _ _ => true) fun i j => .bl (decide (i < j))
noncomputable abbrev leD := iOp (fun _ _ => true) fun i j => .bl (decide (i <= j))
noncomputable abbrev gtD := iOp (fun _ _ => true) fun i j => .bl (decide (j < i))
noncomputable abbrev geD := iOp (fun _ _ => true) fun i j => .bl (decide (j <= i))
noncomputable def negD : R -> Store -> Option (R × Store)
 | .v (.int i), μ => some (.v (.int (-i)), μ)
 | _, _ => none
section
variable {K : PySem.W.Frag}
theorem rInt {H : Hp} {i : Int} : RelD K H (.int i) (.int i) := by simp only [RelD]
theorem rBl {H : Hp} {i : Bool} : RelD K H (.bl i) (.bl i) := by simp only [RelD]
theorem g_sub : GOp K subD (rI0 fun i j => .int (i - j)) := gI0 fun _ _ _ => rInt
theorem g_mul : GOp K mulD (rI CMul fun i j => .int (i * j)) := gI (fun i j h => by simpa [CMul] using h) fun _ _ _ => rInt
theorem g_div : GOp K divD (rI CDiv fun i j => .int (i / j)) := gI (fun i j h => by simpa [CDiv] using h) fun _ _ _ => rInt
theorem g_mod : GOp K modD (rI (fun _ j => 0 < j) fun i j => .int (i % j)) := gI (fun i j h => by simpa using h) fun _ _ _ => rInt
theorem g_pow : GOp K powD (rI CPow fun i j => .int (i ^ j.toNat)) := gI (fun i j h => by simpa [CPow] using h) fun _ _ _ => rInt
theorem g_lt : GOp K ltD (rI0 fun i j => .bl (decide (i < j))) := gI0 fun _ _ _ => rBl
theorem g_le : GOp K leD (rI0 fun i j => .bl (decide (i <= j))) := gI0 fun _ _ _ => rBl
theorem g_gt : GOp K gtD (rI0 fun i j => .bl (decide (j < i))) := gI0 fun _ _ _ => rBl
theorem g_neg : GUn K negD (rU fun i => .int (-i)) := by
 intro m H μ x d μ' v Q s rx e k
 unfold negD at e
 split at e
 ·rename_i i
  cases e
  simp only [RelR, RelD] at rx
  subst rx
  exact ⟨i, rfl, k _ H m .refl s (by simp only [RelR, RelD])⟩
 ·cases e
end
noncomputable def addD : R -> R -> Store -> Option (R × Store)
 | .v (.int i), .v (.int j), μ => some (.v (.int (i + j)), μ)
 | .v (.str x), .v (.str y), μ => if x.length + y.length <= sizeLine then some (.v (.str (x ++ y)), μ) else none
 | .v (.tup xs), .v (.tup ys), μ => if xs ≠ [] /\ xs.length + ys.length <= sizeLine then some (.v (.tup (xs ++ ys)), μ) else none
 | .p a, .p b, μ => match μ[a]?, μ[b]? with | some (.lst xs), some (.lst ys) => if xs.length + ys.length <= sizeLine then some (.p μ.length, μ ++ [.lst (xs ++ ys)]) else none | _, _ => none
 | _, _, _ => none
noncomputable def rAddS : R2 := fun x y H Q => ∃ i j, x = .str i /\ y = .str j /\ i.length + j.length <= sizeLine /\ Q (.str (i ++ j)) H
noncomputable def rOr (r r' : R2) : R2 := fun x y H Q => r x y H Q \/ r' x y H Q
noncomputable def rAdd' (K : PySem.W.Frag) : R2 := rOr (rI0 fun i j => .int (i + j)) (rOr rAddS (rOr (rCatT K) rCat))
theorem RelDs.append {K : PySem.W.Frag} {H : Hp} : ∀ {xs ys : List D} {vs ws : List V}, RelDs K H xs vs -> RelDs K H ys ws -> RelDs K H (xs ++ ys) (vs ++ ws)
 | [], _, _, _, h, h' => by simp only [RelDs] at h; subst h; exact h'
 | x :: xs, _, _, _, h, h' => by
  simp only [RelDs] at h
  obtain ⟨v, r, rfl, h1, h2⟩ := h
  show RelDs K H (x :: (xs ++ _)) _
  simp only [RelDs]
  exact ⟨v, r ++ _, rfl, h1, RelDs.append h2 h'⟩
theorem RelDs.nil_iff {K : PySem.W.Frag} {H : Hp} {xs : List D} {vs : List V} (h : RelDs K H xs vs) : xs = [] ↔ vs = [] := by
 have := h.length
 cases xs <;> cases vs <;> simp_all
theorem g_add {K : PySem.W.Frag} : GOp K addD (rAdd' K) := by
 intro m H μ x y d μ' v u Q s rx ry e k
 unfold addD at e
 split at e
 ·cases e
  simp only [RelR, RelD] at rx ry
  subst rx ry
  exact .inl ⟨_, _, rfl, rfl, k _ H m .refl s (by simp only [RelR, RelD])⟩
 ·split at e
  ·rename_i z
   cases e
   simp only [RelR, RelD] at rx ry
   subst rx ry
   exact .inr (.inl ⟨_, _, rfl, rfl, z, k _ H m .refl s (by simp only [RelR, RelD])⟩)
  ·cases e
 ·split at e
  ·rename_i z
   cases e
   simp only [RelR, RelD] at rx ry
   obtain ⟨a, vs, rfl, qa, ra⟩ := rx
   obtain ⟨b, ws, rfl, qb, rb⟩ := ry
   refine .inr (.inr (.inl ⟨a, b, vs, ws, rfl, rfl, qa, qb, fun h => z.1 (ra.nil_iff.mpr h), by rw [← ra.length, ← rb.length]; exact z.2, fun h => ?_, fun h p hp => ?_⟩))
   ·refine k _ H m .refl s ?_
    have := rb.nil_iff.mpr h
    subst this
    simp only [RelR, RelD, List.append_nil]
    exact ⟨a, vs, rfl, qa, ra⟩
   ·obtain ⟨x1, x2, x3⟩ := new_tup s (ra.append rb) hp
    exact k _ _ _ x1 x2 x3
  ·cases e
 ·split at e
  ·rename_i xs ys qa qb
   split at e
   ·rename_i z
    cases e
    obtain ⟨a', rfl, ha⟩ := rx
    obtain ⟨b', rfl, hb⟩ := ry
    obtain ⟨vs, ea, ra⟩ := s.cell _ _ a' qa ha
    obtain ⟨ws, eb, rb⟩ := s.cell _ _ b' qb hb
    refine .inr (.inr (.inr ⟨a', b', vs, ws, rfl, rfl, ea, eb, by rw [← ra.length, ← rb.length]; exact z, fun p hp => ?_⟩))
    obtain ⟨x1, x2, x3⟩ := new_lst s (ra.append rb) hp
    exact k _ _ _ x1 x2 x3
   ·cases e
  ·cases e
 ·cases e
noncomputable def itemsD : R -> Store -> Option (List D)
 | .v (.tup xs), _ => some xs
 | .v (.fl xs), _ => some xs
 | .p n, μ => match μ[n]? with | some (.lst xs) => some xs | some (.fz xs) => some xs | _ => none
 | _, _ => none
noncomputable def lstD : R -> Store -> Option (List D)
 | .v (.fl xs), _ => some xs
 | .p n, μ => match μ[n]? with | some (.lst xs) => some xs | some (.fz xs) => some xs | _ => none
 | _, _ => none
section
variable {K : PySem.W.Frag} {m : List Addr} {H : Hp} {μ : Store}
theorem lst_ok {x : R} {xs : List D} {v : V} (s : SRel K m H μ) (r : RelR K m H x v) (e : lstD x μ = some xs) : ∃ a vs, v = .ref a /\ SqL K H a vs /\ RelDs K H xs vs := by
 unfold lstD at e
 split at e
 ·cases e
  simp only [RelR, RelD] at r
  obtain ⟨a, vs, rfl, q, r⟩ := r
  exact ⟨a, vs, rfl, q.sq, r⟩
 ·obtain ⟨a, rfl, ha⟩ := r
  split at e
  ·rename_i q
   cases e
   obtain ⟨vs, e, r⟩ := s.cell _ _ a q ha
   exact ⟨a, vs, rfl, .inl (.inl e), r⟩
  ·rename_i q
   cases e
   obtain ⟨o, vs, e, r⟩ := s.cell _ _ a q ha
   exact ⟨a, vs, rfl, .inl (.inr ⟨o, e⟩), r⟩
  ·cases e
 ·cases e
theorem items_ok {x : R} {xs : List D} {v : V} (s : SRel K m H μ) (r : RelR K m H x v) (e : itemsD x μ = some xs) : ∃ a vs, v = .ref a /\ (SqL K H a vs \/ SqT K H a vs) /\ RelDs K H xs vs := by
 cases x with
 | v d =>
  cases d with
  | tup ys =>
   cases e
   simp only [RelR, RelD] at r
   obtain ⟨a, vs, rfl, q, r⟩ := r
   exact ⟨a, vs, rfl, .inr q, r⟩
  | fl ys => obtain ⟨a, vs, q1, q2, q3⟩ := lst_ok s r (xs := xs) e; exact ⟨a, vs, q1, .inl q2, q3⟩
  | non => cases e
  | bl _ => cases e
  | int _ => cases e
  | str _ => cases e
  | fd _ _ => cases e
  | key _ => cases e
 | p n => obtain ⟨a, vs, q1, q2, q3⟩ := lst_ok s r (xs := xs) e; exact ⟨a, vs, q1, .inl q2, q3⟩
 | s _ _ => cases e
 | x _ => cases e
 | f _ _ => cases e
end
noncomputable def ixD : R -> R -> Store -> Option (R × Store)
 | x, .v (.int i), μ => (itemsD x μ).bind fun xs => (atI xs i).bind fun d => some (.v d, μ)
 | _, _, _ => none
noncomputable def lenD : List R -> Store -> Option (R × Store)
 | [x], μ => (itemsD x μ).bind fun xs => some (.v (.int xs.length), μ)
 | _, _ => none
theorem atI_rel {K : PySem.W.Frag} {H : Hp} {xs : List D} {vs : List V} {i : Int} {d : D} (r : RelDs K H xs vs) (e : atI xs i = some d) : ∃ v, atI vs i = some v /\ RelD K H d v := by
 obtain ⟨j, e1, e2⟩ := Option.bind_eq_some_iff.mp e
 obtain ⟨v, q1, q2⟩ := r.get e2
 exact ⟨v, by unfold atI; rw [← r.length, e1]; exact q1, q2⟩
theorem g_ix {K : PySem.W.Frag} : GOp K ixD (rIx K) := by
 intro m H μ x y d μ' v u Q s rx ry e k
 unfold ixD at e
 split at e
 ·rename_i i
  obtain ⟨xs, e1, e⟩ := Option.bind_eq_some_iff.mp e
  obtain ⟨d1, e2, e⟩ := Option.bind_eq_some_iff.mp e
  cases e
  simp only [RelR, RelD] at ry
  subst ry
  obtain ⟨a, vs, rfl, q, r⟩ := items_ok s rx e1
  obtain ⟨w, q1, q2⟩ := atI_rel r e2
  rcases q with q | q
  ·exact .inl ⟨a, vs, i, w, rfl, rfl, q, q1, k _ H m .refl s q2⟩
  ·exact .inr (.inl ⟨a, vs, i, w, rfl, rfl, q, q1, k _ H m .refl s q2⟩)
 ·cases e
def rLen (K : PySem.W.Frag) : List V -> Hp -> VK -> Prop := fun xs H Q => ∃ p ys, xs = [.ref p] /\ (SqL K H p ys \/ SqT K H p ys) /\ Q (.int ys.length) H
theorem rel1 {K : PySem.W.Frag} {m : List Addr} {H : Hp} {x : R} {vs : List V} (r : RelRs K m H [x] vs) : ∃ v, vs = [v] /\ RelR K m H x v := by
 obtain ⟨v, r, rfl, h1, h2⟩ := r
 have h2 : r = [] := h2
 subst h2
 exact ⟨v, rfl, h1⟩
theorem g_len {K : PySem.W.Frag} : GAr K lenD (rLen K) := by
 intro m H μ xs d μ' vs Q s r e k
 unfold lenD at e
 split at e
 ·rename_i x
  obtain ⟨ys, e1, e⟩ := Option.bind_eq_some_iff.mp e
  cases e
  obtain ⟨v, rfl, r1⟩ := rel1 r
  obtain ⟨a, ws, rfl, q, r⟩ := items_ok s r1 e1
  exact ⟨a, ws, rfl, q, k _ H m .refl s (by simp only [RelR, RelD]; rw [r.length])⟩
 ·cases e
noncomputable def listD : List R -> Store -> Option (R × Store)
 | [x], μ => (itemsD x μ).bind fun xs => some (.p μ.length, μ ++ [.lst xs])
 | _, _ => none
noncomputable def tupD : List R -> Store -> Option (R × Store)
 | [x], μ => (itemsD x μ).bind fun xs => some (.v (.tup xs), μ)
 | _, _ => none
def rTup (K : PySem.W.Frag) : List V -> Hp -> VK -> Prop := fun xs H Q => ∃ p ys, xs = [.ref p] /\ ((SqL K H p ys /\ ∀ l, H l = none -> Q (.ref l) (upd H l (.tup ys))) \/ (SqT K H p ys /\ Q (.ref p) H))
theorem g_tup {K : PySem.W.Frag} : GAr K tupD (rTup K) := by
 intro m H μ xs d μ' vs Q s r e k
 unfold tupD at e
 split at e
 ·rename_i x
  obtain ⟨ys, e1, e⟩ := Option.bind_eq_some_iff.mp e
  cases e
  obtain ⟨v, rfl, r1⟩ := rel1 r
  obtain ⟨a, ws, rfl, q, r⟩ := items_ok s r1 e1
  rcases q with q | q
  ·refine ⟨a, ws, rfl, .inl ⟨q, fun p hp => ?_⟩⟩
   obtain ⟨x1, x2, x3⟩ := new_tup s r hp
   exact k _ _ _ x1 x2 x3
  ·refine ⟨a, ws, rfl, .inr ⟨q, k _ H m .refl s ?_⟩⟩
   simp only [RelR, RelD]
   exact ⟨a, ws, rfl, q, r⟩
 ·cases e
noncomputable def appD : R -> List R -> Store -> Option (R × Store)
 | .p n, [.v d], μ => match μ[n]? with | some (.lst xs) => if xs.length < sizeLine then some (.v .non, μ.set n (.lst (xs ++ [d]))) else none | _ => none
 | _, _, _ => none
def GMt (K : PySem.W.Frag) (g : R -> List R -> Store -> Option (R × Store)) (r : V -> List V -> Hp -> VK -> Prop) : Prop :=
 ∀ m H μ x xs d μ' v vs Q, SRel K m H μ -> RelR K m H x v -> RelRs K m H xs vs -> g x xs μ = some (d, μ') -> (∀ w H' m', Ext m H m' H' -> SRel K m' H' μ' -> RelR K m' H' d w -> Q w H') -> r v vs H Q
theorem g_app {K : PySem.W.Frag} : GMt K appD rAppend := by
 intro m H μ x xs d μ' v vs Q s rx rs e k
 unfold appD at e
 split at e
 ·split at e
  ·rename_i ys q
   split at e
   ·rename_i z
    cases e
    obtain ⟨a, rfl, ha⟩ := rx
    obtain ⟨w, rfl, rw'⟩ := rel1 rs
    obtain ⟨ws, ea, ra⟩ := s.cell _ _ a q ha
    have x : Ext m H m (upd H a (.lst (ws ++ [w]))) := .put (List.mem_of_getElem? ha) ea (by simp) (by simp)
    refine ⟨a, ws, w, rfl, rfl, ea, by rw [← ra.length]; exact z, k _ _ m x (s.put ha ea (by simp) (by simp) ⟨_, upd_at, ?_⟩) (by simp only [RelR, RelD])⟩
    refine RelDs.tf x.tf _ _ (ra.append ?_)
    simp only [RelDs]
    exact ⟨w, [], rfl, rw', rfl⟩
   ·cases e
  ·cases e
 ·cases e
noncomputable def compL (g : FG) (c : FT) (f : FE) : List D -> Lo -> Store -> Option (List D × Store)
 | [], _, μ => some ([], μ)
 | x :: xs, ρ, μ => (g (.v x) ρ μ).bind fun a => (c a.1 a.2).bind fun b => if b.1 = true then (f a.1 b.2).bind fun y => match y.1 with
   | .v d => (compL g c f xs a.1 y.2).bind fun r => some (d :: r.1, r.2)
   | _ => none
  else compL g c f xs a.1 b.2
noncomputable def blockLo (k : Nat) (ix : List Nat) (ρ : Lo) : Lo := List.replicate k none ++ ix.map fun i => (ρ[i]?).join
noncomputable def fComp (ix : List Nat) (k : Nat) (i : FI) (g : FG) (c : FT) (f : FE) : FE := fun ρ μ => (i ρ μ).bind fun a => if a.1.length <= sizeLine then
 (compL g c f a.1 (blockLo k ix ρ) a.2).bind fun r => some (.p r.2.length, r.2 ++ [.lst r.1]) else none
noncomputable def cYes : FT := fun _ μ => some (true, μ)
end HW
namespace HW
open PySem PySem.Spec PyProof.Rows L2
section
variable {X : Cx}
theorem PE.imp {e : Expr} {t t' : TE} (h : PE X e t) (k : ∀ {σ H Q}, t' σ H Q -> t σ H Q) : PE X e t' := fun pins s σ H Q I q => h pins s σ H Q I (k q)
theorem PT.imp {e : Expr} {t t' : TT} (h : PT X e t) (k : ∀ {σ H Q}, t' σ H Q -> t σ H Q) : PT X e t' := fun pins s σ H Q I q => h pins s σ H Q I (k q)
theorem PW.imp {e : Expr} {t t' : TT} (h : PW X e t) (k : ∀ {σ H Q}, t' σ H Q -> t σ H Q) : PW X e t' := fun wh pins s σ H Q I q => h wh pins s σ H Q I (k q)
theorem PA.imp {e : List Expr} {t t' : TA} (h : PA X e t) (k : ∀ {σ H Q}, t' σ H Q -> t σ H Q) : PA X e t' := fun pos pins s σ H Q I q => h pos pins s σ H Q I (k q)
theorem PS.imp {e : Stmt} {t t' : TS} (h : PS X e t) (k : ∀ {D σ H}, t' D σ H -> t D σ H) : PS X e t' := fun pins s σ H Q I q => h pins s σ H Q I (k q)
theorem PSs.imp {e : List Stmt} {t t' : TS} (h : PSs X e t) (k : ∀ {D σ H}, t' D σ H -> t D σ H) : PSs X e t' := fun pins s σ H Q I q => h pins s σ H Q I (k q)
theorem PI.imp {tg e : Expr} {t t' : TI} (h : PI X tg e t) (k : ∀ {σ H R}, t' σ H R -> t σ H R) : PI X tg e t' := fun pins s σ H R I q => h pins s σ H R I (k q)
theorem PG.imp {e : Expr} {t t' : TG} (h : PG X e t) (k : ∀ {v σ H Q}, t' v σ H Q -> t v σ H Q) : PG X e t' := fun pins s σ H v u Q I r q => h pins s σ H v u Q I r (k q)
theorem PGs.imp {e : List Expr} {t t' : TGs} (h : PGs X e t) (k : ∀ {v σ H Q}, t' v σ H Q -> t v σ H Q) : PGs X e t' := fun pins s σ H v u Q I r q => h pins s σ H v u Q I r (k q)
end
section
variable {P : Program} {w : World} {H H0 : Hp} {h h0 : Heap} {a : Addr} {u : HO} {fs ex : List Addr}
theorem FzOk.ne {b : Addr} {v : HO} (e : H a = some u) (hu : FzOk u) (q : H b = some v) (n : ¬ FzOk v) : b ≠ a := fun z => by
 rw [z, e] at q; cases q; exact n hu
theorem HOk.frz (ok : HOk P w H h) (e : H a = some u) (hu : FzOk u) : ∃ o, HOk P w (upd H a (.frz o u)) h := by
 have ho : ∃ o, h.get? a = some o := by
  have z := ok a u e
  cases u with
  | lst xs => obtain ⟨_, _, _, _, q⟩ := z; exact ⟨_, q⟩
  | set S n => obtain ⟨o, _, _, _, q, _⟩ := z; exact ⟨_, q⟩
  | dK kvs => obtain ⟨_, _, _, _, o, _, _, q, _⟩ := z; exact ⟨_, q⟩
  | dT kvs => obtain ⟨_, _, _, _, o, _, _, q, _⟩ := z; exact ⟨_, q⟩
  | _ => exact hu.elim
 obtain ⟨o, ho⟩ := ho
 refine ⟨o, fun b v q => ?_⟩
 have own : ∀ c y, H c = some (.own y) -> upd H a (.frz o u) c = some (.own y) := fun c y r => by rw [L2.upd_ne (FzOk.ne e hu r fun z => z)]; exact r
 have tup : ∀ c xs, H c = some (.tup xs) -> upd H a (.frz o u) c = some (.tup xs) := fun c xs r => by rw [L2.upd_ne (FzOk.ne e hu r fun z => z)]; exact r
 by_cases hb : b = a
 ·subst hb
  rw [L2.upd_same] at q
  cases q
  exact ⟨ho, (ok b u e).stay (fun c v _ q => q) (fun c r => own c _ r) tup⟩
 ·rw [L2.upd_ne hb] at q
  exact (ok b v q).stay (fun c v _ q => q) (fun c r => own c _ r) tup
theorem Un.frz {o : Obj} (un : Un fs ex H0 H h0 h) (e : H a = some u) (hu : FzOk u) : Un fs ex H0 (upd H a (.frz o u)) h0 h where
 keep := un.keep
 slot := un.slot
 free := fun b ob q n hx => by
  have z := un.free b ob q n hx
  rw [L2.upd_ne (fun y => by rw [y, e] at z; cases z)]; exact z
 there := un.there
 tups := fun b xs q => by rw [L2.upd_ne (FzOk.ne e hu (un.tups b xs q) fun z => z)]; exact un.tups b xs q
 frzs := fun b ob v q => by rw [L2.upd_ne (FzOk.ne e hu (un.frzs b ob v q) fun z => z)]; exact un.frzs b ob v q
 tbls := fun b ps q => by
  obtain ⟨more, r⟩ := un.tbls b ps q
  exact ⟨more, by rw [L2.upd_ne (FzOk.ne e hu r fun z => z)]; exact r⟩
theorem Inv.frz {X : Cx} {pins : List (Addr × Obj)} {σ : L2.St} {s : Shared} (I : Inv X pins σ H s) (e : H a = some u) (hu : FzOk u) : ∃ o, Inv X pins σ (upd H a (.frz o u)) s := by
 obtain ⟨o, ok⟩ := HOk.frz I.hok e hu
 have nn : ∀ b, H b = none -> upd H a (.frz o u) b = none := fun b z => by rw [L2.upd_ne (fun y => by rw [y, e] at z; cases z)]; exact z
 refine ⟨o, I.ok, I.os, I.bare, Un.frz I.base e hu, I.loc, I.cell, nn _ I.free, fun x c q => nn _ (I.freeC x c q), fun p hp => ?_, ok, I.len⟩
 obtain ⟨q1, q2, q3⟩ := I.pin p hp
 exact ⟨q1, nn _ q2, q3⟩
end
theorem pe_fz0 {X : Cx} {e : Expr} {t : TE} (h : PE X e t) : PE X e (tFz t) := fun pins s σ H Q I q => by
 refine thn (h pins s σ H _ I q) fun v s1 hh => ?_
 obtain ⟨x, H1, I1, r1, q1⟩ := hh
 rcases q1 with q1 | ⟨a, u, e, hu, q1⟩
 ·exact ⟨x, H1, I1, r1, q1⟩
 ·obtain ⟨o, I2⟩ := Inv.frz I1 e hu
  exact ⟨x, _, I2, r1, q1 o⟩
theorem FnOk.fz {P : Program} {w : World} {K : PySem.W.Frag} {mg : Str -> Option Value} {base : Heap} {CX : CXT} {k : Nat} {f : Addr} {fd : FuncData} {ps : List Str} {sp : Sp} (F : FnOk P w K mg base CX k f fd ps sp) :
  FnOk P w K mg base CX k f fd ps (fun vs H Q E => sp vs H (orFz Q) E) := by
 refine ⟨fun vs H Q E h => F.len vs H _ E h, fun A outer s H args us vs Q E hr he hb hv hs => ?_⟩
 refine codeAny_mono (F.run A outer s H args us vs (orFz Q) E hr he hb hv hs) fun r s' hq => ?_
 cases r with
 | error e => exact hq
 | ok fl =>
  cases fl with
  | next => exact hq
  | brk => exact hq
  | cont => exact hq
  | ret u =>
   obtain ⟨v, H', os, bare, un, hok, rv, q⟩ := hq
   rcases q with q | ⟨a, u', e, hu, q⟩
   ·exact ⟨v, H', os, bare, un, hok, rv, q⟩
   ·obtain ⟨o, ok⟩ := HOk.frz hok e hu
    exact ⟨v, _, os, bare, Un.frz un e hu, ok, rv, q o⟩
theorem Fun.okP {P : Program} {w : World} {K : PySem.W.Frag} {mg : Str -> Option Value} {base : Heap} {x qual : Str} {st : Stmt} {f : Addr} {fd : FuncData} {N ps : List Str} {k : Nat} {b : FS} (F : Fun K x qual st f fd) (S : FnScope N ps (defScope st))
  (hbody : ∀ (cdv : Value) (A : Around) (outer : List Env) (s : Shared) (H : Hp) (E : XK), Room k (A.deeper (envOfC qual (defScope st) s.heap.objs.size f cdv)) -> PSs (cxOf CX0 P w K mg base N qual (defScope st) f cdv A outer s H E).nox (defBody st) (rdS K b)) :
  FnOk P w K mg base CX0 (k + 1) f fd ps (spP K ps.length (runP N.length b)) := by
 have G : FnOk P w K mg base CX0 (k + 1) f fd ps (fun vs H Q _ => vs.length = ps.length /\ rdS K b { nx := fun _ H' => Q .non H', rt := Q } (L2.start N vs) H) :=
  L2.Fun.ok F S (fun vs H Q E h => h.1) fun cdv A outer s H vs Q E hr h => ⟨_, hbody cdv A outer s H E hr, h.2⟩
 refine (FnOk.fz G).imp fun vs H Q E ⟨ds, d, hn, r, e, k⟩ => ⟨by rw [← r.length]; exact hn, run_ok (E := E) r e k⟩
theorem pi_seq0 {X : Cx} {tg l : Expr} {tl : TE} (hl : PE X l tl) : PI X tg l (iSeq X.K tl) := by
 intro pins s σ H R I h
 refine thn (hl pins s σ H _ I h) fun v s1 hh => ?_
 obtain ⟨x, H1, I1, r1, q1⟩ := hh
 obtain ⟨a, e, q1⟩ := q1
 subst e
 cases r1
 rcases q1 with ⟨⟨xs, hq⟩, q⟩ | ⟨⟨xs, hq⟩, q⟩
 ·obtain ⟨its, rv, p, hz⟩ := I1.list hq
  refine wpAny_pyIter_list p.isList ?_
  refine ⟨s1.heap.objs.size, [s1.heap.objs.size], _, _, H1, rfl, I1.kept (t' := s1.toks) fun b o e => Heap.get?_push_of_some _ e, turn_list a _, ⟨_, Heap.get?_push_size _ rfl, rfl, rfl⟩, fun b hb => ?_, q⟩
  have e : b = s1.heap.objs.size := by simpa using hb
  subst e
  exact I1.fpOk (Nat.le_refl _) (I1.hok.fresh (Nat.le_refl _))
 ·obtain ⟨its, rv, p, hz⟩ := I1.tuple hq
  refine wpAny_pyIter_tuple (show s1.heap.IsTuple a its.toArray from p) ?_
  refine ⟨s1.heap.objs.size, [s1.heap.objs.size], _, _, H1, rfl, I1.kept (t' := s1.toks) fun b o e => Heap.get?_push_of_some _ e, turn_tuple a _, ⟨_, Heap.get?_push_size _ rfl, rfl, rfl⟩, fun b hb => ?_, q⟩
  have e : b = s1.heap.objs.size := by simpa using hb
  subst e
  exact I1.fpOk (Nat.le_refl _) (I1.hok.fresh (Nat.le_refl _))
end HW
namespace HW
open PySem PySem.Spec PyProof.Rows L2
end HW
namespace HW
open PySem PySem.Spec PyProof.Rows L2
theorem relabel_lookup {env : Env} : ∀ {names : List (Str × NameKind)} {x : Str},
  (names.map fun (n, k) => if (k == NameKind.free && env.scope.kind == .function && env.kindOf n == some .cell) then (n, NameKind.cell) else (n, k)).lookup x =
   (names.lookup x).map fun k => if (k == NameKind.free && env.scope.kind == .function && env.kindOf x == some .cell) then NameKind.cell else k
 | [], _ => rfl
 | (n, k) :: r, x => by
  have ih := @relabel_lookup env r x
  show List.lookup x ((if (k == NameKind.free && env.scope.kind == .function && env.kindOf n == some .cell) = true then (n, NameKind.cell) else (n, k)) :: _) = _
  cases hx : x == n with
  | true =>
   have : x = n := eq_of_beq hx
   subst this
   simp only [List.lookup_cons, hx, Option.map_some]
   by_cases hc : (k == NameKind.free && env.scope.kind == .function && env.kindOf x == some .cell) = true
   ·simp [hc]
   ·simp [hc]
  | false =>
   by_cases hc : (k == NameKind.free && env.scope.kind == .function && env.kindOf n == some .cell) = true
   ·rw [if_pos hc]; simp only [List.lookup_cons, hx]; exact ih
   ·rw [if_neg hc]; simp only [List.lookup_cons, hx]; exact ih
theorem closure_loop {env : Env} : ∀ (names : List (Str × NameKind)) (acc : List (Str × Addr)), (∀ x c, acc.lookup x = some c -> env.cells.lookup x = some c) ->
  (∀ y ∈ names, y.2 = .free -> ∃ c, env.cells.lookup y.1 = some c) ->
  ∃ cl : List (Str × Addr), (forIn names acc fun (x : Str × NameKind) (r : List (Str × Addr)) => (if (x.2 == NameKind.free) = true then do let a ← cellOf env x.1; pure (ForInStep.yield ((x.1, a) :: r)) else pure (ForInStep.yield r) : Sem (ForInStep (List (Str × Addr))))) = pure cl /\
   (∀ x c, cl.lookup x = some c -> env.cells.lookup x = some c) /\ (∀ x c, acc.lookup x = some c -> ∃ c', cl.lookup x = some c') /\ ∀ y ∈ names, y.2 = .free -> ∃ c, cl.lookup y.1 = some c
 | [], acc, h1, _ => ⟨acc, rfl, h1, fun x c e => ⟨c, e⟩, fun y hy => by simp at hy⟩
 | (n, k) :: r, acc, h1, h2 => by
  by_cases hk : k = .free
  ·subst hk
   obtain ⟨c, hc⟩ := h2 (n, .free) List.mem_cons_self rfl
   have step : ∀ x c', List.lookup x ((n, c) :: acc) = some c' -> env.cells.lookup x = some c' := fun x c' e => by
    rw [List.lookup_cons] at e
    cases hx : x == n with
    | true => rw [hx] at e; have : x = n := eq_of_beq hx; subst this; rw [hc]; exact e
    | false => rw [hx] at e; exact h1 x c' e
   obtain ⟨cl, e, p1, p2, p3⟩ := closure_loop r ((n, c) :: acc) step fun y hy => h2 y (List.mem_cons_of_mem _ hy)
   have hn : ∃ c', List.lookup n ((n, c) :: acc) = some c' := ⟨c, by rw [List.lookup_cons]; simp⟩
   refine ⟨cl, ?_, p1, fun x c' e' => ?_, fun y hy hf => ?_⟩
   ·rw [List.forIn_cons]
    show ((cellOf env n >>= fun a => pure (ForInStep.yield ((n, a) :: acc))) >>= _) = _
    unfold cellOf
    rw [hc]
    exact e
   ·cases hx : x == n with
    | true => have : x = n := eq_of_beq hx; subst this; obtain ⟨c'', q⟩ := hn; exact p2 _ _ q
    | false => exact p2 x c' (by rw [List.lookup_cons, hx]; exact e')
   ·rcases List.mem_cons.mp hy with rfl | hy
    ·obtain ⟨c'', q⟩ := hn; exact p2 _ _ q
    ·exact p3 y hy hf
  ·obtain ⟨cl, e, p1, p2, p3⟩ := closure_loop r acc h1 fun y hy => h2 y (List.mem_cons_of_mem _ hy)
   have hb : (k == NameKind.free) = false := by simpa using hk
   refine ⟨cl, ?_, p1, p2, fun y hy hf => ?_⟩
   ·rw [List.forIn_cons]
    simp only [hb, Bool.false_eq_true, if_false]
    exact e
   ·rcases List.mem_cons.mp hy with rfl | hy
    ·exact absurd hf hk
    ·exact p3 y hy hf
theorem closure_ok {env : Env} {scope : Scope} (h : ∀ y ∈ scope.names, y.2 = .free -> ∃ c, env.cells.lookup y.1 = some c) :
  ∃ cl, closureFor scope env = pure cl /\ (∀ x c, cl.lookup x = some c -> env.cells.lookup x = some c) /\ ∀ y ∈ scope.names, y.2 = .free -> ∃ c, cl.lookup y.1 = some c := by
 obtain ⟨cl, e, p1, _, p3⟩ := closure_loop (env := env) scope.names [] (fun x c e => by simp at e) h
 refine ⟨cl, ?_, p1, p3⟩
 unfold closureFor
 first
  | (show (forIn scope.names [] _ >>= fun r => pure r) = _; rw [e]; rfl)
  | (simp only [bind_pure]; exact e)
structure CompNames (osc scope : Scope) (own : List Str) (caps : List Str) : Prop where
 kind : scope.kind = .function
 cell : ∀ y ∈ scope.names, y.2 = .cell -> scope.names.lookup y.1 = some .cell
 loc : ∀ y ∈ scope.names, y.2 = .local -> scope.names.lookup y.1 = some .local
 free : ∀ y ∈ scope.names, y.2 = .free -> osc.names.lookup y.1 = some .cell \/ osc.names.lookup y.1 = some .free
 cap : ∀ y ∈ caps, (y, NameKind.free) ∈ scope.names /\ scope.names.lookup y = some .free
 nd : (own ++ caps).Nodup
def blockCx (X : Cx) (scope : Scope) (cl : List (Str × Addr)) (C : Addr) (s₂ : Shared) (H₂ : Hp) (fp : List Addr) (N : List Str) : Cx :=
 { X with N := N, s₀ := s₂, H₀ := H₂, env := compEnvC scope cl C X.env, outer := X.stack, stack := X.stack, ex := fp, fn := fun x => scope.names.lookup x == some .cell, pn := [], xe := fun _ _ => False }
theorem lookup_mem {names : List (Str × NameKind)} {x : Str} {k : NameKind} (h : names.lookup x = some k) : (x, k) ∈ names := PySem.mem_of_lookup h
structure BCl (X : Cx) (scope : Scope) (lo : Nat) (cl : List (Str × Addr)) : Prop where
 src : ∀ x c, cl.lookup x = some c -> (X.env.cells.lookup x = some c /\ scope.names.lookup x ≠ some .cell) \/ lo < c
 inj : ∀ x y c, cl.lookup x = some c -> cl.lookup y = some c -> x = y
 has : ∀ y ∈ scope.names, y.2 = .free \/ y.2 = .cell -> ∃ c, cl.lookup y.1 = some c
 fr : ∀ y, scope.names.lookup y = some .free -> ∃ c, cl.lookup y = some c /\ X.env.cells.lookup y = some c
theorem block_kind {X : Cx} {scope : Scope} {own caps : List Str} (n : CompNames X.env.scope scope own caps) {cl : List (Str × Addr)} {C : Addr} {x : Str} {k : NameKind} (h : (compEnvC scope cl C X.env).kindOf x = some k) (hk : k = .cell \/ k = .free) :
  ∃ k, (x, k) ∈ scope.names /\ (k = .free \/ k = .cell) := by
 have h' : (relabel scope X.env).names.lookup x = some k := h
 unfold relabel at h'
 rw [relabel_lookup] at h'
 cases q : scope.names.lookup x with
 | none => rw [q] at h'; cases h'
 | some k0 =>
  rw [q, Option.map_some] at h'
  have m := lookup_mem q
  have h2 := Option.some.inj h'
  by_cases hf : k0 = .free
  ·subst hf; exact ⟨_, m, .inl rfl⟩
  ·have hb : (k0 == NameKind.free) = false := by simpa using hf
   simp only [hb, Bool.false_and, Bool.false_eq_true, if_false] at h2
   rcases hk with hk | hk
   ·exact ⟨_, m, .inr (h2.trans hk)⟩
   ·exact absurd (h2.trans hk) hf
theorem block_free {X : Cx} {scope : Scope} {cl : List (Str × Addr)} {C : Addr} {x : Str} (h : scope.names.lookup x = some .free) :
  (compEnvC scope cl C X.env).kindOf x = some .cell \/ (compEnvC scope cl C X.env).kindOf x = some .free := by
 show (relabel scope X.env).names.lookup x = some .cell \/ (relabel scope X.env).names.lookup x = some .free
 unfold relabel
 rw [relabel_lookup, h]
 simp only [Option.map_some]
 split
 ·exact .inl rfl
 ·exact .inr rfl
theorem BCl.ne {X : Cx} {pins : List (Addr × Obj)} {H : Hp} {scope : Scope} {lo b : Nat} {cl : List (Str × Addr)} (B : BCl X scope lo cl) (f : FpOk X pins H b) (hb : b < lo) {x : Str} {c : Addr} (e : cl.lookup x = some c) : c ≠ b := by
 rcases B.src x c e with ⟨z, _⟩ | z
 ·exact f.2.2.2.2.1 x c z
 ·exact Ne.symm (Nat.ne_of_lt (Nat.lt_trans hb z))
theorem block_ok {X : Cx} {pins : List (Addr × Obj)} {σ : L2.St} {H₂ : Hp} {s₂ : Shared} {scope : Scope} {own caps : List Str} {cl : List (Str × Addr)} {C : Addr} {fp : List Addr} (I : Inv X pins σ H₂ s₂) (n : CompNames X.env.scope scope own caps)
  (B : BCl X scope s₂.heap.objs.size cl) (hC : s₂.heap.objs.size <= C) (hfs : ∀ b ∈ fp, b < s₂.heap.objs.size) (hf : ∀ b ∈ fp, FpOk X pins H₂ b) :
  (blockCx X scope cl C s₂ H₂ fp (own ++ caps)).Ok := by
 refine ⟨I.ok.mod, n.kind, I.ok.glob, I.ok.blt, hC, B.inj, fun x hx => ?_, fun x c h _ => ?_, I.ok.hd, I.ok.frames, .inl rfl, fun b hb => ⟨Nat.ne_of_lt (Nat.lt_of_lt_of_le (hfs b hb) hC), fun x c e => B.ne (hf b hb) (hfs b hb) e⟩,
  I.bs, Nat.le_trans I.ok.bsz I.sz, fun b o e hb => ?_, fun b hb z => ?_, I.stack, I.stkFree⟩
 ·rcases hx with hx | hx
  ·obtain ⟨k, m, hk⟩ := block_kind n hx (.inl rfl); exact B.has _ m hk
  ·obtain ⟨k, m, hk⟩ := block_kind n hx (.inr rfl); exact B.has _ m hk
 ·rcases B.src x c ‹_› with ⟨_, z⟩ | z
  ·exact absurd (eq_of_beq h) z
  ·exact Nat.le_of_lt z
 ·rcases (hf b hb).2.2.2.1 with z | z
  ·exact I.ok.noex b o e z
  ·exact absurd (Nat.lt_of_lt_of_le (Nat.lt_of_lt_of_le (Heap.lt_size e) I.ok.bsz) z) (Nat.lt_irrefl _)
 ·rcases List.mem_cons.mp (I.stkSub b z) with e | e
  ·exact (hf b hb).2.1 e
  ·exact (hf b hb).2.2.1 e
noncomputable def blockSt (own : L2.St) (ix : List Nat) (σ : L2.St) : L2.St := own ++ ix.map fun i => (σ[i]?).join
theorem block_start {X : Cx} {pins : List (Addr × Obj)} {σ : L2.St} {H₂ : Hp} {s₂ : Shared} {scope : Scope} {own caps : List Str} {ix : List Nat} {cl : List (Str × Addr)} {C : Addr} {fp : List Addr} {h₁ : Heap} {tk : Nat} (I : Inv X pins σ H₂ s₂) (n : CompNames X.env.scope scope own caps)
  (B : BCl X scope s₂.heap.objs.size cl) (hC : s₂.heap.objs.size <= C) (hfs : ∀ b ∈ fp, b < s₂.heap.objs.size) (hf : ∀ b ∈ fp, FpOk X pins H₂ b)
  (hown : ∀ x c, cl.lookup x = some c -> s₂.heap.objs.size < c -> h₁.IsCell c none) (hix : ix.length = caps.length) (hix2 : ∀ (j i : Nat) y, ix[j]? = some i -> caps[j]? = some y -> X.N[i]? = some y)
  (old : ∀ b o, s₂.heap.get? b = some o -> h₁.get? b = some o) {m : Str -> Option Value} (hns : h₁.Ns C m) :
  Inv (blockCx X scope cl C s₂ H₂ fp (own ++ caps)) [] (blockSt (own.map fun _ => none) ix σ) H₂ { s₂ with heap := h₁, toks := tk } := by
 refine ⟨block_ok I n B hC hfs hf, rfl, I.bare, Un.kept old, ⟨m, hns, fun i x v e1 e2 hv => ?_⟩, fun x c e => ?_, I.hok.fresh hC, fun x c e => (B.src x c e).elim (fun z => I.freeC x c z.1) fun z => I.hok.fresh (Nat.le_of_lt z), fun p hp => ?_, I.hok.kept old, ?_⟩
 ·have e1 : (own ++ caps)[i]? = some x := e1
  unfold blockSt at e2
  by_cases hi : i < own.length
  ·rw [List.getElem?_append_left (by simpa using hi), List.getElem?_map] at e2
   cases q : own[i]? with
   | none => rw [q] at e2; cases e2
   | some y => rw [q] at e2; cases e2
  ·rw [List.getElem?_append_right (by simpa using hi)] at e2
   rw [List.getElem?_append_right (by omega)] at e1
   simp only [List.length_map] at e2
   generalize i - own.length = j at e1 e2
   rw [List.getElem?_map] at e2
   cases q : ix[j]? with
   | none => rw [q] at e2; cases e2
   | some i' =>
    rw [q] at e2
    have e3 : (σ[i']?).join = some v := Option.some.inj e2
    have e4 : σ[i']? = some (some v) := by
     cases z : σ[i']? with
     | none => rw [z] at e3; cases e3
     | some w' => rw [z] at e3; cases w' with
      | none => cases e3
      | some _ => cases e3; rfl
    have hN := hix2 j i' x q e1
    obtain ⟨mm, hl⟩ := n.cap x (List.mem_of_getElem? e1)
    have hk : X.env.kindOf x = some .cell \/ X.env.kindOf x = some .free := n.free _ mm rfl
    obtain ⟨m0, hn0, hl0⟩ := I.loc
    have vis : Vis X.env.scope x := by
     rcases hk with hk | hk
     ·exact .inr (.inl hk)
     ·exact .inr (.inr hk)
    obtain ⟨u, r, l⟩ := hl0 i' x v hN e4 vis
    refine ⟨u, r, .inr ⟨block_free hl, ?_⟩⟩
    obtain ⟨c, hc, hcx⟩ := B.fr x hl
    rcases l with ⟨l, _⟩ | ⟨_, c', hc', z⟩
    ·exfalso
     rcases hk with hk | hk <;> rw [hk] at l <;> cases l
    ·rw [hc'] at hcx; cases hcx
     obtain ⟨o, ho, hd⟩ := z
     exact ⟨_, hc, o, old _ _ ho, hd⟩
 ·rcases B.src x c e with ⟨z, _⟩ | z
  ·obtain ⟨v, o, ho, hd⟩ := I.cell x c z
   exact ⟨v, o, old _ _ ho, hd⟩
  ·exact ⟨none, hown x c e z⟩
 ·exact absurd (show p ∈ ([] : List (Addr × Obj)) from hp) (by simp)
 ·show (blockSt _ ix σ).length = (own ++ caps).length
  unfold blockSt
  simp [hix]
def PIfs (X : Cx) (ifs : List Expr) (t : TT) : Prop :=
 ∀ (pins : List (Addr × Obj)) (s : Shared) (σ : L2.St) (H : Hp) (Q : Bool -> Hp -> Prop), Inv X pins σ H s -> t σ H Q ->
  wpAny (model X.prog X.w) X.A (forIn ifs true fun c r => if r = true then do let ok ← isTrue c X.env (eval c X.env); pure (ForInStep.yield ok) else pure (ForInStep.yield r)) (TP X pins σ Q) X.xe s
def tYes : TT := fun _ H Q => Q true H
theorem pifs_nil {X : Cx} : PIfs X [] tYes := fun pins s σ H Q I h => wpAny_tests_nil ⟨H, I, h⟩
theorem compLoop_go {prog : Program} {w : World} {A : Around} {R : Result -> Shared -> Prop} {s : Shared} {elt target iter : Expr} {ifs : List Expr} {scope : Scope} {pos : Pos} {it acc : Value} {env : Env} (I : Nat -> Shared -> Prop)
  (turn : ∀ n s, I n s -> wpAny (model prog w) A (pyNext it) (fun r s₁ => match r with
   | none => R (.ok .next) s₁
   | some v => wpAny (model prog w) A (letOwnedTupleGo target it v) (fun _ s₁' => wpAny (model prog w) A (assign target env v) (fun _ s₂ =>
     wpAny (model prog w) A (forIn ifs true fun c r => if r = true then do let ok ← isTrue c env (eval c env); pure (ForInStep.yield ok) else pure (ForInStep.yield r)) (fun ok s₃ =>
      if ok = true then wpAny (model prog w) A (eval elt env) (fun x s₄ =>
       wpAny (model prog w) A (call (.builtin "list.append") [acc, x]) (fun _ s₅ => ∃ m, m < n /\ I m s₅) (fun _ _ => False) s₄) (fun _ _ => False) s₃
      else ∃ m, m < n /\ I m s₃) (fun _ _ => False) s₂) (fun _ _ => False) s₁') (fun _ _ => False) s₁) (fun _ _ => False) s)
  (n : Nat) (h : I n s) : codeAny (model prog w) A (.compLoop (.ListComp elt [⟨target, iter, ifs, 0⟩] scope pos) 0 it acc env) R s := by
 refine codeAny_loop rfl I (fun n s hI => ?_) n h
 show wpAny _ A ((compTurn (.ListComp elt [⟨target, iter, ifs, 0⟩] scope pos) 0 it acc env).onRaise (fun x => do noteFrame x env; theTreesLotGoes x)) _ _ s
 refine wpAny_noted ?_
 rw [compTurn_list]
 refine wpAny_bind (wpAny_standAt (wpAny_bind (wpAny_mono (turn n s hI) (fun r s₁ h₁ => ?_) fun _ _ h' => h'.elim)))
 cases r with
 | none => exact wpAny_pure h₁
 | some v =>
  refine wpAny_bind (wpAny_mono h₁ (fun _ s₁' h₁' => ?_) fun _ _ h' => h'.elim)
  refine wpAny_bind (wpAny_mono h₁' (fun _ s₂ h₂ => wpAny_bind (wpAny_mono h₂ (fun ok s₃ h₃ => ?_) fun _ _ h' => h'.elim)) fun _ _ h' => h'.elim)
  cases ok with
  | false => exact wpAny_pure ⟨rfl, h₃⟩
  | true =>
   exact wpAny_bind (wpAny_bind (wpAny_mono h₃ (fun x s₄ h₄ => wpAny_bind (wpAny_mono h₄ (fun _ s₅ h₅ => wpAny_pure (wpAny_pure ⟨rfl, h₅⟩)) fun _ _ h' => h'.elim)) fun _ _ h' => h'.elim))
theorem Inv.adopt {X : Cx} {pins : List (Addr × Obj)} {σ : L2.St} {H : Hp} {s : Shared} {a : Addr} {o : HO} (I : Inv X pins σ H s) (f : FpOk X pins H a) (hs : X.s₀.heap.objs.size <= a) (new : ObjOk X.prog X.w (upd H a o) s.heap a o) : Inv X pins σ (upd H a o) s := by
 obtain ⟨f0, f1, f2, f3, f4, f5⟩ := f
 have ne : ∀ b u, H b = some u -> b ≠ a := fun b u e z => by rw [z, f0] at e; cases e
 refine ⟨I.ok, I.os, I.bare, ⟨I.base.keep, I.base.slot, fun b ob q n hx' => ?_, I.base.there, fun b xs q => ?_, fun b ob u q => ?_, fun b ps q => ?_⟩, I.loc, I.cell, ?_, fun x c q => ?_, fun p hp => ?_, fun b u q => ?_, I.len⟩
 ·rw [L2.upd_ne (Nat.ne_of_lt (Nat.lt_of_lt_of_le (Heap.lt_size q) hs))]; exact I.base.free b ob q n hx'
 ·rw [L2.upd_ne (ne _ _ (I.base.tups b xs q))]; exact I.base.tups b xs q
 ·rw [L2.upd_ne (ne _ _ (I.base.frzs b ob u q))]; exact I.base.frzs b ob u q
 ·obtain ⟨more, r⟩ := I.base.tbls b ps q
  exact ⟨more, by rw [L2.upd_ne (ne _ _ r)]; exact r⟩
 ·rw [L2.upd_ne (Ne.symm f1)]; exact I.free
 ·rw [L2.upd_ne (f4 x c q)]; exact I.freeC x c q
 ·obtain ⟨q1, q2, q3⟩ := I.pin p hp
  exact ⟨q1, by rw [L2.upd_ne (f5 p hp)]; exact q2, q3⟩
 ·by_cases hb : b = a
  ·subst hb; rw [L2.upd_same] at q; cases q; exact new
  ·rw [L2.upd_ne hb] at q
   exact (I.hok b u q).stay (fun c v _ q => q) (fun c r => by rw [L2.upd_ne (ne _ _ r)]; exact r) fun c xs r => by rw [L2.upd_ne (ne _ _ r)]; exact r
def tComp (ix : List Nat) (own : List Str) (wi : TI) (g : TG) (tc : TT) (te : TE) : TE := fun σ H Q => wi σ H fun J H1 =>
 ∃ W : Nat -> Nat -> List V -> L2.St -> Hp -> Prop, (∃ n, W 0 n [] (blockSt (own.map fun _ => none) ix σ) H1) /\ ∀ i n ys τ H, W i n ys τ H ->
  (J.stop i H /\ ∀ p, H p = none -> Q (.ref p) (upd H p (.lst ys))) \/
  (J.go i H /\ ys.length < sizeLine /\ ∀ x H', J.yld i H x H' -> g x τ H' fun τ2 H2 => tc τ2 H2 fun b H3 => if b = true then te τ2 H3 fun y H4 => ∃ n', n' < n /\ W (i + 1) n' (ys ++ [y]) τ2 H4 else ∃ n', n' < n /\ W (i + 1) n' ys τ2 H3)
theorem cells_app : ∀ (names : List (Str × NameKind)) (k : Nat) (acc : List (Str × Addr)), cellsFrom k names acc = cellsFrom k names [] ++ acc
 | [], _, _ => rfl
 | (x, d) :: r, k, acc => by
  unfold cellsFrom
  split
  ·rw [cells_app r (k + 1) ((x, k) :: acc), cells_app r (k + 1) [(x, k)], List.append_assoc]; rfl
  ·exact cells_app r k acc
theorem cells_nm {x : Str} {c : Addr} : ∀ (names : List (Str × NameKind)) (k : Nat) (acc : List (Str × Addr)), (x, c) ∈ cellsFrom k names acc -> (x, c) ∈ acc \/ (x, NameKind.cell) ∈ names
 | [], _, _, h => .inl h
 | (y, d) :: r, k, acc, h => by
  unfold cellsFrom at h
  split at h
  ·rename_i hk
   rcases cells_nm r (k + 1) _ h with h | h
   ·rcases List.mem_cons.mp h with e | e
    ·cases e; rw [← eq_of_beq hk]; exact .inr List.mem_cons_self
    ·exact .inl e
   ·exact .inr (List.mem_cons_of_mem _ h)
  ·exact (cells_nm r k acc h).imp id (List.mem_cons_of_mem _)
theorem lookup_app {x : Str} : ∀ (a b : List (Str × Addr)), (a ++ b).lookup x = (a.lookup x).or (b.lookup x)
 | [], _ => rfl
 | (y, c) :: a, b => by
  rw [List.cons_append, List.lookup_cons, List.lookup_cons]
  split
  ·rfl
  ·exact lookup_app a b
theorem block_env {X : Cx} {pins : List (Addr × Obj)} {σ : L2.St} {s₂ s₃ : Shared} {H₂ : Hp} {E : Value -> Shared -> Prop} {scope : Scope} {own caps : List Str} {cl : List (Str × Addr)} {Q : Env -> Shared -> Prop} (I : Inv X pins σ H₂ s₂) (n : CompNames X.env.scope scope own caps) (hs : s₂.heap.objs.size < s₃.heap.objs.size)
  (hcl : ∀ x c, cl.lookup x = some c -> X.env.cells.lookup x = some c) (hcl2 : ∀ y ∈ scope.names, y.2 = .free -> ∃ c, cl.lookup y.1 = some c)
  (hQ : ∀ (h₁ : Heap) (cl' : List (Str × Addr)) (m : Str -> Option Value), (∀ b o, s₃.heap.get? b = some o -> h₁.get? b = some o) -> h₁.Ns s₃.heap.objs.size m -> BCl X scope s₂.heap.objs.size cl' -> (∀ x c, cl'.lookup x = some c -> s₂.heap.objs.size < c -> h₁.IsCell c none) ->
   Q { compEnvC scope cl' s₃.heap.objs.size X.env with scope := scope } { s₃ with heap := h₁ }) :
  wpAny (model X.prog X.w) X.A (newFunctionEnv scope X.env.globals cl [] X.env.qual none .none (some X.env)) Q E s₃ := by
 simp only [newFunctionEnv, Option.isSome_some, if_true]
 refine wpAny_bind (wpAny_alloc ?_)
 refine wpAny_bind (wpAny_layCells _ (fun name kind cells => by cases hkc : kind == NameKind.cell <;> simp [hkc]) _ _ _ _ ?_)
 have ok := cellsFrom_ok scope.names (s₃.heap.push { cls := .type "dict", data := .dict #[] }) (s₃.heap.objs.size + 1) [] ⟨fun _ _ hm => (nomatch hm), List.Pairwise.nil⟩ (by rw [Heap.size_push]; exact Nat.le_refl _)
 have e1 := cells_app scope.names (s₃.heap.push { cls := .type "dict", data := .dict #[] }).objs.size cl
 refine wpAny_pure (hQ _ _ _ (fun b o e => pushCells_keeps _ _ b o (Heap.get?_push_of_some _ e)) ((Heap.Ns.new s₃.heap (.type "dict")).keeps (pushCells_keeps _ _)) ?_ ?_)
 all_goals
  rw [e1]
  generalize hO : cellsFrom (s₃.heap.push { cls := .type "dict", data := .dict #[] }).objs.size scope.names [] = O at ok e1
  have own : ∀ {x c}, O.lookup x = some c -> (pushCells (s₃.heap.push { cls := .type "dict", data := .dict #[] }) scope.names).IsCell c none /\ s₂.heap.objs.size < c := fun {x c} h => ⟨(ok.empty x c (PySem.mem_of_lookup h)).1, Nat.lt_trans hs (ok.empty x c (PySem.mem_of_lookup h)).2⟩
  have ol : ∀ {x c}, cl.lookup x = some c -> c < s₂.heap.objs.size := fun {x c} h => by
   obtain ⟨v, o, q, _⟩ := I.cell x c (hcl x c h); exact Heap.lt_size q
  have spl : ∀ {x c}, (O ++ cl).lookup x = some c -> O.lookup x = some c \/ (O.lookup x = none /\ cl.lookup x = some c) := fun {x c} h => by
   rw [lookup_app] at h
   cases q : O.lookup x with
   | none => rw [q] at h; exact .inr ⟨rfl, h⟩
   | some d => rw [q] at h; exact .inl h
 ·refine ⟨fun x c h => ?_, fun x y c h1 h2 => ?_, fun y hy hk => ?_, fun y hy => ?_⟩
  ·rcases spl h with h | ⟨h1, h2⟩
   ·exact .inr (own h).2
   ·refine .inl ⟨hcl x c h2, fun z => ?_⟩
    have := PySem.W.cellsFrom_some scope.names (s₃.heap.push { cls := .type "dict", data := .dict #[] }).objs.size [] (.inl z)
    rw [hO, h1] at this; cases this
  ·rcases spl h1 with h1 | ⟨_, h1⟩ <;> rcases spl h2 with h2 | ⟨_, h2⟩
   ·exact PySem.name_of_addr ok.apart (PySem.mem_of_lookup h1) (PySem.mem_of_lookup h2)
   ·exact absurd (Nat.lt_trans (own h1).2 (ol h2)) (Nat.lt_irrefl _)
   ·exact absurd (Nat.lt_trans (own h2).2 (ol h1)) (Nat.lt_irrefl _)
   ·exact I.ok.inj x y c (hcl x c h1) (hcl y c h2)
  ·rw [lookup_app]
   cases q : O.lookup y.1 with
   | some d => exact ⟨d, rfl⟩
   | none =>
    rcases hk with hk | hk
    ·exact hcl2 y hy hk
    ·have := PySem.W.cellsFrom_some scope.names (s₃.heap.push { cls := .type "dict", data := .dict #[] }).objs.size [] (.inl (n.cell y hy hk))
     rw [hO, q] at this; cases this
  ·obtain ⟨c, hc⟩ := hcl2 _ (lookup_mem hy) rfl
   refine ⟨c, ?_, hcl y c hc⟩
   rw [lookup_app]
   cases q : O.lookup y with
   | none => exact hc
   | some d =>
    rw [← hO] at q
    rcases cells_nm _ _ _ (PySem.mem_of_lookup q) with z | z
    ·cases z
    ·have := n.cell _ z rfl
     rw [hy] at this; cases this
 ·intro x c h hc
  rcases spl h with h | ⟨_, h⟩
  ·exact (own h).1
  ·exact absurd (Nat.lt_trans hc (ol h)) (Nat.lt_irrefl _)
theorem block_run {X : Cx} {pins : List (Addr × Obj)} {σ : L2.St} {s₂ : Shared} {H₂ : Hp} {E : Value -> Shared -> Prop} {elt tg iter : Expr} {ifs : List Expr} {scope : Scope} {pos : Pos} {own caps : List Str} {ix : List Nat} {g : TG} {tc : TT} {te : TE} {Q : VK} {cl : List (Str × Addr)}
  {it : Addr} {fp : List Addr} {tn : Nat -> Heap -> Prop} {J : It} {RR : Value -> Addr -> Result -> Shared -> Prop}
  (hc : X.calm = true) (I : Inv X pins σ H₂ s₂) (T : Turn X.prog X.w X.K tg J fp it tn) (st : tn 0 s₂.heap) (hf : ∀ b ∈ fp, FpOk X pins H₂ b) (n : CompNames X.env.scope scope own caps)
  (hcl : ∀ x c, cl.lookup x = some c -> X.env.cells.lookup x = some c) (hcl2 : ∀ y ∈ scope.names, y.2 = .free -> ∃ c, cl.lookup y.1 = some c)
  (hix : ix.length = caps.length) (hix2 : ∀ (j i : Nat) y, ix[j]? = some i -> caps[j]? = some y -> X.N[i]? = some y)
  (hg : ∀ cl C, PG (blockCx X scope cl C s₂ H₂ fp (own ++ caps)) tg g) (ht : ∀ cl C, PIfs (blockCx X scope cl C s₂ H₂ fp (own ++ caps)) ifs tc) (he : ∀ cl C, PE (blockCx X scope cl C s₂ H₂ fp (own ++ caps)) elt te)
  (W : Nat -> Nat -> List V -> L2.St -> Hp -> Prop) (hW0 : ∃ n, W 0 n [] (blockSt (own.map fun _ => none) ix σ) H₂)
  (hW : ∀ i n ys τ H, W i n ys τ H -> (J.stop i H /\ ∀ p, H p = none -> Q (.ref p) (upd H p (.lst ys))) \/
   (J.go i H /\ ys.length < sizeLine /\ ∀ x H', J.yld i H x H' -> g x τ H' fun τ2 H2 => tc τ2 H2 fun b H3 => if b = true then te τ2 H3 fun y H4 => ∃ n', n' < n /\ W (i + 1) n' (ys ++ [y]) τ2 H4 else ∃ n', n' < n /\ W (i + 1) n' ys τ2 H3))
  (hRR : ∀ (D C : Addr) (s' : Shared) m H' ys, s'.heap.Ns C m -> Inv X pins σ (upd H' D (.lst ys)) s' -> FpOk X pins (upd H' D (.lst ys)) C -> Q (.ref D) (upd H' D (.lst ys)) -> RR (.ref D) C (.ok .next) s') :
  wpAny (model X.prog X.w) X.A (newList []) (fun acc s₃ => wpAny (model X.prog X.w) X.A (newFunctionEnv scope X.env.globals cl [] X.env.qual none .none (some X.env)) (fun cenv s₄ =>
   codeAny (model X.prog X.w) X.A (.compStart (.ListComp elt [⟨tg, iter, ifs, 0⟩] scope pos) 0 (.ref it) acc { cenv with scope := relabel scope X.env }) (RR acc cenv.locals) s₄) E s₃) E s₂ := by
 refine wpAny_newObj_type (block_env (s₂ := s₂) I n (by show s₂.heap.objs.size < (s₂.heap.push _).objs.size; rw [Heap.size_push]; exact Nat.lt_succ_self _) hcl hcl2 fun h₁ cl m₁ kp₁ hns₁ B hown => ?_)
 dsimp only at hns₁ kp₁ ⊢
 generalize hH2 : s₂.heap.push { cls := .type "list", dict := none, data := .seq ([] : List Value).toArray } = H2 at hns₁ kp₁ ⊢
 have hC : H2.objs.size = s₂.heap.objs.size + 1 := by rw [← hH2, Heap.size_push]
 have below : ∀ b, b < s₂.heap.objs.size -> b ≠ H2.objs.size /\ b ≠ s₂.heap.objs.size := fun b hb => ⟨by rw [hC]; exact Nat.ne_of_lt (Nat.lt_succ_of_lt hb), Nat.ne_of_lt hb⟩
 have hDC : s₂.heap.objs.size ≠ H2.objs.size := by rw [hC]; exact Nat.ne_of_lt (Nat.lt_succ_self _)
 have old : ∀ b o, s₂.heap.get? b = some o -> h₁.get? b = some o := fun b o e => kp₁ b o (hH2 ▸ Heap.get?_push_of_some _ e)
 have hacc : h₁.get? s₂.heap.objs.size = some { cls := .type "list", data := .seq ([] : List Value).toArray } := kp₁ _ _ (hH2 ▸ Heap.get?_push_size _ rfl)
 have fplt : ∀ b ∈ fp, b < s₂.heap.objs.size := fun b hb => by obtain ⟨o, e, _⟩ := T.obj _ _ st b hb; exact Heap.lt_size e
 have hCle : s₂.heap.objs.size <= H2.objs.size := by rw [hC]; exact Nat.le_succ _
 have hfC : ∀ b ∈ fp, b < H2.objs.size := fun b hb => Nat.lt_of_lt_of_le (fplt b hb) hCle
 have st₁ : tn 0 h₁ := T.keep 0 _ _ st fun b _ o e => old b o e
 have I₀ := block_start (tk := s₂.toks) I n B hCle fplt hf hown hix hix2 old hns₁
 clear hns₁ kp₁
 have cellD : ∀ x c, cl.lookup x = some c -> c ≠ s₂.heap.objs.size := fun x c e => by
  rcases B.src x c e with ⟨z, _⟩ | z
  ·obtain ⟨v, o, q, _⟩ := I.cell x c z; exact Nat.ne_of_lt (Heap.lt_size q)
  ·exact Ne.symm (Nat.ne_of_lt z)
 have stkD : ∀ b ∈ frs X.stack, b < s₂.heap.objs.size := fun b hb => by
  rcases List.mem_cons.mp (I.stkSub b hb) with e | e
  ·rw [e]; exact I.lt
  ·obtain ⟨_, o, q, _⟩ := I.funs.mem e; exact Heap.lt_size q
 have fpok : ∀ {ps : List (Addr × Obj)} {H : Hp}, (∀ b ∈ fp, H b = none) -> (∀ p ∈ ps, p.1 ∉ fp) -> ∀ b ∈ fp, FpOk (blockCx X scope cl H2.objs.size s₂ H₂ fp (own ++ caps)) ps H b := fun {ps H} hn hp b hb =>
  ⟨hn b hb, Nat.ne_of_lt (hfC b hb), fun z => by
   rcases List.mem_cons.mp (I.stkSub b z) with e | e
   ·exact (hf b hb).2.1 e
   ·exact (hf b hb).2.2.1 e, .inl hb, fun x c e => B.ne (hf b hb) (fplt b hb) e, fun p hp' z => hp p (by simpa [blockCx] using hp') (z ▸ hb)⟩
 have Dfp : s₂.heap.objs.size ∉ fp := fun z => Nat.lt_irrefl _ (fplt _ z)
 have pinD : ∀ {H : Hp} {h : Heap} {its : List Value} {k : Nat}, H s₂.heap.objs.size = none -> h.get? s₂.heap.objs.size = some { cls := .type "list", data := .seq its.toArray k } ->
   ∀ p ∈ [((s₂.heap.objs.size, { cls := .type "list", data := .seq its.toArray k }) : Addr × Obj)], h.get? p.1 = some p.2 /\ H p.1 = none /\ p.1 ≠ H2.objs.size /\ p.1 ∉ frs X.stack /\ ∀ v, p.2.data ≠ .cell v := fun {H h its k} hn e p hp => by
  rw [List.mem_singleton.mp hp]
  exact ⟨e, hn, hDC, fun z => Nat.lt_irrefl _ (stkD _ z), fun v z => by cases z⟩
 have loop : ∀ s₃ : Shared, s₃ = { s₂ with heap := h₁ } ->
   codeAny (model X.prog X.w) X.A (.compLoop (.ListComp elt [⟨tg, iter, ifs, 0⟩] scope pos) 0 (.ref it) (.ref s₂.heap.objs.size) (compEnvC scope cl H2.objs.size X.env)) (RR (.ref s₂.heap.objs.size) H2.objs.size) s₃ := by
  rintro s₃ rfl
  obtain ⟨n0, hW0⟩ := hW0
  refine compLoop_go (fun n s' => ∃ i ys its k τ H, Inv (blockCx X scope cl H2.objs.size s₂ H₂ fp (own ++ caps)) [(s₂.heap.objs.size, { cls := .type "list", data := .seq its.toArray k })] τ H s' /\ tn i s'.heap /\ (∀ b ∈ fp, H b = none) /\ Vals ys its /\ ys.length <= sizeLine /\ W i n ys τ H) ?_ n0
   ⟨0, [], [], 0, _, H₂, I₀.pins_of (pinD (I.hok.fresh (Nat.le_refl _)) hacc), st₁, fun b hb => (hf b hb).1, .nil, Nat.zero_le _, hW0⟩
  rintro n s3 ⟨i, ys, its, k, τ, H, I3, st3, fr3, rv, hz, w3⟩
  have hD3 := I3.pin _ (List.mem_append_right _ List.mem_cons_self)
  have pfp : ∀ p ∈ [((s₂.heap.objs.size, { cls := .type "list", data := .seq its.toArray k }) : Addr × Obj)], p.1 ∉ fp := fun p hp => by rw [List.mem_singleton.mp hp]; exact Dfp
  rcases hW i n ys τ H w3 with ⟨stop, q⟩ | ⟨go, hlt, step⟩
  ·refine thn (T.done (blockCx X scope cl H2.objs.size s₂ H₂ fp (own ++ caps)) rfl rfl rfl hc i _ s3 τ H (fun _ _ => False) I3 (fpok fr3 pfp) st3 stop) fun r s4 hh => ?_
   obtain ⟨hr, I4⟩ := hh
   subst hr
   have hD4 := I4.pin _ (List.mem_append_right _ List.mem_cons_self)
   obtain ⟨m, hm, _⟩ := id I4.loc
   have IX : Inv X pins σ H s4 := I.call' (ch := fp) I4.os I4.base I4.hok I4.bare fun b hb => ⟨(hf b hb).2.2.2.1, (hf b hb).2.1, (hf b hb).2.2.2.2⟩
   have fD : FpOk X pins H s₂.heap.objs.size := I.fpOk (Nat.le_refl _) hD4.2.1
   have IY := Inv.adopt (o := .lst ys) IX fD I.sz ⟨hz, its, k, rv, hD4.1⟩
   exact hRR _ _ s4 m H ys hm IY (I.fpOk hCle (by rw [L2.upd_ne (Ne.symm hDC)]; exact I4.free)) (q _ hD4.2.1)
  ·refine thn (T.item (blockCx X scope cl H2.objs.size s₂ H₂ fp (own ++ caps)) rfl rfl rfl hc i _ s3 τ H (fun _ _ => False) I3 (fpok fr3 pfp) st3 go) fun r s4 hh => ?_
   obtain ⟨u, hr, h4⟩ := hh
   subst hr
   refine thn h4 fun _ s5 hh => ?_
   obtain ⟨x, H5, I5, r5, y5, st5, fr5⟩ := hh
   have I5' := I5.pinned (fpok fr5 pfp) (T.obj _ _ st5)
   refine thn (hg _ _ _ s5 τ H5 x u _ I5' r5 (step x H5 y5)) fun _ s6 hh => ?_
   obtain ⟨σ6, H6, I6, q6⟩ := hh
   refine thn (ht _ _ _ s6 σ6 H6 _ I6 q6) fun ok s7 hh => ?_
   obtain ⟨H7, I7, q7⟩ := hh
   have memD : ∀ p ∈ pinsAt fp s5.heap, p.1 ≠ s₂.heap.objs.size := fun p hp z => Dfp (z ▸ (of_pinsAt hp).1)
   cases ok with
   | true =>
    refine thn (he _ _ _ s7 σ6 H7 _ I7 q7) fun u8 s8 hh => ?_
    obtain ⟨y, H8, I8, r8, n', hn', w8⟩ := hh
    have hD8 := I8.pin (s₂.heap.objs.size, _) (List.mem_append_right _ (List.mem_append_left _ List.mem_cons_self))
    refine append_at (hsz := by rw [List.size_toArray, ← rv.length]; exact hz) hD8.1 fun h9 sb hD9 => ?_
    have I8' : Inv (blockCx X scope cl H2.objs.size s₂ H₂ fp (own ++ caps)) (pinsAt fp s5.heap) σ6 H8 s8 := I8.pins_of fun p hp => I8.pin p (List.mem_append_right _ (List.mem_append_right _ hp))
    have I9 : Inv (blockCx X scope cl H2.objs.size s₂ H₂ fp (own ++ caps)) (pinsAt fp s5.heap) σ6 H8 { s8 with heap := h9 } := I8'.turned (t' := s8.toks) (it := s₂.heap.objs.size) (fun b o hb e => sb.extBut b o hb e) hD8.2.1 hDC (.inr (Nat.le_refl _))
     cellD fun p hp => memD p (by simpa [blockCx] using hp)
    have e9 : (its.toArray.push u8) = (its ++ [u8]).toArray := by simp
    rw [e9] at hD9
    refine ⟨n', hn', i + 1, ys ++ [y], its ++ [u8], k + 1, σ6, H8, I9.pins_of (pinD hD8.2.1 hD9), T.keep _ _ _ st5 fun b hb o e => (I9.pin (b, o) (List.mem_append_right _ (mem_pinsAt hb e))).1, fun b hb => ?_, rv.append (.cons r8 .nil), by rw [List.length_append]; exact hlt, w8⟩
    obtain ⟨o, e, d⟩ := T.obj _ _ st5 b hb
    exact (I9.pin (b, o) (List.mem_append_right _ (mem_pinsAt hb e))).2.1
   | false =>
    obtain ⟨n', hn', w8⟩ := q7
    have hD7 := I7.pin (s₂.heap.objs.size, _) (List.mem_append_right _ (List.mem_append_left _ List.mem_cons_self))
    refine ⟨n', hn', i + 1, ys, its, k, σ6, H7, I7.pins_of (pinD hD7.2.1 hD7.1), T.keep _ _ _ st5 fun b hb o e => (I7.pin (b, o) (List.mem_append_right _ (List.mem_append_right _ (mem_pinsAt hb e)))).1, fun b hb => ?_, rv, hz, w8⟩
    obtain ⟨o, e, d⟩ := T.obj _ _ st5 b hb
    exact (I7.pin (b, o) (List.mem_append_right _ (List.mem_append_right _ (mem_pinsAt hb e)))).2.1
 exact codeAny_compStart_list (loop _ rfl) (T.self _ 0 _ _ _ st₁ (loop _ rfl))
theorem pe_comp0 {X : Cx} {elt tg iter : Expr} {ifs : List Expr} {scope : Scope} {pos : Pos} {own caps : List Str} {ix : List Nat} {wi : TI} {g : TG} {tc : TT} {te : TE} (hc : X.calm = true) (n : CompNames X.env.scope scope own caps)
  (hix : ix.length = caps.length) (hix2 : ∀ (j i : Nat) y, ix[j]? = some i -> caps[j]? = some y -> X.N[i]? = some y) (hi : PI X tg iter wi)
  (hb : ∀ cl C s₂ H₂ fp, PG (blockCx X scope cl C s₂ H₂ fp (own ++ caps)) tg g /\ PIfs (blockCx X scope cl C s₂ H₂ fp (own ++ caps)) ifs tc /\ PE (blockCx X scope cl C s₂ H₂ fp (own ++ caps)) elt te)
  (hs : ∀ x, foldedSetIterable iter X.env x = pure x := by intro _; rfl) : PE X (.ListComp elt [⟨tg, iter, ifs, 0⟩] scope pos) (tComp ix own wi g tc te) := by
 intro pins s σ H Q I h
 obtain ⟨cl, hclos, hcl, hcl2⟩ := closure_ok (env := X.env) (scope := scope) fun y hy hf => I.ok.has y.1 (n.free y hy hf)
 rw [eval_ListComp]
 refine wpAny_comprehension_free (use := none) rfl hs hclos n.kind n.loc (thn (hi pins s σ H _ I h) fun v s1 h1 => thn h1 fun itv s2 h2 => ?_)
 obtain ⟨it, fp, tn, J, H2, e, I2, T, st2, f2, W, w0, turn⟩ := h2
 subst e
 refine block_run (RR := fun acc C => compPost (model X.prog X.w) X.A X.xe none (EP X pins σ Q) acc C) hc I2 T st2 f2 n hcl hcl2 hix hix2 (fun cl C => (hb cl C s2 H2 fp).1) (fun cl C => (hb cl C s2 H2 fp).2.1) (fun cl C => (hb cl C s2 H2 fp).2.2) W w0 turn ?_
 intro D C s' m H' ys hm IY fC q
 refine ⟨m, hm, fun h' sb => ⟨.ref D, _, IY.turned (t' := s'.toks) (it := C) (fun b o hb e => sb.extBut b o hb e) fC.1 fC.2.1 fC.2.2.2.1 fC.2.2.2.2.1 fC.2.2.2.2.2, rfl, q⟩⟩
section
variable {K : PySem.W.Frag} {m : List Addr} {σ : L2.St} {H : Hp} {Q : VK} {μ : Store}
theorem rd_yes {B : Bool -> Hp -> Prop} (h : rdT K cYes σ H B) : tYes σ H B := by
 obtain ⟨ρ, μ, m, d, μ', hl, hs, e, k⟩ := h
 cases e
 exact k H m .refl hs
theorem block_rel {ρ : Lo} {k : Nat} {ix : List Nat} {own : List Str} (hk : own.length = k) (h : LRel K m H ρ σ) : LRel K m H (blockLo k ix ρ) (blockSt (own.map fun _ => none) ix σ) := by
 subst hk
 unfold blockLo blockSt
 refine ⟨by simp, fun i d e => ?_⟩
 by_cases hi : i < own.length
 ·rw [List.getElem?_append_left (by simpa using hi), List.getElem?_replicate] at e
  split at e <;> cases e
 ·rw [List.getElem?_append_right (by simpa using hi)] at e
  rw [List.getElem?_append_right (by simpa using hi)]
  simp only [List.length_replicate, List.length_map] at e ⊢
  generalize i - own.length = j at e ⊢
  rw [List.getElem?_map] at e ⊢
  cases q : ix[j]? with
  | none => rw [q] at e; cases e
  | some i' =>
   rw [q] at e
   have e3 : (ρ[i']?).join = some d := Option.some.inj e
   have e4 : ρ[i']? = some (some d) := by
    cases z : ρ[i']? with
    | none => rw [z] at e3; cases e3
    | some w' => rw [z] at e3; cases w' with
     | none => cases e3
     | some _ => cases e3; rfl
   obtain ⟨v, q1, q2⟩ := h.2 i' d e4
   exact ⟨v, by simp [q1], q2⟩
end
end HW
namespace HW
open PySem PySem.Spec PyProof.Rows L2
mutual
noncomputable def toPy : D -> PyData
 | .non => .none
 | .bl b => .bool b
 | .int i => .int i
 | .str x => .str x
 | .tup xs => .tuple (toPys xs)
 | .fl xs => .list (toPys xs)
 | .fd _ _ => .none
 | .key _ => .none
noncomputable def toPys : List D -> List PyData
 | [] => []
 | x :: xs => toPy x :: toPys xs
end
mutual
noncomputable def okD : Nat -> D -> Bool
 | _, .non => true
 | _, .bl _ => true
 | _, .int _ => true
 | _, .str x => PyData.strOk x
 | _, .fd _ _ => false
 | _, .key _ => false
 | 0, .tup _ => false
 | 0, .fl _ => false
 | n + 1, .tup xs => okDs n xs
 | n + 1, .fl xs => okDs n xs
noncomputable def okDs : Nat -> List D -> Bool
 | _, [] => true
 | n, x :: xs => okD n x && okDs n xs
end
mutual
noncomputable def eqD : D -> D -> Bool
 | .bl a, y => match y with | .bl b => a == b | .int j => (if a then 1 else 0) == j | _ => false
 | .int i, y => match y with | .bl b => i == (if b then 1 else 0) | .int j => i == j | _ => false
 | .str x, y => match y with | .str z => x == z | _ => false
 | .tup xs, y => match y with | .tup ys => eqDs xs ys | _ => false
 | .fl xs, y => match y with | .fl ys => eqDs xs ys | _ => false
 | _, y => match y with | .non => true | .fd _ _ => true | .key _ => true | _ => false
noncomputable def eqDs : List D -> List D -> Bool
 | [], [] => true
 | x :: xs, y :: ys => eqD x y && eqDs xs ys
 | _, _ => false
end
theorem eqD_tup (xs ys : List D) : eqD (.tup xs) (.tup ys) = eqDs xs ys := rfl
theorem eqD_fl (xs ys : List D) : eqD (.fl xs) (.fl ys) = eqDs xs ys := rfl
theorem eqD_bl (a b : Bool) : eqD (.bl a) (.bl b) = (a == b) := rfl
theorem eqD_int (i j : Int) : eqD (.int i) (.int j) = (i == j) := rfl
theorem eqDs_nil : eqDs [] [] = true := rfl
theorem eqDs_cons (x y : D) (xs ys : List D) : eqDs (x :: xs) (y :: ys) = (eqD x y && eqDs xs ys) := rfl
theorem eqDs_nc (y : D) (ys : List D) : eqDs [] (y :: ys) = false := rfl
theorem eqDs_cn (y : D) (ys : List D) : eqDs (y :: ys) [] = false := rfl
mutual
theorem eqD_py : ∀ a b : D, PyData.eqv (toPy a) (toPy b) = eqD a b
 | .non, b => by cases b <;> rfl
 | .bl _, b => by cases b <;> rfl
 | .int _, b => by cases b <;> rfl
 | .str _, b => by cases b <;> rfl
 | .tup xs, b => by
  cases b with
  | tup ys => exact eqDs_py xs ys
  | _ => rfl
 | .fl xs, b => by
  cases b with
  | fl ys => exact eqDs_py xs ys
  | _ => rfl
 | .fd _ _, b => by cases b <;> rfl
 | .key _, b => by cases b <;> rfl
theorem eqDs_py : ∀ a b : List D, PyData.eqvAll (toPys a) (toPys b) = eqDs a b
 | [], b => by cases b <;> rfl
 | x :: xs, b => by
  cases b with
  | nil => rfl
  | cons y ys => rw [eqDs_cons, ← eqD_py x y, ← eqDs_py xs ys]; rfl
end
mutual
theorem okD_py : ∀ (n : Nat) (d : D), okD n d = true -> (toPy d).canLay0 = true /\ (toPy d).depth <= n
 | _, .non, _ => by simp [toPy, PyData.canLay0, PyData.depth]
 | _, .bl _, _ => by simp [toPy, PyData.canLay0, PyData.depth]
 | _, .int _, _ => by simp [toPy, PyData.canLay0, PyData.depth]
 | n, .str x, h => by
  have h : PyData.strOk x = true := by cases n <;> simpa [okD] using h
  simp [toPy, PyData.canLay0, PyData.depth, h]
 | n, .fd _ _, h => by cases n <;> simp [okD] at h
 | n, .key _, h => by cases n <;> simp [okD] at h
 | 0, .tup _, h => by simp [okD] at h
 | 0, .fl _, h => by simp [okD] at h
 | n + 1, .tup xs, h => by
  obtain ⟨a, b⟩ := okDs_py n xs (by simpa [okD] using h)
  simp only [toPy, PyData.canLay0, PyData.depth]
  exact ⟨a, by omega⟩
 | n + 1, .fl xs, h => by
  obtain ⟨a, b⟩ := okDs_py n xs (by simpa [okD] using h)
  simp only [toPy, PyData.canLay0, PyData.depth]
  exact ⟨a, by omega⟩
theorem okDs_py : ∀ (n : Nat) (ds : List D), okDs n ds = true -> PyData.canLayAll0 (toPys ds) = true /\ PyData.depthAll (toPys ds) <= n
 | _, [], _ => by simp [toPys, PyData.canLayAll0, PyData.depthAll]
 | n, x :: xs, h => by
  have h' : okD n x = true /\ okDs n xs = true := by cases n <;> simpa [okDs] using h
  obtain ⟨a1, b1⟩ := okD_py n x h'.1
  obtain ⟨a2, b2⟩ := okDs_py n xs h'.2
  simp only [toPys, PyData.canLayAll0, PyData.depthAll, a1, a2, Bool.and_self, true_and]
  omega
end
theorem shaped_of {d : D} (h : okD 60 d = true) : SeqAt.shaped (toPy d) = true := by
 obtain ⟨a, b⟩ := okD_py 60 d h
 unfold SeqAt.shaped
 rw [a, Bool.true_and]
 exact decide_eq_true (by omega)
section
variable {X : Cx} {pins : List (Addr × Obj)} {σ : L2.St} {H : Hp} {s : Shared}
mutual
theorem reads_of (I : Inv X pins σ H s) : ∀ (k : Nat) (d : D) (v : V) (u : Value), okD k d = true -> RelD X.K H d v -> RelV v u -> ∃ as, Reads s.heap u (toPy d) as
 | _, .non, v, u, _, h, r => by simp only [RelD] at h; subst h; cases r; exact ⟨_, .none⟩
 | _, .bl b, v, u, _, h, r => by simp only [RelD] at h; subst h; cases r; exact ⟨_, .bool b⟩
 | _, .int i, v, u, _, h, r => by simp only [RelD] at h; subst h; obtain ⟨t, rfl⟩ := r; exact ⟨_, .int i t⟩
 | _, .str x, v, u, _, h, r => by simp only [RelD] at h; subst h; obtain ⟨t, rfl⟩ := r; exact ⟨_, .str x t⟩
 | _, .fd _ _, v, u, hk, h, r => by simp [okD] at hk
 | _, .key _, v, u, hk, h, r => by simp [okD] at hk
 | 0, .tup xs, v, u, hk, h, r => by simp [okD] at hk
 | 0, .fl xs, v, u, hk, h, r => by simp [okD] at hk
 | k + 1, .tup xs, v, u, hk, h, r => by
  simp only [RelD] at h
  obtain ⟨a, vs, rfl, q, h⟩ := h
  cases r
  obtain ⟨its, rv, ⟨o, e, c, n, hd⟩, _⟩ := I.tuple q
  obtain ⟨as, ra⟩ := readss_of I k xs vs its (by simpa [okD] using hk) h rv
  exact ⟨_, .tuple e c hd (by simpa using ra)⟩
 | k + 1, .fl xs, v, u, hk, h, r => by
  simp only [RelD] at h
  obtain ⟨a, vs, rfl, q, h⟩ := h
  cases r
  obtain ⟨its, rv, ⟨o, n, e, c, _, hd⟩, _⟩ := I.list q.sq
  obtain ⟨as, ra⟩ := readss_of I k xs vs its (by simpa [okD] using hk) h rv
  exact ⟨_, .list e c hd (by simpa using ra)⟩
theorem readss_of (I : Inv X pins σ H s) : ∀ (k : Nat) (ds : List D) (vs : List V) (us : List Value), okDs k ds = true -> RelDs X.K H ds vs -> Vals vs us -> ∃ as, ReadsAll s.heap us (toPys ds) as
 | _, [], vs, us, _, h, r => by simp only [RelDs] at h; subst h; cases r; exact ⟨_, .nil⟩
 | k, d :: ds, vs, us, hk, h, r => by
  have hk : okD k d = true /\ okDs k ds = true := by cases k <;> simpa [okDs] using hk
  simp only [RelDs] at h
  obtain ⟨v, vr, rfl, h1, h2⟩ := h
  cases r with
  | cons r1 r2 =>
   obtain ⟨as, q1⟩ := reads_of I k d v _ hk.1 h1 r1
   obtain ⟨bs, q2⟩ := readss_of I k ds vr _ hk.2 h2 r2
   exact ⟨_, .cons q1 q2⟩
end
end
noncomputable def viewD : R -> Store -> Option D
 | .v d, _ => some d
 | .p n, μ => match μ[n]? with | some (.lst xs) => some (.fl xs) | some (.fz xs) => some (.fl xs) | _ => none
 | _, _ => none
noncomputable def eqR (neg : Bool) : R -> R -> Store -> Option (R × Store) := fun x y μ => (viewD x μ).bind fun a => (viewD y μ).bind fun b => if (okD 60 a && okD 60 b) = true then some (.v (.bl (if neg then !eqD a b else eqD a b)), μ) else none
noncomputable def rEqD (K : PySem.W.Frag) (neg : Bool) : R2 := fun v u H Q => ∃ m μ x y d, SRel K m H μ /\ RelR K m H x v /\ RelR K m H y u /\ eqR neg x y μ = some (.v (.bl d), μ) /\ Q (.bl d) H
theorem g_eq {K : PySem.W.Frag} {neg : Bool} : GOp K (eqR neg) (rEqD K neg) := by
 intro m H μ x y d μ' v u Q s rx ry e k
 have e0 := e
 unfold eqR at e
 obtain ⟨a, e1, e⟩ := Option.bind_eq_some_iff.mp e
 obtain ⟨b, e2, e⟩ := Option.bind_eq_some_iff.mp e
 split at e
 ·cases e
  exact ⟨m, μ, x, y, _, s, rx, ry, e0, k _ H m .refl s (by simp only [RelR, RelD])⟩
 ·cases e
theorem view_reads {X : Cx} {pins : List (Addr × Obj)} {σ : L2.St} {H : Hp} {s : Shared} {m : List Addr} {μ : Store} {x : R} {d : D} {v : V} {u : Value} (I : Inv X pins σ H s) (S : SRel X.K m H μ) (r : RelR X.K m H x v) (ru : RelV v u) (e : viewD x μ = some d) (hk : okD 60 d = true) : ∃ as, Reads s.heap u (toPy d) as := by
 cases x with
 | v d' => cases e; exact reads_of I 60 _ _ _ hk r ru
 | s _ _ => cases e
 | x _ => cases e
 | f _ _ => cases e
 | p n =>
  have hl : ∃ xs, d = .fl xs /\ lstD (.p n) μ = some xs := by
   simp only [viewD] at e
   split at e
   ·rename_i xs q; cases e; exact ⟨xs, rfl, by simp [lstD, q]⟩
   ·rename_i xs q; cases e; exact ⟨xs, rfl, by simp [lstD, q]⟩
   ·cases e
  obtain ⟨xs, rfl, e2⟩ := hl
  obtain ⟨a, vs, rfl, q, rr⟩ := lst_ok S r e2
  cases ru
  obtain ⟨its, rv, ⟨o, n', e, c, _, hd⟩, _⟩ := I.list q
  obtain ⟨as, ra⟩ := readss_of I 59 xs vs its (by simpa [okD] using hk) rr rv
  exact ⟨_, .list e c hd (by simpa using ra)⟩
theorem op_eqD {X : Cx} (hu : X.A.units + 64 < cLine) : OpR X (compareOp .Eq) (rEqD X.K false) := by
 intro pins s σ H v u v' u' Q I rv ru q
 obtain ⟨m, μ, x, y, d, S, rx, ry, e, q⟩ := q
 unfold eqR at e
 obtain ⟨a, e1, e⟩ := Option.bind_eq_some_iff.mp e
 obtain ⟨b, e2, e⟩ := Option.bind_eq_some_iff.mp e
 split at e
 ·rename_i z
  rw [Bool.and_eq_true] at z
  cases e
  obtain ⟨as, r1⟩ := view_reads I S rx rv e1 z.1
  obtain ⟨bs, r2⟩ := view_reads I S ry ru e2 z.2
  exact eq_dataH r1 r2 (shaped_of z.1) (shaped_of z.2) hu ⟨_, H, I, by rw [eqD_py]; rfl, q⟩
 ·cases e
theorem op_neD {X : Cx} (hu : X.A.units + 64 < cLine) : OpR X (compareOp .NotEq) (rEqD X.K true) := by
 intro pins s σ H v u v' u' Q I rv ru q
 obtain ⟨m, μ, x, y, d, S, rx, ry, e, q⟩ := q
 unfold eqR at e
 obtain ⟨a, e1, e⟩ := Option.bind_eq_some_iff.mp e
 obtain ⟨b, e2, e⟩ := Option.bind_eq_some_iff.mp e
 split at e
 ·rename_i z
  rw [Bool.and_eq_true] at z
  cases e
  obtain ⟨as, r1⟩ := view_reads I S rx rv e1 z.1
  obtain ⟨bs, r2⟩ := view_reads I S ry ru e2 z.2
  exact ne_dataH r1 r2 (shaped_of z.1) (shaped_of z.2) hu ⟨_, H, I, by rw [eqD_py]; rfl, q⟩
 ·cases e
noncomputable def isK (neg : Bool) (c : D) : R -> Store -> Option (R × Store) := fun x μ => match c, x with
 | .non, .v .non => some (.v (.bl (!neg)), μ)
 | .bl b, .v (.bl a) => some (.v (.bl (if neg then !(a == b) else a == b)), μ)
 | _, _ => some (.v (.bl neg), μ)
noncomputable def rIsK (neg : Bool) (c : V) : R2 := fun x y H Q => y = c /\ Q (.bl (if neg then !decide (x = c) else decide (x = c))) H
section
variable {X : Cx}
theorem op_isNon : OpR X (compareOp .Is) (rIsK false .non) := op_isN
end
theorem isK_ok {K : PySem.W.Frag} {m : List Addr} {H : Hp} {neg : Bool} {c : D} {cv v : V} {x d : R} {μ μ' : Store} (hc : (c = .non /\ cv = .non) \/ ∃ b, c = .bl b /\ cv = .bl b) (r : RelR K m H x v) (e : isK neg c x μ = some (d, μ')) :
  μ' = μ /\ d = .v (.bl (if neg then !decide (v = cv) else decide (v = cv))) := by
 have fin : v ≠ cv -> some (R.v (.bl neg), μ) = some (d, μ') -> μ' = μ /\ d = .v (.bl (if neg then !decide (v = cv) else decide (v = cv))) := fun h e => by
  cases e; cases neg <;> simp [h]
 have nn : ∀ d0, d0 ≠ .non -> RelD K H d0 v -> v ≠ .non := fun d0 h1 h2 z => by
  subst z
  cases d0 <;> simp only [RelD] at h2 <;> first | exact h1 rfl | (obtain ⟨_, _, _, h, _⟩ := h2; cases h; done) | (obtain ⟨_, _, h, _⟩ := h2; cases h; done) | (obtain ⟨_, h, _⟩ := h2; cases h; done) | cases h2
 have nb : ∀ d0 b, (∀ a, d0 ≠ .bl a) -> RelD K H d0 v -> v ≠ .bl b := fun d0 b h1 h2 z => by
  subst z
  cases d0 <;> simp only [RelD] at h2 <;> first | exact h1 _ rfl | (obtain ⟨_, _, _, h, _⟩ := h2; cases h; done) | (obtain ⟨_, _, h, _⟩ := h2; cases h; done) | (obtain ⟨_, h, _⟩ := h2; cases h; done) | cases h2
 have np : ∀ n, RelR K m H (.p n) v -> v ≠ .non /\ ∀ b, v ≠ .bl b := fun n ⟨a, e, _⟩ => ⟨fun z => (by rw [e] at z; cases z), fun b z => (by rw [e] at z; cases z)⟩
 have ns : ∀ b' n, RelR K m H (.s b' n) v -> v ≠ .non /\ ∀ b, v ≠ .bl b := fun b' n ⟨a, _, e, _⟩ => ⟨fun z => (by rw [e] at z; cases z), fun b z => (by rw [e] at z; cases z)⟩
 have nx : ∀ c, RelR K m H (.x c) v -> v ≠ .non /\ ∀ b, v ≠ .bl b := fun c ⟨a, _, _, e, _⟩ => ⟨fun z => (by rw [e] at z; cases z), fun b z => (by rw [e] at z; cases z)⟩
 have nf : ∀ L ds, RelR K m H (.f L ds) v -> v ≠ .non /\ ∀ b, v ≠ .bl b := fun L ds ⟨a, _, _, _, _, e, _⟩ => ⟨fun z => (by rw [e] at z; cases z), fun b z => (by rw [e] at z; cases z)⟩
 rcases hc with ⟨rfl, rfl⟩ | ⟨b, rfl, rfl⟩
 ·cases x with
  | v d0 =>
   by_cases h0 : d0 = .non
   ·subst h0
    have r : v = .non := by simpa only [RelR, RelD] using r
    subst r
    cases e
    cases neg <;> simp
   ·have := nn d0 h0 r
    cases d0 <;> first | exact absurd rfl h0 | exact fin this e
  | p n => have := (np n r).1; exact fin this e
  | s b' n => have := (ns b' n r).1; exact fin this e
  | x c => have := (nx c r).1; exact fin this e
  | f L ds => have := (nf L ds r).1; exact fin this e
 ·cases x with
  | v d0 =>
   by_cases h0 : ∃ a, d0 = .bl a
   ·obtain ⟨a, rfl⟩ := h0
    have r : v = .bl a := by simpa only [RelR, RelD] using r
    subst r
    cases e
    cases neg <;> cases a <;> cases b <;> simp
   ·have := nb d0 b (fun a z => h0 ⟨a, z⟩) r
    cases d0 <;> first | exact absurd ⟨_, rfl⟩ h0 | exact fin this e
  | p n => have := (np n r).2 b; exact fin this e
  | s b' n => have := (ns b' n r).2 b; exact fin this e
  | x c => have := (nx c r).2 b; exact fin this e
  | f L ds => have := (nf L ds r).2 b; exact fin this e
theorem rd_is {K : PySem.W.Frag} {σ : L2.St} {H : Hp} {Q : VK} {fa : FE} {neg : Bool} {c : D} {cv : V} (hc : (c = .non /\ cv = .non) \/ ∃ b, c = .bl b /\ cv = .bl b) (h : rdE K (fUn (isK neg c) fa) σ H Q) : tOp (rIsK neg cv) (rdE K fa) (tC cv) σ H Q := by
 obtain ⟨ρ, μ, m, d, μ', hl, hs, e, k⟩ := h
 obtain ⟨⟨x, μ1⟩, e1, e⟩ := Option.bind_eq_some_iff.mp e
 refine ⟨ρ, μ, m, x, μ1, hl, hs, e1, fun v H1 m1 x1 s1 r1 => ⟨rfl, ?_⟩⟩
 obtain ⟨rfl, rfl⟩ := isK_ok hc r1 e
 exact k _ H1 m1 x1 s1 (by simp only [RelR, RelD])
noncomputable def tyD : R -> Store -> Option String
 | .v .non, _ => some "NoneType"
 | .v (.bl _), _ => some "bool"
 | .v (.int _), _ => some "int"
 | .v (.str _), _ => some "str"
 | .v (.tup _), _ => some "tuple"
 | .v (.fl _), _ => some "list"
 | .v (.fd _ _), _ => some "dict"
 | .v (.key _), _ => some "tuple"
 | .p n, μ => match μ[n]? with | some (.lst _) => some "list" | some (.fz _) => some "list" | some (.dct _) => some "dict" | some (.dr _) => some "dict" | _ => none
 | .s _ _, _ => none
 | .x _, _ => none
 | .f _ _, _ => none
noncomputable def isiD (T : String) : R -> Store -> Option (R × Store) := fun x μ => (tyD x μ).bind fun t => some (.v (.bl (t == T || (t == "bool" && T == "int"))), μ)
def Kinds (K : PySem.W.Frag) (T : String) : Prop := ∀ t ∈ ["NoneType", "bool", "int", "str", "tuple", "list", "dict"], PySem.W.kitOne K (.type t) (.type T) = some (t == T || (t == "bool" && T == "int"))
def rIsi (K : PySem.W.Frag) (T : String) : List V -> Hp -> VK -> Prop := fun vs H Q => ∃ m μ x v d, vs = [v, .ty T] /\ SRel K m H μ /\ RelR K m H x v /\ isiD T x μ = some (.v (.bl d), μ) /\ Q (.bl d) H
theorem call_isi {X : Cx} {T : String} (hT : Kinds X.K T) : CallR X (.builtin "isinstance") (rIsi X.K T) := by
  intro pins s σ H vs us Q I rv q
  obtain ⟨m, μ, x, v, d, rfl, S, rx, e, q⟩ := q
  obtain ⟨t, e1, e⟩ := Option.bind_eq_some_iff.mp e
  cases e
  cases rv with
  | cons r1 rr =>
    cases rr with
    | cons r2 rr =>
      cases rr
      cases r2
      have fin : ∀ tk, EP X pins σ Q (.bool (t == T || (t == "bool" && T == "int"))) { s with toks := tk } := fun tk => ⟨.bl _, H, I.tok tk, rfl, q⟩
      cases x with
      | v d0 =>
        cases d0 with
        | non => cases e1; have r : v = .non := by simpa only [RelR, RelD] using rx
                 subst r; cases r1; exact PySem.W.kia_one PySem.W.kitx_none I.kIn True.intro (hT _ (by simp)) (fun z => nomatch z) fin
        | bl b => cases e1; have r : v = .bl b := by simpa only [RelR, RelD] using rx
                  subst r; cases r1; exact PySem.W.kia_one PySem.W.kitx_bool I.kIn True.intro (hT _ (by simp)) (fun z => nomatch z) fin
        | int i => cases e1; have r : v = .int i := by simpa only [RelR, RelD] using rx
                   subst r; obtain ⟨t, rfl⟩ := r1; exact PySem.W.kia_one PySem.W.kitx_int I.kIn True.intro (hT _ (by simp)) (fun z => nomatch z) fin
        | str i => cases e1; have r : v = .str i := by simpa only [RelR, RelD] using rx
                   subst r; obtain ⟨t, rfl⟩ := r1; exact PySem.W.kia_one PySem.W.kitx_str I.kIn True.intro (hT _ (by simp)) (fun z => nomatch z) fin
        | tup xs =>
          cases e1
          simp only [RelR, RelD] at rx
          obtain ⟨a, ws, rfl, q', _⟩ := rx
          cases r1
          obtain ⟨its, _, ⟨o, h1, h2, _⟩, _⟩ := I.tuple q'
          exact PySem.W.kia_one PySem.W.kitx_tuple I.kIn ⟨o, h1, h2⟩ (hT _ (by simp)) (fun z => nomatch z) fin
        | fl xs =>
          cases e1
          simp only [RelR, RelD] at rx
          obtain ⟨a, ws, rfl, q', _⟩ := rx
          cases r1
          obtain ⟨its, _, ⟨o, n, h1, h2, _⟩, _⟩ := I.list q'.sq
          exact PySem.W.kia_one PySem.W.kitx_list I.kIn ⟨o, h1, h2⟩ (hT _ (by simp)) (fun z => nomatch z) fin
        | fd ks ds =>
          cases e1
          simp only [RelR, RelD] at rx
          obtain ⟨a, o', es, rfl, q', _⟩ := rx
          cases r1
          obtain ⟨_, _, _, vs, _, p⟩ := (show ObjOk X.prog X.w H s.heap a (.frz o' (.dK es)) from I.hok a _ q')
          obtain ⟨o, es', ep, h1, h2, _⟩ := p
          exact PySem.W.kia_one PySem.W.kitx_dict I.kIn ⟨o, h1, h2.1⟩ (hT _ (by simp)) (fun z => nomatch z) fin
        | key ks =>
          cases e1
          simp only [RelR, RelD] at rx
          obtain ⟨a, rfl, q'⟩ := rx
          cases r1
          obtain ⟨its, _, ⟨o, h1, h2, _⟩, _⟩ := I.tuple (.inl (.inl q'))
          exact PySem.W.kia_one PySem.W.kitx_tuple I.kIn ⟨o, h1, h2⟩ (hT _ (by simp)) (fun z => nomatch z) fin
      | s _ _ => cases e1
      | x _ => cases e1
      | f _ _ => cases e1
      | p n =>
        obtain ⟨a, rfl, ha⟩ := rx
        cases r1
        delta tyD at e1
        dsimp only at e1
        split at e1
        · rename_i xs z
          cases e1
          obtain ⟨ws, q', _⟩ := S.cell n _ a z ha
          obtain ⟨its, _, ⟨o, n, h1, h2, _⟩, _⟩ := I.list (.inl (.inl q'))
          exact PySem.W.kia_one PySem.W.kitx_list I.kIn ⟨o, h1, h2⟩ (hT _ (by simp)) (fun z => nomatch z) fin
        · rename_i xs z
          cases e1
          obtain ⟨o', ws, q', _⟩ := S.cell n _ a z ha
          obtain ⟨its, _, ⟨o, n, h1, h2, _⟩, _⟩ := I.list (.inl (.inr ⟨o', q'⟩))
          exact PySem.W.kia_one PySem.W.kitx_list I.kIn ⟨o, h1, h2⟩ (hT _ (by simp)) (fun z => nomatch z) fin
        · rename_i kvs z
          cases e1
          obtain ⟨es, q', _⟩ := S.cell n _ a z ha
          obtain ⟨_, _, vs, _, p⟩ := (show ObjOk X.prog X.w H s.heap a (.dK es) from I.hok a _ q')
          obtain ⟨o, es', ep, h1, h2, _⟩ := p
          exact PySem.W.kia_one PySem.W.kitx_dict I.kIn ⟨o, h1, h2.1⟩ (hT _ (by simp)) (fun z => nomatch z) fin
        · rename_i kvs z
          cases e1
          obtain ⟨es, q', _⟩ := S.cell n _ a z ha
          obtain ⟨_, _, vs, _, p⟩ := (show ObjOk X.prog X.w H s.heap a (.dK es) from I.hok a _ q')
          obtain ⟨o, es', ep, h1, h2, _⟩ := p
          exact PySem.W.kia_one PySem.W.kitx_dict I.kIn ⟨o, h1, h2.1⟩ (hT _ (by simp)) (fun z => nomatch z) fin
        · cases e1
theorem rd_isi {K : PySem.W.Frag} {σ : L2.St} {H : Hp} {Q : VK} {fa : FE} {T : String} (h : rdE K (fUn (isiD T) fa) σ H Q) : tCB (rIsi K T) (tCons (rdE K fa) (tCons (tC (.ty T)) tNil)) σ H Q := by
 obtain ⟨ρ, μ, m, d, μ', hl, hs, e, k⟩ := h
 obtain ⟨⟨x, μ1⟩, e1, e⟩ := Option.bind_eq_some_iff.mp e
 have e0 := e
 obtain ⟨t, e2, e⟩ := Option.bind_eq_some_iff.mp e
 cases e
 exact ⟨ρ, μ, m, x, _, hl, hs, e1, fun v H1 m1 x1 s1 r1 => ⟨m1, _, x, v, _, rfl, s1, r1, e0, k _ H1 m1 x1 s1 (by simp only [RelR, RelD])⟩⟩
noncomputable def boolsD : List D -> Option (List Bool)
 | [] => some []
 | .bl b :: r => (boolsD r).bind fun bs => some (b :: bs)
 | _ :: _ => none
noncomputable def allD (any : Bool) : List R -> Store -> Option (R × Store)
 | [x], μ => (lstD x μ).bind fun xs => (boolsD xs).bind fun bs => some (.v (.bl (if any then bs.any id else bs.all id)), μ)
 | _, _ => none
def rAll (K : PySem.W.Frag) (any : Bool) : List V -> Hp -> VK -> Prop := fun vs H Q => ∃ (a : Addr) (bs : List Bool), vs = [.ref a] /\ SqL K H a (bs.map V.bl) /\ Q (.bl (if any then bs.any id else bs.all id)) H
theorem bools_rel {K : PySem.W.Frag} {H : Hp} : ∀ {ds : List D} {bs : List Bool} {vs : List V}, boolsD ds = some bs -> RelDs K H ds vs -> vs = bs.map V.bl
 | [], _, _, e, h => by cases e; simp only [RelDs] at h; exact h
 | .bl b :: r, _, _, e, h => by
  obtain ⟨bs, e1, e⟩ := Option.bind_eq_some_iff.mp e
  cases e
  simp only [RelDs] at h
  obtain ⟨v, vr, rfl, h1, h2⟩ := h
  simp only [RelD] at h1
  subst h1
  rw [bools_rel e1 h2]; rfl
 | .non :: _, _, _, e, _ => by cases e
 | .int _ :: _, _, _, e, _ => by cases e
 | .str _ :: _, _, _, e, _ => by cases e
 | .tup _ :: _, _, _, e, _ => by cases e
 | .fl _ :: _, _, _, e, _ => by cases e
 | .fd _ _ :: _, _, _, e, _ => by cases e
 | .key _ :: _, _, _, e, _ => by cases e
theorem g_all {K : PySem.W.Frag} {any : Bool} : GAr K (allD any) (rAll K any) := by
 intro m H μ xs d μ' vs Q s r e k
 unfold allD at e
 split at e
 ·rename_i x
  obtain ⟨ys, e1, e⟩ := Option.bind_eq_some_iff.mp e
  obtain ⟨bs, e2, e⟩ := Option.bind_eq_some_iff.mp e
  cases e
  obtain ⟨v, rfl, r1⟩ := rel1 r
  obtain ⟨a, ws, rfl, q, r2⟩ := lst_ok s r1 e1
  rw [bools_rel e2 r2] at q
  exact ⟨a, bs, rfl, q, k _ H m .refl s (by simp only [RelR, RelD])⟩
 ·cases e
theorem bools_at {bs : List Bool} {its : List Value} (r : Vals (bs.map V.bl) its) : ∀ (i : Nat) v, its.toArray[i]? = some v -> v = .bool (bs.getD i false) /\ i < bs.length := fun i v e => by
 have e : its[i]? = some v := by simpa using e
 have hi : i < its.length := (List.getElem?_eq_some_iff.mp e).1
 have hl := r.length
 rw [List.length_map] at hl
 have hb : i < bs.length := by omega
 obtain ⟨u, q1, q2⟩ := Vals.get (i := i) (x := .bl bs[i]) r (by simp [hb])
 rw [e] at q1
 cases q1
 cases q2
 simp [hb]
theorem range_all {bs : List Bool} : ((List.range bs.length).all fun i => bs.getD i false) = bs.all id := by
 rw [Bool.eq_iff_iff, List.all_eq_true, List.all_eq_true]
 constructor
 ·intro h x hx
  obtain ⟨i, hi, rfl⟩ := List.getElem_of_mem hx
  have := h i (List.mem_range.mpr hi)
  simpa [hi] using this
 ·intro h i hi
  have hi := List.mem_range.mp hi
  have := h bs[i] (List.getElem_mem hi)
  simpa [hi] using this
theorem call_allB {X : Cx} (hc : X.calm = true) : CallR X (.builtin "all") (rAll X.K false) := by
 intro pins s σ H vs us Q I rv q
 obtain ⟨a, bs, rfl, q', q⟩ := q
 cases rv with
 | cons r1 rr =>
  cases rr
  cases r1
  obtain ⟨its, rv, p, hz⟩ := I.list q'
  have hlt : a < s.heap.objs.size := by obtain ⟨o, n, e, _⟩ := p; exact Heap.lt_size e
  refine call_all_walk (wpAny_pyIter_list p.isList ?_)
  refine ⟨_, _, _, _, _, _, fun i => bs.getD i false, rfl, Walks.list (A := X.A.in1) (show X.A.in1.handled = none from I.ok.hd hc) s.heap.objs.size a (Nat.ne_of_lt hlt) its.toArray, ⟨⟨_, Heap.get?_push_size _ rfl, rfl, rfl⟩, p.isList.push _⟩, fun i v s' Q' E' hv hq => ?_, fun h' tk hk => ?_⟩
  ·rw [(bools_at rv i v hv).1]
   exact wpAny_truthy_bool hq
  ·have hl : its.toArray.size = bs.length := by have := rv.length; rw [List.length_map] at this; simp [this]
   rw [hl, range_all]
   refine ⟨.bl _, H, I.kept (t' := tk) fun b o e => hk b o ?_ (Heap.get?_push_of_some _ e), rfl, q⟩
   intro z
   rw [List.mem_singleton.mp z] at e
   exact absurd (Heap.lt_size e) (Nat.lt_irrefl _)
end HW
namespace HW
open PySem PySem.Spec PyProof.Rows L2 HS
noncomputable def insI (x : Int) : List Int -> List Int
 | [] => [x]
 | y :: ys => if x <= y then x :: y :: ys else y :: insI x ys
noncomputable def isort : List Int -> List Int
 | [] => []
 | x :: xs => insI x (isort xs)
theorem vals_ints : ∀ {ns : List Int} {its : List Value}, Vals (ns.map V.int) its -> IntsAre its ns
 | [], its, h => by cases h; exact .nil
 | n :: ns, its, h => by
  cases h with
  | cons r t => obtain ⟨tk, rfl⟩ := r; exact .cons n tk (vals_ints t)
noncomputable def intsD : List D -> Option (List Int)
 | [] => some []
 | .int n :: r => (intsD r).map (n :: ·)
 | _ => none
noncomputable def minD : List R -> Store -> Option (R × Store)
 | [.v (.int i), .v (.int j)], μ => some (.v (.int (if j < i then j else i)), μ)
 | _, _ => none
noncomputable def maxD : List R -> Store -> Option (R × Store)
 | [.v (.int i), .v (.int j)], μ => some (.v (.int (if j > i then j else i)), μ)
 | _, _ => none
theorem rel2 {K : PySem.W.Frag} {m : List Addr} {H : Hp} {x y : R} {vs : List V} (r : RelRs K m H [x, y] vs) : ∃ v w, vs = [v, w] /\ RelR K m H x v /\ RelR K m H y w := by
 obtain ⟨v, r, rfl, h1, h2⟩ := r
 obtain ⟨w, r, rfl, h2, h3⟩ := h2
 have h3 : r = [] := h3
 subst h3
 exact ⟨v, w, rfl, h1, h2⟩
theorem g_min {K : PySem.W.Frag} : GAr K minD (fun xs H Q => ∃ i j, xs = [.int i, .int j] /\ Q (.int (if j < i then j else i)) H) := by
 intro m H μ xs d μ' vs Q s r e k
 unfold minD at e
 split at e
 ·cases e
  obtain ⟨v, w, rfl, r1, r2⟩ := rel2 r
  simp only [RelR, RelD] at r1 r2
  subst r1; subst r2
  exact ⟨_, _, rfl, k _ H m .refl s (by simp only [RelR, RelD])⟩
 ·cases e
theorem g_max {K : PySem.W.Frag} : GAr K maxD (fun xs H Q => ∃ i j, xs = [.int i, .int j] /\ Q (.int (if j > i then j else i)) H) := by
 intro m H μ xs d μ' vs Q s r e k
 unfold maxD at e
 split at e
 ·cases e
  obtain ⟨v, w, rfl, r1, r2⟩ := rel2 r
  simp only [RelR, RelD] at r1 r2
  subst r1; subst r2
  exact ⟨_, _, rfl, k _ H m .refl s (by simp only [RelR, RelD])⟩
 ·cases e
end HW
namespace HW
open PySem PySem.Spec PyProof.Rows L2 HS
noncomputable def setQ (b : Bool) : List R -> Store -> Option (R × Store)
 | [x], μ => (itemsD x μ).bind fun ds => (intsD ds).bind fun ns => if ns.length < 4000 then some (.s b (metOf [] ns), μ) else none
 | _, _ => none
noncomputable def sortedQ (b : Bool) : List R -> Store -> Option (R × Store)
 | [.s c xs], μ => if c = b /\ xs.length < 64 then some (.p μ.length, μ ++ [.lst ((isort xs).map D.int)]) else none
 | [x], μ => (lstD x μ).bind fun ds => (intsD ds).bind fun ns => if ns.length < 64 then some (.p μ.length, μ ++ [.lst ((isort ns).map D.int)]) else none
 | _, _ => none
end HW
namespace HW
open PySem PySem.Spec PyProof.Rows L2 HS
noncomputable def pairsD : List D -> Option (List (Key × D))
 | [] => some []
 | .tup [.int i, d] :: r => (pairsD r).map ((.inl i, d) :: ·)
 | _ => none
noncomputable def putKD (kvs : List (Key × D)) (k : Key) (v : D) : List (Key × D) := if (kvs.any fun kv => decide (kv.1 = k)) = true then kvs.map (fun kv => if kv.1 = k then (kv.1, v) else kv) else kvs ++ [(k, v)]
noncomputable def putAllD (kvs ps : List (Key × D)) : List (Key × D) := ps.foldl (fun a p => putKD a p.1 p.2) kvs
def KD (K : PySem.W.Frag) (H : Hp) (kvs : List (Key × D)) (es : List (Key × V)) : Prop := es.map (·.1) = kvs.map (·.1) /\ RelDs K H (kvs.map (·.2)) (es.map (·.2))
theorem KD.nil {K : PySem.W.Frag} {H : Hp} : KD K H [] [] := ⟨rfl, rfl⟩
theorem KD.any {K : PySem.W.Frag} {H : Hp} {kvs : List (Key × D)} {es : List (Key × V)} (r : KD K H kvs es) (k : Key) : (es.any fun kv => decide (kv.1 = k)) = (kvs.any fun kv => decide (kv.1 = k)) := by
 have h1 : ∀ {β : Type} (l : List (Key × β)), (l.any fun kv => decide (kv.1 = k)) = ((l.map (·.1)).any fun x => decide (x = k)) := fun l => by rw [List.any_map]; rfl
 rw [h1, h1, r.1]
theorem KD.cons {K : PySem.W.Frag} {H : Hp} {k k' : Key} {d : D} {v : V} {kvs : List (Key × D)} {es : List (Key × V)} : KD K H ((k, d) :: kvs) ((k', v) :: es) ↔ k' = k /\ RelD K H d v /\ KD K H kvs es := by
 constructor
 ·rintro ⟨h1, h2⟩
  simp only [List.map_cons, List.cons.injEq] at h1
  obtain ⟨w, r, e, h3, h4⟩ := h2
  simp only [List.map_cons, List.cons.injEq] at e
  obtain ⟨rfl, rfl⟩ := e
  exact ⟨h1.1, h3, h1.2, h4⟩
 ·rintro ⟨rfl, h1, h2, h3⟩
  exact ⟨by simp [h2], ⟨_, _, rfl, h1, h3⟩⟩
theorem KD.repl {K : PySem.W.Frag} {H : Hp} {k : Key} {d : D} {v : V} (rd : RelD K H d v) : ∀ {kvs : List (Key × D)} {es : List (Key × V)}, KD K H kvs es -> KD K H (kvs.map fun kv => if kv.1 = k then (kv.1, d) else kv) (es.map fun kv => if kv.1 = k then (kv.1, v) else kv)
 | [], [], _ => .nil
 | [], e :: es, h => by have := h.1; simp at this
 | q :: kvs, [], h => by have := h.1; simp at this
 | (a, x) :: kvs, (b, y) :: es, h => by
  obtain ⟨rfl, h1, h2⟩ := KD.cons.mp h
  have ih := KD.repl (k := k) rd h2
  rw [List.map_cons, List.map_cons]
  by_cases e : b = k
  ·rw [if_pos e, if_pos e]; exact KD.cons.mpr ⟨rfl, rd, ih⟩
  ·rw [if_neg e, if_neg e]; exact KD.cons.mpr ⟨rfl, h1, ih⟩
theorem KD.snoc {K : PySem.W.Frag} {H : Hp} {k : Key} {d : D} {v : V} (rd : RelD K H d v) : ∀ {kvs : List (Key × D)} {es : List (Key × V)}, KD K H kvs es -> KD K H (kvs ++ [(k, d)]) (es ++ [(k, v)])
 | [], [], _ => KD.cons.mpr ⟨rfl, rd, .nil⟩
 | [], e :: es, h => by have := h.1; simp at this
 | q :: kvs, [], h => by have := h.1; simp at this
 | (a, x) :: kvs, (b, y) :: es, h => by
  obtain ⟨rfl, h1, h2⟩ := KD.cons.mp h
  exact KD.cons.mpr ⟨rfl, h1, KD.snoc rd h2⟩
theorem KD.put {K : PySem.W.Frag} {H : Hp} {k : Key} {d : D} {v : V} {kvs : List (Key × D)} {es : List (Key × V)} (r : KD K H kvs es) (rd : RelD K H d v) : KD K H (putKD kvs k d) (putK es k v) := by
 unfold putKD putK
 rw [r.any k]
 split
 ·exact r.repl rd
 ·exact r.snoc rd
noncomputable def dictD : List R -> Store -> Option (R × Store)
 | [.p n], μ => match μ[n]? with
  | some (.lst ds) => (pairsD ds).bind fun kvs => some (.p μ.length, μ ++ [.dct (putAllD [] kvs)])
  | _ => none
 | _, _ => none
theorem RelDs.erase {K : PySem.W.Frag} {H : Hp} : ∀ {ds : List D} {vs : List V} (k : Nat), RelDs K H ds vs -> RelDs K H (ds.eraseIdx k) (vs.eraseIdx k)
 | [], vs, k, h => by have h : vs = [] := h; subst h; cases k <;> exact rfl
 | d :: ds, vs, 0, h => by obtain ⟨v, r, rfl, _, h2⟩ := h; exact h2
 | d :: ds, vs, k + 1, h => by obtain ⟨v, r, rfl, h1, h2⟩ := h; exact ⟨v, r.eraseIdx k, rfl, h1, RelDs.erase k h2⟩
end HW
namespace HW
open PySem PySem.Spec PyProof.Rows L2
mutual
noncomputable def flatD : D -> Bool
 | .tup xs => flatDs xs
 | .fl _ => false
 | .fd _ _ => false
 | _ => true
noncomputable def flatDs : List D -> Bool
 | [] => true
 | x :: xs => flatD x && flatDs xs
end
noncomputable def asD : R -> Store -> Option D
 | .v d, _ => some d
 | .p n, μ => match μ[n]? with
  | some (.lst xs) => some (.fl xs) | some (.fz xs) => some (.fl xs)
  | some (.dct kvs) => some (.fd (kvs.map (·.1)) (kvs.map (·.2))) | some (.fzd kvs) => some (.fd (kvs.map (·.1)) (kvs.map (·.2)))
  | _ => none
 | .s _ _, _ => none
 | .x _, _ => none
 | .f _ _, _ => none
noncomputable def valsB : List R -> Store -> Option (List D)
 | [], _ => some []
 | x :: xs, μ => (asD x μ).bind fun d => (valsB xs μ).bind fun ds => some (d :: ds)
noncomputable def fCallQ (f : MF) (n : Nat) (fa : FA) : FE := fun ρ μ => (fa ρ μ).bind fun a => (valsB a.1 a.2).bind fun ds => if ds.length = n then (f ds).bind fun d => if flatD d = true then some (.v d, a.2) else none else none
noncomputable abbrev MC := List D -> Option Cell
noncomputable def flatC : Cell -> Bool
 | .lst xs => flatDs xs
 | .dct kvs => flatDs (kvs.map (·.2))
 | _ => false
noncomputable def finN : Out -> Option Cell
 | .rt (.p n) μ => match μ[n]? with | some (.lst xs) => some (.lst xs) | some (.dct kvs) => some (.dct kvs) | _ => none
 | _ => none
noncomputable def runN (k : Nat) (b : FS) : MC := fun ds => (b (ds.map (fun d => some (.v d)) ++ List.replicate (k - ds.length) none) []).bind finN
noncomputable def fCallN (f : MC) (n : Nat) (fa : FA) : FE := fun ρ μ => (fa ρ μ).bind fun a => (valsB a.1 a.2).bind fun ds => if ds.length = n then (f ds).bind fun c => if flatC c = true then some (.p a.2.length, a.2 ++ [c]) else none else none
noncomputable def clrD : R -> List R -> Store -> Option (R × Store)
 | .p n, [], μ => match μ[n]? with | some (.lst _) => some (.v .non, μ.set n (.lst [])) | _ => none
 | _, _, _ => none
noncomputable def extD : R -> List R -> Store -> Option (R × Store)
 | .p n, [.v (.tup ys)], μ => match μ[n]? with | some (.lst xs) => if xs.length + ys.length <= sizeLine then some (.v .non, μ.set n (.lst (xs ++ ys))) else none | _ => none
 | _, _, _ => none
section
variable {P : Program} {w : World} {H H0 : Hp} {h h0 : Heap} {a : Addr} {u : HO} {o : Obj} {fs ex : List Addr}
theorem HOk.thaw (ok : HOk P w H h) (e : H a = some (.frz o u)) (hu : FzOk u) : HOk P w (upd H a u) h := by
 have ne : ∀ c v, H c = some v -> v ≠ .frz o u -> c ≠ a := fun c v q n z => by rw [z, e] at q; exact n (Option.some.inj q).symm
 have own : ∀ c y, H c = some (.own y) -> upd H a u c = some (.own y) := fun c y r => by rw [L2.upd_ne (ne c _ r (by simp))]; exact r
 have tup : ∀ c xs, H c = some (.tup xs) -> upd H a u c = some (.tup xs) := fun c xs r => by rw [L2.upd_ne (ne c _ r (by simp))]; exact r
 intro b v q
 by_cases hb : b = a
 ·subst hb
  rw [L2.upd_same] at q
  cases q
  exact (ok b _ e).2.stay (fun c v _ q => q) (fun c r => own c _ r) tup
 ·rw [L2.upd_ne hb] at q
  exact (ok b v q).stay (fun c v _ q => q) (fun c r => own c _ r) tup
theorem Un.thaw (un : Un fs ex (upd H0 a (.frz o u)) H h0 h) (e : H0 a = some u) (hu : FzOk u) : Un fs ex H0 (upd H a u) h0 h := by
 have nn : ∀ b, H0 b = none -> b ≠ a := fun b z y => by rw [y, e] at z; cases z
 have nf : ∀ b v, H0 b = some v -> ¬ FzOk v -> b ≠ a := fun b v q n => FzOk.ne e hu q n
 refine ⟨fun b ob q n hb hx => un.keep b ob q (by rw [L2.upd_ne (nn b n)]; exact n) hb hx, fun b ob q n hb hx => un.slot b ob q (by rw [L2.upd_ne (nn b n)]; exact n) hb hx, fun b ob q n hx => ?_, un.there, fun b xs q => ?_, fun b ob v q => ?_, fun b ps q => ?_⟩
 ·rw [L2.upd_ne (nn b n)]; exact un.free b ob q (by rw [L2.upd_ne (nn b n)]; exact n) hx
 ·have hb := nf b _ q fun z => z
  rw [L2.upd_ne hb]; exact un.tups b xs (by rw [L2.upd_ne hb]; exact q)
 ·have hb := nf b _ q fun z => z
  rw [L2.upd_ne hb]; exact un.frzs b ob v (by rw [L2.upd_ne hb]; exact q)
 ·have hb := nf b _ q fun z => z
  obtain ⟨more, r⟩ := un.tbls b ps (by rw [L2.upd_ne hb]; exact q)
  exact ⟨more, by rw [L2.upd_ne hb]; exact r⟩
end
noncomputable def bor (sp : Sp) : Sp := fun vs H Q E => sp vs H Q E \/ ∃ a u, H a = some u /\ FzOk u /\ ∀ o, sp vs (upd H a (.frz o u)) (fun v H2 => Q v (upd H2 a u)) E
noncomputable def borN : Nat -> Sp -> Sp
 | 0, sp => sp
 | n + 1, sp => bor (borN n sp)
theorem FnOk.bor {P : Program} {w : World} {K : PySem.W.Frag} {mg : Str -> Option Value} {base : Heap} {k : Nat} {f : Addr} {fd : FuncData} {ps : List Str} {sp : Sp} (F : FnOk P w K mg base CX0 k f fd ps sp) :
  FnOk P w K mg base CX0 k f fd ps (HW.bor sp) := by
 refine ⟨fun vs H Q E h => ?_, fun A outer s H args us vs Q E hr he hb hv hs => ?_⟩
 ·rcases h with h | ⟨a, u, e, hu, h⟩
  ·exact F.len vs H Q E h
  ·exact F.len _ _ _ _ (h { cls := .none, data := .fields #[] })
 ·rcases hs with hs | ⟨a, u, e, hu, hs⟩
  ·exact F.run A outer s H args us vs Q E hr he hb hv hs
  ·obtain ⟨o, ok⟩ := HOk.frz he.hok e hu
   have nn : ∀ b, H b = none -> upd H a (.frz o u) b = none := fun b z => by rw [L2.upd_ne (fun y => by rw [y, e] at z; cases z)]; exact z
   refine codeAny_mono (F.run A outer s (upd H a (.frz o u)) args us vs _ E hr ⟨he.frames, he.mod, fun b ob q => ⟨(he.bs b ob q).1, nn b (he.bs b ob q).2⟩, he.bsz, he.funs, fun b hb => nn b (he.frf b hb), ok, he.bare⟩ hb hv (hs o)) fun r s' hq => ?_
   cases r with
   | error e => exact hq
   | ok fl =>
    cases fl with
    | next => exact hq
    | brk => exact hq
    | cont => exact hq
    | ret x =>
     obtain ⟨v, H', os, bare, un, hok, rv, q⟩ := hq
     exact ⟨v, _, os, bare, Un.thaw un e hu, HOk.thaw hok (un.frzs a o u L2.upd_same) hu, rv, q⟩
theorem FnOk.borN {P : Program} {w : World} {K : PySem.W.Frag} {mg : Str -> Option Value} {base : Heap} {k : Nat} {f : Addr} {fd : FuncData} {ps : List Str} {sp : Sp} (F : FnOk P w K mg base CX0 k f fd ps sp) :
  ∀ n, FnOk P w K mg base CX0 k f fd ps (HW.borN n sp)
 | 0 => F
 | n + 1 => FnOk.bor (FnOk.borN F n)
def ovr (H H2 : Hp) : Hp := fun b => match H b with | some u => some u | none => H2 b
def Cz (H H1 : Hp) : Prop := ∀ b, H1 b = H b \/ ∃ u o, H b = some u /\ FzOk u /\ H1 b = some (.frz o u)
section
variable {K : PySem.W.Frag} {H H1 H2 H' : Hp}
theorem Cz.refl : Cz H H := fun _ => .inl rfl
theorem Cz.upd {a : Addr} {u : HO} {o : Obj} (c : Cz H H1) (e : H1 a = some u) (hu : FzOk u) : Cz H (upd H1 a (.frz o u)) := fun b => by
 by_cases hb : b = a
 ·subst hb
  rw [L2.upd_same]
  rcases c b with z | ⟨u', o', _, _, z⟩
  ·exact .inr ⟨u, o, by rw [← z, e], hu, rfl⟩
  ·rw [e] at z; cases z; exact hu.elim
 ·rw [L2.upd_ne hb]; exact c b
theorem Cz.trans (c : Cz H H1) (c' : Cz H1 H2) : Cz H H2 := fun b => by
 rcases c' b with z | ⟨u, o, z1, z2, z3⟩
 ·rw [z]; exact c b
 ·rcases c b with y | ⟨u', o', _, _, y⟩
  ·exact .inr ⟨u, o, by rw [← y, z1], z2, z3⟩
  ·rw [z1] at y; cases y; exact z2.elim
theorem Cz.tf (c : Cz H H1) : TF H H1 := by
 refine ⟨fun a xs e => ?_, fun a o u e => ?_⟩
 ·rcases c a with z | ⟨u, o, z1, z2, z3⟩
  ·rw [z, e]
  ·rw [e] at z1; cases z1; exact z2.elim
 ·rcases c a with z | ⟨u', o', z1, z2, z3⟩
  ·rw [z, e]
  ·rw [e] at z1; cases z1; exact z2.elim
theorem ovr_sam (s : Sam H H2) : ovr H H2 = H2 := by
 funext b
 unfold ovr
 cases e : H b with
 | none => rfl
 | some u => exact (s b u e).symm
theorem sam_ovr : Sam H (ovr H H2) := fun a o e => by unfold ovr; rw [e]
theorem ovr_upd {a : Addr} {u v : HO} (e : H a = some u) : upd (ovr (upd H a v) H2) a u = ovr H H2 := by
 funext b
 by_cases hb : b = a
 ·subst hb; rw [L2.upd_same]; unfold ovr; rw [e]
 ·rw [L2.upd_ne hb]; unfold ovr; rw [L2.upd_ne hb]
theorem rd_ovr {a : Addr} {xs : List V} (c : Cz H H1) (s : Sam H1 H2) (h : SqT K H2 a xs) : SqT K (ovr H H2) a xs := by
 have back : ∀ v, ¬ FzOk v -> (∀ o u, v = .frz o u -> ¬ FzOk u) -> H2 a = some v -> ovr H H2 a = some v := fun v nf nz e => by
  unfold ovr
  cases q : H a with
  | none => exact e
  | some u =>
   rcases c a with z | ⟨u', o', z1, z2, z3⟩
   ·rw [q] at z
    rw [s a u z] at e
    exact e
   ·rw [s a _ z3] at e
    cases e
    exact absurd z2 (nz o' u' rfl)
 rcases h with (h | ⟨o, h⟩) | h
 ·exact .inl (.inl (back _ (fun z => z) (fun _ _ z => by cases z) h))
 ·exact .inl (.inr ⟨o, back _ (fun z => z) (fun o u z => by cases z; exact fun z => z) h⟩)
 ·exact .inr h
theorem tup_ovr {a : Addr} {xs : List V} (c : Cz H H1) (s : Sam H1 H2) (e : H2 a = some (.tup xs)) : ovr H H2 a = some (.tup xs) := by
 unfold ovr
 cases q : H a with
 | none => exact e
 | some u =>
  rcases c a with z | ⟨u', o', z1, z2, z3⟩
  ·rw [q] at z
   rw [s a u z] at e
   exact e
  ·rw [s a _ z3] at e
   cases e
mutual
theorem flat_ovr (c : Cz H H1) (s : Sam H1 H2) : ∀ (d : D) (v : V), flatD d = true -> RelD K H2 d v -> RelD K (ovr H H2) d v
 | .non, _, _, h => by simpa only [RelD] using h
 | .bl _, _, _, h => by simpa only [RelD] using h
 | .int _, _, _, h => by simpa only [RelD] using h
 | .str _, _, _, h => by simpa only [RelD] using h
 | .tup xs, v, f, h => by
  simp only [RelD] at h ⊢
  obtain ⟨a, vs, e, q, r⟩ := h
  exact ⟨a, vs, e, rd_ovr c s q, flats_ovr c s xs vs (by simpa only [flatD] using f) r⟩
 | .fl _, _, f, _ => by simp [flatD] at f
 | .fd _ _, _, f, _ => by simp [flatD] at f
 | .key _, _, _, h => by
  simp only [RelD] at h ⊢
  obtain ⟨a, e, q⟩ := h
  exact ⟨a, e, tup_ovr c s q⟩
theorem flats_ovr (c : Cz H H1) (s : Sam H1 H2) : ∀ (ds : List D) (vs : List V), flatDs ds = true -> RelDs K H2 ds vs -> RelDs K (ovr H H2) ds vs
 | [], _, _, h => by simpa only [RelDs] using h
 | d :: ds, vs, f, h => by
  simp only [RelDs] at h ⊢
  obtain ⟨v, r, e, h1, h2⟩ := h
  have f' : flatD d = true /\ flatDs ds = true := by simpa [flatDs] using f
  exact ⟨v, r, e, flat_ovr c s d v f'.1 h1, flats_ovr c s ds r f'.2 h2⟩
end
end
def spX (K : PySem.W.Frag) (n : Nat) (f : List D -> Option (Hp -> V -> Hp -> Prop)) : Sp := fun vs H Q _ => ∃ ds P, ds.length = n /\ RelDs K H ds vs /\ f ds = some P /\ ∀ v H', Sam H H' -> P H v H' -> Q v H'
section
variable {K : PySem.W.Frag} {m : List Addr} {σ : L2.St} {H H0 : Hp} {μ : Store} {Q : VK}
theorem lend {n : Nat} {f : List D -> Option (Hp -> V -> Hp -> Prop)} {P : Hp -> V -> Hp -> Prop} {E : XK} (hs : SRel K m H0 μ) : ∀ (rs : List R) (vs vsP : List V) (ds dsP : List D) (H1 : Hp) (Q : VK), Cz H0 H1 -> RelDs K H1 dsP vsP -> RelRs K m H0 rs vs -> valsB rs μ = some ds ->
  f (dsP ++ ds) = some P -> (dsP ++ ds).length = n -> (∀ v H2 H1', Cz H1 H1' -> Sam H1' H2 -> P H1' v H2 -> Q v (ovr H1 H2)) -> borN rs.length (spX K n f) (vsP ++ vs) H1 Q E
 | [], vs, vsP, ds, dsP, H1, Q, c, rp, rr, ev, ef, el, k => by
  cases ev
  have rr : vs = [] := rr
  subst rr
  rw [List.append_nil] at ef el ⊢
  exact ⟨dsP, P, el, rp, ef, fun v H' s p => by have := k v H' H1 .refl s p; rwa [ovr_sam s] at this⟩
 | r :: rs, vs, vsP, ds, dsP, H1, Q, c, rp, rr, ev, ef, el, k => by
  obtain ⟨v, ws, rfl, r1, r2⟩ := rr
  obtain ⟨d, e1, ev⟩ := Option.bind_eq_some_iff.mp ev
  obtain ⟨es, e2, ev⟩ := Option.bind_eq_some_iff.mp ev
  cases ev
  have app : ∀ {α : Type} (a : List α) (x : α) (b : List α), a ++ x :: b = a ++ [x] ++ b := fun a x b => by simp
  rw [app] at ef el ⊢
  have go : ∀ (H1' : Hp) (Q' : VK), Cz H1 H1' -> RelD K H1' d v -> (∀ v H2 H1'', Cz H1' H1'' -> Sam H1'' H2 -> P H1'' v H2 -> Q' v (ovr H1' H2)) -> borN rs.length (spX K n f) (vsP ++ [v] ++ ws) H1' Q' E := fun H1' Q' c' rd k' =>
   lend hs rs ws (vsP ++ [v]) es (dsP ++ [d]) H1' Q' (c.trans c') (RelDs.append (RelDs.tf c'.tf _ _ rp) (by simp only [RelDs]; exact ⟨_, _, rfl, rd, rfl⟩)) r2 e2 ef el k'
  cases r with
  | v d' =>
   cases e1
   exact .inl (go H1 Q .refl (RelD.tf c.tf _ _ r1) k)
  | s _ _ => cases e1
  | x _ => cases e1
  | f _ _ => cases e1
  | p i =>
   obtain ⟨a, rfl, ha⟩ := r1
   have e1 : (match μ[i]? with | some (.lst xs) => some (D.fl xs) | some (.fz xs) => some (D.fl xs) | some (.dct kvs) => some (D.fd (kvs.map (·.1)) (kvs.map (·.2))) | some (.fzd kvs) => some (D.fd (kvs.map (·.1)) (kvs.map (·.2))) | _ => none) = some d := e1
   have lent : ∀ u, FzOk u -> H0 a = some u -> (∀ H3 o, H3 a = some (.frz o u) -> TF H0 H3 -> RelD K H3 d (.ref a)) -> borN (rs.length + 1) (spX K n f) (vsP ++ [V.ref a] ++ ws) H1 Q E := fun u hu e0 rd => by
    rcases c a with z | ⟨u', o', z1, z2, z3⟩
    ·rw [e0] at z
     refine .inr ⟨a, u, z, hu, fun o => ?_⟩
     have c1 : Cz H1 (upd H1 a (.frz o u)) := Cz.refl.upd z hu
     exact go _ _ c1 (rd _ o L2.upd_same (c.tf.trans c1.tf)) fun v H2 H1'' c2 s2 p => by
      rw [ovr_upd z]
      exact k v H2 H1'' (c1.trans c2) s2 p
    ·rw [e0] at z1; cases z1
     exact .inl (go H1 Q .refl (rd _ o' z3 c.tf) k)
   have known : ∀ o u, H0 a = some (.frz o u) -> RelD K H1 d (.ref a) -> borN (rs.length + 1) (spX K n f) (vsP ++ [V.ref a] ++ ws) H1 Q E := fun o u e0 rd => .inl (go H1 Q .refl rd k)
   split at e1
   ·rename_i xs q
    cases e1
    obtain ⟨ws', ea, ra⟩ := hs.cell _ _ a q ha
    exact lent (.lst ws') trivial ea fun H3 o e3 t => by simp only [RelD]; exact ⟨a, ws', rfl, .inl ⟨o, e3⟩, RelDs.tf t _ _ ra⟩
   ·rename_i xs q
    cases e1
    obtain ⟨o, ws', ea, ra⟩ := hs.cell _ _ a q ha
    exact known o _ ea (by simp only [RelD]; exact ⟨a, ws', rfl, .inl ⟨o, c.tf.frz _ _ _ ea⟩, RelDs.tf c.tf _ _ ra⟩)
   ·rename_i kvs q
    cases e1
    obtain ⟨es', ea, e1, e2⟩ := hs.cell _ _ a q ha
    exact lent (.dK es') trivial ea fun H3 o e3 t => by simp only [RelD]; exact ⟨a, o, es', rfl, e3, e1, RelDs.tf t _ _ e2⟩
   ·rename_i kvs q
    cases e1
    obtain ⟨o, es', ea, e1, e2⟩ := hs.cell _ _ a q ha
    exact known o _ ea (by simp only [RelD]; exact ⟨a, o, es', rfl, c.tf.frz _ _ _ ea, e1, RelDs.tf c.tf _ _ e2⟩)
   ·cases e1
def cX (K : PySem.W.Frag) (f : MC) : List D -> Option (Hp -> V -> Hp -> Prop) := fun ds => (f ds).map fun c H v H' => ∃ a, v = .ref a /\ H a = none /\ CellR K [] H' c a
theorem vb_len : ∀ {rs : List R} {ds : List D}, valsB rs μ = some ds -> rs.length = ds.length
 | [], _, h => by cases h; rfl
 | r :: rs, ds, h => by
  obtain ⟨d, _, h⟩ := Option.bind_eq_some_iff.mp h
  obtain ⟨es, e2, h⟩ := Option.bind_eq_some_iff.mp h
  cases h
  simp [vb_len e2]
theorem rd_callN {f n fa} {E : XK} (h : rdE K (fCallN f n fa) σ H Q) : tCall (borN n (spX K n (cX K f))) [] E (rdA K fa) σ H Q := by
 obtain ⟨ρ, μ, m, d, μ', hl, hs, e, k⟩ := h
 obtain ⟨⟨xs, μ1⟩, e1, e⟩ := Option.bind_eq_some_iff.mp e
 obtain ⟨ds, e2, e⟩ := Option.bind_eq_some_iff.mp e
 split at e
 ·rename_i hn
  obtain ⟨c1, e3, e⟩ := Option.bind_eq_some_iff.mp e
  split at e
  ·rename_i hf
   cases e
   refine ⟨ρ, μ, m, xs, _, hl, hs, e1, fun vs H1 m1 x1 s1 r1 => ?_⟩
   have hx : xs.length = n := (vb_len e2).trans hn
   show borN n (spX K n (cX K f)) (vs ++ []) H1 Q E
   rw [List.append_nil, ← hx]
   refine lend (dsP := []) (vsP := []) (P := fun H v H' => ∃ a, v = .ref a /\ H a = none /\ CellR K [] H' c1 a) s1 xs vs ds H1 Q .refl rfl r1 e2 ?_ (by simp [hn, hx]) fun v H2 H1' c s p => ?_
   ·rw [List.nil_append]; unfold cX; rw [e3]; rfl
   ·obtain ⟨a, rfl, ha, hc⟩ := p
    have h1a : H1 a = none := by
     rcases c a with z | ⟨u, o, _, _, z⟩
     ·rw [← z, ha]
     ·rw [ha] at z; cases z
    have at' : ∀ u, H2 a = some u -> ovr H1 H2 a = some u := fun u q => by unfold ovr; rw [h1a]; exact q
    have hc' : CellR K (m1 ++ [a]) (ovr H1 H2) c1 a := by
     cases c1 with
     | lst xs => obtain ⟨vs, q, r⟩ := hc; exact ⟨vs, at' _ q, flats_ovr c s _ _ hf r⟩
     | dct kvs => obtain ⟨es, q, q2, r⟩ := hc; exact ⟨es, at' _ q, q2, flats_ovr c s _ _ hf r⟩
     | fz xs => cases hf
     | fzt kvs => cases hf
     | hk kvs => cases hf
     | fzd kvs => cases hf
     | dr kvs => cases hf
     | lr xs => cases hf
     | dt kvs => cases hf
     | tb _ _ => cases hf
     | ob _ _ => cases hf
     | tr _ => cases hf
     | fzr _ => cases hf
     | dtr _ => cases hf
    have hn' : a ∉ m1 := s1.fresh h1a
    have ext : Ext m1 H1 (m1 ++ [a]) (ovr H1 H2) := by
     have z := Sam.ext (m := m1) (sam_ovr (H := H1) (H2 := H2))
     exact ⟨⟨[a], rfl, fun b hb => by rw [List.mem_singleton.mp hb]; exact h1a⟩, z.tf, z.keep, z.live⟩
    have srel : SRel K (m1 ++ [a]) (ovr H1 H2) (μ1 ++ [c1]) := by
     have s1' := s1.same (sam_ovr (H := H1) (H2 := H2))
     refine ⟨List.nodup_append.mpr ⟨s1.nd, by simp, fun b hb b' hb' => ?_⟩, by simp [s1.len], fun i c' b q1 q2 => ?_⟩
     ·rw [List.mem_singleton.mp hb']; rintro rfl; exact hn' hb
     ·by_cases hi : i < m1.length
      ·rw [List.getElem?_append_left hi] at q2
       rw [List.getElem?_append_left (by rw [← s1.len]; exact hi)] at q1
       exact (s1'.cell i c' b q1 q2).same (fun _ _ z => z) ⟨[a], rfl⟩
      ·have hl := s1.len
       rw [List.getElem?_append_right (by omega)] at q2
       rw [List.getElem?_append_right (by omega)] at q1
       have z : i - m1.length = 0 := by
        cases q : i - m1.length with
        | zero => rfl
        | succ k => rw [q] at q2; simp at q2
       have z' : i - μ1.length = 0 := by omega
       rw [z] at q2; rw [z'] at q1
       simp at q1 q2
       subst q1 q2
       exact hc'
    exact k _ _ (m1 ++ [a]) (x1.trans ext) srel ⟨a, rfl, by rw [← s1.len]; simp⟩
  ·cases e
 ·cases e
end
theorem Fun.okN {P : Program} {w : World} {K : PySem.W.Frag} {mg : Str -> Option Value} {base : Heap} {x qual : Str} {st : Stmt} {f : Addr} {fd : FuncData} {N ps : List Str} {k : Nat} {b : FS} (F : Fun K x qual st f fd) (S : FnScope N ps (defScope st))
  (hbody : ∀ (cdv : Value) (A : Around) (outer : List Env) (s : Shared) (H : Hp) (E : XK), Room k (A.deeper (envOfC qual (defScope st) s.heap.objs.size f cdv)) -> PSs (cxOf CX0 P w K mg base N qual (defScope st) f cdv A outer s H E).nox (defBody st) (rdS K b)) :
  FnOk P w K mg base CX0 (k + 1) f fd ps (spX K ps.length (cX K (runN N.length b))) := by
 have G : FnOk P w K mg base CX0 (k + 1) f fd ps (fun vs H Q _ => vs.length = ps.length /\ rdS K b { nx := fun _ H' => Q .non H', rt := Q } (L2.start N vs) H) :=
  L2.Fun.ok F S (fun vs H Q E h => h.1) fun cdv A outer s H vs Q E hr h => ⟨_, hbody cdv A outer s H E hr, h.2⟩
 refine G.imp fun vs H Q E hh => ?_
 obtain ⟨ds, P', hn, r, e, k⟩ := hh
 refine ⟨by rw [← r.length]; exact hn, ?_⟩
 obtain ⟨c, ec, rfl⟩ := Option.map_eq_some_iff.mp e
 obtain ⟨o, e1, e2⟩ := Option.bind_eq_some_iff.mp ec
 refine ⟨_, [], [], o, start_rel r, .nil, e1, ?_⟩
 cases o with
 | nx ρ μ => cases e2
 | bk ρ μ => cases e2
 | ct ρ μ => cases e2
 | rt d μ =>
  cases d with
  | v d => cases e2
  | s b xs => cases e2
  | x _ => cases e2
  | f _ _ => cases e2
  | p n =>
   intro v H' m' x s' r'
   obtain ⟨a, rfl, ha⟩ := r'
   unfold finN at e2
   have cell : ∀ c', μ[n]? = some c' -> CellR K m' H' c' a := fun c' q => s'.cell n c' a q ha
   have free : H a = none := by
    obtain ⟨e, rfl, f⟩ := x.ext
    exact f a (by simpa using List.mem_of_getElem? ha)
   simp only at e2
   split at e2
   ·rename_i xs q; cases e2; exact k _ _ x.sam ⟨a, rfl, free, cell _ q⟩
   ·rename_i kvs q; cases e2; exact k _ _ x.sam ⟨a, rfl, free, cell _ q⟩
   ·cases e2
end HW
namespace HW
open PySem PySem.Spec PyProof.Rows L2
noncomputable def rAdd0 (K : PySem.W.Frag) : R2 := fun x y H Q => ∃ a b ys, x = .ref a /\ y = .ref b /\ SqT K H a [] /\ SqT K H b ys /\ ys.length <= sizeLine /\ Q (.ref b) H
theorem op_add0 {X : Cx} : OpR X (binaryOp .Add) (rAdd0 X.K) := by
 intro pins s σ H x y v u Q I rx ry h
 obtain ⟨a, b, ys, rfl, rfl, ha, hb, hz, q⟩ := h
 cases rx
 cases ry
 obtain ⟨its, r1, p1, _⟩ := I.tuple ha
 obtain ⟨its2, r2, p2, _⟩ := I.tuple hb
 cases r1
 obtain ⟨⟨cls, dd, data, sl⟩, ho, hc, n, hd⟩ := id p1
 obtain ⟨⟨cls2, dd2, data2, sl2⟩, ho2, hc2, n2, hd2⟩ := id p2
 simp only at hc hd hc2 hd2
 subst hc hd hc2 hd2
 exact concat_meets ⟨_, ho, rfl⟩ ⟨_, ho2, rfl⟩ noFill_tuple_add seq_tuple_add PySem.F.slot_tuple_add PySem.F.entry_tuple_add (PySem.F.args_tuple_add_2 _ _)
  (tuple_addW0 a b #[] its2.toArray n n2 dd dd2 sl sl2 (by simp)) ⟨ho, ho2, ⟨.ref b, H, I, rfl, q⟩⟩
noncomputable def addQ : R -> R -> Store -> Option (R × Store)
 | .v (.tup []), .v (.tup ys), μ => if ys.length <= sizeLine then some (.v (.tup ys), μ) else none
 | x, y, μ => addD x y μ
theorem g_addQ {K : PySem.W.Frag} : GOp K addQ (fun x y H Q => rAdd' K x y H Q \/ rAdd0 K x y H Q) := by
 intro m H μ x y d μ' v u Q s rx ry e k
 unfold addQ at e
 split at e
 ·split at e
  ·rename_i z
   cases e
   have ry' := ry
   simp only [RelR, RelD] at rx ry
   obtain ⟨a, vs, rfl, qa, ra⟩ := rx
   obtain ⟨b, ws, rfl, qb, rb⟩ := ry
   have ra : vs = [] := by simpa only [RelDs] using ra
   subst ra
   exact .inr ⟨a, b, ws, rfl, rfl, qa, qb, by rw [← rb.length]; exact z, k _ H m .refl s ry'⟩
  ·cases e
 ·exact .inl (g_add m H μ _ _ d μ' v u Q s rx ry e k)
noncomputable def intD : List R -> Store -> Option (R × Store)
 | [.v (.int i)], μ => some (.v (.int i), μ)
 | [.v (.bl b)], μ => some (.v (.int (if b then 1 else 0)), μ)
 | _, _ => none
noncomputable def strD : List R -> Store -> Option (R × Store)
 | [.v (.int i)], μ => if i.natAbs.log2 < 1920 then some (.v (.str (toString i)), μ) else none
 | _, _ => none
theorem g_str {K : PySem.W.Frag} : GAr K strD (fun xs H Q => ∃ i, xs = [.int i] /\ i.natAbs.log2 < 1920 /\ Q (.str (toString i)) H) := by
 intro m H μ xs d μ' vs Q s r e k
 unfold strD at e
 split at e
 ·split at e
  ·rename_i z
   cases e
   obtain ⟨v, rfl, r1⟩ := rel1 r
   simp only [RelR, RelD] at r1
   subst r1
   exact ⟨_, rfl, z, k _ H m .refl s (by simp only [RelR, RelD])⟩
  ·cases e
 ·cases e
def rSetK : V -> V -> V -> Hp -> (Hp -> Prop) -> Prop := fun o i v H Q => ∃ p kvs k, o = .ref p /\ i = kV k /\ H p = some (.dK kvs) /\ kvs.length < sizeLine /\ Q (upd H p (.dK (putK kvs k v)))
theorem set_dict {X : Cx} (hu : X.A.units + 1 < cLine) : PSet X rSetK := by
 intro pins s σ H o i v ov iv u Q I ro ri rv h
 obtain ⟨p, kvs, k, rfl, rfl, hp, hl, q⟩ := h
 cases ro
 exact d_setItem hu I (DPut.k hp hl) ri rv fun s' I' => ⟨_, I', q⟩
theorem PSet.or {X : Cx} {t u : TSet} (h : PSet X t) (h' : PSet X u) : PSet X (fun o i v H Q => t o i v H Q \/ u o i v H Q) := fun pins s σ H o i v ov iv z Q I ro ri rv q => by
 rcases q with q | q
 ·exact h pins s σ H o i v ov iv z Q I ro ri rv q
 ·exact h' pins s σ H o i v ov iv z Q I ro ri rv q
noncomputable def keyOf : R -> Option Key
 | .v (.int i) => some (.inl i)
 | .v (.str x) => some (.inr (some x))
 | .v .non => some (.inr none)
 | _ => none
noncomputable def putC (o i : R) (dv : D) (μ : Store) : Option Store := match o with
 | .p n => match μ[n]? with
  | some (.lst xs) => (match i with | .v (.int k) => (ixN xs.length k).bind fun j => some (μ.set n (.lst (xs.set j dv))) | _ => none)
  | some (.dct kvs) => if kvs.length < sizeLine then (keyOf i).bind fun k => some (μ.set n (.dct (putKD kvs k dv))) else none
  | _ => none
 | _ => none
noncomputable def gSub (fo fi : FE) : FG := fun d ρ μ => match d with | .v dv => (fo ρ μ).bind fun o => (fi ρ o.2).bind fun i => (putC o.1 i.1 dv i.2).bind fun μ' => some (ρ, μ') | _ => none
theorem RelDs.setAt {K : PySem.W.Frag} {H : Hp} {d : D} {v : V} (h : RelD K H d v) : ∀ {ds : List D} {vs : List V} (j : Nat), RelDs K H ds vs -> RelDs K H (ds.set j d) (vs.set j v)
 | [], vs, j, r => by have r : vs = [] := r; subst r; exact rfl
 | _ :: _, _, 0, ⟨v', r, e, h1, h2⟩ => by subst e; exact ⟨v, r, rfl, h, h2⟩
 | _ :: _, _, j + 1, ⟨v', r, e, h1, h2⟩ => by subst e; exact ⟨v', _, rfl, h1, RelDs.setAt h j h2⟩
theorem key_rel {K : PySem.W.Frag} {m : List Addr} {H : Hp} {x : R} {v : V} {k : Key} (r : RelR K m H x v) (e : keyOf x = some k) : v = kV k := by
 unfold keyOf at e
 split at e
 ·cases e; simpa only [RelR, RelD, kV] using r
 ·cases e; simpa only [RelR, RelD, kV] using r
 ·cases e; simpa only [RelR, RelD, kV] using r
 ·cases e
theorem put_ok {K : PySem.W.Frag} {m : List Addr} {H : Hp} {μ μ' : Store} {o i : R} {dv : D} {vo vi v : V} {Q : Hp -> Prop} (s : SRel K m H μ) (ro : RelR K m H o vo) (ri : RelR K m H i vi) (rv : RelD K H dv v) (e : putC o i dv μ = some μ')
  (k : ∀ H', Ext m H m H' -> SRel K m H' μ' -> Q H') : rSetL vo vi v H Q \/ rSetK vo vi v H Q := by
 unfold putC at e
 split at e
 ·rename_i n
  split at e
  ·rename_i xs q
   split at e
   ·rename_i j
    obtain ⟨w, e1, e⟩ := Option.bind_eq_some_iff.mp e
    cases e
    obtain ⟨a, rfl, ha⟩ := ro
    have ri : vi = .int j := by simpa only [RelR, RelD] using ri
    subst ri
    obtain ⟨ws, ea, ra⟩ := s.cell _ _ a q ha
    have x : Ext m H m (upd H a (.lst (ws.set w v))) := .put (List.mem_of_getElem? ha) ea (by simp) (by simp)
    exact .inl ⟨a, ws, j, w, rfl, rfl, ea, by rw [← ra.length]; exact e1, k _ x (s.put ha ea (by simp) (by simp) ⟨_, upd_at, RelDs.tf x.tf _ _ (RelDs.setAt rv w ra)⟩)⟩
   ·cases e
  ·rename_i kvs q
   split at e
   ·rename_i hl
    obtain ⟨w, e1, e⟩ := Option.bind_eq_some_iff.mp e
    cases e
    obtain ⟨a, rfl, ha⟩ := ro
    obtain ⟨es, ea, q1, q2⟩ := s.cell _ _ a q ha
    have kd : KD K H kvs es := ⟨q1, q2⟩
    have kd' := kd.put (k := w) rv
    have x : Ext m H m (upd H a (.dK (putK es w v))) := .put (List.mem_of_getElem? ha) ea (by simp) (by simp)
    exact .inr ⟨a, es, w, rfl, key_rel ri e1, ea, by have := congrArg List.length q1; simp at this; omega, k _ x (s.put ha ea (by simp) (by simp) ⟨_, upd_at, kd'.1, RelDs.tf x.tf _ _ kd'.2⟩)⟩
   ·cases e
  ·cases e
 ·cases e
theorem rd_gSub {K : PySem.W.Frag} {fo fi : FE} {v : V} {σ : L2.St} {H : Hp} {Q : L2.St -> Hp -> Prop} (h : rdG K (gSub fo fi) v σ H Q) : L2.gSub (rdE K fo) (rdE K fi) (fun o i v H Q => rSetL o i v H Q \/ rSetK o i v H Q) v σ H Q := by
 obtain ⟨ρ, μ, m, d, ρ', μ', hl, hs, r, e, k⟩ := h
 unfold gSub at e
 split at e
 ·rename_i dv
  obtain ⟨⟨o, μ1⟩, e1, e⟩ := Option.bind_eq_some_iff.mp e
  obtain ⟨⟨i, μ2⟩, e2, e⟩ := Option.bind_eq_some_iff.mp e
  obtain ⟨μ3, e3, e⟩ := Option.bind_eq_some_iff.mp e
  cases e
  refine ⟨ρ, μ, m, o, μ1, hl, hs, e1, fun vo H1 m1 x1 s1 r1 => ?_⟩
  refine ⟨ρ, μ1, m1, i, μ2, hl.ext x1, s1, e2, fun vi H2 m2 x2 s2 r2 => ?_⟩
  exact put_ok s2 (r1.ext x2) r2 (RelD.tf (x1.tf.trans x2.tf) _ _ r) e3 fun H3 x3 s3 => k σ H3 m2 ((x1.trans x2).trans x3) s3 (hl.ext ((x1.trans x2).trans x3))
 ·cases e
end HW
namespace HW
open PySem PySem.Spec PyProof.Rows L2
noncomputable def bestOf (lt : Int -> Int -> Bool) (ns : List Int) : Int := ns.getD (argBest (fun i j => lt (ns.getD i 0) (ns.getD j 0)) (ns.length - 1)) 0
noncomputable def bestD (lt : Int -> Int -> Bool) : List R -> Store -> Option (R × Store)
 | [x], μ => (lstD x μ).bind fun ds => (intsD ds).bind fun ns => if ns = [] then none else some (.v (.int (bestOf lt ns)), μ)
 | _, _ => none
end HW
namespace HS
open PySem PySem.Spec PyProof.Rows L2
section
variable {prog : Program} {w : World} {A : Around} {E : Value -> Shared -> Prop} {s : Shared}
end
end HS
namespace HW
open PySem PySem.Spec PyProof.Rows L2 HS
noncomputable def intKeys : List Key -> Option (List Int)
 | [] => some []
 | .inl n :: r => (intKeys r).map (n :: ·)
 | _ => none
noncomputable def srtK (b : Bool) : List R -> Store -> Option (R × Store)
 | [.p n], μ => match μ[n]? with
  | some (.dct kvs) => (intKeys (kvs.map (·.1))).bind fun ns => if ns.length < 64 then some (.p μ.length, μ ++ [.lst ((isort ns).map D.int)]) else none
  | some (.fzd kvs) => (intKeys (kvs.map (·.1))).bind fun ns => if ns.length < 64 then some (.p μ.length, μ ++ [.lst ((isort ns).map D.int)]) else none
  | _ => sortedQ b [.p n] μ
 | xs, μ => sortedQ b xs μ
noncomputable def fPairs : List (FE × FE) -> Lo -> Store -> Option (List (R × R) × Store)
 | [], _, μ => some ([], μ)
 | (fk, fv) :: r, ρ, μ => (fk ρ μ).bind fun a => (fv ρ a.2).bind fun b => (fPairs r ρ b.2).bind fun c => some ((a.1, b.1) :: c.1, c.2)
noncomputable def kvsOf : List (R × R) -> Option (List (Key × D))
 | [] => some []
 | (x, .v d) :: r => (keyOf x).bind fun k => (kvsOf r).bind fun kvs => some ((k, d) :: kvs)
 | _ => none
noncomputable def fDisp (prs : List (FE × FE)) : FE := fun ρ μ => (fPairs prs ρ (μ ++ [.dct []])).bind fun a => (kvsOf a.1).bind fun kvs => if kvs.length <= 15 then
 (match a.2[μ.length]? with | some (.dct []) => some (.p μ.length, a.2.set μ.length (.dct (putAllD [] kvs))) | _ => none) else none
section
variable {K : PySem.W.Frag} {σ : L2.St}
end
end HW
namespace HW
open PySem PySem.Spec PyProof.Rows L2
def ConstR (K : PySem.W.Frag) (mg : Str -> Option Value) (x : Str) (d : D) : Prop := ∃ u v, mg x = some u /\ RelV v u /\ ∀ H, RelD K H d v
def CRel (K : PySem.W.Frag) (d : D) (v : V) (u : Value) : Prop := RelV v u /\ ∀ H, RelD K H d v
def CRels (K : PySem.W.Frag) (ds : List D) (vs : List V) (us : List Value) : Prop := Vals vs us /\ ∀ H, RelDs K H ds vs
theorem crs_nil {K : PySem.W.Frag} : CRels K [] [] [] := ⟨.nil, fun _ => rfl⟩
theorem crs_cons {K : PySem.W.Frag} {d : D} {v : V} {u : Value} {ds : List D} {vs : List V} {us : List Value} (h : CRel K d v u) (h' : CRels K ds vs us) : CRels K (d :: ds) (v :: vs) (u :: us) :=
 ⟨.cons h.1 h'.1, fun H => by simp only [RelDs]; exact ⟨_, _, rfl, h.2 H, h'.2 H⟩⟩
theorem cr_int {K : PySem.W.Frag} {i : Int} {t : Tok} : CRel K (.int i) (.int i) (.int i t) := ⟨⟨t, rfl⟩, fun H => by simp only [RelD]⟩
theorem cr_str {K : PySem.W.Frag} {x : Str} {t : Tok} : CRel K (.str x) (.str x) (.str x t) := ⟨⟨t, rfl⟩, fun H => by simp only [RelD]⟩
theorem cr_tup {K : PySem.W.Frag} {a : Addr} {us : List Value} {n : Nat} {sl : Array (Option Value)} {ds : List D} {vs : List V} (h : K.lookup a = some ⟨.type "tuple", none, .seq us.toArray n, sl⟩) (hz : us.length <= sizeLine) (r : CRels K ds vs us) : CRel K (.tup ds) (.ref a) (.ref a) :=
 ⟨rfl, fun H => by simp only [RelD]; exact ⟨a, vs, rfl, .inr ⟨_, us.toArray, n, h, rfl, rfl, rfl, by simpa using hz, by simpa using r.1⟩, r.2 H⟩⟩
theorem const_of {K : PySem.W.Frag} {mg : Str -> Option Value} {x : Str} {u : Value} {d : D} {v : V} (hm : mg x = some u) (r : CRel K d v u) : ConstR K mg x d := ⟨u, v, hm, r.1, r.2⟩
noncomputable def stepV {α : Type} (xs : List α) (lo hi : Option Int) (k : Int) : List α := (let b := sliceBounds lo hi (some k) xs.length; sliceRange b.1 b.2.1 b.2.2).filterMap fun i => xs[i]?
end HW
namespace HW
open PySem PySem.Spec PyProof.Rows L2
def stepOk (i j c : Int) : Prop := c ≠ 0 /\ -(2 ^ 30) < c /\ c < 2 ^ 30
instance {i j c : Int} : Decidable (stepOk i j c) := by unfold stepOk; infer_instance
section
variable {X : Cx} {tg : Expr}
end
end HW
namespace HW
open PySem PySem.Spec PyProof.Rows L2
end HW
namespace HW
open PySem PySem.Spec PyProof.Rows L2
end HW
namespace L2
open PySem PySem.Spec PyProof.Rows
section
variable {X : Cx} {pins : List (Addr × Obj)} {σ : St} {H : Hp} {s : Shared} {h' : Heap}
end
section
variable {X : Cx}
end
end L2
namespace HW
open PySem PySem.Spec PyProof.Rows L2
structure ItOkE (K : PySem.W.Frag) (J : It) (xs : List D) (P : Hp -> Prop) : Prop where
 st : ∀ H H', TF H H' -> P H -> P H'
 stop : ∀ i H, P H -> xs.length <= i -> J.stop i H
 go : ∀ (i : Nat) d H, xs[i]? = some d -> P H -> J.go i H
 yld : ∀ (i : Nat) d H x H', xs[i]? = some d -> P H -> J.yld i H x H' -> (∀ a o, H a = some o -> H' a = some o) /\ RelD K H' d x
def rdIE (K : PySem.W.Frag) (f : FI) : TI := fun σ H R => ∃ ρ μ m xs μ', LRel K m H ρ σ /\ SRel K m H μ /\ f ρ μ = some (xs, μ') /\
 ∀ J P H' m', Ext m H m' H' -> SRel K m' H' μ' -> ItOkE K J xs P -> P H' -> R J H'
theorem ext_same {m : List Addr} {H H' : Hp} (s : ∀ a o, H a = some o -> H' a = some o) : Ext m H m H' :=
 ⟨⟨[], by simp, fun _ z => nomatch z⟩, ⟨fun a xs e => s _ _ e, fun a o x e => s _ _ e⟩, fun a o e _ => s _ _ e, fun a e => by
  cases q : H a with
  | none => rfl
  | some o => rw [s _ _ q] at e; cases e⟩
section
variable {K : PySem.W.Frag} {m : List Addr} {σ : L2.St} {H : Hp} {μ : Store} {D : Ends}
theorem rd_forE {fi g b} (h : rdS K (sFor fi g b) D σ H) : tFor (rdIE K fi) (rdG K g) (rdS K b) D σ H := by
 obtain ⟨ρ, μ, m, o, hl, hs, e, k⟩ := h
 obtain ⟨⟨xs, μ1⟩, e1, e⟩ := Option.bind_eq_some_iff.mp e
 refine ⟨ρ, μ, m, xs, μ1, hl, hs, e1, fun J P H1 m1 x1 s1 ok p1 => ?_⟩
 refine ⟨fun i n σ H => n = xs.length - i /\ i <= xs.length /\ P H /\ ∃ ρ μ m, LRel K m H ρ σ /\ SRel K m H μ /\ loop g b (xs.drop i) ρ μ = some o /\ Ends.of K m H D o,
  ⟨_, rfl, Nat.zero_le _, p1, ρ, μ1, m1, LRel.ext x1 hl, s1, by simpa using e, Ends.of_ext x1 k⟩, ?_⟩
 rintro i n σ H ⟨rfl, hi, p, ρ, μ, m, hl, hs, e, k⟩
 by_cases hlt : i < xs.length
 ·have hx : xs[i]? = some xs[i] := List.getElem?_eq_getElem hlt
  rw [List.drop_eq_getElem_cons hlt, loop] at e
  obtain ⟨⟨ρ1, μ1⟩, e1, e⟩ := Option.bind_eq_some_iff.mp e
  obtain ⟨o1, e2, e⟩ := Option.bind_eq_some_iff.mp e
  refine .inr ⟨ok.go i _ H hx p, fun σ H => i + 1 <= xs.length /\ P H /\ ∃ ρ μ m, LRel K m H ρ σ /\ SRel K m H μ /\ loop g b (xs.drop (i + 1)) ρ μ = some o /\ Ends.of K m H D o,
   fun σ' H' z => ⟨xs.length - (i + 1), by omega, rfl, z⟩, fun x H' y => ?_⟩
  obtain ⟨xe, rx⟩ := ok.yld i _ H x H' hx p y
  have x0 : Ext m H m H' := ext_same xe
  refine ⟨ρ, μ, m, .v xs[i], ρ1, μ1, LRel.ext x0 hl, hs.same xe, rx, e1, fun σ1 H1 m1 x1 s1 l1 => ?_⟩
  have x1 := x0.trans x1
  refine ⟨ρ1, μ1, m1, o1, l1, s1, e2, ?_⟩
  cases o1 with
  | nx ρ2 μ2 => exact fun σ2 H2 m2 x2 s2 l2 => ⟨hlt, ok.st _ _ (x1.trans x2).tf p, ρ2, μ2, m2, l2, s2, e, Ends.of_ext (x1.trans x2) k⟩
  | ct ρ2 μ2 => exact fun σ2 H2 m2 x2 s2 l2 => ⟨hlt, ok.st _ _ (x1.trans x2).tf p, ρ2, μ2, m2, l2, s2, e, Ends.of_ext (x1.trans x2) k⟩
  | bk ρ2 μ2 => cases e; exact fun σ2 H2 m2 x2 s2 l2 => k σ2 H2 m2 (x1.trans x2) s2 l2
  | rt d μ2 => cases e; exact fun v H2 m2 x2 s2 l2 => k v H2 m2 (x1.trans x2) s2 l2
 ·have : i = xs.length := by omega
  subst this
  rw [List.drop_length, loop] at e
  cases e
  exact .inl ⟨ok.stop _ H p (Nat.le_refl _), k σ H m .refl hs hl⟩
theorem rd_for {fi g b} (h : rdS K (sFor fi g b) D σ H) : tFor (rdI K fi) (rdG K g) (rdS K b) D σ H :=
 let ⟨ρ, μ, m, xs, μ', hl, hs, e, k⟩ := rd_forE h
 ⟨ρ, μ, m, xs, μ', hl, hs, e, fun J P H' m' x s ok p => k J P H' m' x s ⟨ok.st, ok.stop, ok.go, fun i d H x H' e p y => by obtain ⟨rfl, r⟩ := ok.yld i d H x H' e p y; exact ⟨fun _ _ z => z, r⟩⟩ p⟩
end
end HW
namespace HW
open PySem PySem.Spec PyProof.Rows L2
end HW
namespace HW
open PySem PySem.Spec PyProof.Rows L2
end HW
namespace HW
open PySem PySem.Spec PyProof.Rows L2
noncomputable def valD (kvs : List (Key × D)) (k : Key) : Option D := (kvs.find? fun kv => decide (kv.1 = k)).map (·.2)
noncomputable def kvsD (x : R) (μ : Store) : Option (List (Key × D)) := match x with
 | .p n => match μ[n]? with | some (.dct kvs) => some kvs | some (.fzd kvs) => some kvs | _ => none
 | .v (.fd ks ds) => if ks.length = ds.length then some (ks.zip ds) else none
 | _ => none
noncomputable def fGet (fo fk fx : FE) : FE := fun ρ μ => (fo ρ μ).bind fun o => if (kvsD o.1 o.2).isSome = true then (fk ρ o.2).bind fun k => (fx ρ k.2).bind fun x => (kvsD o.1 x.2).bind fun kvs => (keyOf k.1).bind fun key => some ((match valD kvs key with | some d => .v d | none => x.1), x.2) else none
end HW
namespace HS
open PySem PySem.Spec PyProof.Rows
section
variable {prog : Program} {w : World} {A : Around} {E : Value -> Shared -> Prop} {h : Heap} {g : Array GenState} {d : Drawn} {t : Nat} {os : OsState} {a : Addr} {its : Array Value} {n : Nat} {sl : Array (Option Value)}
end
section
variable {prog : Program} {w : World} {A : Around} {E : Value -> Shared -> Prop} {s : Shared}
end
end HS
namespace HW
open PySem PySem.Spec PyProof.Rows L2 HS
noncomputable def dictQ : List R -> Store -> Option (R × Store)
 | [.v (.tup ds)], μ => (pairsD ds).bind fun ps => if ps.length <= sizeLine then some (.p μ.length, μ ++ [.dct (putAllD [] ps)]) else none
 | xs, μ => dictD xs μ
end HW
namespace HS
open PySem PySem.Spec PyProof.Rows
section
variable {prog : Program} {w : World} {A : Around} {E : Value -> Shared -> Prop} {s : Shared}
end
end HS
namespace HW
open PySem PySem.Spec PyProof.Rows L2 HS
noncomputable def setKs (b : Bool) : List R -> Store -> Option (R × Store)
 | [.p n], μ => match μ[n]? with
  | some (.dct kvs) => (intKeys (kvs.map (·.1))).bind fun ns => if ns.length < 60 then some (.s b (metOf [] ns), μ) else none
  | some (.fzd kvs) => (intKeys (kvs.map (·.1))).bind fun ns => if ns.length < 60 then some (.s b (metOf [] ns), μ) else none
  | _ => setQ b [.p n] μ
 | xs, μ => setQ b xs μ
end HW
namespace HX
open PySem
noncomputable abbrev eO (C : Value) (vs : Array Value) : Obj := { cls := C, dict := none, data := .fields vs, slots := #[] }
structure Fl (G : Addr -> Prop) (h : Heap) (e : Addr) (C fl : Value) : Prop where
 is : ∃ vs T ts c, ¬ G e /\ ¬ G T /\ T ≠ e /\ h.get? e = some (eO C vs) /\ vs[1]? = some (.ref T) /\ h.get? T = some (eO c ts) /\ ts[3]? = some fl
 all : ∀ b, G b -> ∃ o, h.get? b = some o
section
variable {prog : Program} {w : World} {A : Around} {E : Value -> Shared -> Prop} {s : Shared} {G : Addr -> Prop} {e : Addr} {C fl : Value} {Q : Unit -> Shared -> Prop}
end
end HX
namespace HW
open PySem PySem.Spec PyProof.Rows L2
abbrev clsAt (K : PySem.W.Frag) (c : Str) (C : Addr) : Prop := PySem.W.nsIn K mainGlobals c = some (some (.ref C))
section
variable {P : Program} {w : World} {H H0 H1 : Hp} {h h0 h1 h2 : Heap} {a : Addr} {o : HO} {fs fs' S : List Addr} {G : Addr -> Prop}
end
section
variable {P : Program} {w : World} {K : PySem.W.Frag} {mg : Str -> Option Value} {base : Heap} {N : List Str} {qual : Str} {scope : Scope} {f : Addr} {cd : Value} {A : Around} {outer : List Env} {s0 : Shared} {H0 : Hp} {E : XK}
end
end HW
namespace HW
open PySem PySem.Spec PyProof.Rows L2
structure ClsX (K : PySem.W.Frag) (D : Addr) : Prop where
 dc : PySem.W.hasDictIn K D = true
 ga : PySem.W.findIn K (.ref D) "__getattribute__" = some (some (.builtin "BaseException.__getattribute__"))
 gn : PySem.W.findIn K (.ref D) "__getattr__" = some none
 fi : PySem.W.findIn K (.ref D) "__class__" = some (some (.builtin "object.__class__"))
 mr : PySem.W.mroIn K D (.type "object") = some true
 mb : PySem.W.mroIn K D (.type "BaseException") = some true
 gt : PySem.W.specialIn K (.builtin "object.__class__") "__get__" = some (some (.builtin "getset_descriptor.__get__"))
 tk : PySem.W.takesIn K (.builtin "object.__class__") = some true
section
variable {K : PySem.W.Frag} {σ : L2.St} {H : Hp} {Q : VK} {fa : FE} {tbl : Str -> Option Bool}
end
end HW
namespace HW
open PySem PySem.Spec PyProof.Rows L2
section
variable {X : Cx} {pins : List (Addr × Obj)} {σ : L2.St} {H : Hp} {s : Shared} {ea : Addr}
end
end HW
namespace HW
open PySem L2
section
variable {K : PySem.W.Frag} {mg : Str -> Option Value} {a : Str} {q CH : Addr} {b : Bool} {l : List (Str × Bool)} {cs : List Str} {u : Value} {us : List Value}
end
end HW
namespace HX
open PySem
section
variable {prog : Program} {w : World} {A : Around} {E : Value -> Shared -> Prop} {s : Shared} {G : Addr -> Prop} {e L : Addr} {C fl : Value} {Q : Unit -> Shared -> Prop} {env : Env}
end
end HX
namespace HW
open PySem PySem.Spec PyProof.Rows L2
section
variable {P : Program} {w : World} {K : PySem.W.Frag} {mg : Str -> Option Value} {base : Heap} {N : List Str} {qual : Str} {scope : Scope} {f : Addr} {cd : Value} {A : Around} {outer : List Env} {s0 : Shared} {H0 : Hp} {E : XK}
end
end HW
namespace HW
open PySem PySem.Spec PyProof.Rows L2
section
variable {X : Cx} {a x : Str} {i j : Nat} {p1 p2 p3 pos : Pos}
end
end HW
namespace HW
open PySem PySem.Spec PyProof.Rows L2
def rSlS : V -> Option Int -> Option Int -> Hp -> VK -> Prop := fun x lo hi H Q => ∃ z, x = .str z /\ z.length <= sizeLine /\ Q (.str (Txt.slice z lo hi)) H
theorem sl_str {X : Cx} : SlR X rSlS := by
 intro pins s σ H x v vl vu lo hi sl Q I rx hs pl pu h
 obtain ⟨z, rfl, hz, q⟩ := h
 obtain ⟨t, rfl⟩ := rx
 refine ⟨"str", _, PySem.F.slot_str_getitem.lookup, typeIs_str _ _ _, ?_⟩
 have fin : ∀ (l u : Option (Int × Tok)), lo = l.map (·.1) -> hi = u.map (·.1) -> s.heap.IsSlice sl l u none -> wpAny (model X.prog X.w) X.A (getItem (.str z t) (.ref sl)) (EP X pins σ Q) X.xe s := fun l u e1 e2 hS => by
  subst e1 e2
  refine wpAny_getItem_str_slice (l := l) (u := u) (st := none) hS rfl ?_
  exact post_val_or_str ⟨Nat.le_trans (Txt.slice_le z _ _) hz, fun t' k => ⟨.str _, H, I.tok k, ⟨_, rfl⟩, q⟩⟩
 cases pl with
 | none =>
  cases pu with
  | none => exact fin none none rfl rfl hs
  | int j tj => exact fin none (some (j, tj)) rfl rfl hs
 | int i ti =>
  cases pu with
  | none => exact fin (some (i, ti)) none rfl rfl hs
  | int j tj => exact fin (some (i, ti)) (some (j, tj)) rfl rfl hs
noncomputable def Its (x : Str) : It := ⟨fun i _ => i < x.cps.size, fun i H v H' => H' = H /\ ∃ c, x.cps[i]? = some c /\ v = .str ⟨#[c]⟩, fun i _ => x.cps.size <= i⟩
theorem turn_str {P : Program} {w : World} {K : PySem.W.Frag} {tg : Expr} {T : String} (hT : T = "str_ascii_iterator" \/ T = "str_iterator") (x : Str) (t : Tok) (it : Addr) : Turn P w K tg (Its x) [it] it (fun i h => h.IsStrIter it T x t i) where
 mem := by simp
 obj := fun i h st b hb => by
  have e : b = it := by simpa using hb
  subst e
  obtain ⟨o, e, c, d⟩ := st
  exact ⟨o, e, fun v z => by rw [d] at z; cases z⟩
 keep := fun i h h' st k => let ⟨o, e, r⟩ := st; ⟨o, k it (by simp) o e, r⟩
 item := by
  intro X hP hw hK hc i pins s σ H E I hf st hg
  subst hP hw hK
  obtain ⟨f0, f1, f2, f3, f4, f5⟩ := hf it (by simp)
  have W : Walks X.prog X.w X.A it [it] [it] x.cps.size (SignAt x) (fun i h => h.IsStrIter it T x t i) := by
   rcases hT with rfl | rfl
   ·exact Walks.strAscii (I.ok.hd hc) it x t
   ·exact Walks.strWide (I.ok.hd hc) it x t
  refine W.item i s _ _ hg st fun v h' tk hv st' kk => ?_
  obtain ⟨c, u, hx, rfl⟩ := hv
  have I1 : Inv X pins σ H { s with heap := h', toks := tk } := I.turned (fun b o hb e => kk b o (by simpa using hb) e) f0 f1 f3 f4 f5
  obtain ⟨o, e, c1, d⟩ := id st'
  exact ⟨_, rfl, go_of (s := { s with heap := h', toks := tk }) e c1 d (by rcases hT with rfl | rfl <;> decide) ⟨.str ⟨#[c]⟩, H, I1, ⟨u, rfl⟩, ⟨rfl, c, hx, rfl⟩, st', fun b hb => (hf b hb).1⟩⟩
 done := by
  intro X hP hw hK hc i pins s σ H E I hf st hg
  subst hP hw hK
  obtain ⟨f0, f1, f2, f3, f4, f5⟩ := hf it (by simp)
  have hx : x.cps[i]? = none := Array.getElem?_eq_none hg
  rcases hT with rfl | rfl
  ·exact wpAny_pyNext_ascii_end (I.ok.hd hc) st hx fun h' eb => ⟨rfl, I.turned (t' := s.toks) (fun b o hb e => eb b o hb e) f0 f1 f3 f4 f5⟩
  ·exact wpAny_pyNext_wide_end (I.ok.hd hc) st hx fun h' eb => ⟨rfl, I.turned (t' := s.toks) (fun b o hb e => eb b o hb e) f0 f1 f3 f4 f5⟩
 self := fun _ _ _ _ _ st h => by
  rcases hT with rfl | rfl
  ·exact wpAny_pyIter_striter_ascii st h
  ·exact wpAny_pyIter_striter_wide st h
def iStr (tl : TE) : TI := fun σ H R => tl σ H fun x H1 => ∃ z, x = .str z /\ R (Its z) H1
theorem pi_str {X : Cx} {tg l : Expr} {tl : TE} (hl : PE X l tl) : PI X tg l (iStr tl) := by
 intro pins s σ H R I h
 refine thn (hl pins s σ H _ I h) fun v s1 hh => ?_
 obtain ⟨x, H1, I1, r1, q1⟩ := hh
 obtain ⟨z, rfl, q⟩ := q1
 obtain ⟨t, rfl⟩ := r1
 have fin : ∀ T, (T = "str_ascii_iterator" \/ T = "str_iterator") -> PIE X pins σ tg R (.ref s1.heap.objs.size) { s1 with heap := s1.heap.push { cls := .type T, data := .fields #[.str z t, .int 0 0] } } := fun T hT => by
  refine ⟨s1.heap.objs.size, [s1.heap.objs.size], _, _, H1, rfl, I1.kept (t' := s1.toks) fun b o e => Heap.get?_push_of_some _ e, turn_str hT z t _, ⟨_, Heap.get?_push_size _ rfl, rfl, rfl⟩, fun b hb => ?_, q⟩
  have e : b = s1.heap.objs.size := by simpa using hb
  subst e
  exact I1.fpOk (Nat.le_refl _) (I1.hok.fresh (Nat.le_refl _))
 cases ha : z.cps.all (· < 128)
 ·exact wpAny_pyIter_wide ha (fin _ (.inr rfl))
 ·exact wpAny_pyIter_ascii ha (fin _ (.inl rfl))
noncomputable def signs (x : Str) : List D := x.cps.toList.map fun c => D.str ⟨#[c]⟩
noncomputable def fiStr (f : FE) : FI := fun ρ μ => (f ρ μ).bind fun a => match a.1 with | .v (.str x) => some (signs x, a.2) | _ => none
theorem its_ok {K : PySem.W.Frag} (x : Str) : ItOk K (Its x) (signs x) (fun _ => True) where
 st := fun _ _ _ _ => trivial
 stop := fun i H _ hi => by show x.cps.size <= i; simpa [signs] using hi
 go := fun i d H e _ => by
  have := (List.getElem?_eq_some_iff.mp e).1
  show i < x.cps.size; simpa [signs] using this
 yld := fun i d H v H' e _ ⟨e1, c, hc, e2⟩ => by
  refine ⟨e1, ?_⟩
  unfold signs at e
  rw [List.getElem?_map] at e
  have hc' : x.cps.toList[i]? = some c := by simpa using hc
  rw [hc'] at e
  cases e
  rw [e2]; simp only [RelD]
section
variable {K : PySem.W.Frag} {σ : L2.St} {H : Hp} {Q : VK} {RR : It -> Hp -> Prop}
theorem rd_iStr {f} (h : rdI K (fiStr f) σ H RR) : iStr (rdE K f) σ H RR := by
 obtain ⟨ρ, μ, m, xs, μ', hl, hs, e, k⟩ := h
 obtain ⟨⟨x, μ1⟩, e1, e⟩ := Option.bind_eq_some_iff.mp e
 split at e
 ·rename_i z q
  cases e
  simp only at q
  subst q
  refine ⟨ρ, μ, m, _, _, hl, hs, e1, fun v H1 m1 x1 s1 r1 => ?_⟩
  simp only [RelR, RelD] at r1
  exact ⟨z, r1, k _ _ H1 m1 x1 s1 (its_ok z) trivial⟩
 ·cases e
noncomputable def slS (x : R) (lo hi : Option Int) (μ : Store) : Option (R × Store) := match x with
 | .v (.str z) => if z.length <= sizeLine then some (.v (.str (Txt.slice z lo hi)), μ) else none
 | _ => none
noncomputable def ixS : R -> R -> Store -> Option (R × Store)
 | .v (.str z), .v (.int i), μ => if 0 <= i /\ i < 2 ^ 63 /\ i < z.length then (z.cps[i.toNat]?).bind fun c => some (.v (.str ⟨#[c]⟩), μ) else none
 | _, _, _ => none
theorem g_ixS : GOp K ixS (fun x y H Q => ∃ z i c, x = .str z /\ y = .int i /\ 0 <= i /\ i < 2 ^ 63 /\ i < z.length /\ z.cps[i.toNat]? = some c /\ Q (.str ⟨#[c]⟩) H) := by
 intro m H μ x y d μ' v u Q s rx ry e k
 unfold ixS at e
 split at e
 ·rename_i z i
  split at e
  ·rename_i c
   obtain ⟨c', e1, e⟩ := Option.bind_eq_some_iff.mp e
   cases e
   simp only [RelR, RelD] at rx ry
   subst rx ry
   exact ⟨z, i, c', rfl, rfl, c.1, c.2.1, c.2.2, e1, k _ H m .refl s (by simp only [RelR, RelD])⟩
  ·cases e
 ·cases e
noncomputable def lenS : List R -> Store -> Option (R × Store)
 | [.v (.str z)], μ => if z.length <= sizeLine then some (.v (.int z.length), μ) else none
 | _, _ => none
theorem g_lenS : GAr K lenS (fun xs H Q => ∃ z, xs = [.str z] /\ z.length <= sizeLine /\ Q (.int z.length) H) := by
 intro m H μ xs d μ' vs Q s r e k
 unfold lenS at e
 split at e
 ·rename_i z
  split at e
  ·rename_i hz
   cases e
   obtain ⟨v, rfl, r1⟩ := rel1 r
   simp only [RelR, RelD] at r1
   subst r1
   exact ⟨z, rfl, hz, k _ H m .refl s (by simp only [RelR, RelD])⟩
  ·cases e
 ·cases e
noncomputable def intS : List R -> Store -> Option (R × Store)
 | [.v (.str z)], μ => if z.length <= 640 then (PySem.intText? z).bind fun n => some (.v (.int n), μ) else none
 | _, _ => none
def rIntS : List V -> Hp -> VK -> Prop := fun xs H Q => ∃ z n, xs = [.str z] /\ z.length <= 640 /\ PySem.intText? z = some n /\ Q (.int n) H
theorem call_intS {X : Cx} : CallR X (.type "int") rIntS := by
 intro pins s σ H vs us Q I r h
 obtain ⟨z, n, rfl, hz, hn, q⟩ := h
 obtain ⟨u, rfl, rx⟩ := vals1 r
 obtain ⟨t, rfl⟩ := rx
 exact PySem.W.KIN.call_text hn hz ⟨.int n, H, I.tok _, ⟨_, rfl⟩, q⟩
theorem g_intS : GAr K intS rIntS := by
 intro m H μ xs d μ' vs Q s r e k
 unfold intS at e
 split at e
 ·rename_i z
  split at e
  ·rename_i hz
   obtain ⟨n, e1, e⟩ := Option.bind_eq_some_iff.mp e
   cases e
   obtain ⟨v, rfl, r1⟩ := rel1 r
   simp only [RelR, RelD] at r1
   subst r1
   exact ⟨z, n, rfl, hz, e1, k _ H m .refl s (by simp only [RelR, RelD])⟩
  ·cases e
 ·cases e
noncomputable def absD : List R -> Store -> Option (R × Store)
 | [.v (.int i)], μ => some (.v (.int (if i < 0 then -i else i)), μ)
 | _, _ => none
noncomputable def inS (neg : Bool) : R -> R -> Store -> Option (R × Store)
 | .v (.str i), .v (.str j), μ => some (.v (.bl (if neg then !(!(Builtin.Str.occurrences j i 0 j.length 1).isEmpty) else !(Builtin.Str.occurrences j i 0 j.length 1).isEmpty)), μ)
 | _, _, _ => none
theorem g_inS : GOp K (inS false) (fun x y H Q => ∃ i j, x = .str i /\ y = .str j /\ Q (.bl (!(Builtin.Str.occurrences j i 0 j.length 1).isEmpty)) H) := by
 intro m H μ x y d μ' v u Q s rx ry e k
 unfold inS at e
 split at e
 ·rename_i i j
  cases e
  simp only [RelR, RelD] at rx ry
  subst rx ry
  exact ⟨i, j, rfl, rfl, k _ H m .refl s (by simp only [RelR, RelD, Bool.false_eq_true, if_false])⟩
 ·cases e
noncomputable def swD : R -> R -> Store -> Option (R × Store)
 | .v (.str a), .v (.str b), μ => some (.v (.bl (decide (0 + b.length <= a.length) && Builtin.Str.subAt a b 0)), μ)
 | _, _, _ => none
noncomputable abbrev fSw (fa fb : FE) : FE := fOp swD fa fb
def rSw : V -> List V -> Hp -> VK -> Prop := fun x ys H Q => ∃ a b, x = .str a /\ ys = [.str b] /\ Q (.bl (decide (0 + b.length <= a.length) && Builtin.Str.subAt a b 0)) H
theorem mt_sw {X : Cx} : MtR X "str.startswith" rSw := by
 intro pins s σ H x xs v us Q I rx rv h
 obtain ⟨a, b, rfl, rfl, q⟩ := h
 obtain ⟨t, rfl⟩ := rx
 obtain ⟨u, rfl, ru⟩ := vals1 rv
 obtain ⟨t', rfl⟩ := ru
 exact call_gives PySem.F.slot_str_startswith (typeIs_str _ _ _) PySem.F.entry_str_startswith (PySem.F.args_str_startswith_2 _ _) (gives_str_startswith a b t t') ⟨.bl _, H, I, rfl, q⟩
theorem rd_sw {fa fb} (h : rdE K (fSw fa fb) σ H Q) : tBM K "str" rSw (rdE K fa) (tCons (rdE K fb) tNil) σ H Q := by
 obtain ⟨ρ, μ, m, d, μ', hl, hs, e, k⟩ := h
 obtain ⟨⟨x, μ1⟩, e1, e⟩ := Option.bind_eq_some_iff.mp e
 obtain ⟨⟨y, μ2⟩, e2, e⟩ := Option.bind_eq_some_iff.mp e
 unfold swD at e
 split at e
 ·rename_i a b q1 q2
  simp only at q1 q2
  subst q1 q2
  cases e
  refine ⟨ρ, μ, m, _, μ1, hl, hs, e1, fun v H1 m1 x1 s1 r1 => ?_⟩
  simp only [RelR, RelD] at r1
  subst r1
  refine ⟨rfl, ρ, μ1, m1, _, _, hl.ext x1, s1, e2, fun u H2 m2 x2 s2 r2 => ?_⟩
  simp only [RelR, RelD] at r2
  subst r2
  exact ⟨a, b, rfl, rfl, k _ H2 m2 (x1.trans x2) s2 (by simp only [RelR, RelD])⟩
 ·cases e
noncomputable def fCh (g g' : R -> R -> Store -> Option (R × Store)) (fa fb fc : FE) : FE := fun ρ μ => (fa ρ μ).bind fun a => (fb ρ a.2).bind fun b => (g a.1 b.1 b.2).bind fun z => match z.1 with
 | .v (.bl k) => if k = true then (fc ρ z.2).bind fun c => g' b.1 c.1 c.2 else some (.v (.bl false), z.2)
 | _ => none
theorem rd_ch {g g' r r' fa fb fc} (hg : GOp K g r) (hg' : GOp K g' r') (h : rdE K (fCh g g' fa fb fc) σ H Q) : tChain r r' (rdE K fa) (rdE K fb) (rdE K fc) σ H Q := by
 obtain ⟨ρ, μ, m, d, μ', hl, hs, e, k⟩ := h
 obtain ⟨⟨x, μ1⟩, e1, e⟩ := Option.bind_eq_some_iff.mp e
 obtain ⟨⟨y, μ2⟩, e2, e⟩ := Option.bind_eq_some_iff.mp e
 obtain ⟨⟨z, μ3⟩, e3, e⟩ := Option.bind_eq_some_iff.mp e
 split at e
 ·rename_i b q
  simp only at q
  subst q
  refine ⟨ρ, μ, m, x, μ1, hl, hs, e1, fun v H1 m1 x1 s1 r1 => ?_⟩
  refine ⟨ρ, μ1, m1, y, μ2, hl.ext x1, s1, e2, fun u H2 m2 x2 s2 r2 => ?_⟩
  refine hg m2 H2 μ2 x y _ μ3 v u _ s2 (r1.ext x2) r2 e3 fun w H3 m3 x3 s3 r3 => ?_
  simp only [RelR, RelD] at r3
  refine ⟨b, r3, ?_⟩
  cases b with
  | true =>
   rw [if_pos rfl] at e ⊢
   obtain ⟨⟨c, μ4⟩, e4, e⟩ := Option.bind_eq_some_iff.mp e
   refine ⟨ρ, μ3, m3, c, μ4, hl.ext ((x1.trans x2).trans x3), s3, e4, fun w' H4 m4 x4 s4 r4 => ?_⟩
   exact hg' m4 H4 μ4 y c d μ' u w' Q s4 ((r2.ext x3).ext x4) r4 e fun w5 H5 m5 x5 s5 r5 => k w5 H5 m5 ((((x1.trans x2).trans x3).trans x4).trans x5) s5 r5
  | false =>
   rw [if_neg Bool.false_ne_true] at e ⊢
   cases e
   exact k _ H3 m3 ((x1.trans x2).trans x3) s3 (by simp only [RelR, RelD])
 ·cases e
end
end HW
namespace HW
open PySem PySem.Spec PyProof.Rows L2
theorem texts_vals : ∀ {its : List Value} {ts : List Str}, Vals (ts.map V.str) its -> ∃ l : List (Str × Tok), its = strValues l /\ l.map (·.1) = ts
 | its, [], r => by
  have := r.length
  cases its with
  | nil => exact ⟨[], rfl, rfl⟩
  | cons a b => simp at this
 | its, x :: ts, r => by
  cases r with
  | cons r1 r2 =>
   obtain ⟨l, e1, e2⟩ := texts_vals r2
   obtain ⟨t, rfl⟩ := r1
   exact ⟨(x, t) :: l, by rw [e1]; rfl, by rw [List.map_cons, e2]⟩
theorem vals_texts : ∀ (l : List (Str × Tok)), Vals ((l.map (·.1)).map V.str) (strValues l)
 | [] => .nil
 | (x, t) :: l => .cons ⟨t, rfl⟩ (vals_texts l)
def rJoin (K : PySem.W.Frag) : V -> List V -> Hp -> VK -> Prop := fun x ys H Q => ∃ a p ts, x = .str a /\ ys = [.ref p] /\ SqL K H p (ts.map V.str) /\ JoinOk a ts = true /\ Q (.str (Txt.join a ts)) H
theorem mt_join {X : Cx} : MtR X "str.join" (rJoin X.K) := by
 intro pins s σ H x xs v us Q I rx rv h
 obtain ⟨a, p, ts, rfl, rfl, hq, hok, q⟩ := h
 obtain ⟨t, rfl⟩ := rx
 obtain ⟨u, rfl, ru⟩ := vals1 rv
 cases ru
 obtain ⟨its, r', pl, hz⟩ := I.list hq
 obtain ⟨l, rfl, e2⟩ := texts_vals r'
 exact SC.join pl.isList e2 hok fun t' k => ⟨.str _, H, I.tok k, ⟨_, rfl⟩, q⟩
def rSplit : V -> List V -> Hp -> VK -> Prop := fun x ys H Q => ∃ a b, x = .str a /\ ys = [.str b] /\ (b.length == 0) = false /\ a.length < 1000000 /\ ∀ p, H p = none -> Q (.ref p) (upd H p (.lst ((Txt.split a b).map V.str)))
theorem parts_few (a b : Str) (hb : (b.length == 0) = false) : (Builtin.Str.partsBetween a (Builtin.Str.occurrences a b 0 a.length (a.length + 1)) b.length).length <= a.length + 2 := by
 have := PySem.StrLaws.occ_length_le a b 0 a.length (a.length + 1)
 have e : ∀ cuts : List Nat, (Builtin.Str.partsBetween a cuts b.length).length = cuts.length + 1 := fun cuts => by simp [Builtin.Str.partsBetween]
 rw [e]
 omega
theorem split_few (a b : Str) (hb : (b.length == 0) = false) : (Txt.split a b).length <= a.length + 2 := by
 unfold Txt.split
 split
 ·simp
 ·split
  ·simp
  ·exact parts_few a b hb
theorem mt_split {X : Cx} : MtR X "str.split" rSplit := by
 intro pins s σ H x xs v us Q I rx rv h
 obtain ⟨a, b, rfl, rfl, hb, hz, q⟩ := h
 obtain ⟨t, rfl⟩ := rx
 obtain ⟨u, rfl, ru⟩ := vals1 rv
 obtain ⟨t', rfl⟩ := ru
 have h4 : (1000000 + 2 : Nat) <= sizeLine := by decide
 have hp := parts_few a b hb
 have hs := split_few a b hb
 cases h1 : (decide (a.length < b.length) || decide (Builtin.Str.strKind a < Builtin.Str.strKind b))
 ·cases hf : (Builtin.Str.occurrences a b 0 a.length (a.length + 1)).isEmpty
  ·refine call_meets PySem.F.slot_str_split (typeIs_str _ _ _) PySem.F.entry_str_split (PySem.F.args_str_split_2 _ _) (meets_str_split_sep a b t t' h1 hb hf (by omega) (by omega)) ?_
   have e : Txt.split a b = Builtin.Str.partsBetween a (Builtin.Str.occurrences a b 0 a.length (a.length + 1)) b.length := by
    unfold Txt.split; rw [h1, hf]; rfl
   rw [e] at q hs
   rw [strsFrom_eq]
   have hv := vals_texts (numbered s.toks (Builtin.Str.partsBetween a (Builtin.Str.occurrences a b 0 a.length (a.length + 1)) b.length))
   rw [numbered_texts] at hv
   exact ⟨.ref s.heap.objs.size, _, I.lnew hv (by rw [List.length_map]; omega), rfl, q _ I.fresh⟩
  ·have e : Txt.split a b = [a] := by unfold Txt.split; rw [h1, hf]; rfl
   rw [e] at q
   exact call_meets PySem.F.slot_str_split (typeIs_str _ _ _) PySem.F.entry_str_split (PySem.F.args_str_split_2 _ _) (meets_str_split_not_found a b t t' h1 hb hf)
    ⟨.ref s.heap.objs.size, _, I.lnew (its := [.str a t]) (t' := s.toks) (vals_texts [(a, t)]) (show 1 <= sizeLine by decide), rfl, q _ I.fresh⟩
 ·have e : Txt.split a b = [a] := by unfold Txt.split; rw [h1]; rfl
  rw [e] at q
  exact call_meets PySem.F.slot_str_split (typeIs_str _ _ _) PySem.F.entry_str_split (PySem.F.args_str_split_2 _ _) (meets_str_split_cannot_occur a b t t' h1)
   ⟨.ref s.heap.objs.size, _, I.lnew (its := [.str a t]) (t' := s.toks) (vals_texts [(a, t)]) (show 1 <= sizeLine by decide), rfl, q _ I.fresh⟩
structure GSm (K : PySem.W.Frag) (g : R -> R -> Store -> Option (R × Store)) (r : V -> List V -> Hp -> VK -> Prop) : Prop where
 str : ∀ {x y μ z}, g x y μ = some z -> ∃ a, x = .v (.str a)
 go : ∀ {m H μ x y d μ' v u} {Q : VK}, SRel K m H μ -> RelR K m H x v -> RelR K m H y u -> g x y μ = some (d, μ') -> (∀ w H' m', Ext m H m' H' -> SRel K m' H' μ' -> RelR K m' H' d w -> Q w H') -> r v [u] H Q
section
variable {K : PySem.W.Frag} {σ : L2.St} {H : Hp} {Q : VK}
theorem rd_bmS {g r fa fb} (hg : GSm K g r) (h : rdE K (fOp g fa fb) σ H Q) : tBM K "str" r (rdE K fa) (tCons (rdE K fb) tNil) σ H Q := by
 obtain ⟨ρ, μ, m, d, μ', hl, hs, e, k⟩ := h
 obtain ⟨⟨x, μ1⟩, e1, e⟩ := Option.bind_eq_some_iff.mp e
 obtain ⟨⟨y, μ2⟩, e2, e⟩ := Option.bind_eq_some_iff.mp e
 obtain ⟨a, hx⟩ := hg.str e
 simp only at hx
 subst hx
 refine ⟨ρ, μ, m, _, μ1, hl, hs, e1, fun v H1 m1 x1 s1 r1 => ?_⟩
 have r1' := r1
 simp only [RelR, RelD] at r1'
 subst r1'
 refine ⟨rfl, ρ, μ1, m1, _, _, hl.ext x1, s1, e2, fun u H2 m2 x2 s2 r2 => ?_⟩
 exact hg.go s2 (r1.ext x2) r2 e fun w H3 m3 x3 s3 r3 => k w H3 m3 ((x1.trans x2).trans x3) s3 r3
noncomputable def textsD : List D -> Option (List Str)
 | [] => some []
 | .str x :: r => (textsD r).bind fun l => some (x :: l)
 | _ => none
theorem texts_rel : ∀ {ds : List D} {ts : List Str} {vs : List V}, textsD ds = some ts -> RelDs K H ds vs -> vs = ts.map V.str
 | [], ts, vs, e, r => by
  cases e
  simp only [RelDs] at r
  exact r
 | d :: ds, ts, vs, e, r => by
  cases d with
  | str x =>
   obtain ⟨l, e1, e2⟩ := Option.bind_eq_some_iff.mp e
   cases e2
   simp only [RelDs] at r
   obtain ⟨v, r', rfl, h1, h2⟩ := r
   simp only [RelD] at h1
   rw [h1, texts_rel e1 h2]
   rfl
  | non => cases e
  | bl _ => cases e
  | int _ => cases e
  | tup _ => cases e
  | fl _ => cases e
  | fd _ _ => cases e
  | key _ => cases e
noncomputable def joinD : R -> R -> Store -> Option (R × Store)
 | .v (.str a), y, μ => (lstD y μ).bind fun ds => (textsD ds).bind fun ts => if JoinOk a ts = true then some (.v (.str (Txt.join a ts)), μ) else none
 | _, _, _ => none
theorem g_join : GSm K joinD (rJoin K) where
 str := fun {x y μ z} e => by
  unfold joinD at e
  split at e
  ·exact ⟨_, rfl⟩
  ·cases e
 go := fun {m H μ x y d μ' v u Q} s rx ry e k => by
  unfold joinD at e
  split at e
  ·rename_i a
   obtain ⟨ds, e1, e⟩ := Option.bind_eq_some_iff.mp e
   obtain ⟨ts, e2, e⟩ := Option.bind_eq_some_iff.mp e
   split at e
   ·rename_i hok
    cases e
    simp only [RelR, RelD] at rx
    subst rx
    obtain ⟨p, vs, rfl, q, rr⟩ := lst_ok s ry e1
    rw [texts_rel e2 rr] at q
    exact ⟨a, p, ts, rfl, rfl, q, hok, k _ H m .refl s (by simp only [RelR, RelD])⟩
   ·cases e
  ·cases e
noncomputable def splD : R -> R -> Store -> Option (R × Store)
 | .v (.str a), .v (.str b), μ => if (b.length == 0) = false /\ a.length < 1000000 then some (.p μ.length, μ ++ [.lst ((Txt.split a b).map D.str)]) else none
 | _, _, _ => none
theorem rel_texts : ∀ {ts : List Str}, RelDs K H (ts.map D.str) (ts.map V.str)
 | [] => by simp only [List.map_nil, RelDs]
 | t :: ts => by simp only [List.map_cons, RelDs]; exact ⟨_, _, rfl, by simp only [RelD], rel_texts⟩
theorem g_spl : GSm K splD rSplit where
 str := fun {x y μ z} e => by
  unfold splD at e
  split at e
  ·exact ⟨_, rfl⟩
  ·cases e
 go := fun {m H μ x y d μ' v u Q} s rx ry e k => by
  unfold splD at e
  split at e
  ·rename_i a b
   split at e
   ·rename_i hc
    cases e
    simp only [RelR, RelD] at rx ry
    subst rx ry
    refine ⟨a, b, rfl, rfl, hc.1, hc.2, fun p hp => ?_⟩
    obtain ⟨x1, x2, x3⟩ := new_lst s (rel_texts (K := K) (H := H) (ts := Txt.split a b)) hp
    exact k _ _ _ x1 x2 x3
   ·cases e
  ·cases e
noncomputable def inW (neg : Bool) : R -> R -> Store -> Option (R × Store)
 | .v (.str a), y, μ => (itemsD y μ).bind fun ds => (textsD ds).bind fun ts => some (.v (.bl (if neg then !(ts.any (· == a)) else ts.any (· == a))), μ)
 | _, _, _ => none
theorem inV_texts {a : Str} : ∀ {ts : List Str}, inV (.str a) (ts.map V.str) = ts.any (· == a)
 | [] => rfl
 | t :: ts => by
  have ih := inV_texts (a := a) (ts := ts)
  unfold inV at ih ⊢
  rw [List.map_cons, List.any_cons, ih, List.any_cons]
  rfl
theorem flat_texts : ∀ {ts : List Str}, (ts.map V.str).all flatV = true
 | [] => rfl
 | t :: ts => by rw [List.map_cons, List.all_cons, flat_texts]; rfl
theorem g_inW {neg : Bool} : GOp K (inW neg) (rIn K neg) := by
 intro m H μ x y d μ' v u Q s rx ry e k
 unfold inW at e
 split at e
 ·obtain ⟨ds, e0, e⟩ := Option.bind_eq_some_iff.mp e
  obtain ⟨ts, e1, e⟩ := Option.bind_eq_some_iff.mp e
  cases e
  simp only [RelR, RelD] at rx
  subst rx
  obtain ⟨a, ws, rfl, q, rr⟩ := items_ok s ry e0
  rw [texts_rel e1 rr] at q
  refine ⟨a, ts.map V.str, rfl, q, rfl, flat_texts, k _ H m .refl s ?_⟩
  simp only [RelR, RelD, inV_texts]
 ·cases e
end
end HW
namespace HS
open PySem PyProof.Rows
def Srt (xs : Array Keyed) (lo hi : Nat) : Prop := ∀ i j, lo <= i -> i <= j -> j < hi -> K xs i <= K xs j
def Out (lo hi : Nat) (xs ys : Array Keyed) : Prop := ∀ k, ¬ (lo <= k /\ k < hi) -> ys[k]? = xs[k]?
structure SB (a₀ : Array Keyed) (st : SortSt) : Prop where
 perm : (arrOf st).Perm a₀
 kind : kindOf st = oneType'
 ok : failedOf st = none
structure Stp (a₀ : Array Keyed) (lo hi : Nat) (st st' : SortSt) : Prop where
 b : SB a₀ st'
 pend : pendingOf st' = pendingOf st
 out : Out lo hi (arrOf st) (arrOf st')
section
variable {prog : Program} {w : World} {A : Around} {E : Value -> Shared -> Prop} {s : Shared} {a₀ : Array Keyed}
end
end HS
namespace HS
open PySem PyProof.Rows
section
variable {prog : Program} {w : World} {A : Around} {E : Value -> Shared -> Prop} {s : Shared} {a₀ : Array Keyed}
theorem lt2 {st : SortSt} {a b : Int} {t u : Tok} {p q : Value} {Q : Option Bool -> SortSt -> Prop} (hk : kindOf st = oneType') (h : Q (some (decide (a < b))) st) : wpS (model prog w) A E s (lt' (.int a t, p) (.int b u, q)) Q st := by
 rw [lt'_eq]
 refine wpS_bind (wpS_get ?_)
 rw [hk, keyLt'_oneType]
 exact wpS_bind (wpS_lift (wpAny_attempt (oneLt_int ⟨rfl, wpS_pure h⟩)))
def IK (xs : Array Keyed) : Prop := ∀ i, i < xs.size -> ∃ t q, xs[i]? = some (.int (K xs i) t, q)
end
end HS
namespace HS
open PySem PyProof.Rows
noncomputable def kk (p : Keyed) : Int := numOf p.1
def Le (x y : Keyed) : Prop := kk x <= kk y
structure Mg (A B O : List Keyed) (ia ib : Nat) : Prop where
 perm : (O ++ A.drop ia ++ B.drop ib).Perm (A ++ B)
 srt : O.Pairwise Le
 toA : ∀ x ∈ O, ∀ y ∈ A.drop ia, Le x y
 toB : ∀ x ∈ O, ∀ y ∈ B.drop ib, Le x y
 len : O.length = ia + ib
structure SameG (st st' : SortSt) : Prop where
 kind : kindOf st' = kindOf st
 arr : arrOf st' = arrOf st
 pend : pendingOf st' = pendingOf st
 ok : failedOf st' = failedOf st
end HS
namespace HS
open PySem PyProof.Rows
section
variable {prog : Program} {w : World} {A : Around} {E : Value -> Shared -> Prop} {s : Shared} {a₀ : Array Keyed}
structure Pre (a b : Array Keyed) : Prop where
 ka : IK a
 kb : IK b
 sa : Srt a 0 a.size
 sb : Srt b 0 b.size
 na : 0 < a.size
 nb : 0 < b.size
end
end HS
namespace HS
open PySem PyProof.Rows
structure Mh (A B O : List Keyed) (na nb : Nat) : Prop where
 perm : (A.take na ++ B.take nb ++ O).Perm (A ++ B)
 srt : O.Pairwise Le
 toA : ∀ x ∈ A.take na, ∀ y ∈ O, Le x y
 toB : ∀ x ∈ B.take nb, ∀ y ∈ O, Le x y
section
variable {prog : Program} {w : World} {A : Around} {E : Value -> Shared -> Prop} {s : Shared} {a₀ : Array Keyed}
end
end HS
namespace HS
open PySem PyProof.Rows
section
variable {prog : Program} {w : World} {A : Around} {E : Value -> Shared -> Prop} {s : Shared} {a₀ : Array Keyed}
end
end HS
namespace HS
open PySem PyProof.Rows
def Runs (xs : Array Keyed) : List (Nat × Nat × Nat) -> Nat -> Nat -> Prop
 | [], b, e => b = e
 | (a, n, _) :: r, b, e => a = b /\ 0 < n /\ Srt xs a (a + n) /\ Runs xs r (b + n) e
section
variable {prog : Program} {w : World} {A : Around} {E : Value -> Shared -> Prop} {s : Shared} {a₀ : Array Keyed}
end
end HS
namespace HS
open PySem PySem.Spec PyProof.Rows L2
section
variable {prog : Program} {w : World} {A : Around} {E : Value -> Shared -> Prop} {s : Shared}
end
end HS
namespace HW
open PySem PySem.Spec PyProof.Rows L2 HS
end HW
namespace HS
open PySem PySem.Spec PyProof.Rows
section
variable {prog : Program} {w : World} {A : Around} {E : Value -> Shared -> Prop} {s : Shared}
end
end HS
namespace HW
open PySem PySem.Spec PyProof.Rows L2 HS
end HW
namespace HW
open PySem PySem.Spec PyProof.Rows L2
section
variable {K : PySem.W.Frag} {m m' : List Addr} {H H' : Hp}
end
section
variable {K : PySem.W.Frag} {m : List Addr}
end
section
variable {K : PySem.W.Frag} {σ : L2.St} {H : Hp} {Q : VK}
end
end HW
namespace HT2
open PySem PySem.W PyProof.Rows
section
variable {r : Nat -> Int} {n : Nat} {s : Shared} {cmp : Nat -> Nat -> (Bool -> Shared -> Prop) -> Shared -> Prop}
noncomputable abbrev key (r : Nat -> Int) (p : Array Nat) (k : Nat) : Int := r (p.getD k 0)
structure Pm (n : Nat) (p : Array Nat) : Prop where
 pm : p.toList.Perm (List.range n)
structure Rk (r : Nat -> Int) (n : Nat) (s : Shared) (cmp : Nat -> Nat -> (Bool -> Shared -> Prop) -> Shared -> Prop) : Prop where
 inj : ∀ i j, i < n -> j < n -> r i = r j -> i = j
 ask : ∀ i j, i < n -> j < n -> ∀ C : Bool -> Shared -> Prop, C (decide (r i < r j)) s -> cmp i j C s
end
end HT2
namespace HT2
open PySem PySem.W PyProof.Rows
section
variable {prog : Program} {w : World} {A : Around} {E : Value -> Shared -> Prop} {s : Shared}
end
end HT2
namespace HK
open PySem PySem.Spec PyProof.Rows L2
section
variable {prog : Program} {w : World} {A : Around} {E : Value -> Shared -> Prop} {s : Shared} {d it : Addr} {es : Array DictEntry} {ep i : Nat}
noncomputable def nv : String -> Builtin := (show {f : String -> Builtin // f "dict_keyiterator.__next__" = Builtin.«dict_keyiterator.__next__»} from ⟨_, rfl⟩).1
def WK (prog : Program) (w : World) (T id : String) (b : Nat) : Prop := Slot T (Str.ofString "__next__") id /\ entryFor table id = some (nv id) /\ (∀ a, argsOk id { pos := [a] }) /\ (if Builtin.Dict_items.ownsTuple T = true then 2 else 0) = b /\
 ∀ (A : Around) (E : Value -> Shared -> Prop) (s : Shared) (it : Addr), s.TypeIs (.ref it) T -> (∀ (Q : String -> Shared -> Prop), Q T s -> wpAny (model prog w) A (typeNameOfWhole (.ref it)) Q E s) /\
 ∀ (l : List String) (Q : Bool -> Shared -> Prop), Q (l.any fun t => [Value.type T, .type "object"].contains (.type t)) s -> wpAny (model prog w) A (Builtin.Dict_items.isOneOf (.ref it) l) Q E s
end
end HK
namespace HK
open PySem PySem.Spec PyProof.Rows L2 HT2
section
variable {prog : Program} {w : World} {A : Around} {E : Value -> Shared -> Prop} {s : Shared}
end
end HK
namespace HW
open PySem PySem.Spec PyProof.Rows L2 HS HT2 HK
noncomputable abbrev kk (k : List Int) : List Key := k.map Sum.inl
end HW
namespace HW
open PySem PySem.Spec PyProof.Rows L2 HS HT2 HK
theorem isL_of {X : Cx} {pins : List (Addr × Obj)} {σ : L2.St} {H : Hp} {s : Shared} (I : Inv X pins σ H s) {b : Addr} {zs : List V} (h : SqL X.K H b zs) : ∃ (its : List Value) (n : Nat), Vals zs its /\ s.heap.get? b = some { cls := .type "list", data := .seq its.toArray n } := by
 rcases h with h | ⟨o, its, n, hk, hc, hd, hs, hz, r⟩
 ·obtain ⟨z, its, n, r, e⟩ := h.ok I.hok
  exact ⟨its, n, r, e⟩
 ·refine ⟨its.toList, n, r, ?_⟩
  have e := I.kIn b o hk
  obtain ⟨c, d, dt, sl⟩ := o
  simp only at hc hd hs
  obtain ⟨hd, hl⟩ := hd
  subst hc hd hs hl
  simpa using e
noncomputable def rCatF (K : PySem.W.Frag) : R2 := fun x y H Q => ∃ l b xs zs, x = .ref l /\ y = .ref b /\ SqL K H l xs /\ SqL K H b zs /\ xs.length + zs.length <= sizeLine /\ ∀ p, H p = none -> Q (.ref p) (upd H p (.lst (xs ++ zs)))
theorem op_catF {X : Cx} : OpR X (binaryOp .Add) (rCatF X.K) := by
 intro pins s σ H x y v u Q I rx ry h
 obtain ⟨l, b, xs, zs, rfl, rfl, hH, hB, hz, q⟩ := h
 cases rx
 cases ry
 obtain ⟨its, n, r, e⟩ := isL_of I hH
 obtain ⟨its2, n2, r2, e2⟩ := isL_of I hB
 have l1 := r.length
 have l2 := r2.length
 refine PySem.P.add_list e e2 ?_ (by rw [List.size_toArray, List.size_toArray]; omega)
 rw [show its.toArray ++ its2.toArray = (its ++ its2).toArray by simp]
 exact ⟨.ref _, _, I.lnew (t' := s.toks) (r.append r2) (by rw [List.length_append]; omega), rfl, q _ I.fresh⟩
noncomputable def seqL : R -> Store -> Option (List D)
 | .p a, μ => (match μ[a]? with | some (.lst xs) => some xs | some (.fz xs) => some xs | _ => none)
 | .v (.fl xs), _ => some xs
 | _, _ => none
theorem seqL_ok {K : PySem.W.Frag} {m : List Addr} {H : Hp} {μ : Store} (s : SRel K m H μ) {x : R} {v : V} {xs : List D} (e : seqL x μ = some xs) (r : RelR K m H x v) : ∃ a vs, v = .ref a /\ SqL K H a vs /\ RelDs K H xs vs := by
 refine lst_ok s r ?_
 rw [← e]
 cases x with
 | v d => cases d <;> rfl
 | _ => rfl
noncomputable def addF (x y : R) (μ : Store) : Option (R × Store) := (seqL x μ).bind fun xs => (seqL y μ).bind fun ys => if xs.length + ys.length <= sizeLine then some (.p μ.length, μ ++ [.lst (xs ++ ys)]) else none
theorem g_addF {K : PySem.W.Frag} : GOp K addF (rCatF K) := by
 intro m H μ x y d μ' v u Q s rx ry e k
 unfold addF at e
 obtain ⟨xs, e1, e⟩ := Option.bind_eq_some_iff.mp e
 obtain ⟨ys, e2, e⟩ := Option.bind_eq_some_iff.mp e
 split at e
 ·rename_i hz
  cases e
  obtain ⟨b, vs, rfl, ea, r1⟩ := seqL_ok s e1 rx
  obtain ⟨c, ws, rfl, f, r2⟩ := seqL_ok s e2 ry
  refine ⟨b, c, vs, ws, rfl, rfl, ea, f, by rw [← r1.length, ← r2.length]; exact hz, fun p hp => ?_⟩
  obtain ⟨x1, x2, x3⟩ := new_lst s (r1.append r2) hp
  exact k _ _ _ x1 x2 x3
 ·cases e
end HW
namespace PySem
section
variable {prog : Program} {w : World} {K : Type} [DecidableEq K] {knd : HeapKind prog w K} {A : Around} {E : Value -> Shared -> Prop} {s : Shared}
end
end PySem
namespace HW
open PySem PySem.Spec PyProof.Rows L2
section
variable {K : PySem.W.Frag} {m m' : List Addr} {H H' : Hp}
end
end HW
namespace HW
open PySem PySem.Spec PyProof.Rows L2
section
variable {K : PySem.W.Frag} {H : Hp}
end
end HW
namespace L2
open PySem PySem.Spec PyProof.Rows
end L2
namespace HW
open PySem PySem.Spec PyProof.Rows L2
end HW
namespace HW
open PySem
def SqI (b : Bool) (h : Heap) (it l : Addr) (k : Nat) (xs : Array Value) : Prop := match b with
 | false => h.IsListIter it l k /\ h.IsList l xs
 | true => h.IsTupleIter it l k /\ h.IsTuple l xs
section
variable {prog : Program} {w : World} {A : Around} {E : Value -> Shared -> Prop} {s : Shared} {b : Bool} {it l : Addr} {k : Nat} {xs : Array Value}
theorem SqI.at {h h' : Heap} (Z : SqI b h it l k xs) (f : ∀ o, h.get? it = some o -> h'.get? it = some o) (g : ∀ o, h.get? l = some o -> h'.get? l = some o) : SqI b h' it l k xs := by
 cases b with
 | false => exact ⟨Z.1.at f, Z.2.at g⟩
 | true =>
  obtain ⟨⟨o, e, r⟩, p, q, t⟩ := Z
  exact ⟨⟨o, f o e, r⟩, p, g p q, t⟩
theorem SqI.live {h : Heap} (Z : SqI b h it l k xs) : ∃ o, h.get? it = some o := by
 cases b with
 | false => obtain ⟨⟨o, e, _⟩, _⟩ := Z; exact ⟨o, e⟩
 | true => obtain ⟨⟨o, e, _⟩, _⟩ := Z; exact ⟨o, e⟩
theorem SqI.item {x : Value} {Q : Value -> Shared -> Prop} (Z : SqI b s.heap it l k xs) (hx : xs[k]? = some x) (hne : l ≠ it) (hQ : ∀ h', SqI b h' it l (k + 1) xs -> Heap.SameBut it s.heap h' -> Q x { s with heap := h' }) :
  wpAny (model prog w) A (Builtin.SmallTypes.nextOf (.ref it)) Q E s := by
 cases b with
 | false => exact wpAny_nextOf_list_item Z.1 Z.2 hx fun h' a c => hQ h' ⟨a, Z.2.extBut c.extBut hne⟩ c
 | true =>
  obtain ⟨⟨o, ho, hc, hd⟩, ol, hol, ht, nl, hdl⟩ := id Z
  have ty : s.TypeIs (.ref it) "tuple_iterator" := ⟨o, ho, hc⟩
  unfold Builtin.SmallTypes.nextOf
  refine wpAny_bind (wpAny_callSpecial?_slot (name := Str.ofString "__next__") ty F.slot_tuple_iterator_next (wpAny_call_entry F.slot_tuple_iterator_next ty F.entry_tuple_iterator_next ?_ (F.args_tuple_iterator_next_1 _)))
  refine (show wpAny _ _ (field (.ref it) 0 >>= _) _ _ s from wpAny_bind (wpAny_field ho hd (x := .ref l) rfl ?_))
  refine (show wpAny _ _ (if (Value.ref l == Value.none) = true then _ else _) _ _ s from ?_)
  rw [if_neg (by exact Bool.false_ne_true)]
  refine (show wpAny _ _ (field (.ref it) 1 >>= _) _ _ s from wpAny_bind (wpAny_field ho hd (x := .int k 0) rfl ?_))
  refine (show wpAny _ _ (seqItems? (.ref l) >>= _) _ _ s from wpAny_bind (wpAny_seqItems hol hdl ?_))
  simp only [Int.toNat_natCast, hx]
  refine wpAny_bind (wpAny_setField ho hd (by simp) (wpAny_pure ⟨x, rfl, ?_⟩))
  have c : Heap.SameBut it s.heap (s.heap.update it (Obj.mapFields (·.setIfInBounds 1 (rawInt ((k : Int) + 1))))) := Heap.SameBut.update ..
  refine wpAny_pure (hQ _ ⟨⟨_, Heap.get?_update_self _ ho (Obj.isFreed_of_fields (Obj.data_mapFields hd _)), (Obj.cls_mapFields ..).trans hc, ?_⟩, ol, c.extBut _ _ hne hol, ht, nl, hdl⟩ c)
  rw [Obj.data_mapFields hd]; simp [rawInt]
theorem SqI.done {Q : Value -> Shared -> Prop} (hh : A.handled = none) (Z : SqI b s.heap it l k xs) (hx : xs[k]? = none) (hE : ∀ h' e, Heap.ExtBut it s.heap h' -> (∃ o, h'.get? e = some o /\ o.cls = .type "StopIteration") -> E (.ref e) { s with heap := h' }) :
  wpAny (model prog w) A (Builtin.SmallTypes.nextOf (.ref it)) Q E s := by
 cases b with
 | false => exact wpAny_nextOf_list_end hh Z.1 Z.2 hx hE
 | true =>
  obtain ⟨⟨o, ho, hc, hd⟩, ol, hol, ht, nl, hdl⟩ := id Z
  have ty : s.TypeIs (.ref it) "tuple_iterator" := ⟨o, ho, hc⟩
  unfold Builtin.SmallTypes.nextOf
  refine wpAny_bind (wpAny_callSpecial?_slot (name := Str.ofString "__next__") ty F.slot_tuple_iterator_next (wpAny_call_entry F.slot_tuple_iterator_next ty F.entry_tuple_iterator_next ?_ (F.args_tuple_iterator_next_1 _)))
  refine (show wpAny _ _ (field (.ref it) 0 >>= _) _ _ s from wpAny_bind (wpAny_field ho hd (x := .ref l) rfl ?_))
  refine (show wpAny _ _ (if (Value.ref l == Value.none) = true then _ else _) _ _ s from ?_)
  rw [if_neg (by exact Bool.false_ne_true)]
  refine (show wpAny _ _ (field (.ref it) 1 >>= _) _ _ s from wpAny_bind (wpAny_field ho hd (x := .int k 0) rfl ?_))
  refine (show wpAny _ _ (seqItems? (.ref l) >>= _) _ _ s from wpAny_bind (wpAny_seqItems hol hdl ?_))
  simp only [Int.toNat_natCast, hx]
  refine wpAny_bind (wpAny_rule (wpAny_bind (wpAny_setField ho hd (by simp) ?_)))
  refine (show wpAny _ _ (newExc (.type "StopIteration") [] >>= _) _ _ _ from wpAny_bind ?_)
  simp only [newExc, newTuple]
  refine wpAny_bind (wpAny_newObj_type (wpAny_bind (m := firstArgMember _ _) (wpAny_of_eq (a := Value.none) (by first | rfl | (simp only [firstArgMember]; rfl)) (wpAny_newObj_type ?_ (by size_fits)))) (by size_fits))
  simp only [raiseNew]
  refine wpAny_bind (wpAny_handled ?_)
  rw [show A.in1.handled = none by exact hh]
  exact wpAny_bind (wpAny_pure (wpAny_throw (hE _ _ (((Heap.SameBut.update ..).extBut.push _).push _) ⟨_, Heap.get?_push_size _ rfl, rfl⟩)))
end
end HW
namespace HW
open PySem
abbrev IsZipH (h : Heap) (z TI TO T : Addr) (fl : Bool) : Prop :=
 h.get? z = some { cls := .type "zip", dict := none, data := .fields #[rawInt T, .bool fl, .bool false, .ref TI, .ref TO], slots := #[] }
section
variable {prog : Program} {w : World} {A : Around} {E : Value -> Shared -> Prop} {s : Shared}
theorem wpAny_alive {M : Model} {a : Addr} {Q : Option Obj -> Shared -> Prop} (h : Q (s.heap.get? a) s) : wpAny M A (loadIfAlive a) Q E s :=
 fun Γ p _ => by
  show Sem.wp M Γ (.loadIfAlive a .pure) _ _ p s
  rw [Sem.wp_loadIfAlive]
  exact (wpAny_pure (M := M) (A := A) (E := E) h) Γ p ‹_›
theorem zip_next_held {z TI TO T i1 i2 l1 l2 : Addr} {k1 k2 : Nat} {b1 b2 : Bool} {xs ys : Array Value} {x y : Value} {fl : Bool} {oT : Obj} {Q : Value -> Shared -> Prop} (D : ZipApart z TI TO i1 i2 l1 l2)
  (hz : IsZipH s.heap z TI TO T fl) (hT : s.heap.get? T = some oT) (hTI : IsPair s.heap TI (.ref i1) (.ref i2))
  (h1 : SqI b1 s.heap i1 l1 k1 xs) (h2 : SqI b2 s.heap i2 l2 k2 ys) (hx : xs[k1]? = some x) (hy : ys[k2]? = some y)
  (hQ : ∀ h', IsZipH h' z TI TO T true -> SqI b1 h' i1 l1 (k1 + 1) xs -> SqI b2 h' i2 l2 (k2 + 1) ys -> IsPair h' s.heap.objs.size x y -> h'.objs.size = s.heap.objs.size + 1 ->
   (∀ c o, c ≠ z -> c ≠ i1 -> c ≠ i2 -> s.heap.get? c = some o -> h'.get? c = some o) -> Q (.ref s.heap.objs.size) { s with heap := h' }) :
  wpAny (model prog w) A (Builtin.«zip.__next__» ⟨[.ref z], []⟩) (fun fin s' => ∃ v, fin = .done (.ret v) /\ Q v s') E s := by
 show wpAny _ _ (field (.ref z) 2 >>= _) _ _ _
 refine wpAny_bind (wpAny_field hz rfl (x := .bool false) rfl ?_)
 show wpAny _ _ (field (.ref z) 3 >>= _) _ _ _
 refine wpAny_bind (wpAny_field hz rfl (x := .ref TI) rfl ?_)
 refine wpAny_bind (wpAny_seqItems hTI rfl ?_)
 show wpAny _ _ (Builtin.SmallTypes.ownedTupleIsFree (.ref z) >>= _) _ _ _
 refine wpAny_bind ?_
 unfold Builtin.SmallTypes.ownedTupleIsFree
 refine wpAny_bind (wpAny_field hz rfl (x := rawInt T) rfl ?_)
 show wpAny _ _ (loadIfAlive (Int.toNat (T : Int)) >>= _) _ _ _
 refine wpAny_bind (wpAny_alive ?_)
 rw [Int.toNat_natCast, hT]
 simp only [Option.isNone_some, Bool.false_eq_true, if_false]
 refine wpAny_bind (wpAny_field hz rfl (x := .bool fl) rfl ?_)
 cases fl with
 | false =>
  show wpAny _ _ (setField (.ref z) 1 (.bool true) >>= fun _ => pure false) _ _ _
  refine wpAny_bind (wpAny_setField_rec hz (by simp) fun h₁ hz₁ hs₁ => wpAny_pure ?_)
  replace hz₁ : IsZipH h₁ z TI TO T true := hz₁
  simp only [Bool.false_eq_true, if_false]
  rw [← Array.forIn_toList]
  simp only [List.forIn_cons, List.forIn_nil]
  refine wpAny_bind (wpAny_bind (wpAny_bind (wpAny_holding ?_)))
  show wpAny _ _ (Builtin.SmallTypes.nextOf (.ref i1) >>= _) _ _ _
  refine wpAny_bind ((h1.at (fun o e => hs₁.extBut _ _ D.i1z e) fun o e => hs₁.extBut _ _ D.l1z e).item hx D.l1i1 fun h₂ h1₂ hs₂ => wpAny_pure ?_)
  refine wpAny_pure ?_
  refine wpAny_bind (wpAny_bind (wpAny_holding ?_))
  show wpAny _ _ (Builtin.SmallTypes.nextOf (.ref i2) >>= _) _ _ _
  refine wpAny_bind ((h2.at (fun o e => hs₂.extBut _ _ D.i12.symm (hs₁.extBut _ _ D.i2z e)) fun o e => hs₂.extBut _ _ D.l2i1 (hs₁.extBut _ _ D.l2z e)).item hy D.l2i2 fun h₃ h2₃ hs₃ => wpAny_pure ?_)
  refine wpAny_pure (wpAny_pure ?_)
  refine wpAny_bind (wpAny_newTuple ?_ (show 2 <= sizeLine by decide))
  have hsz : h₃.objs.size = s.heap.objs.size := by rw [hs₃.1, hs₂.1, hs₁.1]
  have hz₃ : IsZipH h₃ z TI TO T true := hs₃.extBut _ _ D.i2z.symm (hs₂.extBut _ _ D.i1z.symm hz₁)
  have h1₃ : SqI b1 h₃ i1 l1 (k1 + 1) xs := h1₂.at (fun o e => hs₃.extBut _ _ D.i12 e) fun o e => hs₃.extBut _ _ D.l1i2 e
  have pz : IsPair (h₃.push { cls := .type "tuple", data := .seq #[x, y] }) h₃.objs.size x y := Heap.get?_push_size _ rfl
  refine wpAny_pure ⟨_, rfl, ?_⟩
  show Q (.ref h₃.objs.size) _
  rw [hsz] at pz ⊢
  exact hQ _ (Heap.get?_push_of_some _ hz₃) (h1₃.at (fun o e => Heap.get?_push_of_some _ e) fun o e => Heap.get?_push_of_some _ e) (h2₃.at (fun o e => Heap.get?_push_of_some _ e) fun o e => Heap.get?_push_of_some _ e) pz (by rw [Heap.size_push, hsz]) fun c o c1 c2 c3 e => Heap.get?_push_of_some _ (hs₃.extBut _ _ c3 (hs₂.extBut _ _ c2 (hs₁.extBut _ _ c1 e)))
 | true =>
  have hz₁ : IsZipH s.heap z TI TO T true := hz
  have hs₁ : Heap.SameBut z s.heap s.heap := ⟨rfl, fun _ _ => rfl⟩
  show wpAny _ _ (pure false) _ _ _
  refine wpAny_pure ?_
  simp only [Bool.false_eq_true, if_false]
  rw [← Array.forIn_toList]
  simp only [List.forIn_cons, List.forIn_nil]
  refine wpAny_bind (wpAny_bind (wpAny_bind (wpAny_holding ?_)))
  show wpAny _ _ (Builtin.SmallTypes.nextOf (.ref i1) >>= _) _ _ _
  refine wpAny_bind ((h1.at (fun o e => hs₁.extBut _ _ D.i1z e) fun o e => hs₁.extBut _ _ D.l1z e).item hx D.l1i1 fun h₂ h1₂ hs₂ => wpAny_pure ?_)
  refine wpAny_pure ?_
  refine wpAny_bind (wpAny_bind (wpAny_holding ?_))
  show wpAny _ _ (Builtin.SmallTypes.nextOf (.ref i2) >>= _) _ _ _
  refine wpAny_bind ((h2.at (fun o e => hs₂.extBut _ _ D.i12.symm (hs₁.extBut _ _ D.i2z e)) fun o e => hs₂.extBut _ _ D.l2i1 (hs₁.extBut _ _ D.l2z e)).item hy D.l2i2 fun h₃ h2₃ hs₃ => wpAny_pure ?_)
  refine wpAny_pure (wpAny_pure ?_)
  refine wpAny_bind (wpAny_newTuple ?_ (show 2 <= sizeLine by decide))
  have hsz : h₃.objs.size = s.heap.objs.size := by rw [hs₃.1, hs₂.1, hs₁.1]
  have hz₃ : IsZipH h₃ z TI TO T true := hs₃.extBut _ _ D.i2z.symm (hs₂.extBut _ _ D.i1z.symm hz₁)
  have h1₃ : SqI b1 h₃ i1 l1 (k1 + 1) xs := h1₂.at (fun o e => hs₃.extBut _ _ D.i12 e) fun o e => hs₃.extBut _ _ D.l1i2 e
  have pz : IsPair (h₃.push { cls := .type "tuple", data := .seq #[x, y] }) h₃.objs.size x y := Heap.get?_push_size _ rfl
  refine wpAny_pure ⟨_, rfl, ?_⟩
  show Q (.ref h₃.objs.size) _
  rw [hsz] at pz ⊢
  exact hQ _ (Heap.get?_push_of_some _ hz₃) (h1₃.at (fun o e => Heap.get?_push_of_some _ e) fun o e => Heap.get?_push_of_some _ e) (h2₃.at (fun o e => Heap.get?_push_of_some _ e) fun o e => Heap.get?_push_of_some _ e) pz (by rw [Heap.size_push, hsz]) fun c o c1 c2 c3 e => Heap.get?_push_of_some _ (hs₃.extBut _ _ c3 (hs₂.extBut _ _ c2 (hs₁.extBut _ _ c1 e)))
theorem zip_held_end {z TI TO T i1 i2 l1 l2 : Addr} {k1 : Nat} {b1 : Bool} {xs : Array Value} {fl : Bool} {oT : Obj} {Q : Fin -> Shared -> Prop} (hh : A.handled = none) (D : ZipApart z TI TO i1 i2 l1 l2)
  (hz : IsZipH s.heap z TI TO T fl) (hT : s.heap.get? T = some oT) (hTI : IsPair s.heap TI (.ref i1) (.ref i2))
  (h1 : SqI b1 s.heap i1 l1 k1 xs) (hx : xs[k1]? = none)
  (hE : ∀ h' e, (∀ c o, c ≠ z -> c ≠ i1 -> s.heap.get? c = some o -> h'.get? c = some o) -> (∃ o, h'.get? e = some o /\ o.cls = .type "StopIteration") -> E (.ref e) { s with heap := h' }) :
  wpAny (model prog w) A (Builtin.«zip.__next__» ⟨[.ref z], []⟩) Q E s := by
 show wpAny _ _ (field (.ref z) 2 >>= _) _ _ _
 refine wpAny_bind (wpAny_field hz rfl (x := .bool false) rfl ?_)
 show wpAny _ _ (field (.ref z) 3 >>= _) _ _ _
 refine wpAny_bind (wpAny_field hz rfl (x := .ref TI) rfl ?_)
 refine wpAny_bind (wpAny_seqItems hTI rfl ?_)
 show wpAny _ _ (Builtin.SmallTypes.ownedTupleIsFree (.ref z) >>= _) _ _ _
 refine wpAny_bind ?_
 unfold Builtin.SmallTypes.ownedTupleIsFree
 refine wpAny_bind (wpAny_field hz rfl (x := rawInt T) rfl ?_)
 show wpAny _ _ (loadIfAlive (Int.toNat (T : Int)) >>= _) _ _ _
 refine wpAny_bind (wpAny_alive ?_)
 rw [Int.toNat_natCast, hT]
 simp only [Option.isNone_some, Bool.false_eq_true, if_false]
 refine wpAny_bind (wpAny_field hz rfl (x := .bool fl) rfl ?_)
 cases fl with
 | false =>
  show wpAny _ _ (setField (.ref z) 1 (.bool true) >>= fun _ => pure false) _ _ _
  refine wpAny_bind (wpAny_setField_rec hz (by simp) fun h₁ hz₁ hs₁ => wpAny_pure ?_)
  simp only [Bool.false_eq_true, if_false]
  rw [← Array.forIn_toList]
  simp only [List.forIn_cons, List.forIn_nil]
  refine wpAny_bind (wpAny_bind (wpAny_bind (wpAny_holding ?_)))
  show wpAny _ _ (Builtin.SmallTypes.nextOf (.ref i1) >>= _) _ _ _
  exact wpAny_bind (SqI.done hh (h1.at (fun o e => hs₁.extBut _ _ D.i1z e) fun o e => hs₁.extBut _ _ D.l1z e) hx fun h₂ e hs₂ he => hE h₂ e (fun c o c1 c3 q => hs₂ _ _ c3 (hs₁.extBut _ _ c1 q)) he)
 | true =>
  have hs₁ : Heap.SameBut z s.heap s.heap := ⟨rfl, fun _ _ => rfl⟩
  show wpAny _ _ (pure false) _ _ _
  refine wpAny_pure ?_
  simp only [Bool.false_eq_true, if_false]
  rw [← Array.forIn_toList]
  simp only [List.forIn_cons, List.forIn_nil]
  refine wpAny_bind (wpAny_bind (wpAny_bind (wpAny_holding ?_)))
  show wpAny _ _ (Builtin.SmallTypes.nextOf (.ref i1) >>= _) _ _ _
  exact wpAny_bind (SqI.done hh (h1.at (fun o e => hs₁.extBut _ _ D.i1z e) fun o e => hs₁.extBut _ _ D.l1z e) hx fun h₂ e hs₂ he => hE h₂ e (fun c o c1 c3 q => hs₂ _ _ c3 (hs₁.extBut _ _ c1 q)) he)
theorem zip_next_free {z TI TO i1 i2 l1 l2 : Addr} {k1 k2 : Nat} {b1 b2 : Bool} {xs ys : Array Value} {x y a b : Value} {Q : Value -> Shared -> Prop} (D : ZipApart z TI TO i1 i2 l1 l2)
  (hz : IsZip s.heap z TI TO .none) (hTI : IsPair s.heap TI (.ref i1) (.ref i2)) (hTO : IsPair s.heap TO a b) (h1 : SqI b1 s.heap i1 l1 k1 xs) (h2 : SqI b2 s.heap i2 l2 k2 ys) (hx : xs[k1]? = some x) (hy : ys[k2]? = some y)
  (hQ : ∀ h', IsZip h' z TI TO (rawInt s.heap.objs.size) -> IsPair h' TO x y -> SqI b1 h' i1 l1 (k1 + 1) xs -> SqI b2 h' i2 l2 (k2 + 1) ys -> IsPair h' s.heap.objs.size x y -> h'.objs.size = s.heap.objs.size + 1 ->
   (∀ c o, c ≠ z -> c ≠ TO -> c ≠ i1 -> c ≠ i2 -> s.heap.get? c = some o -> h'.get? c = some o) -> Q (.ref s.heap.objs.size) { s with heap := h' }) :
  wpAny (model prog w) A (Builtin.«zip.__next__» ⟨[.ref z], []⟩) (fun fin s' => ∃ v, fin = .done (.ret v) /\ Q v s') E s := by
 refine (show wpAny _ _ (field (.ref z) 2 >>= _) _ _ _ from wpAny_bind (wpAny_field hz rfl (x := .bool false) rfl ?_))
 refine (show wpAny _ _ (field (.ref z) 3 >>= _) _ _ _ from wpAny_bind (wpAny_field hz rfl (x := .ref TI) rfl (wpAny_bind (wpAny_seqItems hTI rfl ?_))))
 refine (show wpAny _ _ (Builtin.SmallTypes.ownedTupleIsFree (.ref z) >>= _) _ _ _ from wpAny_bind ?_)
 unfold Builtin.SmallTypes.ownedTupleIsFree
 refine wpAny_bind (wpAny_field hz rfl (x := .none) rfl (wpAny_pure ?_))
 simp only [if_true]
 refine wpAny_bind (wpAny_rule (wpAny_bind (wpAny_field hz rfl (x := .ref TO) rfl (wpAny_bind (wpAny_setField_rec hz (by simp) fun g₁ q₁ c₁ => wpAny_bind ?_)))))
 have q₁ : IsZip g₁ z TI TO .ellipsis := q₁
 simp only [List.zipIdx_cons, List.zipIdx_nil, List.forIn_cons, List.forIn_nil]
 refine wpAny_bind (wpAny_bind (wpAny_onRaise ?_))
 refine (show wpAny _ _ (Builtin.SmallTypes.nextOf (.ref i1) >>= _) _ _ _ from wpAny_bind ((h1.at (fun o e => c₁.extBut _ _ D.i1z e) fun o e => c₁.extBut _ _ D.l1z e).item hx D.l1i1 fun g₂ p₂ c₂ => wpAny_pure ?_))
 have t₂ : IsPair g₂ TO a b := c₂.extBut _ _ D.TOi1 (c₁.extBut _ _ D.TOz hTO)
 refine wpAny_bind (wpAny_seqItems t₂ rfl (wpAny_bind (wpAny_updateSeq_pair t₂ fun g₃ t₃ c₃ => wpAny_bind (wpAny_letGo (wpAny_pure ?_)))))
 have t₃ : IsPair g₃ TO x b := t₃
 refine wpAny_bind (wpAny_bind (wpAny_onRaise ?_))
 have s₃ : SqI b2 g₃ i2 l2 k2 ys := h2.at (fun o e => c₃.extBut _ _ D.TOi2.symm (c₂.extBut _ _ D.i12.symm (c₁.extBut _ _ D.i2z e))) fun o e => c₃.extBut _ _ D.l2TO (c₂.extBut _ _ D.l2i1 (c₁.extBut _ _ D.l2z e))
 refine (show wpAny _ _ (Builtin.SmallTypes.nextOf (.ref i2) >>= _) _ _ _ from wpAny_bind (s₃.item hy D.l2i2 fun g₄ p₄ c₄ => wpAny_pure ?_))
 have t₄ : IsPair g₄ TO x b := c₄.extBut _ _ D.TOi2 t₃
 refine wpAny_bind (wpAny_seqItems t₄ rfl (wpAny_bind (wpAny_updateSeq_pair t₄ fun g₅ t₅ c₅ => wpAny_bind (wpAny_letGo (wpAny_pure (wpAny_pure ?_))))))
 have t₅ : IsPair g₅ TO x y := t₅
 refine wpAny_bind (wpAny_seqItems t₅ rfl (wpAny_bind (wpAny_newTuple ?_)))
 have sz : g₅.objs.size = s.heap.objs.size := by rw [c₅.1, c₄.1, c₃.1, c₂.1, c₁.1]
 have q₅ : IsZip g₅ z TI TO .ellipsis := c₅.extBut _ _ D.TOz.symm (c₄.extBut _ _ D.i2z.symm (c₃.extBut _ _ D.TOz.symm (c₂.extBut _ _ D.i1z.symm q₁)))
 have k₅ : ∀ c o, c ≠ z -> c ≠ TO -> c ≠ i1 -> c ≠ i2 -> s.heap.get? c = some o -> g₅.get? c = some o := fun c o d1 d2 d3 d4 e => c₅.extBut _ _ d2 (c₄.extBut _ _ d4 (c₃.extBut _ _ d2 (c₂.extBut _ _ d3 (c₁.extBut _ _ d1 e))))
 have u1 : SqI b1 g₅ i1 l1 (k1 + 1) xs := p₂.at (fun o e => c₅.extBut _ _ D.TOi1.symm (c₄.extBut _ _ D.i12 (c₃.extBut _ _ D.TOi1.symm e))) fun o e => c₅.extBut _ _ D.l1TO (c₄.extBut _ _ D.l1i2 (c₃.extBut _ _ D.l1TO e))
 have u2 : SqI b2 g₅ i2 l2 (k2 + 1) ys := p₄.at (fun o e => c₅.extBut _ _ D.TOi2.symm e) fun o e => c₅.extBut _ _ D.l2TO e
 have zl : z < g₅.objs.size := Heap.lt_size q₅
 refine (show wpAny _ _ (Builtin.SmallTypes.ownedTupleHandOut (.ref z) (.ref g₅.objs.size) >>= _) _ _ _ from wpAny_bind ?_)
 unfold Builtin.SmallTypes.ownedTupleHandOut
 have q₆ : IsZip (g₅.push { cls := .type "tuple", data := .seq #[x, y] }) z TI TO .ellipsis := Heap.get?_push_of_some _ q₅
 refine wpAny_bind (wpAny_setField_rec q₆ (by simp) fun g₇ q₇ c₇ => ?_)
 have q₇ : IsZip g₇ z TI TO (rawInt g₅.objs.size) := q₇
 refine wpAny_setField_rec q₇ (by simp) fun g₈ q₈ c₈ => wpAny_pure ⟨_, rfl, ?_⟩
 have q₈ : IsZip g₈ z TI TO (rawInt g₅.objs.size) := q₈
 have up : ∀ c o, c ≠ z -> g₅.get? c = some o -> g₈.get? c = some o := fun c o d1 e => c₈.extBut _ _ d1 (c₇.extBut _ _ d1 (Heap.get?_push_of_some _ e))
 have tn : IsPair g₈ g₅.objs.size x y := c₈.extBut _ _ (Nat.ne_of_gt zl) (c₇.extBut _ _ (Nat.ne_of_gt zl) (Heap.get?_push_size _ rfl))
 have s8 : g₈.objs.size = g₅.objs.size + 1 := by rw [c₈.1, c₇.1, Heap.size_push]
 show Q (.ref g₅.objs.size) _
 rw [sz] at q₈ tn s8 ⊢
 exact hQ g₈ q₈ (up _ _ D.TOz t₅) (u1.at (fun o e => up _ o D.i1z e) fun o e => up _ o D.l1z e) (u2.at (fun o e => up _ o D.i2z e) fun o e => up _ o D.l2z e) tn s8 fun c o d1 d2 d3 d4 e => up c o d1 (k₅ c o d1 d2 d3 d4 e)
theorem zip_free_end {z TI TO i1 i2 l1 l2 : Addr} {k1 : Nat} {b1 : Bool} {xs : Array Value} {Q : Fin -> Shared -> Prop} (hh : A.handled = none) (D : ZipApart z TI TO i1 i2 l1 l2)
  (hz : IsZip s.heap z TI TO .none) (hTI : IsPair s.heap TI (.ref i1) (.ref i2)) (h1 : SqI b1 s.heap i1 l1 k1 xs) (hx : xs[k1]? = none)
  (hE : ∀ h' e, (∀ c o, c ≠ z -> c ≠ i1 -> s.heap.get? c = some o -> h'.get? c = some o) -> (∃ o, h'.get? e = some o /\ o.cls = .type "StopIteration") -> E (.ref e) { s with heap := h' }) :
  wpAny (model prog w) A (Builtin.«zip.__next__» ⟨[.ref z], []⟩) Q E s := by
 refine (show wpAny _ _ (field (.ref z) 2 >>= _) _ _ _ from wpAny_bind (wpAny_field hz rfl (x := .bool false) rfl ?_))
 refine (show wpAny _ _ (field (.ref z) 3 >>= _) _ _ _ from wpAny_bind (wpAny_field hz rfl (x := .ref TI) rfl (wpAny_bind (wpAny_seqItems hTI rfl ?_))))
 refine (show wpAny _ _ (Builtin.SmallTypes.ownedTupleIsFree (.ref z) >>= _) _ _ _ from wpAny_bind ?_)
 unfold Builtin.SmallTypes.ownedTupleIsFree
 refine wpAny_bind (wpAny_field hz rfl (x := .none) rfl (wpAny_pure ?_))
 simp only [if_true]
 refine wpAny_bind (wpAny_rule (wpAny_bind (wpAny_field hz rfl (x := .ref TO) rfl (wpAny_bind (wpAny_setField_rec hz (by simp) fun g₁ q₁ c₁ => wpAny_bind ?_)))))
 have q₁ : IsZip g₁ z TI TO .ellipsis := q₁
 simp only [List.zipIdx_cons, List.zipIdx_nil, List.forIn_cons, List.forIn_nil]
 refine wpAny_bind (wpAny_bind (wpAny_onRaise ?_))
 refine (show wpAny _ _ (Builtin.SmallTypes.nextOf (.ref i1) >>= _) _ _ _ from wpAny_bind (SqI.done hh (h1.at (fun o e => c₁.extBut _ _ D.i1z e) fun o e => c₁.extBut _ _ D.l1z e) hx fun g₂ e c₂ he => ?_))
 obtain ⟨oe, he1, he2⟩ := he
 have q₂ : IsZip g₂ z TI TO .ellipsis := c₂ _ _ D.i1z.symm q₁
 refine wpAny_setField_rec q₂ (by simp) fun g₃ q₃ c₃ => ?_
 have ne : e ≠ z := fun y => by rw [y, q₂] at he1; cases he1; exact absurd (show Value.type "zip" = Value.type "StopIteration" from he2) (by decide)
 exact hE g₃ e (fun c o d1 d3 q => c₃.extBut _ _ d1 (c₂ _ _ d3 (c₁.extBut _ _ d1 q))) ⟨oe, c₃.extBut _ _ ne he1, he2⟩
end
end HW
namespace HW
open PySem PySem.Spec PyProof.Rows L2
def SqO (b : Bool) (h : Heap) (l : Addr) (xs : Array Value) : Prop := match b with
 | false => h.IsList l xs
 | true => h.IsTuple l xs
noncomputable def itO (b : Bool) (l : Addr) : Obj := { cls := .type (bif b then "tuple_iterator" else "list_iterator"), data := .fields #[.ref l, .int 0 0] }
theorem SqO.at {b : Bool} {h h' : Heap} {l : Addr} {xs : Array Value} (Z : SqO b h l xs) (g : ∀ o, h.get? l = some o -> h'.get? l = some o) : SqO b h' l xs := by
 cases b with
 | false => exact Heap.IsList.at Z g
 | true => obtain ⟨p, q, t⟩ := Z; exact ⟨p, g p q, t⟩
theorem SqO.lt {b : Bool} {h : Heap} {l : Addr} {xs : Array Value} (Z : SqO b h l xs) : l < h.objs.size := by
 cases b with
 | false => obtain ⟨o, e, _⟩ := Z; exact Heap.lt_size e
 | true => obtain ⟨o, e, _⟩ := Z; exact Heap.lt_size e
theorem SqO.it {b : Bool} {h : Heap} {i l : Addr} {xs : Array Value} (Z : SqO b h l xs) (e : h.get? i = some (itO b l)) : SqI b h i l 0 xs := by
 cases b with
 | false => exact ⟨⟨_, e, rfl, rfl⟩, Z⟩
 | true => exact ⟨⟨_, e, rfl, rfl⟩, Z⟩
section
variable {prog : Program} {w : World} {A : Around} {E : Value -> Shared -> Prop} {s : Shared} {b b1 b2 : Bool} {l l1 l2 : Addr} {xs ys : Array Value}
theorem pyIter_sq {Q : Value -> Shared -> Prop} (Z : SqO b s.heap l xs) (hQ : Q (.ref s.heap.objs.size) { s with heap := s.heap.push (itO b l) }) : wpAny (model prog w) A (pyIter (.ref l)) Q E s := by
 cases b with
 | false => exact wpAny_pyIter_list Z hQ
 | true => exact wpAny_pyIter_tuple Z hQ
noncomputable abbrev zg2 (h : Heap) (b1 b2 : Bool) (l1 l2 : Addr) : Heap := (h.push (itO b1 l1)).push (itO b2 l2)
noncomputable abbrev zg3 (h : Heap) (b1 b2 : Bool) (l1 l2 : Addr) : Heap := (zg2 h b1 b2 l1 l2).push { cls := .type "tuple", data := .seq #[.ref h.objs.size, .ref (h.push (itO b1 l1)).objs.size] }
noncomputable abbrev zg4 (h : Heap) (b1 b2 : Bool) (l1 l2 : Addr) : Heap := (zg3 h b1 b2 l1 l2).push { cls := .type "tuple", data := .seq #[.none, .none] }
noncomputable abbrev zg5 (h : Heap) (b1 b2 : Bool) (l1 l2 : Addr) : Heap := (zg4 h b1 b2 l1 l2).push { cls := .type "zip", data := .fields #[.none, .bool false, .bool false, .ref (zg2 h b1 b2 l1 l2).objs.size, .ref (zg3 h b1 b2 l1 l2).objs.size] }
theorem meets_zipG (b1 b2 : Bool) (l1 l2 : Addr) (xs ys : Array Value) : Meets (Builtin.«zip.__new__» ⟨[.type "zip", .ref l1, .ref l2], []⟩) (fun _ R s => SqO b1 s.heap l1 xs /\ SqO b2 s.heap l2 ys /\ R (.ok (.ret (.ref (zg4 s.heap b1 b2 l1 l2).objs.size))) { s with heap := zg5 s.heap b1 b2 l1 l2 }) :=
 .of_wp fun prog w A R s h => by
  obtain ⟨hp, g, d, tk, os⟩ := s; obtain ⟨q1, q2, h⟩ := h
  have hsub := PySem.sub_zip
  have Q1 : SqO b1 (Shared.heap ⟨hp, g, d, tk, os⟩) l1 xs := q1
  have Q2 : SqO b2 (Shared.heap ⟨hp.push (itO b1 l1), g, d, tk, os⟩) l2 ys := SqO.at q2 fun o e => Heap.get?_push_of_some _ e
  wp_walk using pyIter_sq Q1, pyIter_sq Q2
  exact ⟨_, rfl, h⟩
theorem call_zipG {Q : Value -> Shared -> Prop} (q1 : SqO b1 s.heap l1 xs) (q2 : SqO b2 s.heap l2 ys)
  (h : ∀ h', IsZip h' (s.heap.objs.size + 4) (s.heap.objs.size + 2) (s.heap.objs.size + 3) .none -> IsPair h' (s.heap.objs.size + 2) (.ref s.heap.objs.size) (.ref (s.heap.objs.size + 1)) -> IsPair h' (s.heap.objs.size + 3) .none .none ->
   SqI b1 h' s.heap.objs.size l1 0 xs -> SqI b2 h' (s.heap.objs.size + 1) l2 0 ys -> h'.objs.size = s.heap.objs.size + 5 -> (∀ c o, s.heap.get? c = some o -> h'.get? c = some o) -> Q (.ref (s.heap.objs.size + 4)) { s with heap := h' }) :
  wpAny (model prog w) A (call (.type "zip") [.ref l1, .ref l2]) Q E s := by
 refine callType_new F.called_zip (by decide) (F.typeCall_zip_2 _ _) (F.newCall_zip_2 _ _) (fun obj => F.args_object_init_3 obj _ _) F.entry_zip_new (meets_zipG b1 b2 l1 l2 xs ys) ⟨q1, q2, ?_⟩
 have kp : ∀ c o, s.heap.get? c = some o -> (zg5 s.heap b1 b2 l1 l2).get? c = some o := fun c o e => Heap.get?_push_of_some _ (Heap.get?_push_of_some _ (Heap.get?_push_of_some _ (Heap.get?_push_of_some _ (Heap.get?_push_of_some _ e))))
 have z1 : (s.heap.push (itO b1 l1)).objs.size = s.heap.objs.size + 1 := Heap.size_push ..
 have z2 : (zg2 s.heap b1 b2 l1 l2).objs.size = s.heap.objs.size + 2 := by rw [Heap.size_push, z1]
 have z3 : (zg3 s.heap b1 b2 l1 l2).objs.size = s.heap.objs.size + 3 := by rw [Heap.size_push, z2]
 have z4 : (zg4 s.heap b1 b2 l1 l2).objs.size = s.heap.objs.size + 4 := by rw [Heap.size_push, z3]
 have z5 : (zg5 s.heap b1 b2 l1 l2).objs.size = s.heap.objs.size + 5 := by rw [Heap.size_push, z4]
 have g5 : (zg5 s.heap b1 b2 l1 l2).get? (zg4 s.heap b1 b2 l1 l2).objs.size = some _ := Heap.get?_push_size _ rfl
 have g4 : (zg5 s.heap b1 b2 l1 l2).get? (zg3 s.heap b1 b2 l1 l2).objs.size = some _ := Heap.get?_push_of_some _ (Heap.get?_push_size _ rfl)
 have g3 : (zg5 s.heap b1 b2 l1 l2).get? (zg2 s.heap b1 b2 l1 l2).objs.size = some _ := Heap.get?_push_of_some _ (Heap.get?_push_of_some _ (Heap.get?_push_size _ rfl))
 have g2 : (zg5 s.heap b1 b2 l1 l2).get? (s.heap.push (itO b1 l1)).objs.size = some _ := Heap.get?_push_of_some _ (Heap.get?_push_of_some _ (Heap.get?_push_of_some _ (Heap.get?_push_size _ rfl)))
 have g1 : (zg5 s.heap b1 b2 l1 l2).get? s.heap.objs.size = some _ := Heap.get?_push_of_some _ (Heap.get?_push_of_some _ (Heap.get?_push_of_some _ (Heap.get?_push_of_some _ (Heap.get?_push_size _ rfl))))
 refine (show _ /\ _ from ?_)
 rw [z2, z3, z4] at g5
 rw [z1, z2] at g3
 rw [z3] at g4
 rw [z1] at g2
 rw [z4]
 exact ⟨⟨_, g5, rfl⟩, h _ g5 g3 g4 ((q1.at fun o e => kp _ _ e).it g1) ((q2.at fun o e => kp _ _ e).it g2) z5 kp⟩
end
theorem zip_no_len : typeLookup (.type "zip") "__len__" = pure none := by rw [typeLookup_type, builtinLookup_eq_fast]; kernel_rfl
theorem zip_no_hint : typeLookup (.type "zip") "__length_hint__" = pure none := by rw [typeLookup_type, builtinLookup_eq_fast]; kernel_rfl
structure ZSt (b1 b2 : Bool) (h : Heap) (S z TI TO i1 i2 l1 l2 : Addr) (xs ys : Array Value) (k : Nat) : Prop where
 st : (k = 0 /\ IsZip h z TI TO .none /\ IsPair h TO .none .none) \/ ∃ T fl oT, IsZipH h z TI TO T fl /\ h.get? T = some oT /\ T ∉ [S, z, TO, i1, i2]
 ti : IsPair h TI (.ref i1) (.ref i2)
 h1 : SqI b1 h i1 l1 k xs
 h2 : SqI b2 h i2 l2 k ys
 to : ∃ o, h.get? TO = some o
section
variable {prog : Program} {w : World} {A : Around} {E : Value -> Shared -> Prop} {s : Shared} {S z TI TO i1 i2 l1 l2 : Addr} {b1 b2 : Bool} {xs ys : Array Value} {k : Nat}
theorem ZSt.ty {h : Heap} (Z : ZSt b1 b2 h S z TI TO i1 i2 l1 l2 xs ys k) : ∃ o, h.get? z = some o /\ o.cls = .type "zip" := by
 rcases Z.st with ⟨_, h, _⟩ | ⟨T, fl, oT, h, _⟩
 ·exact ⟨_, h, rfl⟩
 ·exact ⟨_, h, rfl⟩
theorem pyNext_zipH {T : Addr} {x y : Value} {fl : Bool} {oT : Obj} {k1 k2 : Nat} {Q : Option Value -> Shared -> Prop} (D : ZipApart z TI TO i1 i2 l1 l2)
  (hz : IsZipH s.heap z TI TO T fl) (hT : s.heap.get? T = some oT) (hTI : IsPair s.heap TI (.ref i1) (.ref i2))
  (h1 : SqI b1 s.heap i1 l1 k1 xs) (h2 : SqI b2 s.heap i2 l2 k2 ys) (hx : xs[k1]? = some x) (hy : ys[k2]? = some y)
  (hQ : ∀ h', IsZipH h' z TI TO T true -> SqI b1 h' i1 l1 (k1 + 1) xs -> SqI b2 h' i2 l2 (k2 + 1) ys -> IsPair h' s.heap.objs.size x y -> h'.objs.size = s.heap.objs.size + 1 ->
   (∀ c o, c ≠ z -> c ≠ i1 -> c ≠ i2 -> s.heap.get? c = some o -> h'.get? c = some o) -> Q (some (.ref s.heap.objs.size)) { s with heap := h' }) :
  wpAny (model prog w) A (pyNext (.ref z)) Q E s := by
 have hTy : s.TypeIs (.ref z) "zip" := ⟨_, hz, rfl⟩
 unfold pyNext
 exact wpAny_bind (wpAny_attempt (wpAny_callSpecial?_slot (name := Str.ofString "__next__") hTy F.slot_zip_next
  (wpAny_call_entry F.slot_zip_next hTy F.entry_zip_next
   (zip_next_held D hz hT hTI h1 h2 hx hy fun h' a1 a2 a3 a4 a5 a6 => wpAny_pure (hQ h' a1 a2 a3 a4 a5 a6)) (F.args_zip_next_1 _))))
theorem pyNext_zipE {T : Addr} {fl : Bool} {oT : Obj} {k1 : Nat} {Q : Option Value -> Shared -> Prop} (hh : A.handled = none) (D : ZipApart z TI TO i1 i2 l1 l2)
  (hz : IsZipH s.heap z TI TO T fl) (hT : s.heap.get? T = some oT) (hTI : IsPair s.heap TI (.ref i1) (.ref i2))
  (h1 : SqI b1 s.heap i1 l1 k1 xs) (hx : xs[k1]? = none)
  (hQ : ∀ h', (∀ c o, c ≠ z -> c ≠ i1 -> s.heap.get? c = some o -> h'.get? c = some o) -> Q none { s with heap := h' }) : wpAny (model prog w) A (pyNext (.ref z)) Q E s := by
 have hTy : s.TypeIs (.ref z) "zip" := ⟨_, hz, rfl⟩
 unfold pyNext
 refine wpAny_bind (wpAny_attempt (wpAny_callSpecial?_slot (name := Str.ofString "__next__") hTy F.slot_zip_next
  (wpAny_call_entry F.slot_zip_next hTy F.entry_zip_next (zip_held_end hh D hz hT hTI h1 hx fun h' e hk he => ?_) (F.args_zip_next_1 _))))
 obtain ⟨o, ho, hc⟩ := he
 refine wpAny_bind (wpAny_isInstance (T := "StopIteration") (b := true) ⟨o, ho, hc⟩ isSubtype_stop ?_)
 exact wpAny_pure (hQ _ hk)
theorem pyNext_zipF {x y a b : Value} {k1 k2 : Nat} {Q : Option Value -> Shared -> Prop} (D : ZipApart z TI TO i1 i2 l1 l2) (hz : IsZip s.heap z TI TO .none) (hTI : IsPair s.heap TI (.ref i1) (.ref i2)) (hTO : IsPair s.heap TO a b)
  (h1 : SqI b1 s.heap i1 l1 k1 xs) (h2 : SqI b2 s.heap i2 l2 k2 ys) (hx : xs[k1]? = some x) (hy : ys[k2]? = some y)
  (hQ : ∀ h', IsZip h' z TI TO (rawInt s.heap.objs.size) -> IsPair h' TO x y -> SqI b1 h' i1 l1 (k1 + 1) xs -> SqI b2 h' i2 l2 (k2 + 1) ys -> IsPair h' s.heap.objs.size x y -> h'.objs.size = s.heap.objs.size + 1 ->
   (∀ c o, c ≠ z -> c ≠ TO -> c ≠ i1 -> c ≠ i2 -> s.heap.get? c = some o -> h'.get? c = some o) -> Q (some (.ref s.heap.objs.size)) { s with heap := h' }) : wpAny (model prog w) A (pyNext (.ref z)) Q E s := by
 have hTy : s.TypeIs (.ref z) "zip" := ⟨_, hz, rfl⟩
 unfold pyNext
 exact wpAny_bind (wpAny_attempt (wpAny_callSpecial?_slot (name := Str.ofString "__next__") hTy F.slot_zip_next (wpAny_call_entry F.slot_zip_next hTy F.entry_zip_next
   (zip_next_free D hz hTI hTO h1 h2 hx hy fun h' a1 a2 a3 a4 a5 a6 a7 => wpAny_pure (hQ h' a1 a2 a3 a4 a5 a6 a7)) (F.args_zip_next_1 _))))
theorem pyNext_zipG {k1 : Nat} {Q : Option Value -> Shared -> Prop} (hh : A.handled = none) (D : ZipApart z TI TO i1 i2 l1 l2) (hz : IsZip s.heap z TI TO .none) (hTI : IsPair s.heap TI (.ref i1) (.ref i2)) (h1 : SqI b1 s.heap i1 l1 k1 xs) (hx : xs[k1]? = none)
  (hQ : ∀ h', (∀ c o, c ≠ z -> c ≠ i1 -> s.heap.get? c = some o -> h'.get? c = some o) -> Q none { s with heap := h' }) : wpAny (model prog w) A (pyNext (.ref z)) Q E s := by
 have hTy : s.TypeIs (.ref z) "zip" := ⟨_, hz, rfl⟩
 unfold pyNext
 refine wpAny_bind (wpAny_attempt (wpAny_callSpecial?_slot (name := Str.ofString "__next__") hTy F.slot_zip_next (wpAny_call_entry F.slot_zip_next hTy F.entry_zip_next (zip_free_end hh D hz hTI h1 hx fun h' e hk he => ?_) (F.args_zip_next_1 _))))
 obtain ⟨o, ho, hc⟩ := he
 exact wpAny_bind (wpAny_isInstance (T := "StopIteration") (b := true) ⟨o, ho, hc⟩ isSubtype_stop (wpAny_pure (hQ _ hk)))
theorem zst_item {x y : Value} {Q : Option Value -> Shared -> Prop} (D : ZipApart z TI TO i1 i2 l1 l2) (hS : ∃ o, s.heap.get? S = some o) (Z : ZSt b1 b2 s.heap S z TI TO i1 i2 l1 l2 xs ys k) (hx : xs[k]? = some x) (hy : ys[k]? = some y)
  (hQ : ∀ h', ZSt b1 b2 h' S z TI TO i1 i2 l1 l2 xs ys (k + 1) -> IsPair h' s.heap.objs.size x y -> h'.objs.size = s.heap.objs.size + 1 -> (∀ c o, c ∉ [z, TO, i1, i2] -> s.heap.get? c = some o -> h'.get? c = some o) -> Q (some (.ref s.heap.objs.size)) { s with heap := h' }) :
  wpAny (model prog w) A (pyNext (.ref z)) Q E s := by
 have lt : ∀ {b : Addr} {o : Obj}, s.heap.get? b = some o -> b ≠ s.heap.objs.size := fun e => Nat.ne_of_lt (Heap.lt_size e)
 obtain ⟨oS, hS⟩ := hS
 have fresh : ∀ {oz oto : Obj}, s.heap.get? z = some oz -> s.heap.get? TO = some oto -> s.heap.objs.size ∉ [S, z, TO, i1, i2] := fun hz hto z => by
  obtain ⟨o1, e1⟩ := Z.h1.live
  obtain ⟨o2, e2⟩ := Z.h2.live
  simp only [List.mem_cons, List.not_mem_nil, or_false] at z
  rcases z with z | z | z | z | z
  ·exact lt hS z.symm
  ·exact lt hz z.symm
  ·exact lt hto z.symm
  ·exact lt e1 z.symm
  ·exact lt e2 z.symm
 rcases Z.st with ⟨rfl, hz, hto⟩ | ⟨T, fl, oT, hz, hT, hTn⟩
 ·refine pyNext_zipF D hz Z.ti hto Z.h1 Z.h2 hx hy fun h' a1 a2 a3 a4 a5 a6 a7 => ?_
  have kp : ∀ c o, c ∉ [z, TO, i1, i2] -> s.heap.get? c = some o -> h'.get? c = some o := fun c o hc e => by
   simp only [List.mem_cons, List.not_mem_nil, or_false, not_or] at hc
   exact a7 c o hc.1 hc.2.1 hc.2.2.1 hc.2.2.2 e
  refine hQ h' ⟨.inr ⟨_, false, _, a1, a5, fresh hz hto⟩, a7 _ _ D.TIz D.TITO D.TIi1 D.TIi2 Z.ti, a3, a4, ⟨_, a2⟩⟩ a5 a6 kp
 ·refine pyNext_zipH D hz hT Z.ti Z.h1 Z.h2 hx hy fun h' a1 a3 a4 a5 a6 a7 => ?_
  simp only [List.mem_cons, List.not_mem_nil, or_false, not_or] at hTn
  have kp : ∀ c o, c ∉ [z, TO, i1, i2] -> s.heap.get? c = some o -> h'.get? c = some o := fun c o hc e => by
   simp only [List.mem_cons, List.not_mem_nil, or_false, not_or] at hc
   exact a7 c o hc.1 hc.2.2.1 hc.2.2.2 e
  refine hQ h' ⟨.inr ⟨T, true, oT, a1, a7 _ _ hTn.2.1 hTn.2.2.2.1 hTn.2.2.2.2 hT, by simp only [List.mem_cons, List.not_mem_nil, or_false, not_or]; exact hTn⟩, a7 _ _ D.TIz D.TIi1 D.TIi2 Z.ti, a3, a4, Z.to.imp fun o e => a7 _ _ D.TOz D.TOi1 D.TOi2 e⟩ a5 a6 kp
theorem zst_done {Q : Option Value -> Shared -> Prop} (hh : A.handled = none) (D : ZipApart z TI TO i1 i2 l1 l2) (Z : ZSt b1 b2 s.heap S z TI TO i1 i2 l1 l2 xs ys k) (hx : xs[k]? = none)
  (hQ : ∀ h', (∀ c o, c ∉ [z, TO, i1, i2] -> s.heap.get? c = some o -> h'.get? c = some o) -> Q none { s with heap := h' }) : wpAny (model prog w) A (pyNext (.ref z)) Q E s := by
 rcases Z.st with ⟨rfl, hz, hto⟩ | ⟨T, fl, oT, hz, hT, hTn⟩
 ·refine pyNext_zipG hh D hz Z.ti Z.h1 hx fun h' a7 => hQ h' fun c o hc e => ?_
  simp only [List.mem_cons, List.not_mem_nil, or_false, not_or] at hc
  exact a7 c o hc.1 hc.2.2.1 e
 ·refine pyNext_zipE hh D hz hT Z.ti Z.h1 hx fun h' a7 => hQ h' fun c o hc e => ?_
  simp only [List.mem_cons, List.not_mem_nil, or_false, not_or] at hc
  exact a7 c o hc.1 hc.2.2.1 e
def ZAcc (h : Heap) (n0 : Nat) (no : List Addr) (xs ys : Array Value) (acc : Array Value) (k : Nat) : Prop := acc.size = k /\ ∃ ts : List Addr, ts.length = k /\ acc = (ts.map Value.ref).toArray /\ ts.Nodup /\ ∀ (i : Nat) t, ts[i]? = some t -> n0 <= t /\ t ∉ no /\ ∃ x y, xs[i]? = some x /\ ys[i]? = some y /\ IsPair h t x y
theorem ZAcc.keep {h h' : Heap} {n0 : Nat} {no : List Addr} {xs ys acc : Array Value} {k : Nat} (Z : ZAcc h n0 no xs ys acc k) (kp : ∀ c o, c ∉ no -> h.get? c = some o -> h'.get? c = some o) : ZAcc h' n0 no xs ys acc k := by
 obtain ⟨h1, ts, h2, h3, h4, h5⟩ := Z
 exact ⟨h1, ts, h2, h3, h4, fun i t e => let ⟨a, b, x, y, p, q, r⟩ := h5 i t e; ⟨a, b, x, y, p, q, kp _ _ b r⟩⟩
theorem zip_loop (hh : A.handled = none) {R : Result -> Shared -> Prop} (D : ZipApart z TI TO i1 i2 l1 l2) (hsz : xs.size = ys.size) (hn : xs.size <= sizeLine) (hSn : S ∉ [z, TI, TO, i1, i2, l1, l2]) (n0 : Nat) (res : Value) :
  ∀ (m i : Nat) (s : Shared) (acc : Array Value) (c : Nat), xs.size - i = m -> i <= xs.size -> n0 <= s.heap.objs.size -> ZSt b1 b2 s.heap S z TI TO i1 i2 l1 l2 xs ys i -> s.heap.get? S = some { cls := .type "list", dict := none, data := .seq acc c, slots := #[] } -> ZAcc s.heap n0 [S, z, TO, i1, i2] xs ys acc i ->
  (∀ h' acc' c', (∀ b o, b ∉ [S, z, TO, i1, i2] -> s.heap.get? b = some o -> h'.get? b = some o) -> h'.get? S = some { cls := .type "list", dict := none, data := .seq acc' c', slots := #[] } -> ZAcc h' n0 [S, z, TO, i1, i2] xs ys acc' xs.size -> R (.ok (.ret res)) { s with heap := h' }) ->
  codeAny (model prog w) A (.builtin "list.extend.loop" ⟨[.ref S, .ref z, res], []⟩) R s := by
 have hS4 : S ∉ [z, TO, i1, i2] := fun q => hSn (by simp only [List.mem_cons, List.not_mem_nil, or_false] at q ⊢; rcases q with q | q | q | q <;> simp [q])
 have sub : ∀ c, c ∉ [S, z, TO, i1, i2] -> c ∉ [z, TO, i1, i2] := fun c h q => h (List.mem_cons_of_mem _ q)
 intro m
 induction m with
 | zero =>
  intro i s acc c hk hi h0 Z hS hacc hR
  have hin : i = xs.size := by omega
  subst hin
  refine codeAny_builtin F.entry_extend_loop ?_
  rw [Around.under_plainId F.plain_extend_loop _]
  show wpAny _ A.in1 (pyNext (.ref z) >>= _) _ _ s
  refine wpAny_bind (zst_done (show A.in1.handled = none from hh) D Z (by simp) fun h' kp => ?_)
  exact wpAny_pure (hR h' acc c (fun b o hb e => kp b o (sub b hb) e) (kp S _ hS4 hS) (hacc.keep fun c o hc e => kp c o (sub c hc) e))
 | succ m ih =>
  intro i s acc c hk hi h0 Z hS hacc hR
  have hlt : i < xs.size := by omega
  refine codeAny_builtin F.entry_extend_loop ?_
  rw [Around.under_plainId F.plain_extend_loop _]
  show wpAny _ A.in1 (pyNext (.ref z) >>= _) _ _ s
  have hx : xs[i]? = some xs[i] := Array.getElem?_eq_getElem hlt
  have hy : ys[i]? = some (ys[i]'(by omega)) := Array.getElem?_eq_getElem (by omega)
  refine wpAny_bind (zst_item D ⟨_, hS⟩ Z hx hy fun h' Z' hp hs' kp => ?_)
  have hS' := kp S _ hS4 hS
  show wpAny _ A.in1 (updateSeq S (·.push (.ref s.heap.objs.size)) >>= _) _ _ _
  have hTS : s.heap.objs.size ≠ S := fun q => Nat.lt_irrefl _ (q ▸ Heap.lt_size hS : s.heap.objs.size < s.heap.objs.size)
  have up : ∀ b o, b ≠ S -> h'.get? b = some o -> (h'.update S (Obj.mapSeq (·.push (.ref s.heap.objs.size)))).get? b = some o := fun b o hb e => (Heap.get?_update_other _ _ (Ne.symm hb)).trans e
  have nS : ∀ {b : Addr}, b ∈ [z, TI, TO, i1, i2, l1, l2] -> b ≠ S := fun hb q => hSn (q ▸ hb)
  have Z2 : ZSt b1 b2 (h'.update S (Obj.mapSeq (·.push (.ref s.heap.objs.size)))) S z TI TO i1 i2 l1 l2 xs ys (i + 1) := by
   refine ⟨?_, up _ _ (nS (by simp)) Z'.ti, Z'.h1.at (fun o e => up _ _ (nS (by simp)) e) (fun o e => up _ _ (nS (by simp)) e), Z'.h2.at (fun o e => up _ _ (nS (by simp)) e) (fun o e => up _ _ (nS (by simp)) e), Z'.to.imp fun o e => up _ _ (nS (by simp)) e⟩
   rcases Z'.st with ⟨q, _⟩ | ⟨T, fl, oT, q1, q2, q3⟩
   ·omega
   ·exact .inr ⟨T, fl, oT, up _ _ (nS (by simp)) q1, up _ _ (fun q => q3 (by simp [q])) q2, q3⟩
  have oz := Z.ty
  have fr : s.heap.objs.size ∉ [S, z, TO, i1, i2] := by
   rcases Z'.st with ⟨q, _⟩ | ⟨T, fl, oT, q1, q2, q3⟩
   ·omega
   ·intro q
    obtain ⟨o1, e1⟩ := Z.h1.live
    obtain ⟨o2, e2⟩ := Z.h2.live
    obtain ⟨o3, e3, _⟩ := oz
    simp only [List.mem_cons, List.not_mem_nil, or_false] at q
    rcases q with q | q | q | q | q
    ·exact hTS q
    ·exact Nat.lt_irrefl _ (q ▸ Heap.lt_size e3 : s.heap.objs.size < s.heap.objs.size)
    ·obtain ⟨o4, e4⟩ := Z.to
     exact Nat.lt_irrefl _ (q ▸ Heap.lt_size e4 : s.heap.objs.size < s.heap.objs.size)
    ·exact Nat.lt_irrefl _ (q ▸ Heap.lt_size e1 : s.heap.objs.size < s.heap.objs.size)
    ·exact Nat.lt_irrefl _ (q ▸ Heap.lt_size e2 : s.heap.objs.size < s.heap.objs.size)
  have A2 : ZAcc (h'.update S (Obj.mapSeq (·.push (.ref s.heap.objs.size)))) n0 [S, z, TO, i1, i2] xs ys (acc.push (.ref s.heap.objs.size)) (i + 1) := by
   obtain ⟨c1, ts, c2, c3, c4, c5⟩ := hacc
   refine ⟨by rw [Array.size_push, c1], ts ++ [s.heap.objs.size], by simp [c2], by rw [c3]; simp, ?_, fun j t e => ?_⟩
   ·rw [List.nodup_append]
    refine ⟨c4, by simp, fun a ha b hb => ?_⟩
    rw [List.mem_singleton.mp hb]
    obtain ⟨j, hj, e⟩ := List.getElem_of_mem ha
    obtain ⟨_, _, x, y, _, _, p⟩ := c5 j a (by rw [← e]; exact List.getElem?_eq_getElem hj)
    exact Nat.ne_of_lt (Heap.lt_size p)
   ·by_cases hj : j < ts.length
    ·rw [List.getElem?_append_left hj] at e
     obtain ⟨a, b, x, y, p, q, r⟩ := c5 j t e
     exact ⟨a, b, x, y, p, q, up _ _ (fun q => b (by simp [q])) (kp _ _ (sub _ b) r)⟩
    ·rw [List.getElem?_append_right (by omega)] at e
     have hj2 : j - ts.length = 0 := by
      cases q : j - ts.length with
      | zero => rfl
      | succ n => rw [q] at e; simp at e
     have hji : j = i := by omega
     rw [hj2] at e
     simp at e
     subst e hji
     exact ⟨h0, fr, _, _, hx, hy, up _ _ hTS hp⟩
  refine wpAny_bind ?_
  refine wpAny_updateSeq hS' rfl (wpAny_pure ⟨plainId_quiet F.plain_extend_loop _, ih (i + 1) _ (acc.push (.ref s.heap.objs.size)) _ (by omega) hlt ?_ Z2 (Heap.get?_update_self _ hS' rfl) A2 fun h'' acc' c' kp'' hS'' hacc' => ?_⟩)
   (by rw [hacc.1]; omega) (by show (acc.push (.ref s.heap.objs.size)).size <= sizeLine + 1; rw [Array.size_push, hacc.1]; omega)
  ·show n0 <= (h'.update S (Obj.mapSeq (·.push (.ref s.heap.objs.size)))).objs.size
   have h9 : s.heap.objs.size < (h'.update S (Obj.mapSeq (·.push (.ref s.heap.objs.size)))).objs.size := Heap.lt_size (up _ _ hTS hp)
   exact Nat.le_of_lt (Nat.lt_of_le_of_lt h0 h9)
  ·exact hR h'' acc' c' (fun b o hb e => kp'' b o hb (up _ _ (fun q => hb (by simp [q])) (kp b o (sub b hb) e))) hS'' hacc'
theorem call_list_zip {Q : Value -> Shared -> Prop} (hh : A.handled = none) (D : ZipApart z TI TO i1 i2 l1 l2) (hsz : xs.size = ys.size) (hn : xs.size <= sizeLine) (hlt : ∀ b ∈ [z, TI, TO, i1, i2, l1, l2], b < s.heap.objs.size) (Z : ∀ S, ZSt b1 b2 s.heap S z TI TO i1 i2 l1 l2 xs ys 0)
  (hQ : ∀ h' acc' c', (∀ b o, b ∉ [s.heap.objs.size, z, TO, i1, i2] -> s.heap.get? b = some o -> h'.get? b = some o) -> h'.get? s.heap.objs.size = some { cls := .type "list", dict := none, data := .seq acc' c', slots := #[] } -> ZAcc h' (s.heap.objs.size + 1) [s.heap.objs.size, z, TO, i1, i2] xs ys acc' xs.size -> Q (.ref s.heap.objs.size) { s with heap := h' }) :
  wpAny (model prog w) A (call (.type "list") [.ref z]) Q E s := by
 refine callType_codes (Q₁ := fun obj s₁ => obj = .ref s.heap.objs.size /\ s₁ = { s with heap := s.heap.push { cls := .type "list", data := .seq #[] } }) F.called_list (F.typeCall_list_1 _) F.entry_list_init
  (code_list_new _ ⟨rfl, rfl⟩) fun obj s₁ h₁ => ?_
 obtain ⟨rfl, rfl⟩ := h₁
 have hS : (s.heap.push { cls := .type "list", data := .seq #[] }).get? s.heap.objs.size = some { cls := .type "list", data := .seq #[] } := Heap.get?_push_size _ rfl
 have hsp : (s.heap.push { cls := .type "list", data := .seq #[] }).objs.size = s.heap.objs.size + 1 := Heap.size_push ..
 have hSn : s.heap.objs.size ∉ [z, TI, TO, i1, i2, l1, l2] := fun q => Nat.lt_irrefl _ (hlt _ q)
 have nS : ∀ {b : Addr}, b ∈ [z, TI, TO, i1, i2, l1, l2] -> b ≠ s.heap.objs.size := fun hb q => hSn (q ▸ hb)
 refine ⟨⟨_, hS, rfl⟩, F.args_list_init_2 _ _, ?_⟩
 generalize hSa : s.heap.objs.size = S at *
 have k0 : ∀ b o, s.heap.get? b = some o -> (s.heap.push { cls := .type "list", data := .seq #[] }).get? b = some o := fun b o e => Heap.get?_push_of_some _ e
 generalize hh1 : s.heap.push { cls := .type "list", data := .seq #[] } = h1 at *
 show wpAny _ A.in1.in1 (do let old ← Builtin.List.listItems (.ref S); Builtin.List.listUpdate (.ref S) (fun _ => #[]); letGo old.toList.reverse; Builtin.List.listExtendWith (.ref S) (.ref z) .none) _ _ _
 refine wpAny_bind ?_
 unfold Builtin.List.listItems
 refine wpAny_bind (wpAny_seqItems hS rfl (wpAny_pure ?_))
 show wpAny _ A.in1.in1 (updateSeq S (fun _ => #[]) >>= fun _ => letGo (#[] : Array Value).toList.reverse >>= fun _ => Builtin.List.listExtendWith (.ref S) (.ref z) .none) _ _ _
 refine wpAny_bind (wpAny_updateSeq hS rfl ?_)
 have hS₂ := Heap.get?_update_self (Obj.mapSeq (fun _ => (#[] : Array Value))) hS rfl
 have oth : ∀ b o, b ≠ S -> h1.get? b = some o -> (h1.update S (Obj.mapSeq (fun _ => (#[] : Array Value)))).get? b = some o :=
  fun b o hb e => (Heap.get?_update_other _ _ (Ne.symm hb)).trans e
 have hsz2 : (h1.update S (Obj.mapSeq (fun _ => (#[] : Array Value)))).objs.size = h1.objs.size := (Heap.SameBut.update ..).1
 generalize hh2 : h1.update S (Obj.mapSeq (fun _ => (#[] : Array Value))) = h2 at *
 refine wpAny_bind (wpAny_letGo ?_)
 have Z0 := Z S
 have k2 : ∀ b o, b ≠ S -> s.heap.get? b = some o -> h2.get? b = some o := fun b o hb e => oth b o hb (k0 b o e)
 have Zk : ∀ {h3 : Heap}, (∀ b o, b ≠ S -> s.heap.get? b = some o -> h3.get? b = some o) -> ZSt b1 b2 h3 S z TI TO i1 i2 l1 l2 xs ys 0 := fun {h3} kk => by
  refine ⟨?_, kk _ _ (nS (by simp)) Z0.ti, Z0.h1.at (fun o e => kk _ _ (nS (by simp)) e) (fun o e => kk _ _ (nS (by simp)) e), Z0.h2.at (fun o e => kk _ _ (nS (by simp)) e) (fun o e => kk _ _ (nS (by simp)) e), Z0.to.imp fun o e => kk _ _ (nS (by simp)) e⟩
  rcases Z0.st with ⟨q, q1, q2⟩ | ⟨T, fl, oT, q1, q2, q3⟩
  ·exact .inl ⟨q, kk _ _ (nS (by simp)) q1, kk _ _ (nS (by simp)) q2⟩
  ·exact .inr ⟨T, fl, oT, kk _ _ (nS (by simp)) q1, kk _ _ (fun q => q3 (by simp [q])) q2, q3⟩
 have hT2 : Shared.TypeIs { s with heap := h2 } (.ref z) "zip" := (Zk k2).ty
 unfold Builtin.List.listExtendWith
 refine wpAny_bind (wpAny_typeOf hT2 ?_)
 have e1 : Builtin.List.listSameRef (.ref S) (.ref z) = false := by simp [Builtin.List.listSameRef, Ne.symm (nS (b := z) (by simp))]
 have e2 : (Value.type "zip" == Value.type "list") = false := by decide
 have e3 : (Value.type "zip" == Value.type "tuple") = false := by decide
 simp only [e1, e2, e3, Bool.or_false, Bool.false_eq_true, if_false]
 have itz : ∀ {Q' : Value -> Shared -> Prop} {E' : Value -> Shared -> Prop}, Q' (.ref z) { s with heap := h2 } -> wpAny (model prog w) A.in1.in1 (pyIter (.ref z)) Q' E' { s with heap := h2 } := fun {Q' E'} hq => by
  refine wpAny_pyIter_slot hT2 F.slot_zip_iter (wpAny_call_entry F.slot_zip_iter hT2 F.entry_zip_iter ?_ (F.args_zip_iter_1 _))
  show wpAny _ _ (ret (.ref z)) _ _ _
  exact wpAny_pure ⟨_, rfl, "zip", _, hT2, F.slot_zip_next.lookup, hq⟩
 refine wpAny_bind (itz ?_)
 refine wpAny_bind (wpAny_holding ?_)
 unfold Builtin.List.listLengthHint
 refine wpAny_bind (wpAny_specialOf hT2 zip_no_len ?_)
 show wpAny _ A.in1.in1 (specialOf (Value.ref z) (Str.ofString "__length_hint__") >>= _) _ _ _
 refine wpAny_bind (wpAny_specialOf hT2 zip_no_hint ?_)
 refine wpAny_pure ?_
 show wpAny _ A.in1.in1 (rule "list.extend.makes-room" >>= fun _ => Builtin.List.listTouch (.ref S) >>= fun _ =>
  again (.builtin "list.extend.loop" ⟨[.ref S, .ref z, .none], []⟩)) _ _ _
 refine wpAny_bind (wpAny_rule ?_)
 refine wpAny_bind ?_
 show wpAny _ A.in1.in1 (updateSeq S (·.push .none) >>= fun _ => updateSeq S (·.pop)) _ _ _
 refine wpAny_bind (wpAny_updateSeq hS₂ rfl ?_)
 have hS₃ := Heap.get?_update_self (Obj.mapSeq (·.push Value.none)) hS₂ rfl
 refine wpAny_updateSeq (s := { s with heap := _ }) (hz := by seq_fits) hS₃ rfl ?_
 have hS₄ := Heap.get?_update_self (Obj.mapSeq (·.pop)) hS₃ rfl
 have oth2 : ∀ b o, b ≠ S -> h2.get? b = some o -> ((h2.update S (Obj.mapSeq (·.push Value.none))).update S (Obj.mapSeq (·.pop))).get? b = some o :=
  fun b o hb e => (Heap.get?_update_other _ _ (Ne.symm hb)).trans ((Heap.get?_update_other _ _ (Ne.symm hb)).trans e)
 have hsz3 : ((h2.update S (Obj.mapSeq (·.push Value.none))).update S (Obj.mapSeq (·.pop))).objs.size = S + 1 := by
  rw [(Heap.SameBut.update ..).1, (Heap.SameBut.update ..).1, hsz2, hsp]
 generalize hh4 : (h2.update S (Obj.mapSeq (·.push Value.none))).update S (Obj.mapSeq (·.pop)) = h4 at *
 have k4 : ∀ b o, b ≠ S -> s.heap.get? b = some o -> h4.get? b = some o := fun b o hb e => oth2 b o hb (k2 b o hb e)
 refine wpAny_pure ⟨plainId_quiet F.plain_extend_loop _, zip_loop (s := { s with heap := h4 }) (show A.in1.handled = none from hh) D hsz hn hSn (S + 1) .none xs.size 0 _ _ rfl (Nat.zero_le _) (by show S + 1 <= h4.objs.size; rw [hsz3]; exact Nat.le_refl _) (Zk k4) hS₄ ⟨rfl, [], rfl, rfl, List.nodup_nil, fun i t e => by simp at e⟩ fun h' acc' c' kp hS' hacc => ?_⟩
 refine ⟨rfl, hQ h' acc' c' (fun b o hb e => kp b o hb (k4 b o (fun q => hb (by simp [q])) e)) hS' hacc⟩
end
end HW
namespace HW
open PySem PySem.Spec PyProof.Rows L2
inductive LayTs : List (V × V) -> List Addr -> Hp -> Hp -> Prop
 | nil {H} : LayTs [] [] H H
 | cons {x y ps t ts H H'} : H t = none -> LayTs ps ts (upd H t (.tup [x, y])) H' -> LayTs ((x, y) :: ps) (t :: ts) H H'
def tZip (K : PySem.W.Frag) (t : TA) : TE := fun σ H Q => t σ H fun vs H1 => ∃ a b xs ys, vs = [.ref a, .ref b] /\ (SqL K H1 a xs \/ SqT K H1 a xs) /\ (SqL K H1 b ys \/ SqT K H1 b ys) /\ xs.length = ys.length /\ xs.length <= sizeLine /\
 ∀ ts H2 l, LayTs (xs.zip ys) ts H1 H2 -> H2 l = none -> Q (.ref l) (upd H2 l (.lst (ts.map .ref)))
theorem adopt_tups {X : Cx} {pins : List (Addr × Obj)} {σ : L2.St} {s0 s : Shared} {H0 : Hp} (I0 : Inv X pins σ H0 s0) : ∀ (ps : List (V × V)) (us : List (Value × Value)) (ts : List Addr) (H : Hp), Inv X pins σ H s -> ts.Nodup -> (∀ t ∈ ts, s0.heap.objs.size <= t /\ H t = none) -> ps.length = ts.length -> us.length = ts.length ->
  (∀ (i : Nat) t p u, ts[i]? = some t -> ps[i]? = some p -> us[i]? = some u -> RelV p.1 u.1 /\ RelV p.2 u.2 /\ IsPair s.heap t u.1 u.2) -> ∃ H', LayTs ps ts H H' /\ Inv X pins σ H' s /\ ∀ b, b ∉ ts -> H' b = H b
 | [], [], [], H, I, _, _, _, _, _ => ⟨H, .nil, I, fun _ _ => rfl⟩
 | [], _ :: _, [], _, _, _, _, _, h, _ => by simp at h
 | _ :: _, _, [], _, _, _, _, h, _, _ => by simp at h
 | [], _, _ :: _, _, _, _, _, h, _, _ => by simp at h
 | _ :: _, [], _ :: _, _, _, _, _, _, h, _ => by simp at h
 | (x, y) :: ps, (u, v) :: us, t :: ts, H, I, nd, hn, h1, h2, h3 => by
  rw [List.nodup_cons] at nd
  obtain ⟨hge, ht⟩ := hn t List.mem_cons_self
  obtain ⟨r1, r2, hp⟩ := h3 0 t (x, y) (u, v) rfl rfl rfl
  have ok : ObjOk X.prog X.w (upd H t (.tup [x, y])) s.heap t (.tup [x, y]) := ⟨(by show 2 <= sizeLine; decide), [u, v], .cons r1 (.cons r2 .nil), ⟨⟨_, hp, rfl, _, rfl⟩, fun o e => by rw [hp] at e; cases e; rfl⟩⟩
  have I1 := Inv.adopt I (I0.fpOk hge ht) (Nat.le_trans I0.sz hge) ok
  obtain ⟨H', l, I', k⟩ := adopt_tups I0 ps us ts (upd H t (.tup [x, y])) I1 nd.2 (fun b hb => ⟨(hn b (List.mem_cons_of_mem _ hb)).1, by rw [upd_ne (fun (z : b = t) => nd.1 (by rw [← z]; exact hb))]; exact (hn b (List.mem_cons_of_mem _ hb)).2⟩) (by simpa using h1) (by simpa using h2)
   fun i t' p' u' e1 e2 e3 => h3 (i + 1) t' p' u' (by simpa using e1) (by simpa using e2) (by simpa using e3)
  refine ⟨H', .cons ht l, I', fun b hb => ?_⟩
  rw [k b fun z => hb (List.mem_cons_of_mem _ z), upd_ne (fun (z : b = t) => hb (by rw [z]; exact List.mem_cons_self))]
theorem pe_zip {X : Cx} {a b : Expr} {t : TA} {p p2 pos pos2 : Pos} (hc : X.calm = true) (hg : Gl X "list") (hm : X.mg "list" = none) (hg2 : Gl X "zip") (hm2 : X.mg "zip" = none) (ha : PA X [a, b] t)
  (hs : starEach [.Call (.Name "zip" p2) [a, b] [] pos2] X.env = [(false, eval (.Call (.Name "zip" p2) [a, b] [] pos2) X.env)] := by rfl)
  (he : starEach [a, b] X.env = (false, eval a X.env) :: starEach [b] X.env := by rfl) (hpl : (backTo pos2 (starEach [b] X.env)).any (·.1) = false := by rfl) :
  PE X (.Call (.Name "list" p) [.Call (.Name "zip" p2) [a, b] [] pos2] [] pos) (tZip X.K t) := by
 intro pins s σ H Q I h
 refine wpAny_Call_Name_kw (ld_blt I hg hm (by decide +kernel : bootBuiltins "list" = some (.type "list")) ?_ (by decide) (by decide))
 refine PyProof.Rows.callWith_type1 ?_ hs rfl
 rw [hs]
 show wpAny _ _ (spliced [(false, eval (.Call (.Name "zip" p2) [a, b] [] pos2) X.env)]) _ _ s
 refine Calls.spliced_cons ?_
 refine wpAny_Call_Name_kw (ld_blt I hg2 hm2 (by decide +kernel : bootBuiltins "zip" = some (.type "zip")) ?_ (by decide) (by decide))
 refine PyProof.Rows.callWith_type1 (thn (ha pos2 pins s σ H _ I h) fun us s1 hh => ?_) he hpl
 obtain ⟨vs, H1, I1, r1, q1⟩ := hh
 obtain ⟨l1, l2, xs, ys, rfl, hx, hy, hlen, hz, q⟩ := q1
 cases r1 with
 | cons ra rr =>
  cases rr with
  | cons rb rr =>
   cases rr
   cases ra
   cases rb
   have sq : ∀ {l : Addr} {xs : List V}, (SqL X.K H1 l xs \/ SqT X.K H1 l xs) -> ∃ (b : Bool) (its : List Value), Vals xs its /\ SqO b s1.heap l its.toArray := fun {l xs} q => by
    rcases q with q | q
    ·obtain ⟨its, r, p, _⟩ := I1.list q; exact ⟨false, its, r, p.isList⟩
    ·obtain ⟨its, r, p, _⟩ := I1.tuple q; exact ⟨true, its, r, p⟩
   obtain ⟨b1, i1, rv1, p1⟩ := sq hx
   obtain ⟨b2, i2, rv2, p2'⟩ := sq hy
   have hl1 := rv1.length
   have hl2 := rv2.length
   have lt1 := p1.lt
   have lt2 := p2'.lt
   refine call_zipG p1 p2' fun h' z1 z2 z3 z4 z5 z6 z7 => Calls.spliced_nil ?_
   have D : ZipApart (s1.heap.objs.size + 4) (s1.heap.objs.size + 2) (s1.heap.objs.size + 3) s1.heap.objs.size (s1.heap.objs.size + 1) l1 l2 := PyProof.Rows.zipApart_new lt1 lt2
   refine call_list_zip (s := { s1 with heap := h' }) (I1.ok.hd hc) D (by simp; omega) (by simp; omega) (fun b hb => ?_) (fun S => ⟨.inl ⟨rfl, z1, z3⟩, z2, z4, z5, ⟨_, z3⟩⟩) fun h2 acc c kp hS hacc => ?_
   ·show b < h'.objs.size
    rw [z6]
    simp only [List.mem_cons, List.not_mem_nil, or_false] at hb
    have lt1 : (l1 : Nat) < s1.heap.objs.size := lt1
    have lt2 : (l2 : Nat) < s1.heap.objs.size := lt2
    have : (b : Nat) < s1.heap.objs.size + 5 := by
     rcases hb with h | h | h | h | h | h | h <;> (rw [h]; first | exact Nat.lt_succ_of_lt (Nat.lt_succ_of_lt (Nat.lt_succ_of_lt (Nat.lt_succ_of_lt (Nat.lt_succ_of_lt lt1)))) | exact Nat.lt_succ_of_lt (Nat.lt_succ_of_lt (Nat.lt_succ_of_lt (Nat.lt_succ_of_lt (Nat.lt_succ_of_lt lt2)))) | exact Nat.add_lt_add_left (by decide) _ | exact Nat.lt_add_of_pos_right (by decide))
    exact this
   ·obtain ⟨c1, ts, c2, c3, c4, c5⟩ := hacc
    have big : ∀ b o, s1.heap.get? b = some o -> h2.get? b = some o := fun b o e => by
     have hlt := Heap.lt_size e
     refine kp b o (fun hb => ?_) (z7 b o e)
     have hb : b ∈ [h'.objs.size, s1.heap.objs.size + 4, s1.heap.objs.size + 3, s1.heap.objs.size, s1.heap.objs.size + 1] := hb
     rw [z6] at hb
     simp only [List.mem_cons, List.not_mem_nil, or_false] at hb
     have hge : s1.heap.objs.size <= (b : Nat) := by
      rcases hb with h | h | h | h | h <;> (rw [h]; first | exact Nat.le_add_right _ _ | exact Nat.le_refl _)
     exact absurd hlt (Nat.not_lt.mpr hge)
    have I2 : Inv X pins σ H1 { s1 with heap := h2 } := I1.kept (t' := s1.toks) big
    have n1 : i1.toArray.size = xs.length := by simp; omega
    rw [n1] at c1 c2
    have hL : H1 h'.objs.size = none := I1.hok.fresh (by rw [z6]; omega)
    obtain ⟨H2, lay, I3, k⟩ := adopt_tups I1 (xs.zip ys) (i1.zip i2) ts H1 I2 c4 (fun t ht => by
     obtain ⟨j, hj, e⟩ := List.getElem_of_mem ht
     obtain ⟨b1, _⟩ := c5 j t (by rw [← e]; exact List.getElem?_eq_getElem hj)
     have b1 : h'.objs.size + 1 <= t := b1
     have b2 : s1.heap.objs.size <= t := by rw [z6] at b1; exact Nat.le_trans (Nat.le_add_right _ 6) b1
     exact ⟨b2, I1.hok.fresh b2⟩) (by rw [List.length_zip, c2]; omega) (by rw [List.length_zip, c2]; omega) fun j t p u e1 e2 e3 => by
      obtain ⟨_, _, x, y, w1, w2, w3⟩ := c5 j t e1
      obtain ⟨px, py⟩ := p
      obtain ⟨ux, uy⟩ := u
      rw [List.getElem?_zip_eq_some] at e2 e3
      have w1 : i1[j]? = some x := by simpa using w1
      have w2 : i2[j]? = some y := by simpa using w2
      obtain ⟨a1, a2, a3⟩ := rv1.get e2.1
      obtain ⟨b1, b2, b3⟩ := rv2.get e2.2
      have q1 := e3.1.symm.trans w1
      have q2 := e3.2.symm.trans w2
      cases q1
      cases q2
      have q3 := a2.symm.trans w1
      have q4 := b2.symm.trans w2
      cases q3
      cases q4
      exact ⟨a3, b3, w3⟩
    have hL2 : H2 h'.objs.size = none := by
     rw [k _ fun hin => ?_]
     ·exact hL
     ·obtain ⟨j, hj, e⟩ := List.getElem_of_mem hin
      have e' : ts[j]? = some h'.objs.size := (List.getElem?_eq_getElem hj).trans (congrArg some e)
      obtain ⟨b1, _⟩ := c5 j _ e'
      exact absurd (show h'.objs.size + 1 <= h'.objs.size from b1) (Nat.not_succ_le_self _)
    have vals : ∀ ts : List Addr, Vals (ts.map V.ref) (ts.map Value.ref) := fun ts => by
     induction ts with
     | nil => exact .nil
     | cons t ts ih => exact .cons rfl ih
    have I4 := Inv.adopt (o := .lst (ts.map .ref)) I3 (I1.fpOk (by rw [z6]; omega) hL2) (Nat.le_trans I1.sz (by rw [z6]; omega)) ⟨by rw [List.length_map, c2]; exact hz, ts.map Value.ref, c, vals ts, by rw [← c3]; exact hS⟩
    exact ⟨.ref h'.objs.size, _, I4, rfl, q ts H2 _ lay hL2⟩
end HW
namespace HW
open PySem PySem.Spec PyProof.Rows L2
noncomputable def zipTs (xs ys : List D) : List D := (xs.zip ys).map fun p => .tup [p.1, p.2]
noncomputable def fZipL (fa fb : FE) : FE := fun ρ μ => (fa ρ μ).bind fun a => (fb ρ a.2).bind fun b => (itemsD a.1 b.2).bind fun xs => (itemsD b.1 b.2).bind fun ys => if xs.length = ys.length /\ xs.length <= sizeLine then some (.p b.2.length, b.2 ++ [.lst (zipTs xs ys)]) else none
theorem lay_keep {ps : List (V × V)} {ts : List Addr} {H H' : Hp} (h : LayTs ps ts H H') : ∀ a o, H a = some o -> H' a = some o := by
 induction h with
 | nil => exact fun _ _ e => e
 | cons hn _ ih => exact fun a o e => ih a o (upd_keeps hn a o e)
theorem lay_ext {ps : List (V × V)} {ts : List Addr} {H H' : Hp} {m : List Addr} (h : LayTs ps ts H H') : Ext m H m H' := by
 induction h with
 | nil => exact .refl
 | cons hn _ ih => exact (Ext.new hn).trans ih
theorem lay_rel {K : PySem.W.Frag} {ps : List (V × V)} {ts : List Addr} {H H' : Hp} (h : LayTs ps ts H H') : ∀ {xs ys : List D}, xs.length = ys.length -> RelDs K H xs (ps.map (·.1)) -> RelDs K H ys (ps.map (·.2)) -> RelDs K H' (zipTs xs ys) (ts.map .ref) := by
 induction h with
 | nil =>
  intro xs ys hl r1 r2
  have : xs = [] := List.eq_nil_of_length_eq_zero (by rw [r1.length]; rfl)
  subst this
  simp only [zipTs, List.zip_nil_left, List.map_nil, RelDs]
 | @cons x y ps t ts H H' hn l ih =>
  intro xs ys hl r1 r2
  cases xs with
  | nil => simp [RelDs] at r1
  | cons dx xs =>
   cases ys with
   | nil => simp at hl
   | cons dy ys =>
    simp only [List.map_cons, RelDs] at r1 r2
    obtain ⟨v1, w1, e1, a1, b1⟩ := r1
    obtain ⟨v2, w2, e2, a2, b2⟩ := r2
    simp only [List.cons.injEq] at e1 e2
    obtain ⟨rfl, rfl⟩ := e1
    obtain ⟨rfl, rfl⟩ := e2
    have tf : TF H (upd H t (.tup [x, y])) := (Ext.new (m := []) hn).tf
    have tf2 : TF (upd H t (.tup [x, y])) H' := (lay_ext (m := []) l).tf
    have := ih (by simpa using hl) (RelDs.tf tf _ _ b1) (RelDs.tf tf _ _ b2)
    show RelDs K H' (.tup [dx, dy] :: zipTs xs ys) (.ref t :: ts.map .ref)
    simp only [RelDs, RelD]
    refine ⟨_, _, rfl, ⟨t, [x, y], rfl, .inl (.inl (tf2.tup _ _ upd_at)), ?_⟩, this⟩
    exact ⟨x, [y], rfl, RelD.tf (tf.trans tf2) _ _ a1, y, [], rfl, RelD.tf (tf.trans tf2) _ _ a2, rfl⟩
theorem rd_zip {K : PySem.W.Frag} {σ : L2.St} {H : Hp} {Q : VK} {fa fb} (h : rdE K (fZipL fa fb) σ H Q) : tZip K (rdA K (fCons fa (fCons fb fNil))) σ H Q := by
 obtain ⟨ρ, μ, m, d, μ', hl, hs, e, k⟩ := h
 obtain ⟨⟨x, μ1⟩, e1, e⟩ := Option.bind_eq_some_iff.mp e
 obtain ⟨⟨y, μ2⟩, e2, e⟩ := Option.bind_eq_some_iff.mp e
 obtain ⟨xs, e3, e⟩ := Option.bind_eq_some_iff.mp e
 obtain ⟨ys, e4, e⟩ := Option.bind_eq_some_iff.mp e
 split at e
 ·rename_i hz
  cases e
  refine ⟨ρ, μ, m, [x, y], μ2, hl, hs, by simp [fCons, e1, e2, fNil], fun vs H1 m1 x1 s1 r1 => ?_⟩
  obtain ⟨v, r, rfl, ra, rr⟩ := r1
  obtain ⟨u, r', rfl, rb, rn⟩ := rr
  have rn : r' = [] := rn
  subst rn
  obtain ⟨a, vs, rfl, qa, ma⟩ := items_ok s1 ra e3
  obtain ⟨b, us, rfl, qb, mb⟩ := items_ok s1 rb e4
  have h1 := ma.length
  have h2 := mb.length
  refine ⟨a, b, vs, us, rfl, qa, qb, by omega, by omega, fun ts H2 l lay hn => ?_⟩
  have x2 : Ext m1 H1 m1 H2 := lay_ext lay
  have z1 : (vs.zip us).map (·.1) = vs := List.map_fst_zip (by omega)
  have z2 : (vs.zip us).map (·.2) = us := List.map_snd_zip (by omega)
  have rel := lay_rel (K := K) lay hz.1 (by rw [z1]; exact ma) (by rw [z2]; exact mb)
  obtain ⟨y1, y2, y3⟩ := new_lst (s1.same (lay_keep lay)) rel hn
  exact k _ _ _ ((x1.trans x2).trans y1) y2 y3
 ·cases e
end HW
namespace HW
open PySem PySem.Spec PyProof.Rows L2
section
variable {prog : Program} {w : World} {A : Around} {E : Value -> Shared -> Prop} {s : Shared}
end
end HW
namespace HK
open PySem PySem.Spec PyProof.Rows L2
section
variable {prog : Program} {w : World} {A : Around} {E : Value -> Shared -> Prop} {s : Shared} {d it v : Addr} {es : Array DictEntry} {ep i : Nat} {ok ov : Value}
theorem wi : WK prog w "dict_itemiterator" "dict_itemiterator.__next__" 2 := ⟨F.slot_dict_itemiterator_next, F.entry_dict_itemiterator_next, F.args_dict_itemiterator_next_1, by decide, fun _ _ _ _ y => ⟨fun _ => wpAny_typeNameOfWhole_itemiter y, fun _ _ => wpAny_isOneOf_itemiter y⟩⟩
end
end HK
namespace L2
open PySem PySem.Spec PyProof.Rows HK
end L2
namespace HW
open PySem PySem.Spec PyProof.Rows L2
end HW
namespace HS
open PySem PySem.Spec PyProof.Rows
section
variable {prog : Program} {w : World} {A : Around} {E : Value -> Shared -> Prop} {s : Shared} {R : Result -> Shared -> Prop} {I : Addr} {fp wr : List Addr} {n : Nat} {P : Nat -> Value -> Prop} {St : Nat -> Heap -> Prop}
end
end HS
namespace HW
open PySem PySem.Spec PyProof.Rows L2 HS
end HW
namespace HS
open PySem PySem.Spec PyProof.Rows
noncomputable def advN (t : SetTable) : Nat -> SetTable.Probe -> SetTable.Probe
 | 0, p => p
 | n + 1, p => advN t n (t.advance p)
noncomputable def fr (m i p : Nat) : SetTable.Probe := { j := i, more := SetTable.runEnd m i - i, i := i, perturb := p, dummy := none }
end HS
namespace HS
open PySem PySem.Spec PyProof.Rows
section
variable {prog : Program} {w : World} {A : Around} {E : Value -> Shared -> Prop} {s : Shared}
abbrev IsT (prog : Program) (w : World) (h : Heap) (ks : List Int) (a : Addr) : Prop := IsTupleKey (intKind prog w) h ks a
theorem items_int {prog : Program} {w : World} {ks : List Int} {vs : List Value} (h : ItemsAre (intKind prog w) ks vs) : ∀ v ∈ vs, ∃ n t, v = .int n t := by
 induction h with
 | nil => intro v hv; simp at hv
 | @cons k v' ks vs h1 _ ih =>
  intro v hv
  rcases List.mem_cons.mp hv with rfl | hv
  ·cases v with
   | int n t => exact ⟨n, t, rfl⟩
   | _ => simp [intKind, Value.isInt] at h1
  ·exact ih v hv
structure TabT (prog : Program) (w : World) (led : Bool) (h : Heap) (es : Array (Int × Value)) (t : SetTable) (vs : List Value) : Prop where
 W : TabW led es t
 ms : t.mask ∈ masks
 dm : t.dummies = #[]
 pl : t.plain = true
 lo : t.place.size * 5 < t.mask * 3
 pm : (es.toList.map (·.2)).Perm vs
 el : ∀ e ∈ es.toList, ∃ b ls, e.2 = .ref b /\ IsT prog w h ls b
end
end HS
namespace HS
open PySem PySem.Spec PyProof.Rows
section
variable {prog : Program} {w : World} {A : Around} {R : Result -> Shared -> Prop} {I : Addr} {fp wr : List Addr} {G : Array GenState -> Array GenState -> Prop} {n : Nat} {P : Nat -> Value -> Prop} {St : Nat -> Shared -> Prop}
end
section
variable {prog : Program} {w : World} {A : Around} {E : Value -> Shared -> Prop} {s : Shared}
end
end HS
namespace HW
open PySem PySem.Spec PyProof.Rows L2 HS HT2
end HW
namespace HK
open PySem PySem.Spec PyProof.Rows L2 HS HT2
section
variable {prog : Program} {w : World} {A : Around} {E : Value -> Shared -> Prop} {s : Shared}
end
end HK
namespace HW
open PySem PySem.Spec PyProof.Rows L2 HS HT2 HK
end HW
namespace HK
open PySem PySem.Spec PyProof.Rows L2 HT2
section
variable {prog : Program} {w : World} {A : Around} {E : Value -> Shared -> Prop} {s : Shared} {d it v : Addr} {es : Array DictEntry} {ep i : Nat}
end
end HK
namespace PySem
section
variable {prog : Program} {w : World} {K : Type} [DecidableEq K] {knd : HeapKind prog w K} {A : Around} {E : Value -> Shared -> Prop} {s : Shared}
end
end PySem
namespace HW
open PySem PySem.Spec PyProof.Rows L2 HK HT2
end HW
namespace HS
open PySem PySem.Spec PyProof.Rows
def Chain (t : SetTable) (h : Int) (j : Nat) : Prop := ∃ n, (advN t n (t.probeStart h)).j = j /\ ∀ k < n, t.slot (advN t k (t.probeStart h)).j ≠ .empty
end HS
namespace HS
open PySem PySem.Spec PyProof.Rows
def CAll (es : Array (Int × Value)) (t : SetTable) : Prop := ∀ (i : Nat) (e : Int × Value) (j : Nat), es[i]? = some e -> t.place[i]? = some j -> Chain t e.1 j
section
variable {prog : Program} {w : World} {A : Around} {E : Value -> Shared -> Prop} {s : Shared}
structure TabC (prog : Program) (w : World) (TH : List Int -> Int) (led : Bool) (h : Heap) (es : Array (Int × Value)) (t : SetTable) (vs : List Value) : Prop where
 T : TabT prog w led h es t vs
 ch : CAll es t
 hh : ∀ e ∈ es.toList, ∃ b ls, e.2 = .ref b /\ IsT prog w h ls b /\ e.1 = TH ls
end
end HS
namespace HS
open PySem PySem.Spec PyProof.Rows
section
variable {prog : Program} {w : World} {A : Around} {R : Result -> Shared -> Prop} {I : Addr} {fp wr : List Addr} {G : Array GenState -> Array GenState -> Prop} {n : Nat} {P : Nat -> Value -> Prop} {St : Nat -> Shared -> Prop}
end
section
variable {prog : Program} {w : World} {A : Around} {E : Value -> Shared -> Prop} {s : Shared}
end
end HS
namespace HW
open PySem PySem.Spec PyProof.Rows L2 HS HT2
noncomputable def ddt (acc : List (List Int)) (k : List Int) : List (List Int) := if k ∈ acc then acc else acc ++ [k]
noncomputable def dd (L : List (List Int)) : List (List Int) := L.foldl ddt []
end HW
namespace HW
open PySem PySem.Spec PyProof.Rows L2
open Classical in
noncomputable def less (cl : List (Str × Addr)) (H : Hp) : Hp := fun b => if (∃ y, cl.lookup y = some b) then none else H b
section
variable {X : Cx} {pins : List (Addr × Obj)} {σ : L2.St} {H : Hp} {s : Shared}
end
end HW
namespace HW
open PySem PySem.Spec PyProof.Rows L2
end HW
namespace HW
open PySem PySem.Spec PyProof.Rows L2
structure SamT (P : Addr) (q : Str) (H H' : Hp) : Prop where
 keep : ∀ b o, b ≠ P -> H b = some o -> H' b = some o
 tab : ∃ ps, H' P = some (.tbl ps) /\ LamGood H' q ps
section
variable {K : PySem.W.Frag} {m : List Addr} {σ : L2.St} {H H' : Hp} {μ : Store} {Q : VK}
end
structure FunC (K : PySem.W.Frag) (x : Str) (st : Stmt) (f : Addr) (fd : FuncData) (c : Addr) : Prop where
 ex : ∃ (oc : Value) (od : Option Addr) (kV doc pm : Value) (an : Option Addr) (ct : Value) (osl : Array (Option Value)),
  fd = PySem.W.fnOf x x (defArgs st) (defBody st) (defScope st) .none kV doc pm an (.ref c) ct /\ K.lookup f = some ⟨oc, od, .func fd, osl⟩ /\ PySem.W.codeIn K (.ref c) x = true
 kp : PySem.W.keepIn K (.ref f) = true
section
variable {P : Program} {w : World} {K : PySem.W.Frag} {mg : Str -> Option Value} {base : Heap} {x : Str} {st : Stmt} {f : Addr} {fd : FuncData} {N ps : List Str} {k : Nat} {tP : Nat} {tQ : Str} {b : FS} {c : Addr}
end
end HW
namespace HW
open PySem PySem.Spec PyProof.Rows L2
section
variable {K : PySem.W.Frag} {m : List Addr} {σ : L2.St} {H : Hp} {Q : VK} {μ : Store}
theorem RelRs.length : ∀ {ds : List R} {vs : List V}, RelRs K m H ds vs -> ds.length = vs.length
 | [], _, h => by cases (show _ = [] from h); rfl
 | _ :: _, _, ⟨v, r, e, h1, h2⟩ => by subst e; simp [RelRs.length h2]
theorem RelRs.get : ∀ {ds : List R} {vs : List V} {i : Nat} {d : R}, RelRs K m H ds vs -> ds[i]? = some d -> ∃ v, vs[i]? = some v /\ RelR K m H d v
 | [], _, _, _, _, e => by simp at e
 | _ :: _, _, 0, _, ⟨v, r, e, h1, h2⟩, q => by subst e; simp at q; subst q; exact ⟨v, rfl, h1⟩
 | _ :: _, _, i + 1, _, ⟨v, r, e, h1, h2⟩, q => by subst e; simp at q; obtain ⟨w, a, b⟩ := RelRs.get h2 q; exact ⟨w, by simpa using a, b⟩
end
section
variable {K : PySem.W.Frag} {m : List Addr} {σ : L2.St} {H : Hp} {Q : VK} {μ : Store}
end
noncomputable abbrev MW := List R -> Store -> Option (R × Store)
noncomputable def finW : Out -> Option (R × Store)
 | .rt r μ => some (r, μ)
 | .nx _ μ => some (.v .non, μ)
 | _ => none
noncomputable def runW (k : Nat) (b : FS) : MW := fun rs μ => (b (rs.map some ++ List.replicate (k - rs.length) none) μ).bind finW
noncomputable def spW (K : PySem.W.Frag) (n : Nat) (f : MW) : Sp := fun vs H Q _ => ∃ μ m rs d μ', rs.length = n /\ SRel K m H μ /\ RelRs K m H rs vs /\ f rs μ = some (d, μ') /\
 ∀ v H' m', Ext m H m' H' -> SRel K m' H' μ' -> RelR K m' H' d v -> Q v H'
theorem start_rs {K : PySem.W.Frag} {m : List Addr} {H : Hp} {N : List Str} {rs : List R} {vs : List V} (r : RelRs K m H rs vs) : LRel K m H (rs.map some ++ List.replicate (N.length - rs.length) none) (L2.start N vs) := by
 have hl := r.length
 refine ⟨by simp [L2.start, hl], fun i d e => ?_⟩
 by_cases hi : i < rs.length
 ·rw [List.getElem?_append_left (by simpa using hi), List.getElem?_map] at e
  cases q : rs[i]? with
  | none => rw [q] at e; cases e
  | some x =>
   rw [q] at e; cases e
   obtain ⟨v, q1, q2⟩ := r.get q
   refine ⟨v, ?_, q2⟩
   unfold L2.start
   rw [List.getElem?_append_left (by simp; omega), List.getElem?_map, q1]; rfl
 ·rw [List.getElem?_append_right (by simpa using hi), List.getElem?_replicate] at e
  split at e <;> cases e
theorem Fun.okW {P : Program} {w : World} {K : PySem.W.Frag} {mg : Str -> Option Value} {base : Heap} {x qual : Str} {st : Stmt} {f : Addr} {fd : FuncData} {N ps : List Str} {k : Nat} {b : FS} (F : Fun K x qual st f fd) (S : FnScope N ps (defScope st))
  (hbody : ∀ (cdv : Value) (A : Around) (outer : List Env) (s : Shared) (H : Hp) (E : XK), Room k (A.deeper (envOfC qual (defScope st) s.heap.objs.size f cdv)) -> PSs (cxOf CX0 P w K mg base N qual (defScope st) f cdv A outer s H E).nox (defBody st) (rdS K b)) :
  FnOk P w K mg base CX0 (k + 1) f fd ps (spW K ps.length (runW N.length b)) := by
 have G : FnOk P w K mg base CX0 (k + 1) f fd ps (fun vs H Q _ => vs.length = ps.length /\ rdS K b { nx := fun _ H' => Q .non H', rt := Q } (L2.start N vs) H) :=
  L2.Fun.ok F S (fun vs H Q E h => h.1) fun cdv A outer s H vs Q E hr h => ⟨_, hbody cdv A outer s H E hr, h.2⟩
 refine G.imp fun vs H Q E hh => ?_
 obtain ⟨μ, m, rs, d, μ', hn, hs, r, e, k⟩ := hh
 refine ⟨by rw [← r.length]; exact hn, ?_⟩
 obtain ⟨o, e1, e⟩ := Option.bind_eq_some_iff.mp e
 refine ⟨_, μ, m, o, start_rs r, hs, e1, ?_⟩
 cases o with
 | nx ρ μ1 => cases e; exact fun σ H' m' x1 s1 _ => k _ H' m' x1 s1 (by simp only [RelR, RelD])
 | rt d μ1 => cases e; exact fun v H' m' x1 s1 r1 => k _ H' m' x1 s1 r1
 | bk ρ μ1 => cases e
 | ct ρ μ1 => cases e
noncomputable def fCallW (f : MW) (n : Nat) (fa : FA) : FE := fun ρ μ => (fa ρ μ).bind fun a => if a.1.length = n then f a.1 a.2 else none
structure ClsN (K : PySem.W.Frag) (mg : Str -> Option Value) (c : Str) (C : Addr) : Prop where
 ns : PySem.W.nsIn K mainGlobals c = some (some (.ref C))
 mg : mg c = some (.ref C)
 cl : Cls K C
noncomputable def obOf (c : Str) (μ : Store) (x : R) : Option (List (Str × R)) := match x with
 | .p n => (match μ[n]? with | some (.ob c' fs) => if c' = c then some fs else none | _ => none)
 | _ => none
noncomputable def putFR (f : Str) (v : R) : List (Str × R) -> List (Str × R)
 | [] => [(f, v)]
 | (g, x) :: r => if g = f then (g, v) :: r else (g, x) :: putFR f v r
def FR (K : PySem.W.Frag) (m : List Addr) (H : Hp) (fs : List (Str × R)) (es : List (Str × V)) : Prop := es.map (·.1) = fs.map (·.1) /\ RelRs K m H (fs.map (·.2)) (es.map (·.2))
section
variable {K : PySem.W.Frag} {m m' : List Addr} {H H' : Hp}
theorem FR.cons {k k' : Str} {d : R} {v : V} {fs : List (Str × R)} {es : List (Str × V)} : FR K m H ((k, d) :: fs) ((k', v) :: es) ↔ k' = k /\ RelR K m H d v /\ FR K m H fs es := by
 constructor
 ·rintro ⟨h1, h2⟩
  simp only [List.map_cons, List.cons.injEq] at h1
  obtain ⟨w, r, e, h3, h4⟩ := h2
  simp only [List.map_cons, List.cons.injEq] at e
  obtain ⟨rfl, rfl⟩ := e
  exact ⟨h1.1, h3, h1.2, h4⟩
 ·rintro ⟨rfl, h1, h2, h3⟩
  exact ⟨by simp [h2], ⟨_, _, rfl, h1, h3⟩⟩
theorem FR.look : ∀ {fs : List (Str × R)} {es : List (Str × V)} (f : Str), FR K m H fs es -> (fs.lookup f = none /\ es.lookup f = none) \/ ∃ d v, fs.lookup f = some d /\ es.lookup f = some v /\ RelR K m H d v
 | [], es, f, h => by
  have : es = [] := by simpa using h.1
  subst this
  exact .inl ⟨rfl, rfl⟩
 | (a, d) :: fs, [], f, h => by have := h.1; simp at this
 | (a, d) :: fs, (b, v) :: es, f, h => by
  obtain ⟨rfl, h1, h2⟩ := FR.cons.mp h
  simp only [List.lookup_cons]
  cases q : f == b with
  | true => exact .inr ⟨d, v, rfl, rfl, h1⟩
  | false => exact FR.look f h2
theorem FR.put {f : Str} {d : R} {v : V} (rd : RelR K m H d v) : ∀ {fs : List (Str × R)} {es : List (Str × V)}, FR K m H fs es -> FR K m H (putFR f d fs) (putF f v es)
 | [], es, h => by
  have : es = [] := by simpa using h.1
  subst this
  exact FR.cons.mpr ⟨rfl, rd, rfl, rfl⟩
 | (a, x) :: fs, [], h => by have := h.1; simp at this
 | (a, x) :: fs, (b, y) :: es, h => by
  obtain ⟨rfl, h1, h2⟩ := FR.cons.mp h
  unfold putFR putF
  by_cases q : b = f
  ·rw [if_pos q, if_pos q]; exact FR.cons.mpr ⟨rfl, rd, h2⟩
  ·rw [if_neg q, if_neg q]; exact FR.cons.mpr ⟨rfl, h1, FR.put rd h2⟩
theorem FR.ext (x : Ext m H m' H') {fs : List (Str × R)} {es : List (Str × V)} (h : FR K m H fs es) : FR K m' H' fs es := ⟨h.1, RelRs.ext x h.2⟩
theorem FR.len {fs : List (Str × R)} {es : List (Str × V)} (h : FR K m H fs es) : es.length = fs.length := by simpa using congrArg List.length h.1
theorem ob_ok {mg : Str -> Option Value} {c : Str} {C : Addr} {μ : Store} {x : R} {v : V} {fs : List (Str × R)} (N : ClsN K mg c C) (s : SRel K m H μ) (r : RelR K m H x v) (e : obOf c μ x = some fs) :
  ∃ n a dx es, x = .p n /\ m[n]? = some a /\ v = .ref a /\ H a = some (.ins C dx es) /\ FR K m H fs es := by
 unfold obOf at e
 split at e
 ·rename_i n
  split at e
  ·rename_i c' gs q
   split at e
   ·rename_i hc
    cases e
    subst hc
    obtain ⟨a, rfl, ha⟩ := r
    obtain ⟨C', dx, es, h1, h2, h3, h4⟩ := s.cell _ _ a q ha
    rw [N.ns] at h1
    cases h1
    exact ⟨n, a, dx, es, rfl, ha, rfl, h2, h3, h4⟩
   ·cases e
  ·cases e
 ·cases e
end
noncomputable def fFld (c f : Str) (fo : FE) : FE := fun ρ μ => (fo ρ μ).bind fun o => (obOf c o.2 o.1).bind fun fs => (fs.lookup f).bind fun d => some (d, o.2)
noncomputable def sFldF (c f : Str) (fo fv : FE) : FS := fun ρ μ => (fv ρ μ).bind fun v => (fo ρ v.2).bind fun o => (obOf c o.2 o.1).bind fun fs => if fs.length < 1000 then (match o.1 with | .p n => some (.nx ρ (o.2.set n (.ob c (putFR f v.1 fs)))) | _ => none) else none
noncomputable def fMeth (c nm : Str) (f : MW) (n : Nat) (fo : FE) (fa : FA) : FE := fun ρ μ => (fo ρ μ).bind fun o => (obOf c o.2 o.1).bind fun fs => if (fs.lookup nm).isNone = true then (fa ρ o.2).bind fun a => if a.1.length + 1 = n then f (o.1 :: a.1) a.2 else none else none
section
variable {K : PySem.W.Frag} {σ : L2.St} {H : Hp} {Q : VK} {mg : Str -> Option Value} {c : Str} {C : Addr}
theorem rd_callW {f : MW} {n : Nat} {fa} {E : XK} (h : rdE K (fCallW f n fa) σ H Q) : tCall (spW K n f) [] E (rdA K fa) σ H Q := by
 obtain ⟨ρ, μ, m, d, μ', hl, hs, e, k⟩ := h
 obtain ⟨⟨xs, μ1⟩, e1, e⟩ := Option.bind_eq_some_iff.mp e
 split at e
 ·rename_i hn
  refine ⟨ρ, μ, m, xs, μ1, hl, hs, e1, fun vs H1 m1 x1 s1 r1 => ?_⟩
  exact ⟨μ1, m1, xs, d, μ', hn, s1, by rw [List.append_nil]; exact r1, e, fun v H' m' x2 s2 r2 => k v H' m' (x1.trans x2) s2 r2⟩
 ·cases e
theorem rd_fld {f : Str} {fo} (N : ClsN K mg c C) (hf : NoAttr K C f) (h : rdE K (fFld c f fo) σ H Q) : tFld K (rdE K fo) f σ H Q := by
 obtain ⟨ρ, μ, m, d, μ', hl, hs, e, k⟩ := h
 obtain ⟨⟨o, μ1⟩, e1, e⟩ := Option.bind_eq_some_iff.mp e
 obtain ⟨fs, e2, e⟩ := Option.bind_eq_some_iff.mp e
 obtain ⟨d', e3, e⟩ := Option.bind_eq_some_iff.mp e
 cases e
 refine ⟨ρ, μ, m, o, μ1, hl, hs, e1, fun v H1 m1 x1 s1 r1 => ?_⟩
 obtain ⟨n, a, dx, es, rfl, ha, rfl, ea, fr⟩ := ob_ok N s1 r1 e2
 rcases fr.look f with ⟨z, _⟩ | ⟨d0, v0, z1, z2, z3⟩
 ·rw [z] at e3; cases e3
 ·rw [z1] at e3; cases e3
  exact ⟨a, C, dx, es, v0, rfl, ea, N.cl, hf, z2, k _ H1 m1 x1 s1 z3⟩
theorem rd_sfld {f : Str} {fo fv} {D : Ends} (N : ClsN K mg c C) (hf : NoAttr K C f) (h : rdS K (sFldF c f fo fv) D σ H) : sFld K (rdE K fo) (rdE K fv) f D σ H := by
 obtain ⟨ρ, μ, m, o, hl, hs, e, k⟩ := h
 obtain ⟨⟨v, μ1⟩, e1, e⟩ := Option.bind_eq_some_iff.mp e
 obtain ⟨⟨ob, μ2⟩, e2, e⟩ := Option.bind_eq_some_iff.mp e
 obtain ⟨fs, e3, e⟩ := Option.bind_eq_some_iff.mp e
 split at e
 ·rename_i hlt
  refine ⟨ρ, μ, m, v, μ1, hl, hs, e1, fun y H1 m1 x1 s1 r1 => ?_⟩
  refine ⟨ρ, μ1, m1, ob, μ2, hl.ext x1, s1, e2, fun vo H2 m2 x2 s2 r2 => ?_⟩
  obtain ⟨n, a, dx, es, rfl, ha, rfl, ea, fr⟩ := ob_ok N s2 r2 e3
  dsimp only at e
  cases e
  have x : Ext m2 H2 m2 (upd H2 a (.ins C dx (putF f y es))) := .put (List.mem_of_getElem? ha) ea (by simp) (by simp)
  refine ⟨a, C, dx, es, rfl, ea, N.cl, hf, by rw [fr.len]; exact hlt, ?_⟩
  have x3 := (x1.trans x2).trans x
  have fr2 := (FR.put (f := f) (r1.ext x2) fr).ext x
  exact k _ _ m2 x3 (s2.put ha ea (by simp) (by simp) ⟨C, dx, _, N.ns, upd_at, fr2.1, fr2.2⟩) (hl.ext x3)
 ·cases e
theorem rd_meth {nm : Str} {f : MW} {n : Nat} {fo fa} {E : XK} (N : ClsN K mg c C) (h : rdE K (fMeth c nm f n fo fa) σ H Q) : tMeth C nm (spW K n f) [] E (rdE K fo) (rdA K fa) σ H Q := by
 obtain ⟨ρ, μ, m, d, μ', hl, hs, e, k⟩ := h
 obtain ⟨⟨o, μ1⟩, e1, e⟩ := Option.bind_eq_some_iff.mp e
 obtain ⟨fs, e2, e⟩ := Option.bind_eq_some_iff.mp e
 split at e
 ·rename_i hno
  obtain ⟨⟨xs, μ2⟩, e3, e⟩ := Option.bind_eq_some_iff.mp e
  split at e
  ·rename_i hn
   refine ⟨ρ, μ, m, o, μ1, hl, hs, e1, fun v H1 m1 x1 s1 r1 => ?_⟩
   obtain ⟨i, a, dx, es, rfl, ha, rfl, ea, fr⟩ := ob_ok N s1 r1 e2
   have hlook : es.lookup nm = none := by
    rcases fr.look nm with ⟨_, z⟩ | ⟨d0, v0, z1, z2, z3⟩
    ·exact z
    ·rw [z1] at hno; cases hno
   refine ⟨a, dx, es, rfl, ea, hlook, ?_⟩
   refine ⟨ρ, μ1, m1, xs, μ2, hl.ext x1, s1, e3, fun vs H2 m2 x2 s2 r2 => ?_⟩
   exact ⟨μ2, m2, .p i :: xs, d, μ', by simpa using hn, s2, ⟨_, _, rfl, r1.ext x2, by rw [List.append_nil]; exact r2⟩, e, fun v H' m' x3 s3 r3 => k v H' m' ((x1.trans x2).trans x3) s3 r3⟩
  ·cases e
 ·cases e
end
theorem rdE_mono {K : PySem.W.Frag} {f : FE} {σ : L2.St} {H : Hp} {Q Q' : VK} (h : rdE K f σ H Q) (k : ∀ v H', Q v H' -> Q' v H') : rdE K f σ H Q' :=
 let ⟨ρ, μ, m, d, μ', hl, hs, e, q⟩ := h
 ⟨ρ, μ, m, d, μ', hl, hs, e, fun v H' m' x s r => k v H' (q v H' m' x s r)⟩
end HW
namespace HW
open PySem PySem.Spec PyProof.Rows L2 HS
noncomputable def fMakeA (c : Str) (f : MW) (n : Nat) (fa : FA) : FE := fun ρ μ => (fa ρ μ).bind fun a => if a.1.length + 1 = n then (f (.p a.2.length :: a.1) (a.2 ++ [.ob c []])).bind fun r => match r.1 with | .v .non => some (.p a.2.length, r.2) | _ => none else none
theorem rd_makeA {K : PySem.W.Frag} {mg : Str -> Option Value} {c : Str} {C : Addr} {σ : L2.St} {H : Hp} {Q : VK} {f : MW} {n : Nat} {fa : FA} {E : XK} (N : ClsN K mg c C) (h : rdE K (fMakeA c f n fa) σ H Q) : tMake C (spW K n f) [] E (rdA K fa) σ H Q := by
 obtain ⟨ρ, μ, m, d, μ', hl, hs, e, k⟩ := h
 obtain ⟨⟨xs, μ0⟩, e0, e⟩ := Option.bind_eq_some_iff.mp e
 dsimp only at e
 split at e
 ·rename_i hn
  obtain ⟨⟨r, μ1⟩, e1, e⟩ := Option.bind_eq_some_iff.mp e
  dsimp only at e
  split at e
  ·cases e
   refine ⟨ρ, μ, m, xs, μ0, hl, hs, e0, fun vs H1 m1 x1 s1 r1 => ?_⟩
   intro x dx hx hdx hne
   have y1 : Ext m1 H1 m1 (upd H1 dx (.own x)) := .new hdx
   have t1 := s1.same (upd_keeps hdx (o := HO.own x))
   have hx1 : upd H1 dx (.own x) x = none := by unfold upd; rw [if_neg (Ne.symm hne)]; exact hx
   have y2 : Ext m1 (upd H1 dx (.own x)) (m1 ++ [x]) (upd (upd H1 dx (.own x)) x (.ins C dx [])) := .newH hx1
   have s2 := t1.newH (c := .ob c []) hx1 ⟨C, dx, [], N.ns, upd_at, rfl, rfl⟩
   have hp : (m1 ++ [x])[μ0.length]? = some x := by rw [← s1.len]; simp
   refine ⟨_, _, .p μ0.length :: xs, _, _, by simpa using hn, s2, ⟨_, _, rfl, ⟨x, rfl, hp⟩, by rw [List.append_nil]; exact r1.ext (y1.trans y2)⟩, e1, fun v H' m' x3 s3 r3 => ?_⟩
   refine ⟨by simpa only [RelR, RelD] using r3, k _ H' m' ((x1.trans (y1.trans y2)).trans x3) s3 ?_⟩
   exact RelR.ext x3 (show RelR K (m1 ++ [x]) _ (.p μ0.length) (.ref x) from ⟨x, rfl, hp⟩)
  ·cases e
 ·cases e
end HW
namespace HW
open PySem PySem.Spec PyProof.Rows L2
end HW
namespace HW
open PySem PySem.Spec PyProof.Rows L2 HK
section
variable {P : Program} {w : World} {H H0 H2 : Hp} {h h0 : Heap} {a : Addr} {o : Obj} {es : List (Key × V)} {fs ex : List Addr}
end
structure Tw (H H' : Hp) : Prop where
 tup : ∀ a xs, H a = some (.tup xs) -> H' a = some (.tup xs)
 frz : ∀ a o u, (∀ o' u', u ≠ .frz o' u') -> H a = some (.frz o u) -> H' a = some (.frz o u)
section
variable {K : PySem.W.Frag} {m m' : List Addr} {H H' : Hp}
end
end HW
namespace L2
open PySem PySem.Spec PyProof.Rows HK HW
end L2
namespace HW
open PySem PySem.Spec PyProof.Rows L2
section
variable {K : PySem.W.Frag} {σ : L2.St} {H : Hp} {Q : VK}
theorem rd_compE {ix : List Nat} {k : Nat} {own : List Str} {fi : FI} {g : FG} {c : FT} {f : FE} (hk : own.length = k) (h : rdE K (fComp ix k fi g c f) σ H Q) : tComp ix own (rdIE K fi) (rdG K g) (rdT K c) (rdE K f) σ H Q := by
 obtain ⟨ρ, μ, m, d, μ', hl, hs, e, kk⟩ := h
 obtain ⟨⟨xs, μ1⟩, e1, e⟩ := Option.bind_eq_some_iff.mp e
 split at e
 ·rename_i hz
  obtain ⟨⟨r, μr⟩, e2, e⟩ := Option.bind_eq_some_iff.mp e
  cases e
  refine ⟨ρ, μ, m, xs, μ1, hl, hs, e1, fun J P H1 m1 x1 s1 ok p1 => ?_⟩
  refine ⟨fun i n ys τ H => n = xs.length - i /\ i <= xs.length /\ ys.length <= i /\ P H /\ ∃ ρ μ m ds r' , LRel K m H ρ τ /\ SRel K m H μ /\ RelDs K H ds ys /\ compL g c f (xs.drop i) ρ μ = some (r', μr) /\ r = ds ++ r' /\
   ∀ v H' m', Ext m H m' H' -> SRel K m' H' (μr ++ [.lst r]) -> RelR K m' H' (.p μr.length) v -> Q v H',
   ⟨_, rfl, Nat.zero_le _, Nat.le_refl _, p1, _, μ1, m1, [], r, block_rel hk (hl.ext x1), s1, by simp only [RelDs], by simpa using e2, rfl, fun v H' m' x2 s2 r2 => kk v H' m' (x1.trans x2) s2 r2⟩, ?_⟩
  rintro i n ys τ H ⟨rfl, hi, hy, p, ρ, μ, m, ds, r', hl, hs, rs, e, er, kk⟩
  by_cases hlt : i < xs.length
  ·have hx : xs[i]? = some xs[i] := List.getElem?_eq_getElem hlt
   rw [List.drop_eq_getElem_cons hlt, compL] at e
   obtain ⟨⟨ρ1, μ2⟩, q1, e⟩ := Option.bind_eq_some_iff.mp e
   obtain ⟨⟨b, μ3⟩, q2, e⟩ := Option.bind_eq_some_iff.mp e
   refine .inr ⟨ok.go i _ H hx p, Nat.lt_of_le_of_lt hy (Nat.lt_of_lt_of_le hlt hz), fun x H' y => ?_⟩
   obtain ⟨xe, rx⟩ := ok.yld i _ H x H' hx p y
   have x0 : Ext m H m H' := ext_same xe
   refine ⟨ρ, μ, m, .v xs[i], ρ1, μ2, LRel.ext x0 hl, hs.same xe, rx, q1, fun σ1 H1 m1 x1 s1 l1 => ?_⟩
   have x1 := x0.trans x1
   refine ⟨ρ1, μ2, m1, b, μ3, l1, s1, q2, fun H2 m2 x2 s2 => ?_⟩
   cases b with
   | true =>
    simp only [if_true] at e ⊢
    obtain ⟨⟨y', μ4⟩, q3, e⟩ := Option.bind_eq_some_iff.mp e
    refine ⟨ρ1, μ3, m2, y', μ4, l1.ext x2, s2, q3, fun w H3 m3 x3 s3 r3 => ?_⟩
    cases y' with
    | p _ => cases e
    | s _ _ => cases e
    | x _ => cases e
    | f _ _ => cases e
    | v d1 =>
     obtain ⟨⟨r1, μ5⟩, q4, e⟩ := Option.bind_eq_some_iff.mp e
     cases e
     have x4 := (x1.trans x2).trans x3
     refine ⟨_, (by omega : xs.length - (i + 1) < xs.length - i), rfl, hlt, by rw [List.length_append]; exact Nat.succ_le_succ hy, ok.st _ _ x4.tf p, ρ1, μ4, m3, ds ++ [d1], r1, l1.ext (x2.trans x3), s3,
      (RelDs.tf x4.tf _ _ rs).append (by simp only [RelDs]; exact ⟨w, [], rfl, r3, rfl⟩), q4, by rw [er, List.append_assoc]; rfl, fun v H' m' x5 s5 r5 => kk v H' m' (x4.trans x5) s5 r5⟩
   | false =>
    simp only [Bool.false_eq_true, if_false] at e ⊢
    have x4 := x1.trans x2
    exact ⟨_, (by omega : xs.length - (i + 1) < xs.length - i), rfl, hlt, Nat.le_succ_of_le hy, ok.st _ _ x4.tf p, ρ1, μ3, m2, ds, r', l1.ext x2, s2, RelDs.tf x4.tf _ _ rs, e, er, fun v H' m' x5 s5 r5 => kk v H' m' (x4.trans x5) s5 r5⟩
  ·have : i = xs.length := by omega
   subst this
   rw [List.drop_length, compL] at e
   cases e
   refine .inl ⟨ok.stop _ H p (Nat.le_refl _), fun p hp => ?_⟩
   obtain ⟨a1, a2, a3⟩ := new_lst hs rs hp
   rw [List.append_nil] at er
   subst er
   exact kk _ _ _ a1 a2 a3
 ·cases e
theorem rd_comp {ix : List Nat} {k : Nat} {own : List Str} {fi : FI} {g : FG} {c : FT} {f : FE} (hk : own.length = k) (h : rdE K (fComp ix k fi g c f) σ H Q) : tComp ix own (rdI K fi) (rdG K g) (rdT K c) (rdE K f) σ H Q :=
 let ⟨ρ, μ, m, xs, μ', hl, hs, e, k⟩ := rd_compE hk h
 ⟨ρ, μ, m, xs, μ', hl, hs, e, fun J P H' m' x s ok p => k J P H' m' x s ⟨ok.st, ok.stop, ok.go, fun i d H x H' e p y => by obtain ⟨rfl, r⟩ := ok.yld i d H x H' e p y; exact ⟨fun _ _ z => z, r⟩⟩ p⟩
end
end HW
namespace HW
open PySem PySem.Spec PyProof.Rows L2
end HW
namespace L2
open PySem PySem.Spec PyProof.Rows
end L2
namespace HW
open PySem PySem.Spec PyProof.Rows L2
section
variable {K : PySem.W.Frag} {σ : L2.St} {H : Hp} {Q : VK}
end
end HW
namespace L2
open PySem PySem.Spec PyProof.Rows HK
end L2
namespace HW
open PySem PySem.Spec PyProof.Rows L2
section
variable {K : PySem.W.Frag} {σ : L2.St} {H : Hp} {Q : VK}
end
end HW
namespace HW
open PySem PySem.Spec PyProof.Rows L2
end HW
namespace HW
open PySem PySem.Spec PyProof.Rows L2
end HW
namespace HW
open PySem PySem.Spec PyProof.Rows L2
example (w : World) (x : Str) : hashStr w x = PyData.keyHash w.params x := rfl
inductive CDEs (K : PySem.W.Frag) (w : World) : List (Str × D) -> List DictEntry -> List V -> Prop
 | nil : CDEs K w [] [] []
 | cons {x : Str} {d : D} {t : Tok} {u : Value} {v : V} {l es vs} : CRel K d v u -> CDEs K w l es vs -> CDEs K w ((x, d) :: l) (⟨hashStr w x, .str x t, u⟩ :: es) (v :: vs)
def CDict (K : PySem.W.Frag) (w : World) (mg : Str -> Option Value) (x : Str) (l : List (Str × D)) : Prop :=
 ∃ a ep es vs, mg x = some (.ref a) /\ K.lookup a = some ⟨.type "dict", none, .dict (List.toArray es) ep, #[]⟩ /\ (a == sysModules) = false /\ (l.map (·.1)).Nodup /\ CDEs K w l es vs
noncomputable def getC (l : List (Str × D)) (x : Str) : D := match l.find? fun p => decide (p.1 = x) with | some p => p.2 | none => .non
section
variable {X : Cx} {K : PySem.W.Frag} {w : World} {l : List (Str × D)} {es : List DictEntry} {vs : List V}
theorem CDEs.keys {P : Program} (h : CDEs K w l es vs) : KeysOf (mixKind P w) es.toArray /\ ∃ kvs : List (Key × Value), Pairs (mixKind P w) es kvs /\ kvs.map (·.1) = l.map (fun p => .inr (some p.1)) /\ ∀ x, ∃ v, RelV v ((valueAt kvs (.inr (some x))).getD .none) /\ ∀ H, RelD K H (getC l x) v := by
 induction h with
 | nil => exact ⟨fun e he => by simp at he, [], .nil, rfl, fun x => ⟨.non, rfl, fun H => by simp only [getC, List.find?_nil, RelD]⟩⟩
 | @cons x d t u v l es vs hr _ ih =>
  obtain ⟨k1, kvs, p, hm, hv⟩ := ih
  refine ⟨fun e he => ?_, (.inr (some x), u) :: kvs, .cons (kV_is (k := .inr (some x)) (show RelV (.str x) (.str x t) from ⟨t, rfl⟩)) rfl p, by rw [List.map_cons, List.map_cons, hm], fun y => ?_⟩
  ·rcases List.mem_cons.mp (by simpa using he) with rfl | he
   ·exact ⟨.inr (some x), kV_is (k := .inr (some x)) (show RelV (.str x) (.str x t) from ⟨t, rfl⟩), rfl⟩
   ·exact k1 e (by simpa using he)
  ·by_cases hxy : x = y
   ·subst hxy
    refine ⟨v, ?_, fun H => ?_⟩
    ·rw [valueAt, List.find?_cons_of_pos (by simp)]; exact hr.1
    ·rw [getC, List.find?_cons_of_pos (by simp)]; exact hr.2 H
   ·obtain ⟨v', h1, h2⟩ := hv y
    refine ⟨v', ?_, fun H => ?_⟩
    ·rw [valueAt, List.find?_cons_of_neg (by simpa using hxy)]; exact h1
    ·rw [getC, List.find?_cons_of_neg (by simpa using hxy)]; exact h2 H
def tCGet (K : PySem.W.Frag) (l : List (Str × D)) (ty : TE) : TE := fun σ H Q => ty σ H fun y H1 => ∃ x, y = .str x /\ ∀ v, (∀ H, RelD K H (getC l x) v) -> Q v H1
theorem pe_cget {x : Str} {p apos cpos : Pos} {e : Expr} {ty : TE} (h : CDict X.K X.w X.mg x l) (hg : Gl X x) (hd : (x == ("__debug__" : Str)) = false) (he : PE X e ty) (m : M1 X (.Name x p) "get" apos e cpos) : PE X (.Call (.Attribute (.Name x p) "get" apos) [e] [] cpos) (tCGet X.K l ty) := by
 intro pins s σ H Q I q
 obtain ⟨a, ep, es, vs, hm, hk, hs, nd, ce⟩ := h
 obtain ⟨k1, kvs, pr, km, hv⟩ := ce.keys (P := X.prog)
 have dd : ∀ {s' : Shared} {H' : Hp} {σ' : L2.St} {pins' : List (Addr × Obj)}, Inv X pins' σ' H' s' -> s'.heap.DictOf (mixKind X.prog X.w) a kvs := fun {s' H' σ' pins'} I' => by
  refine ⟨_, es.toArray, ep, I'.kIn a _ hk, ⟨rfl, rfl, rfl⟩, rfl, k1, by simpa using pr, ?_⟩
  rw [km]
  have : (l.map fun p => (Sum.inr (some p.1) : Key)) = (l.map (·.1)).map fun x => .inr (some x) := by rw [List.map_map]; rfl
  rw [this]
  exact List.Pairwise.map _ (fun a b h e => h (by simpa using e)) nd
 refine wpAny_Call_method m.base m.few m.line PySem.F.plainAttrs_dict PySem.F.slot_dict_get PySem.F.type_dict_get (thn (pe_glob (v := .ref a) hg hm rfl hd pins s σ H (fun v H' => v = .ref a /\ ty σ H' fun y H1 => ∃ x, y = .str x /\ ∀ v, (∀ H, RelD X.K H (getC l x) v) -> Q v H1) I ⟨rfl, q⟩) fun u s1 hh => ?_)
 obtain ⟨x1, H1, I1, rx, ex, q1⟩ := hh
 subst ex
 obtain rfl : u = Value.ref a := rx
 have d1 := dd I1
 refine ⟨d1.typeIs, fun b e => by cases e; exact ⟨_, I1.kIn a _ hk, rfl⟩, ?_⟩
 rw [m.trees]
 refine Calls.callWith_builtin rfl (Calls.evalArgs_plain (Calls.spliced_cons (thn (he pins s1 σ H1 _ I1 q1) fun iv s2 hh => ?_)))
 obtain ⟨y, H2, I2, ry, x, ey, q2⟩ := hh
 subst ey
 refine Calls.spliced_nil ?_
 have d2 := dd I2
 obtain ⟨v, r1, r2⟩ := hv x
 refine call_meetsIn PySem.F.slot_dict_get d2.typeIs PySem.F.entry_dict_get (PySem.F.args_dict_get_2 _ _) (meets_dict_get (mixKind X.prog X.w) a (kV_is (k := .inr (some x)) ry) hs) ⟨_, d2.mapOf, ⟨v, H2, I2.tok _, r1, q2 v r2⟩⟩
noncomputable def fCGet (l : List (Str × D)) (fk : FE) : FE := fun ρ μ => (fk ρ μ).bind fun k => match k.1 with | .v (.str x) => some (.v (getC l x), k.2) | _ => none
theorem rd_cget {σ : L2.St} {H : Hp} {Q : VK} {fk} (h : rdE K (fCGet l fk) σ H Q) : tCGet K l (rdE K fk) σ H Q := by
 obtain ⟨ρ, μ, m, d, μ', hl, hs, e, k⟩ := h
 obtain ⟨⟨x, μ1⟩, e1, e⟩ := Option.bind_eq_some_iff.mp e
 refine ⟨ρ, μ, m, x, μ1, hl, hs, e1, fun v H1 m1 x1 s1 r1 => ?_⟩
 cases x with
 | v d =>
  cases d with
  | str x =>
   cases e
   exact ⟨x, by simpa only [RelR, RelD] using r1, fun v hv => k v H1 m1 x1 s1 (hv H1)⟩
  | _ => cases e
 | _ => cases e
end
end HW
namespace L2
open PySem PySem.Spec PyProof.Rows HW
section
variable {X : Cx}
end
end L2
namespace HW
open PySem PySem.Spec PyProof.Rows L2
noncomputable def extL : R -> List R -> Store -> Option (R × Store)
 | .p n, [.p m], μ => match μ[n]?, μ[m]? with
  | some (.lst xs), some (.lst ys) => if xs.length + ys.length <= sizeLine then some (.v .non, μ.set n (.lst (xs ++ ys))) else none
  | _, _ => none
 | _, _, _ => none
theorem g_extL {K : PySem.W.Frag} : GMt K extL rExtend := by
 intro m H μ x xs d μ' v vs Q s rx rs e k
 unfold extL at e
 split at e
 ·rename_i n j
  split at e
  ·rename_i zs ys q q'
   split at e
   ·rename_i hz
    cases e
    obtain ⟨a, rfl, ha⟩ := rx
    obtain ⟨w, rfl, rw'⟩ := rel1 rs
    obtain ⟨b, rfl, hb⟩ := rw'
    obtain ⟨ws, ea, ra⟩ := s.cell _ _ a q ha
    obtain ⟨us, eb, rb⟩ := s.cell _ _ b q' hb
    have x : Ext m H m (upd H a (.lst (ws ++ us))) := .put (List.mem_of_getElem? ha) ea (by simp) (by simp)
    refine ⟨a, b, ws, us, rfl, rfl, ea, eb, by have := ra.length; have := rb.length; omega, k _ _ m x (s.put ha ea (by simp) (by simp) ⟨_, upd_at, RelDs.tf x.tf _ _ (RelDs.append ra rb)⟩) (by simp only [RelR, RelD])⟩
   ·cases e
  ·cases e
 ·cases e
end HW
namespace HW
open PySem PySem.Spec PyProof.Rows L2
noncomputable def pop0D : R -> List R -> Store -> Option (R × Store)
 | .p n, [], μ => match μ[n]? with
  | some (.lst xs) => (xs[xs.length - 1]?).bind fun d => some (.v d, μ.set n (.lst xs.dropLast))
  | _ => none
 | _, _, _ => none
theorem g_pop0 {K : PySem.W.Frag} : GMt K pop0D rPop := by
 intro m H μ x xs d μ' v vs Q s rx rs e k
 unfold pop0D at e
 split at e
 ·rename_i n
  split at e
  ·rename_i ys q
   obtain ⟨d1, e1, e⟩ := Option.bind_eq_some_iff.mp e
   cases e
   obtain ⟨a, rfl, ha⟩ := rx
   have rs : vs = [] := rs
   subst rs
   obtain ⟨ws, ea, ra⟩ := s.cell _ _ a q ha
   have hl := ra.length
   obtain ⟨y, hy, ry⟩ := ra.get e1
   have x : Ext m H m (upd H a (.lst ws.dropLast)) := .put (List.mem_of_getElem? ha) ea (by simp) (by simp)
   rw [hl] at hy
   have dl : RelDs K H ys.dropLast ws.dropLast := by
    rw [← List.eraseIdx_length_sub_one, ← List.eraseIdx_length_sub_one, ← hl]
    exact RelDs.erase _ ra
   exact ⟨a, ws, y, rfl, rfl, ea, hy, k _ _ m x (s.put ha ea (by simp) (by simp) ⟨_, upd_at, RelDs.tf x.tf _ _ dl⟩) (RelD.tf x.tf _ _ ry)⟩
  ·cases e
 ·cases e
noncomputable def sAugF (c f : Str) (fo : FE) (j : Int) : FS := fun ρ μ => (fo ρ μ).bind fun o => (obOf c o.2 o.1).bind fun fs => match fs.lookup f with
 | some (.v (.int i)) => if fs.length < 1000 then (match o.1 with | .p n => some (.nx ρ (o.2.set n (.ob c (putFR f (.v (.int (i + j))) fs)))) | _ => none) else none
 | _ => none
theorem rd_augF {K : PySem.W.Frag} {σ : L2.St} {H : Hp} {mg : Str -> Option Value} {c : Str} {C : Addr} {f : Str} {fo : FE} {j : Int} {D : Ends} (N : ClsN K mg c C) (hf : NoAttr K C f) (h : rdS K (sAugF c f fo j) D σ H) :
  sFldAug K (rdE K fo) (rdE K (fK (.int j))) rAdd f D σ H := by
 obtain ⟨ρ, μ, m, o, hl, hs, e, k⟩ := h
 obtain ⟨⟨ob, μ1⟩, e1, e⟩ := Option.bind_eq_some_iff.mp e
 obtain ⟨fs, e2, e⟩ := Option.bind_eq_some_iff.mp e
 split at e
 ·rename_i i hi
  split at e
  ·rename_i hlt
   refine ⟨ρ, μ, m, ob, μ1, hl, hs, e1, fun vo H1 m1 x1 s1 r1 => ?_⟩
   obtain ⟨n, a, dx, es, rfl, ha, rfl, ea, fr⟩ := ob_ok N s1 r1 e2
   dsimp only at e
   cases e
   rcases fr.look f with ⟨z, _⟩ | ⟨d0, v0, z1, z2, z3⟩
   ·rw [z] at hi; cases hi
   ·rw [z1] at hi; cases hi
    simp only [RelR, RelD] at z3
    subst z3
    refine ⟨a, C, dx, es, _, rfl, ea, N.cl, hf, z2, ρ, μ1, m1, _, _, hl.ext x1, s1, rfl, fun y H2 m2 x2 s2 r2 => ?_⟩
    simp only [RelR, RelD] at r2
    subst r2
    obtain ⟨n', a', dx', es', hn, ha', hr, ea', fr'⟩ := ob_ok N s2 (r1.ext x2) e2
    cases hr
    cases hn
    refine ⟨i, j, rfl, rfl, dx', es', ea', by rw [fr'.len]; exact hlt, ?_⟩
    have x : Ext m2 H2 m2 (upd H2 a (.ins C dx' (putF f (.int (i + j)) es'))) := .put (List.mem_of_getElem? ha') ea' (by simp) (by simp)
    have x3 := (x1.trans x2).trans x
    have fr2 := (FR.put (f := f) (d := .v (.int (i + j))) (v := .int (i + j)) (by simp only [RelR, RelD]) fr').ext x
    exact k _ _ m2 x3 (s2.put ha' ea' (by simp) (by simp) ⟨C, dx', _, N.ns, upd_at, fr2.1, fr2.2⟩) (hl.ext x3)
  ·cases e
 ·cases e
end HW
namespace HW
open PySem PySem.Spec PyProof.Rows L2
noncomputable def isStar : Expr -> Bool
 | .Starred .. => true
 | _ => false
theorem star_cons {e : Expr} {es : List Expr} {env : Env} (h : isStar e = false) : starEach (e :: es) env = (false, eval e env) :: starEach es env := by
 cases e <;> first | rfl | (simp [isStar] at h)
theorem star_any {env : Env} {pos : Pos} : ∀ {es : List Expr}, es.any isStar = false -> (backTo pos (starEach es env)).any (·.1) = false
 | [], _ => rfl
 | e :: es, h => by
  rw [List.any_cons, Bool.or_eq_false_iff] at h
  rw [star_cons h.1]
  have ih := star_any (env := env) (pos := pos) h.2
  unfold backTo at ih ⊢
  rw [List.map_cons, List.any_cons, ih]
  rfl
theorem assign_cons {e : Expr} {es : List Expr} {env : Env} (h : isStar e = false) : (assignEach (e :: es) env).map (·.2) = assign e env :: (assignEach es env).map (·.2) := by
 cases e <;> first | rfl | (simp [isStar] at h)
theorem getItem_tuple_whole {prog : Program} {w : World} {A : Around} {E : Value -> Shared -> Prop} {s : Shared} {t sl : Addr} {items : Array Value} {vl vu : Value} {lo hi : Option Int} {Q : Value -> Shared -> Prop} (ht : IsTup s.heap t items) (hs : s.heap.IsSliceOf sl vl vu .none) (pl : IsPart vl lo) (pu : IsPart vu hi)
  (hw : HT.sIx items.size 0 lo = 0 /\ HT.sIx items.size items.size hi = items.size)
  (h : Q (.ref t) s) : wpAny (model prog w) A (getItem (.ref t) (.ref sl)) Q E s := by
 obtain ⟨os, hos, hcs, hds⟩ := id hs
 have hTs : s.TypeIs (.ref sl) "slice" := ⟨os, hos, hcs⟩
 unfold getItem
 try with_reducible refine wpAny_holding ?_
 first | refine wpAny_bind (wpAny_pure ?_) | skip
 refine wpAny_bind (wpAny_sequenceKey ht.typeIs (by decide) ?_)
 refine wpAny_bind (wpAny_callSpecial?_slot (name := Str.ofString "__getitem__") ht.typeIs PyProof.Rows.slot_tuple_getitem
  (wpAny_call_entry PyProof.Rows.slot_tuple_getitem ht.typeIs entry_tuple_getitem ?_ (args_tuple_getitem _ _)))
 show wpAny _ _ (Builtin.Tuple.tupleItemsOf (.ref t) >>= _) _ _ s
 refine wpAny_bind (tupleItemsOf_ ht ?_)
 refine wpAny_bind (wpAny_typeOf hTs ?_)
 rw [if_pos (by decide)]
 refine wpAny_bind (HT.sliceApplied_gen hs pl pu ?_)
 have hyes : ((((HT.sIx items.size 0 lo : Nat) : Int) == 0 && (1 : Int) == 1 && (HT.sIx items.size items.size hi - HT.sIx items.size 0 lo) == items.size) = true) := by
  rw [hw.1, hw.2]; simp
 show wpAny _ _ (if (((HT.sIx items.size 0 lo : Nat) : Int) == 0 && (1 : Int) == 1 && (HT.sIx items.size items.size hi - HT.sIx items.size 0 lo) == items.size) = true then _ else _) _ _ s
 rw [if_pos hyes]
 refine wpAny_bind (m := Builtin.Tuple.tupleIsExact (.ref t)) (wpAny_bind (wpAny_typeOf ht.typeIs (wpAny_pure ?_)))
 rw [if_pos (by decide)]
 refine wpAny_bind (wpAny_rule ?_)
 first
  | exact wpAny_pure ⟨_, rfl, wpAny_pure h⟩
  | exact wpAny_bind (wpAny_pure (wpAny_pure ⟨_, rfl, wpAny_pure h⟩))
  | exact wpAny_bind (wpAny_pure ⟨_, rfl, wpAny_pure h⟩)
noncomputable def cutD (xs : List D) (lo hi : Option Int) : List D := (xs.drop (HT.sIx xs.length 0 lo)).take (HT.sIx xs.length xs.length hi - HT.sIx xs.length 0 lo)
def rSl (K : PySem.W.Frag) : V -> Option Int -> Option Int -> Hp -> VK -> Prop := fun x lo hi H Q => rSlL K x lo hi H Q \/ rSlT K x lo hi H Q \/
 ∃ a xs, x = .ref a /\ SqT K H a xs /\ (HT.sIx xs.length 0 lo = 0 /\ HT.sIx xs.length xs.length hi = xs.length) /\ Q (.ref a) H
theorem sl_whole {X : Cx} : SlR X (fun x lo hi H Q => ∃ a xs, x = .ref a /\ SqT X.K H a xs /\ (HT.sIx xs.length 0 lo = 0 /\ HT.sIx xs.length xs.length hi = xs.length) /\ Q (.ref a) H) := by
 intro pins s σ H x v vl vu lo hi sl Q I rx hs pl pu h
 obtain ⟨a, xs, rfl, hx, hw, q⟩ := h
 cases rx
 obtain ⟨its, r, ht, hz⟩ := I.tuple hx
 have hlen : its.toArray.size = xs.length := by rw [List.size_toArray]; exact r.length.symm
 refine ⟨"tuple", _, PyProof.Rows.slot_tuple_getitem.lookup, ht.typeIs, ?_⟩
 exact getItem_tuple_whole ht hs pl pu (by rw [hlen]; exact hw) ⟨.ref a, H, I, rfl, q⟩
theorem sl_any {X : Cx} : SlR X (rSl X.K) := SlR.or sl_list (SlR.or sl_tup sl_whole)
noncomputable abbrev FO := Lo -> Store -> Option (Option Int × Store)
def rdO (K : PySem.W.Frag) (f : FO) : TO := fun σ H Q => ∃ ρ μ m o μ', LRel K m H ρ σ /\ SRel K m H μ /\ f ρ μ = some (o, μ') /\ ∀ H' m', Ext m H m' H' -> SRel K m' H' μ' -> Q o H'
noncomputable def oNone : FO := fun _ μ => some (none, μ)
noncomputable def oSome (f : FE) : FO := fun ρ μ => (f ρ μ).bind fun a => match a.1 with | .v (.int i) => some (some i, a.2) | _ => none
noncomputable def slD (x : R) (lo hi : Option Int) (μ : Store) : Option (R × Store) := match x with
 | .v (.tup xs) => some (.v (.tup (cutD xs lo hi)), μ)
 | x => (lstD x μ).bind fun xs => some (.p μ.length, μ ++ [.lst (cutD xs lo hi)])
noncomputable def fSl (fa : FE) (fl fh : FO) : FE := fun ρ μ => (fa ρ μ).bind fun a => (fl ρ a.2).bind fun l => (fh ρ l.2).bind fun h => slD a.1 l.1 h.1 h.2
theorem RelDs.drop {K : PySem.W.Frag} {H : Hp} : ∀ {xs : List D} {vs : List V} (n : Nat), RelDs K H xs vs -> RelDs K H (xs.drop n) (vs.drop n)
 | _, _, 0, h => h
 | [], _, n + 1, h => by simp only [RelDs] at h; subst h; simp only [List.drop_nil, RelDs]
 | x :: xs, _, n + 1, h => by
  simp only [RelDs] at h
  obtain ⟨v, r, rfl, _, h2⟩ := h
  exact RelDs.drop n h2
theorem RelDs.take {K : PySem.W.Frag} {H : Hp} : ∀ {xs : List D} {vs : List V} (n : Nat), RelDs K H xs vs -> RelDs K H (xs.take n) (vs.take n)
 | _, _, 0, h => by simp only [List.take_zero, RelDs]
 | [], _, n + 1, h => by simp only [RelDs] at h; subst h; simp only [List.take_nil, RelDs]
 | x :: xs, _, n + 1, h => by
  simp only [RelDs] at h
  obtain ⟨v, r, rfl, h1, h2⟩ := h
  simp only [List.take_succ_cons, RelDs]
  exact ⟨v, _, rfl, h1, RelDs.take n h2⟩
theorem RelDs.cut {K : PySem.W.Frag} {H : Hp} {xs : List D} {vs : List V} {lo hi : Option Int} (h : RelDs K H xs vs) : RelDs K H (cutD xs lo hi) (cutV vs lo hi) := by
 unfold cutD cutV
 rw [h.length]
 exact (h.drop _).take _
section
variable {K : PySem.W.Frag} {σ : L2.St} {H : Hp} {Q : VK}
theorem rd_oNone {Q : Option Int -> Hp -> Prop} (h : rdO K oNone σ H Q) : tNoPart σ H Q := by
 obtain ⟨ρ, μ, m, o, μ', hl, hs, e, k⟩ := h
 cases e
 exact k H m .refl hs
theorem rd_oSome {f} {Q : Option Int -> Hp -> Prop} (h : rdO K (oSome f) σ H Q) : tPart (rdE K f) σ H Q := by
 obtain ⟨ρ, μ, m, o, μ', hl, hs, e, k⟩ := h
 obtain ⟨⟨x, μ1⟩, e1, e⟩ := Option.bind_eq_some_iff.mp e
 split at e
 ·rename_i i q
  cases e
  simp only at q
  subst q
  exact ⟨ρ, μ, m, _, μ1, hl, hs, e1, fun v H1 m1 x1 s1 r1 => ⟨i, by simpa only [RelR, RelD] using r1, k H1 m1 x1 s1⟩⟩
 ·cases e
theorem sl_ok {m : List Addr} {μ μ' : Store} {x d : R} {v : V} {lo hi : Option Int} (s : SRel K m H μ) (r : RelR K m H x v) (e : slD x lo hi μ = some (d, μ')) (k : ∀ w H' m', Ext m H m' H' -> SRel K m' H' μ' -> RelR K m' H' d w -> Q w H') : rSl K v lo hi H Q := by
 have lst : ∀ xs, lstD x μ = some xs -> (some (R.p μ.length, μ ++ [Cell.lst (cutD xs lo hi)]) : Option (R × Store)) = some (d, μ') -> rSl K v lo hi H Q := fun xs e1 e2 => by
  cases e2
  obtain ⟨a, vs, rfl, q, rr⟩ := lst_ok s r e1
  refine .inl ⟨a, vs, rfl, q, fun p hp => ?_⟩
  obtain ⟨x1, x2, x3⟩ := new_lst s (rr.cut (lo := lo) (hi := hi)) hp
  exact k _ _ _ x1 x2 x3
 have gen : (lstD x μ).bind (fun xs => some (R.p μ.length, μ ++ [Cell.lst (cutD xs lo hi)])) = some (d, μ') -> rSl K v lo hi H Q := fun e => by
  obtain ⟨xs, e1, e⟩ := Option.bind_eq_some_iff.mp e
  exact lst xs e1 e
 cases x with
 | p n => exact gen e
 | s _ n => exact gen e
 | x n => exact gen e
 | f L ds => exact gen e
 | v d0 =>
  cases d0 with
  | tup xs =>
   cases e
   simp only [RelR, RelD] at r
   obtain ⟨a, vs, rfl, q, rr⟩ := r
   by_cases hw : HT.sIx vs.length 0 lo = 0 /\ HT.sIx vs.length vs.length hi = vs.length
   ·refine .inr (.inr ⟨a, vs, rfl, q, hw, k _ H m .refl s ?_⟩)
    simp only [RelR, RelD]
    refine ⟨a, vs, rfl, q, ?_⟩
    have := rr.cut (lo := lo) (hi := hi)
    unfold cutV at this
    rw [hw.1, hw.2] at this
    simpa using this
   ·refine .inr (.inl ⟨a, vs, rfl, q, hw, fun p hp => ?_⟩)
    obtain ⟨x1, x2, x3⟩ := new_tup s (rr.cut (lo := lo) (hi := hi)) hp
    exact k _ _ _ x1 x2 x3
  | non => exact gen e
  | bl _ => exact gen e
  | int _ => exact gen e
  | str _ => exact gen e
  | fl _ => exact gen e
  | fd _ _ => exact gen e
  | key _ => exact gen e
theorem rd_sl {fa fl fh} (h : rdE K (fSl fa fl fh) σ H Q) : tSl (rSl K) (rdE K fa) (rdO K fl) (rdO K fh) σ H Q := by
 obtain ⟨ρ, μ, m, d, μ', hl, hs, e, k⟩ := h
 obtain ⟨⟨x, μ1⟩, e1, e⟩ := Option.bind_eq_some_iff.mp e
 obtain ⟨⟨l, μ2⟩, e2, e⟩ := Option.bind_eq_some_iff.mp e
 obtain ⟨⟨u, μ3⟩, e3, e⟩ := Option.bind_eq_some_iff.mp e
 refine ⟨ρ, μ, m, x, μ1, hl, hs, e1, fun v H1 m1 x1 s1 r1 => ?_⟩
 refine ⟨ρ, μ1, m1, l, μ2, hl.ext x1, s1, e2, fun H2 m2 x2 s2 => ?_⟩
 refine ⟨ρ, μ2, m2, u, μ3, hl.ext (x1.trans x2), s2, e3, fun H3 m3 x3 s3 => ?_⟩
 exact sl_ok s3 (r1.ext (x2.trans x3)) e fun w H4 m4 x4 s4 r4 => k w H4 m4 (((x1.trans x2).trans x3).trans x4) s4 r4
noncomputable def fSlS (fa : FE) (fl fh : FO) : FE := fun ρ μ => (fa ρ μ).bind fun a => (fl ρ a.2).bind fun l => (fh ρ l.2).bind fun h => slS a.1 l.1 h.1 h.2
theorem slS_ok {x : R} {lo hi : Option Int} {μ μ' : Store} {d : R} (e : slS x lo hi μ = some (d, μ')) : ∃ z, x = .v (.str z) /\ z.length <= sizeLine /\ d = .v (.str (Txt.slice z lo hi)) /\ μ' = μ := by
 unfold slS at e
 split at e
 ·split at e
  ·rename_i hz
   cases e
   exact ⟨_, rfl, hz, rfl, rfl⟩
  ·cases e
 ·cases e
theorem rd_slS {fa fl fh} (h : rdE K (fSlS fa fl fh) σ H Q) : tSl rSlS (rdE K fa) (rdO K fl) (rdO K fh) σ H Q := by
 obtain ⟨ρ, μ, m, d, μ', hl, hs, e, k⟩ := h
 obtain ⟨⟨x, μ1⟩, e1, e⟩ := Option.bind_eq_some_iff.mp e
 obtain ⟨⟨l, μ2⟩, e2, e⟩ := Option.bind_eq_some_iff.mp e
 obtain ⟨⟨u, μ3⟩, e3, e⟩ := Option.bind_eq_some_iff.mp e
 refine ⟨ρ, μ, m, x, μ1, hl, hs, e1, fun v H1 m1 x1 s1 r1 => ?_⟩
 refine ⟨ρ, μ1, m1, l, μ2, hl.ext x1, s1, e2, fun H2 m2 x2 s2 => ?_⟩
 refine ⟨ρ, μ2, m2, u, μ3, hl.ext (x1.trans x2), s2, e3, fun H3 m3 x3 s3 => ?_⟩
 obtain ⟨z, rfl, hz, rfl, rfl⟩ := slS_ok e
 simp only [RelR, RelD] at r1
 exact ⟨z, r1, hz, k _ H3 m3 ((x1.trans x2).trans x3) s3 (by simp only [RelR, RelD])⟩
end
theorem PO.imp {X : Cx} {e : Option Expr} {t t' : TO} (h : PO X e t) (k : ∀ {σ H Q}, t' σ H Q -> t σ H Q) : PO X e t' := fun pins s σ H Q I q => h pins s σ H Q I (k q)
noncomputable def fStep (fa : FE) (fl fh : FO) (k : Int) : FE := fun ρ μ => (fa ρ μ).bind fun a => (fl ρ a.2).bind fun l => (fh ρ l.2).bind fun h => if k = 0 then none else (lstD a.1 h.2).bind fun xs => some (.p h.2.length, h.2 ++ [.lst (stepV xs l.1 h.1 k)])
noncomputable def fDnew : FE := fun _ μ => some (.p μ.length, μ ++ [.dct []])
noncomputable def sStuck : FS := fun _ _ => none
namespace R
section
variable {X : Cx} {a b e o : Expr} {es : List Expr} {fa fb : FE} {ga : FA} {pos p p2 apos : Pos} {x : Str}
theorem q_int {i j} : PE X (.Constant (.int i) j pos) (rdE X.K (fK (.int i))) := PE.imp pe_int (rd_const fun _ _ => by simp only [RelR, RelD])
theorem q_neg (ha : PE X a (rdE X.K fa)) : PE X (.UnaryOp .USub a pos) (rdE X.K (fUn negD fa)) := PE.imp (pe_un un_neg ha) (rd_un g_neg)
theorem q_oS (ha : PE X a (rdE X.K fa)) : PO X (some a) (rdO X.K (oSome fa)) := PO.imp (po_some ha) rd_oSome
theorem q_call {k : Nat} {f : Addr} {fd : FuncData} {ps : List Str} {n : Nat} {mf : MF} (F : FnOk X.prog X.w X.K X.mg X.base CX0 k f fd ps (spP X.K n mf)) (hr : Room k X.A) (hg : Gl X x) (hm : X.mg x = some (.ref f)) (hk : PySem.W.keepIn X.K (.ref f) = true) (hb : Binds X.K fd ps [])
  (ha : PA X (e :: es) (rdA X.K ga)) (hdb : (x == ("__debug__" : Str)) = false := by decide) (he : starEach (e :: es) X.env = (false, eval e X.env) :: starEach es X.env := by exact star_cons rfl) (hpl : (backTo pos (starEach es X.env)).any (·.1) = false := by exact star_any rfl) :
  PE X (.Call (.Name x p) (e :: es) [] pos) (rdE X.K (fCall mf n ga)) := PE.imp (pe_call F hr hg hm hk hb .nil pass0 ha hdb he hpl) rd_call
theorem q_const {d : D} (h : ConstR X.K X.mg x d) (hg : Gl X x := by rfl) (hd : (x == ("__debug__" : Str)) = false := by decide) : PE X (.Name x pos) (rdE X.K (fK d)) := by
 obtain ⟨u, v, hm, r, rd⟩ := h
 exact PE.imp (pe_glob hg hm r hd) (rd_const fun _ H => rd H)
theorem t_cmp {op : CmpOp} {r : R2} {g : R -> R -> Store -> Option (R × Store)} (ho : OpR X (compareOp op) r) (hg : GOp X.K g r) (ha : PE X a (rdE X.K fa)) (hb : PE X b (rdE X.K fb)) (hm : behindInMarks op b = false) : PT X (.Compare a [op] [b] pos) (rdT X.K (fB (fOp g fa fb))) :=
 PT.imp (pt_cmpR ho ha hb hm) fun h => by
  obtain ⟨ρ, μ, m, d, μ', hl, hs, e, k⟩ := rd_Test h
  exact rd_op hg ⟨ρ, μ, m, d, μ', hl, hs, e, k⟩
theorem t_is {op : CmpOp} {neg : Bool} {c : D} {cv : V} (hc : (c = .non /\ cv = .non) \/ ∃ b, c = .bl b /\ cv = .bl b) (ho : OpR X (compareOp op) (rIsK neg cv)) (ha : PE X a (rdE X.K fa)) (hb : PE X b (tC cv)) (hm : behindInMarks op b = false) : PT X (.Compare a [op] [b] pos) (rdT X.K (fB (fUn (isK neg c) fa))) :=
 PT.imp (pt_cmpR ho ha hb hm) fun h => by
  obtain ⟨ρ, μ, m, d, μ', hl, hs, e, k⟩ := rd_Test h
  exact rd_is hc ⟨ρ, μ, m, d, μ', hl, hs, e, k⟩
variable {ta tb : FT} {rest : List Expr}
variable {st : Stmt} {sts aa bb : List Stmt} {sa sb : FS} {c tg iter : Expr}
theorem s_stuck : PS X st (rdS X.K sStuck) := fun pins s σ H D I h => by obtain ⟨ρ, μ, m, out, hl, hs, e, k⟩ := h; cases e
variable {g : FG} {gs : FGs} {fi : FI}
theorem PIfs.imp {ifs : List Expr} {t t' : TT} (h : PIfs X ifs t) (k : ∀ {σ H Q}, t' σ H Q -> t σ H Q) : PIfs X ifs t' := fun pins s σ H Q I q => h pins s σ H Q I (k q)
theorem q_comp {ifs : List Expr} {scope : Scope} (ix : List Nat) (own caps : List Str) (hc : X.calm = true) (n : CompNames X.env.scope scope own caps) (hi : PI X tg iter (rdI X.K fi))
  (hb : ∀ cl C s₂ H₂ fp, PG (blockCx X scope cl C s₂ H₂ fp (own ++ caps)) tg (rdG X.K g) /\ PIfs (blockCx X scope cl C s₂ H₂ fp (own ++ caps)) ifs (rdT X.K ta) /\ PE (blockCx X scope cl C s₂ H₂ fp (own ++ caps)) e (rdE X.K fa))
  (hix : ix.map (fun i => X.N[i]?) = caps.map some := by rfl)
  (hs : ∀ x, foldedSetIterable iter X.env x = pure x := by intro _; rfl) : PE X (.ListComp e [⟨tg, iter, ifs, 0⟩] scope pos) (rdE X.K (fComp ix own.length fi g ta fa)) := by
 refine PE.imp (pe_comp0 (ix := ix) hc n (by simpa using congrArg List.length hix) (fun j i y h1 h2 => ?_) hi hb hs) (rd_comp rfl)
 have := congrArg (fun l => l[j]?) hix
 simp only [List.getElem?_map, h1, h2, Option.map_some] at this
 exact Option.some.inj this
end
end R
noncomputable def isLst (x : R) (μ : Store) : Bool := match x with | .v (.fl _) => true | .p n => (match μ[n]? with | some (.lst _) => true | some (.fz _) => true | _ => false) | _ => false
noncomputable def fMt (g : R -> List R -> Store -> Option (R × Store)) (fa : FE) (ga : FA) : FE := fun ρ μ => (fa ρ μ).bind fun a => if isLst a.1 a.2 = true then (ga ρ a.2).bind fun b => g a.1 b.1 b.2 else none
theorem isLst_ok {K : PySem.W.Frag} {m : List Addr} {H : Hp} {μ : Store} {x : R} {v : V} (s : SRel K m H μ) (r : RelR K m H x v) (e : isLst x μ = true) : tyV K "list" v H := by
 have : ∃ xs, lstD x μ = some xs := by
  cases x with
  | v d => cases d <;> simp_all [isLst, lstD]
  | s _ _ => simp [isLst] at e
  | x _ => simp [isLst] at e
  | f _ _ => simp [isLst] at e
  | p n =>
   simp only [isLst] at e
   simp only [lstD]
   split at e
   ·rename_i xs q; exact ⟨xs, by first | rfl | rw [q]⟩
   ·rename_i xs q; exact ⟨xs, by first | rfl | rw [q]⟩
   ·cases e
 obtain ⟨xs, e⟩ := this
 obtain ⟨a, vs, rfl, q, _⟩ := lst_ok s r e
 exact .inl ⟨rfl, vs, q⟩
theorem rd_mt {K : PySem.W.Frag} {σ : L2.St} {H : Hp} {Q : VK} {g r fa ga} (hg : GMt K g r) (h : rdE K (fMt g fa ga) σ H Q) : tBM K "list" r (rdE K fa) (rdA K ga) σ H Q := by
 obtain ⟨ρ, μ, m, d, μ', hl, hs, e, k⟩ := h
 obtain ⟨⟨x, μ1⟩, e1, e⟩ := Option.bind_eq_some_iff.mp e
 split at e
 ·rename_i hx
  obtain ⟨⟨ys, μ2⟩, e2, e⟩ := Option.bind_eq_some_iff.mp e
  refine ⟨ρ, μ, m, x, μ1, hl, hs, e1, fun v H1 m1 x1 s1 r1 => ⟨isLst_ok s1 r1 hx, ?_⟩⟩
  refine ⟨ρ, μ1, m1, ys, μ2, hl.ext x1, s1, e2, fun vs H2 m2 x2 s2 r2 => ?_⟩
  exact hg m2 H2 μ2 x ys d μ' v vs Q s2 (r1.ext x2) r2 e fun w H3 m3 x3 s3 r3 => k w H3 m3 ((x1.trans x2).trans x3) s3 r3
 ·cases e
theorem rd_mt0 {K : PySem.W.Frag} {σ : L2.St} {H : Hp} {Q : VK} {g r fa} (hg : GMt K g r) (h : rdE K (fMt g fa fNil) σ H Q) : tBM0 K "list" r (rdE K fa) σ H Q := by
 obtain ⟨ρ, μ, m, d, μ', hl, hs, e, k⟩ := h
 obtain ⟨⟨x, μ1⟩, e1, e⟩ := Option.bind_eq_some_iff.mp e
 split at e
 ·rename_i hx
  exact ⟨ρ, μ, m, x, μ1, hl, hs, e1, fun v H1 m1 x1 s1 r1 => ⟨isLst_ok s1 r1 hx, hg m1 H1 μ1 x [] d μ' v [] Q s1 r1 rfl e fun w H3 m3 x3 s3 r3 => k w H3 m3 (x1.trans x3) s3 r3⟩⟩
 ·cases e
structure DefAt (K : PySem.W.Frag) (mg : Str -> Option Value) (x : Str) (st : Stmt) (ps : List Str) : Prop where
 ex : ∃ f fd, Fun K x x st f fd /\ Binds K fd ps [] /\ mg x = some (.ref f)
structure DefAtC (K : PySem.W.Frag) (mg : Str -> Option Value) (x : Str) (st : Stmt) (ps : List Str) (c : Addr) : Prop where
 ex : ∃ f fd, FunC K x st f fd c /\ Binds K fd ps [] /\ mg x = some (.ref f)
def Kept (P : Program) (w : World) (K : PySem.W.Frag) (mg : Str -> Option Value) (base : Heap) (k : Nat) (x : Str) (ps : List Str) (mf : MF) : Prop :=
 ∃ f fd, FnOk P w K mg base CX0 k f fd ps (spP K ps.length mf) /\ PySem.W.keepIn K (.ref f) = true /\ Binds K fd ps [] /\ mg x = some (.ref f)
def KeptN (P : Program) (w : World) (K : PySem.W.Frag) (mg : Str -> Option Value) (base : Heap) (k : Nat) (x : Str) (ps : List Str) (mf : MC) : Prop :=
 ∃ f fd, FnOk P w K mg base CX0 k f fd ps (spX K ps.length (cX K mf)) /\ PySem.W.keepIn K (.ref f) = true /\ Binds K fd ps [] /\ mg x = some (.ref f)
def KeptW (P : Program) (w : World) (K : PySem.W.Frag) (mg : Str -> Option Value) (base : Heap) (k : Nat) (x : Str) (ps : List Str) (mf : MW) : Prop :=
 ∃ f fd, FnOk P w K mg base CX0 k f fd ps (spW K ps.length mf) /\ PySem.W.keepIn K (.ref f) = true /\ Binds K fd ps [] /\ mg x = some (.ref f)
structure MethAt (K : PySem.W.Frag) (C : Addr) (nm qual : Str) (st : Stmt) (ps : List Str) : Prop where
 ex : ∃ f fd, Fun K nm qual st f fd /\ Binds K fd ps [] /\ Meth K C nm f
def KeptM (P : Program) (w : World) (K : PySem.W.Frag) (mg : Str -> Option Value) (base : Heap) (k : Nat) (nm : Str) (C : Addr) (ps : List Str) (mf : MW) : Prop :=
 ∃ f fd, FnOk P w K mg base CX0 k f fd ps (spW K ps.length mf) /\ Binds K fd ps [] /\ Meth K C nm f
namespace R
theorem okP {P : Program} {w : World} {K : PySem.W.Frag} {mg : Str -> Option Value} {base : Heap} {x : Str} {st : Stmt} {N ps : List Str} {k : Nat} {b : FS} (d : DefAt K mg x st ps) (S : FnScope N ps (defScope st))
  (hbody : ∀ (f : Addr) (cdv : Value) (A : Around) (outer : List Env) (s : Shared) (H : Hp) (E : XK), Room k (A.deeper (envOfC x (defScope st) s.heap.objs.size f cdv)) -> PSs (cxOf CX0 P w K mg base N x (defScope st) f cdv A outer s H E).nox (defBody st) (rdS K b)) :
  Kept P w K mg base (k + 1) x ps (runP N.length b) := by
 obtain ⟨f, fd, F, B, M⟩ := d.ex
 exact ⟨f, fd, Fun.okP F S (hbody f), F.kp, B, M⟩
theorem q_callK {X : Cx} {k : Nat} {x : Str} {ps : List Str} {mf : MF} {e : Expr} {es : List Expr} {ga : FA} {p pos : Pos} {n : Nat} (F : Kept X.prog X.w X.K X.mg X.base k x ps mf) (hr : Room k X.A) (ha : PA X (e :: es) (rdA X.K ga)) (hg : Gl X x := by rfl) (hn : ps.length = n := by rfl)
  (hdb : (x == ("__debug__" : Str)) = false := by decide) (he : starEach (e :: es) X.env = (false, eval e X.env) :: starEach es X.env := by exact star_cons rfl) (hpl : (backTo pos (starEach es X.env)).any (·.1) = false := by exact star_any rfl) :
  PE X (.Call (.Name x p) (e :: es) [] pos) (rdE X.K (fCall mf n ga)) := by
 subst hn
 obtain ⟨f, fd, F, kp, B, M⟩ := F
 exact q_call F hr hg M kp B ha hdb he hpl
theorem okN {P : Program} {w : World} {K : PySem.W.Frag} {mg : Str -> Option Value} {base : Heap} {x : Str} {st : Stmt} {N ps : List Str} {k : Nat} {b : FS} (d : DefAt K mg x st ps) (S : FnScope N ps (defScope st))
  (hbody : ∀ (f : Addr) (cdv : Value) (A : Around) (outer : List Env) (s : Shared) (H : Hp) (E : XK), Room k (A.deeper (envOfC x (defScope st) s.heap.objs.size f cdv)) -> PSs (cxOf CX0 P w K mg base N x (defScope st) f cdv A outer s H E).nox (defBody st) (rdS K b)) :
  KeptN P w K mg base (k + 1) x ps (runN N.length b) := by
 obtain ⟨f, fd, F, B, M⟩ := d.ex
 exact ⟨f, fd, Fun.okN F S (hbody f), F.kp, B, M⟩
theorem q_callN {X : Cx} {k : Nat} {x : Str} {ps : List Str} {mf : MC} {e : Expr} {es : List Expr} {ga : FA} {p pos : Pos} {n : Nat} (F : KeptN X.prog X.w X.K X.mg X.base k x ps mf) (hr : Room k X.A) (ha : PA X (e :: es) (rdA X.K ga)) (hg : Gl X x := by rfl) (hn : ps.length = n := by rfl)
  (hdb : (x == ("__debug__" : Str)) = false := by decide) (he : starEach (e :: es) X.env = (false, eval e X.env) :: starEach es X.env := by exact star_cons rfl) (hpl : (backTo pos (starEach es X.env)).any (·.1) = false := by exact star_any rfl) :
  PE X (.Call (.Name x p) (e :: es) [] pos) (rdE X.K (fCallN mf n ga)) := by
 subst hn
 obtain ⟨f, fd, F, kp, B, M⟩ := F
 exact PE.imp (pe_call (FnOk.borN F ps.length) hr hg M kp B .nil pass0 ha hdb he hpl) rd_callN
theorem okW {P : Program} {w : World} {K : PySem.W.Frag} {mg : Str -> Option Value} {base : Heap} {x : Str} {st : Stmt} {N ps : List Str} {k : Nat} {b : FS} (d : DefAt K mg x st ps) (S : FnScope N ps (defScope st))
  (hbody : ∀ (f : Addr) (cdv : Value) (A : Around) (outer : List Env) (s : Shared) (H : Hp) (E : XK), Room k (A.deeper (envOfC x (defScope st) s.heap.objs.size f cdv)) -> PSs (cxOf CX0 P w K mg base N x (defScope st) f cdv A outer s H E).nox (defBody st) (rdS K b)) :
  KeptW P w K mg base (k + 1) x ps (runW N.length b) := by
 obtain ⟨f, fd, F, B, M⟩ := d.ex
 exact ⟨f, fd, Fun.okW F S (hbody f), F.kp, B, M⟩
theorem okM {P : Program} {w : World} {K : PySem.W.Frag} {mg : Str -> Option Value} {base : Heap} {nm qual : Str} {C : Addr} {st : Stmt} {N ps : List Str} {k : Nat} {b : FS} (d : MethAt K C nm qual st ps) (S : FnScope N ps (defScope st))
  (hbody : ∀ (f : Addr) (cdv : Value) (A : Around) (outer : List Env) (s : Shared) (H : Hp) (E : XK), Room k (A.deeper (envOfC qual (defScope st) s.heap.objs.size f cdv)) -> PSs (cxOf CX0 P w K mg base N qual (defScope st) f cdv A outer s H E).nox (defBody st) (rdS K b)) :
  KeptM P w K mg base (k + 1) nm C ps (runW N.length b) := by
 obtain ⟨f, fd, F, B, M⟩ := d.ex
 exact ⟨f, fd, Fun.okW F S (hbody f), B, M⟩
theorem q_callW {X : Cx} {k : Nat} {x : Str} {ps : List Str} {mf : MW} {e : Expr} {es : List Expr} {ga : FA} {p pos : Pos} {n : Nat} (F : KeptW X.prog X.w X.K X.mg X.base k x ps mf) (hr : Room k X.A) (ha : PA X (e :: es) (rdA X.K ga)) (hg : Gl X x := by rfl) (hn : ps.length = n := by rfl)
  (hdb : (x == ("__debug__" : Str)) = false := by decide) (he : starEach (e :: es) X.env = (false, eval e X.env) :: starEach es X.env := by exact star_cons rfl) (hpl : (backTo pos (starEach es X.env)).any (·.1) = false := by exact star_any rfl) :
  PE X (.Call (.Name x p) (e :: es) [] pos) (rdE X.K (fCallW mf n ga)) := by
 subst hn
 obtain ⟨f, fd, F, kp, B, M⟩ := F
 exact PE.imp (pe_call F hr hg M kp B .nil pass0 ha hdb he hpl) rd_callW
theorem q_meth0 {X : Cx} {k : Nat} {c nm : Str} {C : Addr} {ps : List Str} {mf : MW} {o : Expr} {fo : FE} {apos pos : Pos} {n : Nat} {pl : Sem Bool} (N : ClsN X.K X.mg c C) (F : KeptM X.prog X.w X.K X.mg X.base k nm C ps mf) (hr : Room k X.A) (ho : PE X o (rdE X.K fo)) (hn : ps.length = n := by rfl)
  (ht : eval (.Call (.Attribute o nm apos) [] [] pos) X.env = (do
   let ov ← eval o X.env
   standAt apos.atName
   let (mth, first) ← holding [ov] (getMethod ov nm pl)
   callWith pos mth first (backTo pos (starEach [] X.env)) (backToKw pos (keywordEach [] X.env))) := by rfl) :
  PE X (.Call (.Attribute o nm apos) [] [] pos) (rdE X.K (fMeth c nm mf n fo fNil)) := by
 subst hn
 obtain ⟨f, fd, F, B, M⟩ := F
 exact PE.imp (pe_meth0 ho N.cl M F hr B .nil pass0 ht) fun h => rdE_mono (rd_meth N h) fun x H1 ⟨a, dx, fs, e, ea, l, t⟩ => ⟨a, dx, fs, e, ea, l, rd_nil t⟩
theorem q_makeA {X : Cx} {k : Nat} {c : Str} {C : Addr} {ps : List Str} {mf : MW} {e : Expr} {es : List Expr} {ga : FA} {p pos : Pos} {n : Nat} (N : ClsN X.K X.mg c C) (hk : PySem.W.makesIn X.K C = true) (hp : PySem.W.keepIn X.K (.ref C) = true) (F : KeptM X.prog X.w X.K X.mg X.base k "__init__" C ps mf) (hr : Room (k + 1) X.A) (ha : PA X (e :: es) (rdA X.K ga)) (hg : Gl X c := by rfl) (hn : ps.length = n := by rfl)
  (hdb : (c == ("__debug__" : Str)) = false := by decide) (he : starEach (e :: es) X.env = (false, eval e X.env) :: starEach es X.env := by exact star_cons rfl) (hpl : (backTo pos (starEach es X.env)).any (·.1) = false := by exact star_any rfl) : PE X (.Call (.Name c p) (e :: es) [] pos) (rdE X.K (fMakeA c mf n ga)) := by
 subst hn
 obtain ⟨f, fd, F, B, M⟩ := F
 exact PE.imp (pe_make ⟨hk, M.at_, M.fn, hp⟩ F hr hg N.mg B .nil pass0 ha hdb he hpl) (rd_makeA N)
theorem ss_stuck {X : Cx} {b : List Stmt} : PSs X b (rdS X.K sStuck) := fun pins s σ H D I h => by obtain ⟨ρ, μ, m, out, hl, hs, e, k⟩ := h; cases e
end R
theorem kinds_of {K : PySem.W.Frag} {T : String} (h1 : PySem.W.kitOne K (.type "NoneType") (.type T) = some ("NoneType" == T || ("NoneType" == "bool" && T == "int")))
  (h2 : PySem.W.kitOne K (.type "bool") (.type T) = some ("bool" == T || ("bool" == "bool" && T == "int"))) (h3 : PySem.W.kitOne K (.type "int") (.type T) = some ("int" == T || ("int" == "bool" && T == "int")))
  (h4 : PySem.W.kitOne K (.type "str") (.type T) = some ("str" == T || ("str" == "bool" && T == "int"))) (h5 : PySem.W.kitOne K (.type "tuple") (.type T) = some ("tuple" == T || ("tuple" == "bool" && T == "int")))
  (h6 : PySem.W.kitOne K (.type "list") (.type T) = some ("list" == T || ("list" == "bool" && T == "int"))) (h7 : PySem.W.kitOne K (.type "dict") (.type T) = some ("dict" == T || ("dict" == "bool" && T == "int"))) : Kinds K T := fun t ht => by
 simp only [List.mem_cons, List.not_mem_nil, or_false] at ht
 rcases ht with rfl | rfl | rfl | rfl | rfl | rfl | rfl <;> assumption
theorem kinds_int {K : PySem.W.Frag} : Kinds K "int" := kinds_of rfl rfl rfl rfl rfl rfl rfl
theorem kinds_bool {K : PySem.W.Frag} : Kinds K "bool" := kinds_of rfl rfl rfl rfl rfl rfl rfl
theorem kinds_str {K : PySem.W.Frag} : Kinds K "str" := kinds_of rfl rfl rfl rfl rfl rfl rfl
theorem kinds_tuple {K : PySem.W.Frag} : Kinds K "tuple" := kinds_of rfl rfl rfl rfl rfl rfl rfl
theorem boot_int' : bootBuiltins "int" = some (.type "int") := by decide +kernel
theorem boot_bool' : bootBuiltins "bool" = some (.type "bool") := by decide +kernel
theorem boot_str' : bootBuiltins "str" = some (.type "str") := by decide +kernel
theorem boot_tuple' : bootBuiltins "tuple" = some (.type "tuple") := by decide +kernel
theorem law_sp {K : PySem.W.Frag} {H : Hp} {a : Addr} {ns : List Int} {mf : MF} (hO : Only H) (hS : SqL K H a (ns.map V.int)) (h : mf [.fl (ns.map .int)] = some (.bl true)) : spP K 1 mf [.ref a] H (fun v _ => v = .bl true) fun _ _ _ => False := by
 refine ⟨_, _, rfl, ?_, h, fun v H' _ r => by simpa only [RelD] using r⟩
 have rInts : ∀ {ns : List Int}, RelDs K H (ns.map .int) (ns.map V.int) := fun {ns} => by
  induction ns with
  | nil => simp only [List.map_nil, RelDs]
  | cons n ns ih => simp only [List.map_cons, RelDs]; exact ⟨_, _, rfl, by simp only [RelD], ih⟩
 simp only [RelDs]
 refine ⟨_, _, rfl, ?_, rfl⟩
 simp only [RelD]
 refine ⟨a, _, rfl, ?_, rInts⟩
 rcases hS with (hS | ⟨o, hS⟩) | hS
 ·rcases hO a with z | ⟨o, xs, z⟩ <;> rw [hS] at z <;> cases z
 ·exact .inl ⟨o, hS⟩
 ·exact .inr (.inr hS)
namespace R
section
variable {X : Cx} {e o : Expr} {es : List Expr} {fa : FE} {ga : FA} {apos cpos : Pos}
end
end R
end HW
namespace HW
open PySem PySem.Spec PyProof.Rows L2
@[irreducible] def ZE (X : Cx) (e : Expr) (t : TE) : Prop := L2.PE X e t
@[irreducible] def ZT (X : Cx) (e : Expr) (t : TT) : Prop := L2.PT X e t
@[irreducible] def ZW (X : Cx) (e : Expr) (t : TT) : Prop := L2.PW X e t
@[irreducible] def ZA (X : Cx) (e : List Expr) (t : TA) : Prop := L2.PA X e t
@[irreducible] def ZS (X : Cx) (e : Stmt) (t : TS) : Prop := L2.PS X e t
@[irreducible] def ZSs (X : Cx) (e : List Stmt) (t : TS) : Prop := L2.PSs X e t
@[irreducible] def ZG (X : Cx) (e : Expr) (t : TG) : Prop := L2.PG X e t
@[irreducible] def ZGs (X : Cx) (e : List Expr) (t : TGs) : Prop := L2.PGs X e t
@[irreducible] def ZO (X : Cx) (e : Option Expr) (t : TO) : Prop := L2.PO X e t
@[irreducible] def ZIfs (X : Cx) (e : List Expr) (t : TT) : Prop := HW.PIfs X e t
@[irreducible] def ZI (X : Cx) (tg iter : Expr) (t : TI) : Prop := L2.PI X tg iter t
section
variable {X : Cx} {a b e o : Expr} {es : List Expr} {fa fb : FE} {ga : FA} {pos p p2 apos : Pos} {x : Str}
theorem q_var (i : Nat) (hN : X.N[i]? = some x := by rfl) (hv : Vis X.env.scope x := by first | exact Or.inl rfl | exact Or.inr (Or.inl rfl) | exact Or.inr (Or.inr rfl)) (hd : (x == ("__debug__" : Str)) = false := by decide)
  (hcd : (x == ("__classdict__" : Str)) = false := by decide) : ZE X (.Name x pos) (rdE X.K (fVar i)) := by
 with_unfolding_all exact PE.imp (pe_var hN hv hd hcd) rd_var
theorem q_int {i j} : ZE X (.Constant (.int i) j pos) (rdE X.K (fK (.int i))) := by
 with_unfolding_all exact R.q_int
theorem q_bl {i j} : ZE X (.Constant (.bool i) j pos) (rdE X.K (fK (.bl i))) := by
 with_unfolding_all exact PE.imp pe_bl (rd_const fun _ _ => by simp only [RelR, RelD])
theorem q_str {i j} : ZE X (.Constant (.str i) j pos) (rdE X.K (fK (.str i))) := by
 with_unfolding_all exact PE.imp pe_str (rd_const fun _ _ => by simp only [RelR, RelD])
theorem q_addQ (ha : ZE X a (rdE X.K fa)) (hb : ZE X b (rdE X.K fb)) : ZE X (.BinOp a .Add b pos) (rdE X.K (fOp addQ fa fb)) := by
 with_unfolding_all exact PE.imp (pe_op ((op_add.or (op_add_str.or (op_catT.or op_cat))).or op_add0) ha hb) (rd_op g_addQ)
theorem q_sub (ha : ZE X a (rdE X.K fa)) (hb : ZE X b (rdE X.K fb)) : ZE X (.BinOp a .Sub b pos) (rdE X.K (fOp subD fa fb)) := by
 with_unfolding_all exact PE.imp (pe_op op_sub ha hb) (rd_op g_sub)
theorem q_mul (ha : ZE X a (rdE X.K fa)) (hb : ZE X b (rdE X.K fb)) : ZE X (.BinOp a .Mult b pos) (rdE X.K (fOp mulD fa fb)) := by
 with_unfolding_all exact PE.imp (pe_op op_mul ha hb) (rd_op g_mul)
theorem q_div (ha : ZE X a (rdE X.K fa)) (hb : ZE X b (rdE X.K fb)) : ZE X (.BinOp a .FloorDiv b pos) (rdE X.K (fOp divD fa fb)) := by
 with_unfolding_all exact PE.imp (pe_op op_fdiv ha hb) (rd_op g_div)
theorem q_mod (ha : ZE X a (rdE X.K fa)) (hb : ZE X b (rdE X.K fb)) : ZE X (.BinOp a .Mod b pos) (rdE X.K (fOp modD fa fb)) := by
 with_unfolding_all exact PE.imp (pe_op op_mod ha hb) (rd_op g_mod)
theorem q_pow (ha : ZE X a (rdE X.K fa)) (hb : ZE X b (rdE X.K fb)) : ZE X (.BinOp a .Pow b pos) (rdE X.K (fOp powD fa fb)) := by
 with_unfolding_all exact PE.imp (pe_op op_pow ha hb) (rd_op g_pow)
theorem q_neg (ha : ZE X a (rdE X.K fa)) : ZE X (.UnaryOp .USub a pos) (rdE X.K (fUn negD fa)) := by
 with_unfolding_all exact R.q_neg ha
theorem q_not (ha : ZE X a (rdE X.K fa)) : ZE X (.UnaryOp .Not a pos) (rdE X.K (fNot fa)) := by
 with_unfolding_all exact PE.imp (pe_not ha) rd_not
theorem q_eq (hu : X.A.units + 64 < cLine) (ha : ZE X a (rdE X.K fa)) (hb : ZE X b (rdE X.K fb)) : ZE X (.Compare a [.Eq] [b] pos) (rdE X.K (fOp (eqR false) fa fb)) := by
 with_unfolding_all exact PE.imp (pe_cmpR (op_eqD hu) ha hb (nomark _)) (rd_op g_eq)
theorem q_and {rest : List Expr} (ha : ZE X a (rdE X.K fa)) (hb : ZE X (.BoolOp .And (b :: rest) pos) (rdE X.K fb)) : ZE X (.BoolOp .And (a :: b :: rest) pos) (rdE X.K (fAnd fa fb)) := by
 with_unfolding_all exact PE.imp (pe_and ha hb) rd_and
theorem q_one {op} (ha : ZE X a (rdE X.K fa)) : ZE X (.BoolOp op [a] pos) (rdE X.K fa) := by
 with_unfolding_all exact pe_one ha
theorem q_nil : ZA X [] (rdA X.K fNil) := by
 with_unfolding_all exact PA.imp pa_nil rd_nil
theorem q_cons (ha : ZE X e (rdE X.K fa)) (hr : ZA X es (rdA X.K ga)) (hs : starEach (e :: es) X.env = (false, eval e X.env) :: starEach es X.env := by exact star_cons rfl) : ZA X (e :: es) (rdA X.K (fCons fa ga)) := by
 with_unfolding_all exact PA.imp (pa_cons ha hr hs) rd_cons
theorem q_tup {x1} (h : ZA X es (rdA X.K ga)) : ZE X (.Tuple es x1 pos) (rdE X.K (fTup ga)) := by
 with_unfolding_all exact PE.imp (pe_tup h) rd_tup
theorem q_lst (h : ZA X es (rdA X.K ga)) : ZE X (.List es pos) (rdE X.K (fLst ga)) := by
 with_unfolding_all exact PE.imp (pe_lst h) rd_lst
theorem q_fz (ha : ZE X a (rdE X.K fa)) : ZE X a (rdE X.K (fFz fa)) := by
 with_unfolding_all exact PE.imp (pe_fz0 ha) rd_fz
theorem q_ix (ha : ZE X a (rdE X.K fa)) (hb : ZE X b (rdE X.K fb)) (hs : PlainIx b := by intro _ _; rfl) : ZE X (.Subscript a b pos) (rdE X.K (fOp ixD fa fb)) := by
 with_unfolding_all exact PE.imp (pe_ix ix_seq ha hb hs) (rd_op g_ix)
theorem q_oN : ZO X none (rdO X.K oNone) := by
 with_unfolding_all exact PO.imp po_none rd_oNone
theorem q_oS (ha : ZE X a (rdE X.K fa)) : ZO X (some a) (rdO X.K (oSome fa)) := by
 with_unfolding_all exact R.q_oS ha
theorem q_sl {lo hi : Option Expr} {fl fh : FO} (ha : ZE X a (rdE X.K fa)) (hl : ZO X lo (rdO X.K fl)) (hh : ZO X hi (rdO X.K fh)) : ZE X (.Subscript a (.Slice lo hi none p2) pos) (rdE X.K (fSl fa fl fh)) := by
 with_unfolding_all exact PE.imp (pe_slice sl_any ha hl hh) rd_sl
theorem q_len (hg : Gl X "len") (hm : X.mg "len" = none) (ha : ZA X (e :: es) (rdA X.K ga)) (he : starEach (e :: es) X.env = (false, eval e X.env) :: starEach es X.env := by exact star_cons rfl) (hpl : (backTo pos (starEach es X.env)).any (·.1) = false := by exact star_any rfl) :
  ZE X (.Call (.Name "len" p) (e :: es) [] pos) (rdE X.K (fAr lenD ga)) := by
 with_unfolding_all exact PE.imp (pe_callB call_len_seq hg hm PySem.boot_len ha (he := he) (hpl := hpl)) (rd_ar g_len)
theorem q_min (hc : X.calm = true) (hg : Gl X "min") (hm : X.mg "min" = none) (ha : ZA X (e :: es) (rdA X.K ga)) (he : starEach (e :: es) X.env = (false, eval e X.env) :: starEach es X.env := by exact star_cons rfl) (hpl : (backTo pos (starEach es X.env)).any (·.1) = false := by exact star_any rfl) :
  ZE X (.Call (.Name "min" p) (e :: es) [] pos) (rdE X.K (fAr minD ga)) := by
 with_unfolding_all exact PE.imp (pe_callB (call_min2 hc) hg hm (by decide +kernel) ha (he := he) (hpl := hpl)) (rd_ar g_min)
theorem q_max (hc : X.calm = true) (hg : Gl X "max") (hm : X.mg "max" = none) (ha : ZA X (e :: es) (rdA X.K ga)) (he : starEach (e :: es) X.env = (false, eval e X.env) :: starEach es X.env := by exact star_cons rfl) (hpl : (backTo pos (starEach es X.env)).any (·.1) = false := by exact star_any rfl) :
  ZE X (.Call (.Name "max" p) (e :: es) [] pos) (rdE X.K (fAr maxD ga)) := by
 with_unfolding_all exact PE.imp (pe_callB (call_max2 hc) hg hm (by decide +kernel) ha (he := he) (hpl := hpl)) (rd_ar g_max)
theorem q_strc (hg : Gl X "str") (hm : X.mg "str" = none) (ha : ZA X (e :: es) (rdA X.K ga)) (he : starEach (e :: es) X.env = (false, eval e X.env) :: starEach es X.env := by exact star_cons rfl) (hpl : (backTo pos (starEach es X.env)).any (·.1) = false := by exact star_any rfl) :
  ZE X (.Call (.Name "str" p) (e :: es) [] pos) (rdE X.K (fAr strD ga)) := by
 with_unfolding_all exact PE.imp (pe_callTy call_str_int hg hm (by decide +kernel) ha (he := he) (hpl := hpl)) (rd_ar g_str)
theorem q_const {d : D} (h : ConstR X.K X.mg x d) (hg : Gl X x := by rfl) (hd : (x == ("__debug__" : Str)) = false := by decide) : ZE X (.Name x pos) (rdE X.K (fK d)) := by
 with_unfolding_all exact R.q_const h hg hd
theorem q_tuple (hg : Gl X "tuple") (hm : X.mg "tuple" = none) (ha : ZA X (e :: es) (rdA X.K ga)) (he : starEach (e :: es) X.env = (false, eval e X.env) :: starEach es X.env := by exact star_cons rfl) (hpl : (backTo pos (starEach es X.env)).any (·.1) = false := by exact star_any rfl) :
  ZE X (.Call (.Name "tuple" p) (e :: es) [] pos) (rdE X.K (fAr tupD ga)) := by
 with_unfolding_all exact PE.imp (pe_callTy call_tuple_of hg hm (by decide +kernel) ha (he := he) (hpl := hpl)) (rd_ar g_tup)
theorem q_all (hc : X.calm = true) (hg : Gl X "all") (hm : X.mg "all" = none) (ha : ZA X (e :: es) (rdA X.K ga)) (he : starEach (e :: es) X.env = (false, eval e X.env) :: starEach es X.env := by exact star_cons rfl) (hpl : (backTo pos (starEach es X.env)).any (·.1) = false := by exact star_any rfl) :
  ZE X (.Call (.Name "all" p) (e :: es) [] pos) (rdE X.K (fAr (allD false) ga)) := by
 with_unfolding_all exact PE.imp (pe_callB (call_allB hc) hg hm PyProof.Rows.boot_all ha (he := he) (hpl := hpl)) (rd_ar g_all)
theorem q_isi {T : String} {y : Str} (hT : Kinds X.K T) (hg : Gl X "isinstance") (hm : X.mg "isinstance" = none) (hgT : Gl X y) (hmT : X.mg y = none) (hvT : bootBuiltins y = some (.type T)) (ha : ZE X e (rdE X.K fa)) (hn : y ≠ "__name__" := by decide) (hdb : (y == ("__debug__" : Str)) = false := by decide)
  (he : starEach (e :: [.Name y p2]) X.env = (false, eval e X.env) :: starEach [.Name y p2] X.env := by exact star_cons rfl) (hpl : (backTo pos (starEach [.Name y p2] X.env)).any (·.1) = false := by rfl) :
  ZE X (.Call (.Name "isinstance" p) [e, .Name y p2] [] pos) (rdE X.K (fUn (isiD T) fa)) := by
 with_unfolding_all exact PE.imp (pe_callB (call_isi hT) hg hm (by decide +kernel) (pa_cons ha (pa_cons (pe_bltn (v := .ty T) hgT hmT hvT rfl hn hdb) pa_nil rfl) he) (he := he) (hpl := hpl)) rd_isi
theorem t_tru (ha : ZE X a (rdE X.K fa)) (he : ∀ whole, isTrue a X.env whole = (do let v ← whole; standAt a.pos; holding [v] (truthy v)) := by intro _; rfl) : ZT X a (rdT X.K (fTru fa)) := by
 with_unfolding_all exact PT.imp (pt_truth ha he) rd_tru
theorem t_lt (ha : ZE X a (rdE X.K fa)) (hb : ZE X b (rdE X.K fb)) : ZT X (.Compare a [.Lt] [b] pos) (rdT X.K (fB (fOp ltD fa fb))) := by
 with_unfolding_all exact R.t_cmp op_lt g_lt ha hb (nomark _)
theorem t_gt (ha : ZE X a (rdE X.K fa)) (hb : ZE X b (rdE X.K fb)) : ZT X (.Compare a [.Gt] [b] pos) (rdT X.K (fB (fOp gtD fa fb))) := by
 with_unfolding_all exact R.t_cmp op_gt g_gt ha hb (nomark _)
theorem t_eq (hu : X.A.units + 64 < cLine) (ha : ZE X a (rdE X.K fa)) (hb : ZE X b (rdE X.K fb)) : ZT X (.Compare a [.Eq] [b] pos) (rdT X.K (fB (fOp (eqR false) fa fb))) := by
 with_unfolding_all exact R.t_cmp (op_eqD hu) g_eq ha hb (nomark _)
theorem t_ne (hu : X.A.units + 64 < cLine) (ha : ZE X a (rdE X.K fa)) (hb : ZE X b (rdE X.K fb)) : ZT X (.Compare a [.NotEq] [b] pos) (rdT X.K (fB (fOp (eqR true) fa fb))) := by
 with_unfolding_all exact R.t_cmp (op_neD hu) g_eq ha hb (nomark _)
theorem t_isN {j} (ha : ZE X a (rdE X.K fa)) : ZT X (.Compare a [.Is] [.Constant .none j p] pos) (rdT X.K (fB (fUn (isK false .non) fa))) := by
 with_unfolding_all exact R.t_is (.inl ⟨rfl, rfl⟩) op_isNon ha pe_non (nomark _)
variable {ta tb : FT} {rest : List Expr}
theorem t_not (ha : ZT X a (rdT X.K ta)) : ZT X (.UnaryOp .Not a pos) (rdT X.K (tNotF ta)) := by
 with_unfolding_all exact PT.imp (pt_not ha) rd_tnot
theorem w_and (ha : ZT X a (rdT X.K ta)) (hb : ZW X (.BoolOp .And (b :: rest) pos) (rdT X.K tb)) : ZW X (.BoolOp .And (a :: b :: rest) pos) (rdT X.K (tAndF ta tb)) := by
 with_unfolding_all exact PW.imp (pw_and ha hb) rd_tand
theorem w_or (ha : ZT X a (rdT X.K ta)) (hb : ZW X (.BoolOp .Or (b :: rest) pos) (rdT X.K tb)) : ZW X (.BoolOp .Or (a :: b :: rest) pos) (rdT X.K (tOrF ta tb)) := by
 with_unfolding_all exact PW.imp (pw_or ha hb) rd_tor
theorem w_and1 (ha : ZT X a (rdT X.K ta)) : ZW X (.BoolOp .And [a] pos) (rdT X.K ta) := by
 with_unfolding_all exact pw_and1 ha
theorem w_or1 (ha : ZT X a (rdT X.K ta)) : ZW X (.BoolOp .Or [a] pos) (rdT X.K ta) := by
 with_unfolding_all exact pw_or1 ha
theorem t_w (h : ZW X a (rdT X.K ta)) : ZT X a (rdT X.K ta) := by
 with_unfolding_all exact h.pt
theorem q_if {c : Expr} (hc : ZT X c (rdT X.K ta)) (ha : ZE X a (rdE X.K fa)) (hb : ZE X b (rdE X.K fb)) : ZE X (.IfExp c a b pos) (rdE X.K (fIf ta fa fb)) := by
 with_unfolding_all exact PE.imp (pe_ifExp hc ha hb) rd_if
variable {st : Stmt} {sts aa bb : List Stmt} {sa sb : FS} {c tg iter : Expr}
theorem s_nil : ZSs X [] (rdS X.K sNext) := by
 with_unfolding_all exact PSs.imp pss_nil rd_next
theorem s_cons (h1 : ZS X st (rdS X.K sa)) (h2 : ZSs X sts (rdS X.K sb)) : ZSs X (st :: sts) (rdS X.K (sSeq sa sb)) := by
 with_unfolding_all exact PSs.imp (pss_cons h1 h2) rd_seq
theorem s_one (h1 : ZS X st (rdS X.K sa)) : ZSs X [st] (rdS X.K sa) := by
 with_unfolding_all exact pss_one h1
theorem s_stuck : ZS X st (rdS X.K sStuck) := by
 with_unfolding_all exact R.s_stuck
theorem s_expr (he : ZE X e (rdE X.K fa)) (hs : swapsWith e none pos.line X.env = pure false := by rfl) : ZS X (.Expr e pos) (rdS X.K (sDrop fa)) := by
 with_unfolding_all exact PS.imp (ps_expr he hs) rd_drop
theorem s_ret (he : ZE X e (rdE X.K fa)) : ZS X (.Return (some e) pos) (rdS X.K (sRet fa)) := by
 with_unfolding_all exact PS.imp (ps_ret he) rd_ret
theorem s_if (hc : ZT X c (rdT X.K ta)) (ha : ZSs X aa (rdS X.K sa)) (hb : ZSs X bb (rdS X.K sb)) : ZS X (.If c aa bb pos) (rdS X.K (sIf ta sa sb)) := by
 with_unfolding_all exact PS.imp (ps_if hc ha hb) rd_ifS
theorem s_set (i : Nat) {pos' : Pos} (hN : X.N.Nodup) (he : ZE X e (rdE X.K fa)) (hi : X.N[i]? = some x := by rfl) (hx : Loc X.env.scope x := by first | exact Or.inl rfl | exact Or.inr rfl) (hs : swapsWith e (some (.Name x pos')) pos.line X.env = pure false := by rfl) (hf : X.fn x = true \/ X.env.scope.names.lookup x = some .local := by first | exact .inl rfl | exact .inr rfl) :
  ZS X (.Assign [.Name x pos'] e pos) (rdS X.K (sSet i fa)) := by
 with_unfolding_all exact PS.imp (ps_set hN hi hx he hs hf) rd_set
variable {g : FG} {gs : FGs} {fi : FI}
theorem g_nm (i : Nat) (hN : X.N.Nodup) (hi : X.N[i]? = some x := by rfl) (hx : Loc X.env.scope x := by first | exact Or.inl rfl | exact Or.inr rfl) (hf : X.fn x = true \/ X.env.scope.names.lookup x = some .local := by first | exact .inl rfl | exact .inr rfl) : ZG X (.Name x pos) (rdG X.K (gNm i)) := by
 with_unfolding_all exact PG.imp (pg_name hN hi hx hf) rd_gNm
theorem gs_nil : ZGs X [] (rdGs X.K gsNil) := by
 with_unfolding_all exact PGs.imp pgs_nil rd_gsNil
theorem gs_cons (h1 : ZG X e (rdG X.K g)) (h2 : ZGs X es (rdGs X.K gs)) (hs : (assignEach (e :: es) X.env).map (·.2) = assign e X.env :: (assignEach es X.env).map (·.2) := by exact assign_cons rfl) : ZGs X (e :: es) (rdGs X.K (gsCons g gs)) := by
 with_unfolding_all exact PGs.imp (pgs_cons h1 h2 hs) rd_gsCons
theorem g_tp {k n : Nat} (hc : X.calm = true) (h : ZGs X es (rdGs X.K gs)) (hn : (assignEach es X.env).length = n := by rfl) (hst : (assignEach es X.env).findIdx? (·.1) = none := by rfl) : ZG X (.Tuple es k pos) (rdG X.K (gTp n gs)) := by
 with_unfolding_all exact PG.imp (pg_tup hc h hn hst) rd_gTp
theorem g_sb (hu : X.A.units + 64 < cLine) (ha : ZE X a (rdE X.K fa)) (hb : ZE X b (rdE X.K fb)) (hq : ∀ v, assign (.Subscript a b pos) X.env v = (do
      let ov ← holding [v] (eval a X.env)
      let iv ← holding [v, ov] (eval b X.env)
      standAt pos
      holding [v, ov, iv] (setItem ov iv v)
      release [v, ov, iv] []) := by intro _; rfl) : ZG X (.Subscript a b pos) (rdG X.K (gSub fa fb)) := by
  with_unfolding_all exact PG.imp (pg_sub ha hb (PSet.or set_list (set_dict (by omega))) hq) rd_gSub
theorem i_seq (ha : ZE X a (rdE X.K fa)) : ZI X tg a (rdI X.K (fiSeq fa)) := by
 with_unfolding_all exact PI.imp (pi_seq0 (pe_fz0 ha)) rd_iSeq
theorem i_r1 (hg : Gl X "range") (hm : X.mg "range" = none) (ha : ZE X a (rdE X.K fa)) (hs : starEach [a] X.env = [(false, eval a X.env)] := by exact star_cons rfl) : ZI X tg (.Call (.Name "range" p) [a] [] pos) (rdI X.K (fiR1 fa)) := by
 with_unfolding_all exact PI.imp (pi_range1 hg hm (q_cons ha q_nil hs) hs) rd_iR1
theorem s_for (hc : X.calm = true) (hi : ZI X tg iter (rdI X.K fi)) (hg : ZG X tg (rdG X.K g)) (hb : ZSs X aa (rdS X.K sa)) (hp : PassesOwn (model X.prog X.w) X.A X.env X.xe) (hs : ∀ x, foldedSetIterable iter X.env x = pure x := by intro _; rfl) : ZS X (.For tg iter aa [] pos) (rdS X.K (sFor fi g sa)) := by
 with_unfolding_all exact PS.imp (ps_for hp hc hi hg hb hs) rd_for
theorem s_asg (he : ZE X e (rdE X.K fa)) (hg : ZG X tg (rdG X.K g)) (hs : swapsWithSole [tg] e pos.line X.env = pure false := by rfl) (hw : swappedStores [tg] e X.env = pure none := by rfl) (h1 : (assignEach [tg] X.env).map (·.2) = [assign tg X.env] := by rfl) : ZS X (.Assign [tg] e pos) (rdS X.K (sAsg fa g)) := by
 with_unfolding_all exact PS.imp (ps_asg he hg hs hw h1) rd_asg
theorem f_nil : ZIfs X [] (rdT X.K cYes) := by
 with_unfolding_all exact R.PIfs.imp pifs_nil rd_yes
theorem q_comp {ifs : List Expr} {scope : Scope} (ix : List Nat) (own caps : List Str) (hc : X.calm = true) (n : CompNames X.env.scope scope own caps) (hi : ZI X tg iter (rdI X.K fi))
  (hb : ∀ cl C s₂ H₂ fp, ZG (blockCx X scope cl C s₂ H₂ fp (own ++ caps)) tg (rdG X.K g) /\ ZIfs (blockCx X scope cl C s₂ H₂ fp (own ++ caps)) ifs (rdT X.K ta) /\ ZE (blockCx X scope cl C s₂ H₂ fp (own ++ caps)) e (rdE X.K fa))
  (hix : ix.map (fun i => X.N[i]?) = caps.map some := by rfl)
  (hs : ∀ x, foldedSetIterable iter X.env x = pure x := by intro _; rfl) : ZE X (.ListComp e [⟨tg, iter, ifs, 0⟩] scope pos) (rdE X.K (fComp ix own.length fi g ta fa)) := by
 with_unfolding_all exact R.q_comp ix own caps hc n hi hb hix hs
end
theorem okP {P : Program} {w : World} {K : PySem.W.Frag} {mg : Str -> Option Value} {base : Heap} {x : Str} {st : Stmt} {N ps : List Str} {k : Nat} {b : FS} (d : DefAt K mg x st ps) (S : FnScope N ps (defScope st))
  (hbody : ∀ (f : Addr) (cdv : Value) (A : Around) (outer : List Env) (s : Shared) (H : Hp) (E : XK), Room k (A.deeper (envOfC x (defScope st) s.heap.objs.size f cdv)) -> ZSs (cxOf CX0 P w K mg base N x (defScope st) f cdv A outer s H E).nox (defBody st) (rdS K b)) :
  Kept P w K mg base (k + 1) x ps (runP N.length b) := by
 with_unfolding_all exact R.okP d S hbody
theorem q_callK {X : Cx} {k : Nat} {x : Str} {ps : List Str} {mf : MF} {e : Expr} {es : List Expr} {ga : FA} {p pos : Pos} {n : Nat} (F : Kept X.prog X.w X.K X.mg X.base k x ps mf) (hr : Room k X.A) (ha : ZA X (e :: es) (rdA X.K ga)) (hg : Gl X x := by rfl) (hn : ps.length = n := by rfl)
  (hdb : (x == ("__debug__" : Str)) = false := by decide) (he : starEach (e :: es) X.env = (false, eval e X.env) :: starEach es X.env := by exact star_cons rfl) (hpl : (backTo pos (starEach es X.env)).any (·.1) = false := by exact star_any rfl) :
  ZE X (.Call (.Name x p) (e :: es) [] pos) (rdE X.K (fCall mf n ga)) := by
 with_unfolding_all exact R.q_callK F hr ha hg hn hdb he hpl
theorem okN {P : Program} {w : World} {K : PySem.W.Frag} {mg : Str -> Option Value} {base : Heap} {x : Str} {st : Stmt} {N ps : List Str} {k : Nat} {b : FS} (d : DefAt K mg x st ps) (S : FnScope N ps (defScope st))
  (hbody : ∀ (f : Addr) (cdv : Value) (A : Around) (outer : List Env) (s : Shared) (H : Hp) (E : XK), Room k (A.deeper (envOfC x (defScope st) s.heap.objs.size f cdv)) -> ZSs (cxOf CX0 P w K mg base N x (defScope st) f cdv A outer s H E).nox (defBody st) (rdS K b)) :
  KeptN P w K mg base (k + 1) x ps (runN N.length b) := by
 with_unfolding_all exact R.okN d S hbody
theorem q_callN {X : Cx} {k : Nat} {x : Str} {ps : List Str} {mf : MC} {e : Expr} {es : List Expr} {ga : FA} {p pos : Pos} {n : Nat} (F : KeptN X.prog X.w X.K X.mg X.base k x ps mf) (hr : Room k X.A) (ha : ZA X (e :: es) (rdA X.K ga)) (hg : Gl X x := by rfl) (hn : ps.length = n := by rfl)
  (hdb : (x == ("__debug__" : Str)) = false := by decide) (he : starEach (e :: es) X.env = (false, eval e X.env) :: starEach es X.env := by exact star_cons rfl) (hpl : (backTo pos (starEach es X.env)).any (·.1) = false := by exact star_any rfl) :
  ZE X (.Call (.Name x p) (e :: es) [] pos) (rdE X.K (fCallN mf n ga)) := by
 with_unfolding_all exact R.q_callN F hr ha hg hn hdb he hpl
theorem okW {P : Program} {w : World} {K : PySem.W.Frag} {mg : Str -> Option Value} {base : Heap} {x : Str} {st : Stmt} {N ps : List Str} {k : Nat} {b : FS} (d : DefAt K mg x st ps) (S : FnScope N ps (defScope st))
  (hbody : ∀ (f : Addr) (cdv : Value) (A : Around) (outer : List Env) (s : Shared) (H : Hp) (E : XK), Room k (A.deeper (envOfC x (defScope st) s.heap.objs.size f cdv)) -> ZSs (cxOf CX0 P w K mg base N x (defScope st) f cdv A outer s H E).nox (defBody st) (rdS K b)) :
  KeptW P w K mg base (k + 1) x ps (runW N.length b) := by
 with_unfolding_all exact R.okW d S hbody
theorem okM {P : Program} {w : World} {K : PySem.W.Frag} {mg : Str -> Option Value} {base : Heap} {nm qual : Str} {C : Addr} {st : Stmt} {N ps : List Str} {k : Nat} {b : FS} (d : MethAt K C nm qual st ps) (S : FnScope N ps (defScope st))
  (hbody : ∀ (f : Addr) (cdv : Value) (A : Around) (outer : List Env) (s : Shared) (H : Hp) (E : XK), Room k (A.deeper (envOfC qual (defScope st) s.heap.objs.size f cdv)) -> ZSs (cxOf CX0 P w K mg base N qual (defScope st) f cdv A outer s H E).nox (defBody st) (rdS K b)) :
  KeptM P w K mg base (k + 1) nm C ps (runW N.length b) := by
 with_unfolding_all exact R.okM d S hbody
theorem q_callW {X : Cx} {k : Nat} {x : Str} {ps : List Str} {mf : MW} {e : Expr} {es : List Expr} {ga : FA} {p pos : Pos} {n : Nat} (F : KeptW X.prog X.w X.K X.mg X.base k x ps mf) (hr : Room k X.A) (ha : ZA X (e :: es) (rdA X.K ga)) (hg : Gl X x := by rfl) (hn : ps.length = n := by rfl)
  (hdb : (x == ("__debug__" : Str)) = false := by decide) (he : starEach (e :: es) X.env = (false, eval e X.env) :: starEach es X.env := by exact star_cons rfl) (hpl : (backTo pos (starEach es X.env)).any (·.1) = false := by exact star_any rfl) :
  ZE X (.Call (.Name x p) (e :: es) [] pos) (rdE X.K (fCallW mf n ga)) := by
 with_unfolding_all exact R.q_callW F hr ha hg hn hdb he hpl
theorem q_meth0 {X : Cx} {k : Nat} {c nm : Str} {C : Addr} {ps : List Str} {mf : MW} {o : Expr} {fo : FE} {apos pos : Pos} {n : Nat} {pl : Sem Bool} (N : ClsN X.K X.mg c C) (F : KeptM X.prog X.w X.K X.mg X.base k nm C ps mf) (hr : Room k X.A) (ho : ZE X o (rdE X.K fo)) (hn : ps.length = n := by rfl)
  (ht : eval (.Call (.Attribute o nm apos) [] [] pos) X.env = (do
   let ov ← eval o X.env
   standAt apos.atName
   let (mth, first) ← holding [ov] (getMethod ov nm pl)
   callWith pos mth first (backTo pos (starEach [] X.env)) (backToKw pos (keywordEach [] X.env))) := by rfl) :
  ZE X (.Call (.Attribute o nm apos) [] [] pos) (rdE X.K (fMeth c nm mf n fo fNil)) := by
 with_unfolding_all exact R.q_meth0 N F hr ho hn ht
theorem q_makeA {X : Cx} {k : Nat} {c : Str} {C : Addr} {ps : List Str} {mf : MW} {e : Expr} {es : List Expr} {ga : FA} {p pos : Pos} {n : Nat} (N : ClsN X.K X.mg c C) (hk : PySem.W.makesIn X.K C = true) (hp : PySem.W.keepIn X.K (.ref C) = true) (F : KeptM X.prog X.w X.K X.mg X.base k "__init__" C ps mf) (hr : Room (k + 1) X.A) (ha : ZA X (e :: es) (rdA X.K ga)) (hg : Gl X c := by rfl) (hn : ps.length = n := by rfl)
  (hdb : (c == ("__debug__" : Str)) = false := by decide) (he : starEach (e :: es) X.env = (false, eval e X.env) :: starEach es X.env := by exact star_cons rfl) (hpl : (backTo pos (starEach es X.env)).any (·.1) = false := by exact star_any rfl) : ZE X (.Call (.Name c p) (e :: es) [] pos) (rdE X.K (fMakeA c mf n ga)) := by
 with_unfolding_all exact R.q_makeA N hk hp F hr ha hg hn hdb he hpl
theorem q_fld {X : Cx} {c f : Str} {C : Addr} {o : Expr} {fo : FE} {pos : Pos} (N : ClsN X.K X.mg c C) (hf : NoAttr X.K C f) (ho : ZE X o (rdE X.K fo)) (hb : attributeBase o f X.env (eval o X.env) = eval o X.env := by rfl) : ZE X (.Attribute o f pos) (rdE X.K (fFld c f fo)) := by
 with_unfolding_all exact PE.imp (pe_fld ho hb) (rd_fld N hf)
theorem s_fld {X : Cx} {c f : Str} {C : Addr} {o e : Expr} {fo fv : FE} {pos pos' : Pos} (N : ClsN X.K X.mg c C) (hf : NoAttr X.K C f) (ho : ZE X o (rdE X.K fo)) (hv : ZE X e (rdE X.K fv)) (hs : swapsWith e (some (.Attribute o f pos')) pos.line X.env = pure false := by rfl) : ZS X (.Assign [.Attribute o f pos'] e pos) (rdS X.K (sFldF c f fo fv)) := by
 with_unfolding_all exact PS.imp (ps_fld ho hv hs) (rd_sfld N hf)
theorem s_augF {X : Cx} {c f : Str} {C : Addr} {o : Expr} {fo : FE} {j : Int} {kk} {q pos pos' : Pos} (N : ClsN X.K X.mg c C) (hf : NoAttr X.K C f) (ho : ZE X o (rdE X.K fo)) (hv : ZE X (.Constant (.int j) kk q) (rdE X.K (fK (.int j)))) : ZS X (.AugAssign (.Attribute o f pos') .Add (.Constant (.int j) kk q) pos) (rdS X.K (sAugF c f fo j)) := by
 with_unfolding_all exact PS.imp (ps_fldaug ho hv in_add) (rd_augF N hf)
theorem q_slS {X : Cx} {a : Expr} {fa : FE} {p2 pos : Pos} {lo hi : Option Expr} {fl fh : FO} (ha : ZE X a (rdE X.K fa)) (hl : ZO X lo (rdO X.K fl)) (hh : ZO X hi (rdO X.K fh)) : ZE X (.Subscript a (.Slice lo hi none p2) pos) (rdE X.K (fSlS fa fl fh)) := by
 with_unfolding_all exact PE.imp (pe_slice sl_str ha hl hh) rd_slS
theorem q_ixS {X : Cx} {a b : Expr} {fa fb : FE} {pos : Pos} (ha : ZE X a (rdE X.K fa)) (hb : ZE X b (rdE X.K fb)) (hs : PlainIxT b := by intro _ _; rfl) : ZE X (.Subscript a b pos) (rdE X.K (fOp ixS fa fb)) := by
 with_unfolding_all exact PE.imp (pe_item_str ha hb hs) (rd_op g_ixS)
theorem q_lenS {X : Cx} {e : Expr} {es : List Expr} {ga : FA} {p pos : Pos} (hg : Gl X "len") (hm : X.mg "len" = none) (ha : ZA X (e :: es) (rdA X.K ga)) (he : starEach (e :: es) X.env = (false, eval e X.env) :: starEach es X.env := by exact star_cons rfl) (hpl : (backTo pos (starEach es X.env)).any (·.1) = false := by exact star_any rfl) :
  ZE X (.Call (.Name "len" p) (e :: es) [] pos) (rdE X.K (fAr lenS ga)) := by
 with_unfolding_all exact PE.imp (pe_callB call_len_str hg hm PySem.boot_len ha (he := he) (hpl := hpl)) (rd_ar g_lenS)
theorem q_intS {X : Cx} {e : Expr} {es : List Expr} {ga : FA} {p pos : Pos} (hg : Gl X "int") (hm : X.mg "int" = none) (ha : ZA X (e :: es) (rdA X.K ga)) (he : starEach (e :: es) X.env = (false, eval e X.env) :: starEach es X.env := by exact star_cons rfl) (hpl : (backTo pos (starEach es X.env)).any (·.1) = false := by exact star_any rfl) :
  ZE X (.Call (.Name "int" p) (e :: es) [] pos) (rdE X.K (fAr intS ga)) := by
 with_unfolding_all exact PE.imp (pe_callTy call_intS hg hm (by decide +kernel) ha (he := he) (hpl := hpl)) (rd_ar g_intS)
theorem q_inS {X : Cx} {a b : Expr} {fa fb : FE} {pos : Pos} (ha : ZE X a (rdE X.K fa)) (hb : ZE X b (rdE X.K fb)) (hm : behindInMarks .In b = false := by rfl) : ZE X (.Compare a [.In] [b] pos) (rdE X.K (fOp (inS false) fa fb)) := by
 with_unfolding_all exact PE.imp (pe_cmpR op_in_str ha hb hm) (rd_op g_inS)
theorem q_ch {X : Cx} {a b c : Expr} {fa fb fc : FE} {pos : Pos} (ha : ZE X a (rdE X.K fa)) (hb : ZE X b (rdE X.K fb)) (hc : ZE X c (rdE X.K fc)) (hm : lastMarks [.LtE, .LtE] [b, c] = false := by with_unfolding_all rfl) : ZE X (.Compare a [.LtE, .LtE] [b, c] pos) (rdE X.K (fCh leD leD fa fb fc)) := by
 with_unfolding_all exact PE.imp (pe_chain op_le op_le ha hb hc hm) (rd_ch g_le g_le)
theorem i_str {X : Cx} {tg a : Expr} {fa : FE} (ha : ZE X a (rdE X.K fa)) : ZI X tg a (rdI X.K (fiStr fa)) := by
 with_unfolding_all exact PI.imp (pi_str ha) rd_iStr
theorem q_sw {X : Cx} {e o : Expr} {fa fb : FE} {apos cpos : Pos} (ho : ZE X o (rdE X.K fa)) (hb : ZE X e (rdE X.K fb)) (hbase : attributeBase o "startswith" X.env (eval o X.env) = eval o X.env := by rfl)
  (hfew : ((backTo cpos (starEach [e] X.env)).all (fun x => !x.1) && (backToKw cpos (keywordEach [] X.env)).all (fun x => x.1.isSome)
   && decide ([e].length + ([] : List Keyword).length + (if ([] : List Keyword).isEmpty then 0 else 1) < 30)) = true := by rfl)
  (hline : (apos.endLine == cpos.line) = true := by rfl) (hs : starEach [e] X.env = (false, eval e X.env) :: starEach [] X.env := by exact star_cons rfl) (hplain : (backTo cpos (starEach [] X.env)).any (·.1) = false := by exact star_any rfl) :
  ZE X (.Call (.Attribute o "startswith" apos) [e] [] cpos) (rdE X.K (fSw fa fb)) := by
 with_unfolding_all exact PE.imp (pe_bm PySem.F.plainAttrs_str PySem.F.slot_str_startswith PySem.F.type_str_startswith mt_sw ho (pa_cons hb pa_nil hs) hbase hfew hline hs hplain) rd_sw
theorem q_join {X : Cx} {e o : Expr} {fa fb : FE} {apos cpos : Pos} (ho : ZE X o (rdE X.K fa)) (hb : ZE X e (rdE X.K fb)) (hbase : attributeBase o "join" X.env (eval o X.env) = eval o X.env := by rfl)
  (hfew : ((backTo cpos (starEach [e] X.env)).all (fun x => !x.1) && (backToKw cpos (keywordEach [] X.env)).all (fun x => x.1.isSome)
   && decide ([e].length + ([] : List Keyword).length + (if ([] : List Keyword).isEmpty then 0 else 1) < 30)) = true := by rfl)
  (hline : (apos.endLine == cpos.line) = true := by rfl) (hs : starEach [e] X.env = (false, eval e X.env) :: starEach [] X.env := by exact star_cons rfl) (hplain : (backTo cpos (starEach [] X.env)).any (·.1) = false := by exact star_any rfl) :
  ZE X (.Call (.Attribute o "join" apos) [e] [] cpos) (rdE X.K (fOp joinD fa fb)) := by
 with_unfolding_all exact PE.imp (pe_bm PySem.F.plainAttrs_str PySem.F.slot_str_join PySem.F.type_str_join mt_join ho (pa_cons hb pa_nil hs) hbase hfew hline hs hplain) (rd_bmS g_join)
theorem q_split {X : Cx} {e o : Expr} {fa fb : FE} {apos cpos : Pos} (ho : ZE X o (rdE X.K fa)) (hb : ZE X e (rdE X.K fb)) (hbase : attributeBase o "split" X.env (eval o X.env) = eval o X.env := by rfl)
  (hfew : ((backTo cpos (starEach [e] X.env)).all (fun x => !x.1) && (backToKw cpos (keywordEach [] X.env)).all (fun x => x.1.isSome)
   && decide ([e].length + ([] : List Keyword).length + (if ([] : List Keyword).isEmpty then 0 else 1) < 30)) = true := by rfl)
  (hline : (apos.endLine == cpos.line) = true := by rfl) (hs : starEach [e] X.env = (false, eval e X.env) :: starEach [] X.env := by exact star_cons rfl) (hplain : (backTo cpos (starEach [] X.env)).any (·.1) = false := by exact star_any rfl) :
  ZE X (.Call (.Attribute o "split" apos) [e] [] cpos) (rdE X.K (fOp splD fa fb)) := by
 with_unfolding_all exact PE.imp (pe_bm PySem.F.plainAttrs_str PySem.F.slot_str_split PySem.F.type_str_split mt_split ho (pa_cons hb pa_nil hs) hbase hfew hline hs hplain) (rd_bmS g_spl)
theorem t_inW {X : Cx} {a b : Expr} {fa fb : FE} {pos : Pos} (ha : ZE X a (rdE X.K fa)) (hb : ZE X b (rdE X.K fb)) (hm : behindInMarks .In b = false := by rfl) : ZT X (.Compare a [.In] [b] pos) (rdT X.K (fB (fOp (inW false) fa fb))) := by
 with_unfolding_all exact R.t_cmp op_in_seq g_inW ha hb hm
theorem q_addF {X : Cx} {a b : Expr} {fa fb : FE} {pos : Pos} (ha : ZE X a (rdE X.K fa)) (hb : ZE X b (rdE X.K fb)) : ZE X (.BinOp a .Add b pos) (rdE X.K (fOp addF fa fb)) := by
 with_unfolding_all exact PE.imp (pe_op op_catF ha hb) (rd_op g_addF)
theorem q_zip {X : Cx} {a b : Expr} {fa fb : FE} {p p2 pos pos2 : Pos} (hc : X.calm = true) (hg : Gl X "list") (hm : X.mg "list" = none) (hg2 : Gl X "zip") (hm2 : X.mg "zip" = none) (ha : ZE X a (rdE X.K fa)) (hb : ZE X b (rdE X.K fb)) (sa : isStar a = false := by rfl) (sb : isStar b = false := by rfl) :
  ZE X (.Call (.Name "list" p) [.Call (.Name "zip" p2) [a, b] [] pos2] [] pos) (rdE X.K (fZipL fa fb)) := by
 with_unfolding_all exact PE.imp (pe_zip hc hg hm hg2 hm2 (q_cons ha (q_cons hb q_nil (star_cons sb)) (star_cons sa)) (star_cons rfl) (star_cons sa) (star_any (by simp [sb]))) rd_zip
theorem q_cget {X : Cx} {x : Str} {p apos cpos : Pos} {e : Expr} {fa : FE} {l : List (Str × D)} (h : CDict X.K X.w X.mg x l) (he : ZE X e (rdE X.K fa)) (m : M1 X (.Name x p) "get" apos e cpos := by exact ⟨rfl, rfl, rfl, rfl⟩) (hg : Gl X x := by rfl) (hd : (x == ("__debug__" : Str)) = false := by decide) : ZE X (.Call (.Attribute (.Name x p) "get" apos) [e] [] cpos) (rdE X.K (fCGet l fa)) := by
 with_unfolding_all exact PE.imp (pe_cget h hg hd he m) rd_cget
theorem ss_stuck {X : Cx} {b : List Stmt} : ZSs X b (rdS X.K sStuck) := by
 with_unfolding_all exact R.ss_stuck
section
variable {X : Cx} {e o : Expr} {es : List Expr} {fa : FE} {ga : FA} {apos cpos : Pos}
theorem q_app (ho : ZE X o (rdE X.K fa)) (ha : ZA X (e :: es) (rdA X.K ga)) (hbase : attributeBase o "append" X.env (eval o X.env) = eval o X.env := by rfl)
  (hfew : ((backTo cpos (starEach (e :: es) X.env)).all (fun x => !x.1) && (backToKw cpos (keywordEach [] X.env)).all (fun x => x.1.isSome)
   && decide ((e :: es).length + ([] : List Keyword).length + (if ([] : List Keyword).isEmpty then 0 else 1) < 30)) = true := by rfl)
  (hline : (apos.endLine == cpos.line) = true := by rfl) (hs : starEach (e :: es) X.env = (false, eval e X.env) :: starEach es X.env := by exact star_cons rfl) (hplain : (backTo cpos (starEach es X.env)).any (·.1) = false := by exact star_any rfl) :
  ZE X (.Call (.Attribute o "append" apos) (e :: es) [] cpos) (rdE X.K (fMt appD fa ga)) := by
 with_unfolding_all exact PE.imp (pe_bm PySem.F.plainAttrs_list PySem.F.slot_list_append PySem.F.type_list_append mt_append ho ha hbase hfew hline hs hplain) (rd_mt g_app)
theorem q_pop0 (ho : ZE X o (rdE X.K fa)) (hbase : attributeBase o "pop" X.env (eval o X.env) = eval o X.env := by rfl) (hline : (apos.endLine == cpos.line) = true := by rfl) :
  ZE X (.Call (.Attribute o "pop" apos) [] [] cpos) (rdE X.K (fMt pop0D fa fNil)) := by
 with_unfolding_all exact PE.imp (pe_bm0 PySem.F.plainAttrs_list PySem.F.slot_list_pop PySem.F.type_list_pop mt_pop ho hbase hline) (rd_mt0 g_pop0)
theorem q_extendL (ho : ZE X o (rdE X.K fa)) (ha : ZA X (e :: es) (rdA X.K ga)) (hbase : attributeBase o "extend" X.env (eval o X.env) = eval o X.env := by rfl)
  (hfew : ((backTo cpos (starEach (e :: es) X.env)).all (fun x => !x.1) && (backToKw cpos (keywordEach [] X.env)).all (fun x => x.1.isSome)
   && decide ((e :: es).length + ([] : List Keyword).length + (if ([] : List Keyword).isEmpty then 0 else 1) < 30)) = true := by rfl)
  (hline : (apos.endLine == cpos.line) = true := by rfl) (hs : starEach (e :: es) X.env = (false, eval e X.env) :: starEach es X.env := by exact star_cons rfl) (hplain : (backTo cpos (starEach es X.env)).any (·.1) = false := by exact star_any rfl) :
  ZE X (.Call (.Attribute o "extend" apos) (e :: es) [] cpos) (rdE X.K (fMt extL fa ga)) := by
 with_unfolding_all exact PE.imp (pe_bm PySem.F.plainAttrs_list PySem.F.slot_list_extend PySem.F.type_list_extend mt_extend ho ha hbase hfew hline hs hplain) (rd_mt g_extL)
end
theorem funOkP {P : Program} {w : World} {K : PySem.W.Frag} {mg : Str -> Option Value} {base : Heap} {x qual : Str} {st : Stmt} {f : Addr} {fd : FuncData} {N ps : List Str} {k : Nat} {b : FS} (F : Fun K x qual st f fd) (S : FnScope N ps (defScope st))
  (hbody : ∀ (cdv : Value) (A : Around) (outer : List Env) (s : Shared) (H : Hp) (E : XK), Room k (A.deeper (envOfC qual (defScope st) s.heap.objs.size f cdv)) -> ZSs (cxOf CX0 P w K mg base N qual (defScope st) f cdv A outer s H E).nox (defBody st) (rdS K b)) :
  FnOk P w K mg base CX0 (k + 1) f fd ps (spP K ps.length (runP N.length b)) := by
 with_unfolding_all exact Fun.okP F S hbody
end HW
namespace HW
open PySem PySem.Spec PyProof.Rows L2
theorem us0 {P : List Value -> Prop} (h : P []) : ∀ us : List Value, us.length = 0 -> P us := fun us e => by rw [List.length_eq_zero_iff.mp e]; exact h
theorem usS {P : List Value -> Prop} {n : Nat} (h : ∀ a us, us.length = n -> P (a :: us)) : ∀ us : List Value, us.length = n + 1 -> P us := fun us e => by
 cases us with
 | nil => cases e
 | cons a us => exact h a us (Nat.succ.inj e)
theorem us1 {P : List Value -> Prop} (h : ∀ a, P [a]) : ∀ us : List Value, us.length = 1 -> P us := usS fun a => us0 (P := fun us => P (a :: us)) (h a)
theorem us2 {P : List Value -> Prop} (h : ∀ a b, P [a, b]) : ∀ us : List Value, us.length = 2 -> P us := usS fun a => us1 (P := fun us => P (a :: us)) (h a)
theorem us3 {P : List Value -> Prop} (h : ∀ a b c, P [a, b, c]) : ∀ us : List Value, us.length = 3 -> P us := usS fun a => us2 (P := fun us => P (a :: us)) (h a)
theorem us4 {P : List Value -> Prop} (h : ∀ a b c d, P [a, b, c, d]) : ∀ us : List Value, us.length = 4 -> P us := usS fun a => us3 (P := fun us => P (a :: us)) (h a)
theorem us5 {P : List Value -> Prop} (h : ∀ a b c d e, P [a, b, c, d, e]) : ∀ us : List Value, us.length = 5 -> P us := usS fun a => us4 (P := fun us => P (a :: us)) (h a)
section
variable {K : PySem.W.Frag} {h : Heap} {mg : Str -> Option Value} {x : Str} {st : Stmt} {ps : List Str}
def FK (K : PySem.W.Frag) (x : Str) (st : Stmt) : Prop := ∃ f : Addr, PySem.W.nsIn K mainGlobals x = some (some (.ref f)) /\ ∃ (oc : Value) (od : Option Addr) (kV dc pm : Value) (an : Option Addr) (cd ct : Value) (sl : Array (Option Value)),
 K.lookup f = some ⟨oc, od, .func (PySem.W.fnOf x x (defArgs st) (defBody st) (defScope st) .none kV dc pm an cd ct), sl⟩ /\ PySem.W.codeIn K cd x = true /\ PySem.W.keepIn K (.ref f) = true
abbrev BindP (x : Str) (st : Stmt) (ps : List Str) : Prop := ∀ (kV doc pm : Value) (an : Option Addr) (cdv ct : Value) (us : List Value), us.length = ps.length -> bindArgs (PySem.W.fnOf x x (defArgs st) (defBody st) (defScope st) .none kV doc pm an cdv ct) ⟨us, []⟩ = pure (ps.zip us)
theorem FK.at_ (a : FK K x st) (X : K.In h) (G : h.Ns mainGlobals mg) (hb : BindP x st ps) : DefAt K mg x st ps := by
 obtain ⟨f, a, oc, od, kV, dc, pm, an, cd, ct, sl, l, c, k⟩ := a
 have F := fun_mk l c k
 exact ⟨_, _, F, F.binds hb, PySem.W.mg_of X G a⟩
def FKM (K : PySem.W.Frag) (C : Addr) (nm qual : Str) (st : Stmt) : Prop := ∃ f : Addr, PySem.W.findIn K (.ref C) nm = some (some (.ref f)) /\ PySem.W.isFn K (.ref f) = true /\ ∃ (oc : Value) (od : Option Addr) (kV dc pm : Value) (an : Option Addr) (cd ct : Value) (sl : Array (Option Value)),
 K.lookup f = some ⟨oc, od, .func (PySem.W.fnOf nm qual (defArgs st) (defBody st) (defScope st) .none kV dc pm an cd ct), sl⟩ /\ PySem.W.codeIn K cd qual = true /\ PySem.W.keepIn K (.ref f) = true
theorem FKM.at_ {C : Addr} {nm qual : Str} (a : FKM K C nm qual st) (hb : ∀ (kV doc pm : Value) (an : Option Addr) (cdv ct : Value) (us : List Value), us.length = ps.length -> bindArgs (PySem.W.fnOf nm qual (defArgs st) (defBody st) (defScope st) .none kV doc pm an cdv ct) ⟨us, []⟩ = pure (ps.zip us)) : MethAt K C nm qual st ps := by
 obtain ⟨f, a, i, oc, od, kV, dc, pm, an, cd, ct, sl, l, c, k⟩ := a
 have F := fun_mk l c k
 exact ⟨_, _, F, F.binds hb, ⟨a, i, k⟩⟩
theorem FK.law {fa : Addr} (a : FK K x st) (X : K.In h) (G : h.Ns mainGlobals mg) (e : mg x = some (.ref fa)) (hb : BindP x st ps) : ∃ fd, Fun K x x st fa fd /\ ∀ (s : Shared) (us : List Value), us.length = ps.length -> BindsTo s fd ⟨us, []⟩ (ps.zip us) := by
 obtain ⟨f, a, oc, od, kV, dc, pm, an, cd, ct, sl, l, c, k⟩ := a
 have := e.symm.trans (PySem.W.mg_of X G a)
 cases this
 exact ⟨_, fun_mk l c k, fun s us hl => .of_eq (hb _ _ _ _ _ _ us hl)⟩
end
end HW
namespace HW
open PySem L2
section
variable {ρ : Lo} {μ μ1 : Store} {x y : R} {d : D}
@[simp] theorem ev_v0 {ρ : Lo} : fVar 0 (some x :: ρ) μ = some (x, μ) := rfl
@[simp] theorem ev_vs {i : Nat} {o : Option R} {ρ : Lo} : fVar (i + 1) (o :: ρ) μ = fVar i ρ μ := by simp [fVar]
@[simp] theorem ev_k : fK d ρ μ = some (.v d, μ) := rfl
noncomputable def thOp (o : Option (R × Store)) (g : R -> R -> Store -> Option (R × Store)) (fb : FE) (ρ : Lo) : Option (R × Store) := o.bind fun a => (fb ρ a.2).bind fun b => g a.1 b.1 b.2
noncomputable def thOp2 (x : R) (o : Option (R × Store)) (g : R -> R -> Store -> Option (R × Store)) : Option (R × Store) := o.bind fun b => g x b.1 b.2
@[simp] theorem ev_op {g fa fb} : fOp g fa fb ρ μ = thOp (fa ρ μ) g fb ρ := rfl
@[simp] theorem ev_op1 {g fb} : thOp (some (x, μ)) g fb ρ = thOp2 x (fb ρ μ) g := rfl
@[simp] theorem ev_op2 {g} : thOp2 x (some (y, μ)) g = g x y μ := rfl
noncomputable def thUn (o : Option (R × Store)) (g : R -> Store -> Option (R × Store)) : Option (R × Store) := o.bind fun a => g a.1 a.2
@[simp] theorem ev_un {g fa} : fUn g fa ρ μ = thUn (fa ρ μ) g := rfl
@[simp] theorem ev_un1 {g} : thUn (some (x, μ)) g = g x μ := rfl
@[simp] theorem ev_nil : fNil ρ μ = some ([], μ) := rfl
noncomputable def thCons (o : Option (R × Store)) (fr : FA) (ρ : Lo) : Option (List R × Store) := o.bind fun a => (fr ρ a.2).bind fun r => some (a.1 :: r.1, r.2)
noncomputable def thCons2 (x : R) (o : Option (List R × Store)) : Option (List R × Store) := o.bind fun r => some (x :: r.1, r.2)
@[simp] theorem ev_cons {fa fr} : fCons fa fr ρ μ = thCons (fa ρ μ) fr ρ := rfl
@[simp] theorem ev_cons1 {fr} : thCons (some (x, μ)) fr ρ = thCons2 x (fr ρ μ) := rfl
@[simp] theorem ev_cons2 {xs} : thCons2 x (some (xs, μ)) = some (x :: xs, μ) := rfl
noncomputable def thAr (o : Option (List R × Store)) (g : List R -> Store -> Option (R × Store)) : Option (R × Store) := o.bind fun a => g a.1 a.2
@[simp] theorem ev_ar {g fa} : fAr g fa ρ μ = thAr (fa ρ μ) g := rfl
@[simp] theorem ev_ar1 {g xs} : thAr (some (xs, μ)) g = g xs μ := rfl
noncomputable def thB (o : Option (R × Store)) : Option (Bool × Store) := o.bind fun a => match a.1 with | .v (.bl b) => some (b, a.2) | _ => none
@[simp] theorem ev_B {fa} : fB fa ρ μ = thB (fa ρ μ) := rfl
@[simp] theorem ev_B1 {b} : thB (some (.v (.bl b), μ)) = some (b, μ) := rfl
noncomputable def thTru (o : Option (R × Store)) : Option (Bool × Store) := o.bind fun a => (truD a.1 a.2).bind fun b => some (b, a.2)
@[simp] theorem ev_tru {fa} : fTru fa ρ μ = thTru (fa ρ μ) := rfl
@[simp] theorem ev_tru1 {b} : thTru (some (.v (.bl b), μ)) = some (b, μ) := rfl
@[simp] theorem ev_tru2 {xs} : thTru (some (.v (.tup xs), μ)) = some (!xs.isEmpty, μ) := rfl
@[simp] theorem ev_tru3 {xs} : thTru (some (.v (.fl xs), μ)) = some (!xs.isEmpty, μ) := rfl
@[simp] theorem ev_tru4 {i} : thTru (some (.v (.int i), μ)) = some (i != 0, μ) := rfl
@[simp] theorem ev_tru5 : thTru (some (.v .non, μ)) = some (false, μ) := rfl
noncomputable def thAnd (o : Option (Bool × Store)) (u : FT) (ρ : Lo) : Option (Bool × Store) := o.bind fun c => if c.1 = true then u ρ c.2 else some (false, c.2)
noncomputable def thOr (o : Option (Bool × Store)) (u : FT) (ρ : Lo) : Option (Bool × Store) := o.bind fun c => if c.1 = true then some (true, c.2) else u ρ c.2
noncomputable def thNot (o : Option (Bool × Store)) : Option (Bool × Store) := o.bind fun c => some (!c.1, c.2)
@[simp] theorem ev_tand {t u} : tAndF t u ρ μ = thAnd (t ρ μ) u ρ := rfl
@[simp] theorem ev_tand1 {b u} : thAnd (some (b, μ)) u ρ = if b = true then u ρ μ else some (false, μ) := rfl
@[simp] theorem ev_tor {t u} : tOrF t u ρ μ = thOr (t ρ μ) u ρ := rfl
@[simp] theorem ev_tor1 {b u} : thOr (some (b, μ)) u ρ = if b = true then some (true, μ) else u ρ μ := rfl
@[simp] theorem ev_tnot {t} : tNotF t ρ μ = thNot (t ρ μ) := rfl
@[simp] theorem ev_tnot1 {b} : thNot (some (b, μ)) = some (!b, μ) := rfl
noncomputable def thAndV (o : Option (R × Store)) (fb : FE) (ρ : Lo) : Option (R × Store) := o.bind fun a => match a.1 with | .v (.bl c) => if c = true then fb ρ a.2 else some (.v (.bl false), a.2) | _ => none
noncomputable def thOrV (o : Option (R × Store)) (fb : FE) (ρ : Lo) : Option (R × Store) := o.bind fun a => match a.1 with | .v (.bl c) => if c = true then some (.v (.bl true), a.2) else fb ρ a.2 | _ => none
noncomputable def thNotV (o : Option (R × Store)) : Option (R × Store) := o.bind fun a => match a.1 with | .v (.bl c) => some (.v (.bl (!c)), a.2) | _ => none
@[simp] theorem ev_and {fa fb} : fAnd fa fb ρ μ = thAndV (fa ρ μ) fb ρ := rfl
@[simp] theorem ev_and1 {c fb} : thAndV (some (.v (.bl c), μ)) fb ρ = if c = true then fb ρ μ else some (.v (.bl false), μ) := rfl
@[simp] theorem ev_or {fa fb} : fOr fa fb ρ μ = thOrV (fa ρ μ) fb ρ := rfl
@[simp] theorem ev_or1 {c fb} : thOrV (some (.v (.bl c), μ)) fb ρ = if c = true then some (.v (.bl true), μ) else fb ρ μ := rfl
@[simp] theorem ev_not {fa} : fNot fa ρ μ = thNotV (fa ρ μ) := rfl
@[simp] theorem ev_not1 {c} : thNotV (some (.v (.bl c), μ)) = some (.v (.bl (!c)), μ) := rfl
noncomputable def thIf (o : Option (Bool × Store)) (fa fb : FE) (ρ : Lo) : Option (R × Store) := o.bind fun c => if c.1 = true then fa ρ c.2 else fb ρ c.2
@[simp] theorem ev_if {t fa fb} : fIf t fa fb ρ μ = thIf (t ρ μ) fa fb ρ := rfl
@[simp] theorem ev_if1 {c fa fb} : thIf (some (c, μ)) fa fb ρ = if c = true then fa ρ μ else fb ρ μ := rfl
@[simp] theorem ev_vals0 : vals [] = some [] := rfl
@[simp] theorem ev_vals1 {r ds} (h : vals r = some ds) : vals (.v d :: r) = some (d :: ds) := by simp [vals, h]
noncomputable def thTup (o : Option (List R × Store)) : Option (R × Store) := o.bind fun a => (vals a.1).bind fun ds => if ds.length <= sizeLine then some (.v (.tup ds), a.2) else none
noncomputable def thLst (o : Option (List R × Store)) : Option (R × Store) := o.bind fun a => (vals a.1).bind fun ds => if ds.length <= sizeLine then some (.p a.2.length, a.2 ++ [.lst ds]) else none
@[simp] theorem ev_tup {fa} : fTup fa ρ μ = thTup (fa ρ μ) := rfl
@[simp] theorem ev_tup1 {rs ds} (h : vals rs = some ds) (hl : ds.length <= sizeLine) : thTup (some (rs, μ)) = some (.v (.tup ds), μ) := by simp [thTup, h, hl]
@[simp] theorem ev_lst {fa} : fLst fa ρ μ = thLst (fa ρ μ) := rfl
@[simp] theorem ev_lst1 {rs ds} (h : vals rs = some ds) (hl : ds.length <= sizeLine) : thLst (some (rs, μ)) = some (.p μ.length, μ ++ [.lst ds]) := by simp [thLst, h, hl]
@[simp] theorem ev_dnew : fDnew ρ μ = some (.p μ.length, μ ++ [.dct []]) := rfl
noncomputable def thFz (o : Option (R × Store)) : Option (R × Store) := o.bind fun a => (fzD a.1 a.2).bind fun b => some (.v b.1, b.2)
@[simp] theorem ev_fz {fa} : fFz fa ρ μ = thFz (fa ρ μ) := rfl
@[simp] theorem ev_fz1 : thFz (some (.v d, μ)) = some (.v d, μ) := rfl
noncomputable def thCall (o : Option (List R × Store)) (f : MF) (n : Nat) : Option (R × Store) := o.bind fun a => (vals a.1).bind fun ds => if ds.length = n then (f ds).bind fun d => some (.v d, a.2) else none
@[simp] theorem ev_call {f n fa} : fCall f n fa ρ μ = thCall (fa ρ μ) f n := rfl
@[simp] theorem ev_next : sNext ρ μ = some (.nx ρ μ) := rfl
noncomputable def thS (o : Option Out) (b : FS) : Option Out := o.bind fun o => match o with | .nx ρ' μ' => b ρ' μ' | o => some o
@[simp] theorem ev_seq {a b} : sSeq a b ρ μ = thS (a ρ μ) b := rfl
@[simp] theorem ev_seq1 {b} : thS (some (.nx ρ μ)) b = b ρ μ := rfl
@[simp] theorem ev_seq2 {b} : thS (some (.rt x μ)) b = some (.rt x μ) := rfl
@[simp] theorem ev_seq3 {b} : thS (some (.bk ρ μ)) b = some (.bk ρ μ) := rfl
@[simp] theorem ev_seq4 {b} : thS (some (.ct ρ μ)) b = some (.ct ρ μ) := rfl
@[simp] theorem ev_break : sBreak ρ μ = some (.bk ρ μ) := rfl
@[simp] theorem ev_cont : sCont ρ μ = some (.ct ρ μ) := rfl
noncomputable def thDrop (o : Option (R × Store)) (ρ : Lo) : Option Out := o.bind fun a => some (.nx ρ a.2)
@[simp] theorem ev_drop {f} : sDrop f ρ μ = thDrop (f ρ μ) ρ := rfl
@[simp] theorem ev_drop1 : thDrop (some (x, μ)) ρ = some (.nx ρ μ) := rfl
noncomputable def thRet (o : Option (R × Store)) : Option Out := o.bind fun a => some (.rt a.1 a.2)
@[simp] theorem ev_ret {f} : sRet f ρ μ = thRet (f ρ μ) := rfl
@[simp] theorem ev_ret1 : thRet (some (x, μ)) = some (.rt x μ) := rfl
@[simp] theorem ev_retN : sRetN ρ μ = some (.rt (.v .non) μ) := rfl
noncomputable def thIfS (o : Option (Bool × Store)) (a b : FS) (ρ : Lo) : Option Out := o.bind fun c => if c.1 = true then a ρ c.2 else b ρ c.2
@[simp] theorem ev_ifS {t a b} : sIf t a b ρ μ = thIfS (t ρ μ) a b ρ := rfl
@[simp] theorem ev_ifT {a b} : thIfS (some (true, μ)) a b ρ = a ρ μ := rfl
@[simp] theorem ev_ifF {a b} : thIfS (some (false, μ)) a b ρ = b ρ μ := rfl
noncomputable def thSet (o : Option (R × Store)) (i : Nat) (ρ : Lo) : Option Out := o.bind fun a => some (.nx (ρ.set i (some a.1)) a.2)
@[simp] theorem ev_set {i f} : sSet i f ρ μ = thSet (f ρ μ) i ρ := rfl
@[simp] theorem ev_set1 {i} : thSet (some (x, μ)) i ρ = some (.nx (ρ.set i (some x)) μ) := rfl
noncomputable def thFor (o : Option (List D × Store)) (g : FG) (b : FS) (ρ : Lo) : Option Out := o.bind fun a => loop g b a.1 ρ a.2
@[simp] theorem ev_for {i g b} : sFor i g b ρ μ = thFor (i ρ μ) g b ρ := Eq.trans rfl rfl
@[simp] theorem ev_for1 {xs g b} : thFor (some (xs, μ)) g b ρ = loop g b xs ρ μ := Eq.trans rfl rfl
noncomputable def thSeq (o : Option (R × Store)) : Option (List D × Store) := o.bind fun a => match a.1 with | .v (.fl xs) => some (xs, a.2) | .v (.tup xs) => some (xs, a.2) | _ => none
@[simp] theorem ev_iseq {f} : fiSeq f ρ μ = thSeq (thFz (f ρ μ)) := rfl
@[simp] theorem ev_iseq1 {xs} : thSeq (some (.v (.fl xs), μ)) = some (xs, μ) := rfl
@[simp] theorem ev_iseq2 {xs} : thSeq (some (.v (.tup xs), μ)) = some (xs, μ) := rfl
noncomputable def thR1 (o : Option (R × Store)) : Option (List D × Store) := o.bind fun a => match a.1 with | .v (.int j) => if -(2 ^ 62) <= j /\ j < 2 ^ 62 then some ((List.range j.toNat).map fun i => .int (i : Nat), a.2) else none | _ => none
@[simp] theorem ev_r1 {f} : fiR1 f ρ μ = thR1 (f ρ μ) := Eq.trans rfl rfl
theorem ev_r11 {j : Int} (h : -(2 ^ 62) <= j /\ j < 2 ^ 62) : thR1 (some (.v (.int j), μ)) = some ((List.range j.toNat).map fun i => .int (i : Nat), μ) := by
 show (if -(2 ^ 62) <= j /\ j < 2 ^ 62 then _ else _) = _
 rw [if_pos h]
noncomputable def thR2 (o : Option (R × Store)) (g : FE) (ρ : Lo) : Option (List D × Store) := o.bind fun a => (g ρ a.2).bind fun b => match a.1, b.1 with
 | .v (.int i), .v (.int j) => if -(2 ^ 62) <= i /\ i < 2 ^ 62 /\ -(2 ^ 62) <= j /\ j < 2 ^ 62 then some ((List.range (j - i).toNat).map fun k => .int (i + (k : Nat)), b.2) else none | _, _ => none
noncomputable def thR22 (x : R) (o : Option (R × Store)) : Option (List D × Store) := o.bind fun b => match x, b.1 with
 | .v (.int i), .v (.int j) => if -(2 ^ 62) <= i /\ i < 2 ^ 62 /\ -(2 ^ 62) <= j /\ j < 2 ^ 62 then some ((List.range (j - i).toNat).map fun k => .int (i + (k : Nat)), b.2) else none | _, _ => none
@[simp] theorem ev_r2 {f g} : fiR2 f g ρ μ = thR2 (f ρ μ) g ρ := Eq.trans rfl rfl
@[simp] theorem ev_r21 {g} : thR2 (some (x, μ)) g ρ = thR22 x (g ρ μ) := Eq.trans rfl rfl
noncomputable def thComp (o : Option (List D × Store)) (ix : List Nat) (k : Nat) (g : FG) (c : FT) (f : FE) (ρ : Lo) : Option (R × Store) := o.bind fun a => if a.1.length <= sizeLine then
 (compL g c f a.1 (blockLo k ix ρ) a.2).bind fun r => some (.p r.2.length, r.2 ++ [.lst r.1]) else none
@[simp] theorem ev_comp {ix k i g c f} : fComp ix k i g c f ρ μ = thComp (i ρ μ) ix k g c f ρ := Eq.trans rfl rfl
@[simp] theorem ev_yes : cYes ρ μ = some (true, μ) := rfl
noncomputable def thSl (o : Option (R × Store)) (fl fh : FO) (ρ : Lo) : Option (R × Store) := o.bind fun a => (fl ρ a.2).bind fun l => (fh ρ l.2).bind fun h => slD a.1 l.1 h.1 h.2
noncomputable def thSl1 (x : R) (o : Option (Option Int × Store)) (fh : FO) (ρ : Lo) : Option (R × Store) := o.bind fun l => (fh ρ l.2).bind fun h => slD x l.1 h.1 h.2
noncomputable def thSl2 (x : R) (l : Option Int) (o : Option (Option Int × Store)) : Option (R × Store) := o.bind fun h => slD x l h.1 h.2
@[simp] theorem ev_sl {fa fl fh} : fSl fa fl fh ρ μ = thSl (fa ρ μ) fl fh ρ := rfl
@[simp] theorem ev_sl1 {fl fh} : thSl (some (x, μ)) fl fh ρ = thSl1 x (fl ρ μ) fh ρ := rfl
@[simp] theorem ev_sl2 {l fh} : thSl1 x (some (l, μ)) fh ρ = thSl2 x l (fh ρ μ) := rfl
@[simp] theorem ev_sl3 {l h} : thSl2 x l (some (h, μ)) = slD x l h μ := rfl
@[simp] theorem ev_slT {xs l h} : slD (.v (.tup xs)) l h μ = some (.v (.tup (cutD xs l h)), μ) := rfl
noncomputable def thO (o : Option (R × Store)) : Option (Option Int × Store) := o.bind fun a => match a.1 with | .v (.int i) => some (some i, a.2) | _ => none
@[simp] theorem ev_oN : oNone ρ μ = some (none, μ) := rfl
@[simp] theorem ev_oS {f} : oSome f ρ μ = thO (f ρ μ) := rfl
@[simp] theorem ev_oS1 {i} : thO (some (.v (.int i), μ)) = some (some i, μ) := rfl
noncomputable def thMt (o : Option (R × Store)) (g : R -> List R -> Store -> Option (R × Store)) (ga : FA) (ρ : Lo) : Option (R × Store) := o.bind fun a => if isLst a.1 a.2 = true then (ga ρ a.2).bind fun b => g a.1 b.1 b.2 else none
noncomputable def thMt2 (x : R) (o : Option (List R × Store)) (g : R -> List R -> Store -> Option (R × Store)) : Option (R × Store) := o.bind fun b => g x b.1 b.2
@[simp] theorem ev_mt {g fa ga} : fMt g fa ga ρ μ = thMt (fa ρ μ) g ga ρ := rfl
@[simp] theorem ev_mt2 {g xs} : thMt2 x (some (xs, μ)) g = g x xs μ := rfl
variable {i j : Int} {b c : Bool} {xs ys : List D}
@[simp] theorem ev_add : addD (.v (.int i)) (.v (.int j)) μ = some (.v (.int (i + j)), μ) := rfl
@[simp] theorem ev_sub : subD (.v (.int i)) (.v (.int j)) μ = some (.v (.int (i - j)), μ) := rfl
@[simp] theorem ev_lt : ltD (.v (.int i)) (.v (.int j)) μ = some (.v (.bl (decide (i < j))), μ) := rfl
@[simp] theorem ev_le : leD (.v (.int i)) (.v (.int j)) μ = some (.v (.bl (decide (i <= j))), μ) := rfl
@[simp] theorem ev_gt : gtD (.v (.int i)) (.v (.int j)) μ = some (.v (.bl (decide (j < i))), μ) := rfl
@[simp] theorem ev_ge : geD (.v (.int i)) (.v (.int j)) μ = some (.v (.bl (decide (j <= i))), μ) := rfl
theorem ev_mod (h : 0 < j) : modD (.v (.int i)) (.v (.int j)) μ = some (.v (.int (i % j)), μ) := by simp [modD, iOp, h]
theorem ev_div (h : 0 < j) (h2 : j < 1073741824) : divD (.v (.int i)) (.v (.int j)) μ = some (.v (.int (i / j)), μ) := by simp [divD, iOp, h, h2]
theorem ev_mulR (h : -(2 ^ 64) < j /\ j < 2 ^ 64) : mulD (.v (.int i)) (.v (.int j)) μ = some (.v (.int (i * j)), μ) := by
 show (if (decide (-(2 ^ 64) < i /\ i < 2 ^ 64) || decide (-(2 ^ 64) < j /\ j < 2 ^ 64)) = true then _ else _) = _
 rw [if_pos (by rw [Bool.or_eq_true]; exact .inr (decide_eq_true h))]
theorem ev_mulL (h : -(2 ^ 64) < i /\ i < 2 ^ 64) : mulD (.v (.int i)) (.v (.int j)) μ = some (.v (.int (i * j)), μ) := by
 show (if (decide (-(2 ^ 64) < i /\ i < 2 ^ 64) || decide (-(2 ^ 64) < j /\ j < 2 ^ 64)) = true then _ else _) = _
 rw [if_pos (by rw [Bool.or_eq_true]; exact .inl (decide_eq_true h))]
theorem ev_pow (h : 0 <= j /\ j <= 1000000 /\ i.natAbs < 2 ^ 64) : powD (.v (.int i)) (.v (.int j)) μ = some (.v (.int (i ^ j.toNat)), μ) := by simp [powD, iOp, h]
@[simp] theorem ev_neg : negD (.v (.int i)) μ = some (.v (.int (-i)), μ) := rfl
@[simp] theorem ev_eqI : eqR false (.v (.int i)) (.v (.int j)) μ = some (.v (.bl (i == j)), μ) := rfl
@[simp] theorem ev_neI : eqR true (.v (.int i)) (.v (.int j)) μ = some (.v (.bl (!(i == j))), μ) := rfl
@[simp] theorem ev_eqB : eqR false (.v (.bl b)) (.v (.bl c)) μ = some (.v (.bl (b == c)), μ) := rfl
@[simp] theorem ev_neB : eqR true (.v (.bl b)) (.v (.bl c)) μ = some (.v (.bl (!(b == c))), μ) := rfl
@[simp] theorem ev_lenT : lenD [.v (.tup xs)] μ = some (.v (.int xs.length), μ) := rfl
@[simp] theorem ev_lenF : lenD [.v (.fl xs)] μ = some (.v (.int xs.length), μ) := rfl
@[simp] theorem ev_tupT : tupD [.v (.tup xs)] μ = some (.v (.tup xs), μ) := rfl
@[simp] theorem ev_tupF : tupD [.v (.fl xs)] μ = some (.v (.tup xs), μ) := rfl
@[simp] theorem ev_listT : listD [.v (.tup xs)] μ = some (.p μ.length, μ ++ [.lst xs]) := rfl
@[simp] theorem ev_listF : listD [.v (.fl xs)] μ = some (.p μ.length, μ ++ [.lst xs]) := rfl
theorem bools_map (bs : List Bool) : boolsD (bs.map D.bl) = some bs := by induction bs <;> simp_all [boolsD]
@[simp] theorem ev_gnm {k : Nat} : gNm k x ρ μ = some (ρ.set k (some x), μ) := rfl
theorem at_int {α : Type} {xs : List α} {i : Int} {a : α} (h0 : 0 <= i) (h : xs[i.toNat]? = some a) : atI xs i = some a := by
 unfold atI ixN
 have hl := (List.getElem?_eq_some_iff.mp h).1
 rw [if_pos h0, if_pos (by omega)]
 simpa using h
noncomputable def finO (o : Option Out) : Option D := o.bind fin
@[simp] theorem ev_fin : finO (some (.rt (.v d) μ)) = some d := rfl
end
@[simp] theorem okDs_ints {n : Nat} (xs : List Int) : okDs n (xs.map D.int) = true := by
 induction xs with
 | nil => cases n <;> rfl
 | cons x xs ih => cases n <;> simpa [okDs, okD] using ih
@[simp] theorem eqDs_ints (xs ys : List Int) : eqDs (xs.map D.int) (ys.map D.int) = decide (xs = ys) := by
 induction xs generalizing ys with
 | nil => cases ys <;> simp [eqDs_cons, eqDs_nil, eqDs_nc, eqDs_cn]
 | cons x xs ih =>
  cases ys with
  | nil => simp [eqDs_cons, eqDs_nil, eqDs_nc, eqDs_cn]
  | cons y ys => simp [eqDs_cons, eqDs_nil, eqDs_nc, eqDs_cn, eqD_tup, eqD_fl, eqD_bl, eqD_int, ih ys]; rfl
noncomputable def thG (o : Option (Lo × Store)) (b : FS) : Option Out := o.bind fun a => b a.1 a.2
@[simp] theorem ev_G {ρ : Lo} {μ : Store} {b : FS} : thG (some (ρ, μ)) b = b ρ μ := rfl
theorem loop_nx {g : FG} {b : FS} (I : Nat -> Lo -> Store -> Prop) {xs : List D} {ρ : Lo} {μ : Store} (h0 : I 0 ρ μ)
  (hs : ∀ (i : Nat) x ρ μ, xs[i]? = some x -> I i ρ μ -> ∃ ρ' μ', thG (g (.v x) ρ μ) b = some (.nx ρ' μ') /\ I (i + 1) ρ' μ') :
  ∃ ρ' μ', loop g b xs ρ μ = some (.nx ρ' μ') /\ I xs.length ρ' μ' := by
 have key : ∀ (n : Nat) (ys : List D) (i : Nat) ρ μ, ys.length = n -> xs.drop i = ys -> i <= xs.length -> I i ρ μ -> ∃ ρ' μ', loop g b ys ρ μ = some (.nx ρ' μ') /\ I xs.length ρ' μ' := by
  intro n
  induction n with
  | zero =>
   intro ys i ρ μ hn hd hi h
   have : ys = [] := List.eq_nil_of_length_eq_zero hn
   subst this
   have : i = xs.length := by
    have := congrArg List.length hd
    simp at this; omega
   subst this
   exact ⟨ρ, μ, rfl, h⟩
  | succ n ih =>
   intro ys i ρ μ hn hd hi h
   cases ys with
   | nil => simp at hn
   | cons y ys =>
    have hlt : i < xs.length := by
     have := congrArg List.length hd
     simp at this; omega
    have hc := List.drop_eq_getElem_cons hlt
    rw [hd] at hc
    injection hc with h1 h2
    obtain ⟨ρ', μ', e0, h'⟩ := hs i y ρ μ (by rw [h1]; exact List.getElem?_eq_getElem hlt) h
    obtain ⟨⟨ρ1, μ1⟩, e1, e2⟩ := Option.bind_eq_some_iff.mp e0
    obtain ⟨ρ2, μ2, e3, h3⟩ := ih ys (i + 1) ρ' μ' (by simpa using hn) h2.symm hlt h'
    exact ⟨ρ2, μ2, by simp only [loop, e1, e2, Option.bind_some]; exact e3, h3⟩
 exact key xs.length xs 0 ρ μ rfl (by simp) (Nat.zero_le _) h0
end HW
namespace HW
open PySem L2
section
variable {ρ : Lo} {μ μ1 : Store} {x y : R} {d : D}
noncomputable def thCallQ (o : Option (List R × Store)) (f : MF) (n : Nat) : Option (R × Store) := o.bind fun a => (valsB a.1 a.2).bind fun ds => if ds.length = n then (f ds).bind fun d => if flatD d = true then some (.v d, a.2) else none else none
@[simp] theorem ev_callQ {f n fa} : fCallQ f n fa ρ μ = thCallQ (fa ρ μ) f n := rfl
end
end HW
namespace HW
open PySem L2
section
variable {ρ : Lo} {μ μ1 : Store} {x y : R} {d e : D} {n m : Nat} {xs ys : List D} {i j : Int} {b c : Bool}
noncomputable def cMt (o : Option Cell) (n : Nat) (g : R -> List R -> Store -> Option (R × Store)) (ga : FA) (ρ : Lo) (μ : Store) : Option (R × Store) := match o with | some (.lst _) => thMt2 (.p n) (ga ρ μ) g | some (.fz _) => thMt2 (.p n) (ga ρ μ) g | _ => none
theorem ev_mtP {g ga} : thMt (some (.p n, μ)) g ga ρ = cMt μ[n]? n g ga ρ μ := by
 cases h : μ[n]? with
 | none => simp [thMt, isLst, cMt, h]
 | some c => cases c <;> simp [thMt, isLst, cMt, thMt2, h]
theorem ev_mtC {g ga} : cMt (some (.lst xs)) n g ga ρ μ = thMt2 (.p n) (ga ρ μ) g := rfl
noncomputable def cApp (o : Option Cell) (n : Nat) (d : D) (μ : Store) : Option (R × Store) := match o with | some (.lst xs) => if xs.length < sizeLine then some (.v .non, μ.set n (.lst (xs ++ [d]))) else none | _ => none
theorem ev_appP : appD (.p n) [.v d] μ = cApp μ[n]? n d μ := rfl
theorem ev_appC : cApp (some (.lst xs)) n d μ = if xs.length < sizeLine then some (.v .non, μ.set n (.lst (xs ++ [d]))) else none := rfl
noncomputable def cClr (o : Option Cell) (n : Nat) (μ : Store) : Option (R × Store) := match o with | some (.lst _) => some (.v .non, μ.set n (.lst [])) | _ => none
theorem ev_clrP : clrD (.p n) [] μ = cClr μ[n]? n μ := rfl
theorem ev_clrC : cClr (some (.lst xs)) n μ = some (.v .non, μ.set n (.lst [])) := rfl
noncomputable def cExt (o : Option Cell) (n : Nat) (ys : List D) (μ : Store) : Option (R × Store) := match o with | some (.lst xs) => if xs.length + ys.length <= sizeLine then some (.v .non, μ.set n (.lst (xs ++ ys))) else none | _ => none
theorem ev_extP : extD (.p n) [.v (.tup ys)] μ = cExt μ[n]? n ys μ := rfl
theorem ev_extC : cExt (some (.lst xs)) n ys μ = if xs.length + ys.length <= sizeLine then some (.v .non, μ.set n (.lst (xs ++ ys))) else none := rfl
noncomputable def cIt (o : Option Cell) : Option (List D) := match o with | some (.lst xs) => some xs | some (.fz xs) => some xs | _ => none
theorem ev_itT : itemsD (.v (.tup xs)) μ = some xs := rfl
theorem ev_itF : itemsD (.v (.fl xs)) μ = some xs := rfl
theorem ev_itP : itemsD (.p n) μ = cIt μ[n]? := rfl
theorem ev_itC : cIt (some (.lst xs)) = some xs := rfl
theorem ev_itZ : cIt (some (.fz xs)) = some xs := rfl
noncomputable def thIx (o : Option (List D)) (i : Int) (μ : Store) : Option (R × Store) := o.bind fun xs => (atI xs i).bind fun d => some (.v d, μ)
noncomputable def thIx2 (o : Option D) (μ : Store) : Option (R × Store) := o.bind fun d => some (.v d, μ)
theorem ev_ix : ixD x (.v (.int i)) μ = thIx (itemsD x μ) i μ := rfl
theorem ev_ix1 : thIx (some xs) i μ = thIx2 (atI xs i) μ := rfl
theorem ev_ix2 : thIx2 (some d) μ = some (.v d, μ) := rfl
theorem ev_at0 {a : D} {l : List D} : atI (a :: l) 0 = some a := at_int (by decide) rfl
theorem ev_at1 {a b : D} {l : List D} : atI (a :: b :: l) 1 = some b := at_int (by decide) rfl
theorem ev_at2 {a b c : D} {l : List D} : atI (a :: b :: c :: l) 2 = some c := at_int (by decide) rfl
theorem ev_at3 {a b c d : D} {l : List D} : atI (a :: b :: c :: d :: l) 3 = some d := at_int (by decide) rfl
noncomputable def thLen (o : Option (List D)) (μ : Store) : Option (R × Store) := o.bind fun xs => some (.v (.int xs.length), μ)
theorem ev_len : lenD [x] μ = thLen (itemsD x μ) μ := rfl
theorem ev_len1 : thLen (some xs) μ = some (.v (.int xs.length), μ) := rfl
noncomputable def thTp (o : Option (List D)) (μ : Store) : Option (R × Store) := o.bind fun xs => some (.v (.tup xs), μ)
theorem ev_tp : tupD [x] μ = thTp (itemsD x μ) μ := rfl
theorem ev_tp1 : thTp (some xs) μ = some (.v (.tup xs), μ) := rfl
noncomputable def thLs (o : Option (List D)) (μ : Store) : Option (R × Store) := o.bind fun xs => some (.p μ.length, μ ++ [.lst xs])
theorem ev_ls : listD [x] μ = thLs (itemsD x μ) μ := rfl
theorem ev_ls1 : thLs (some xs) μ = some (.p μ.length, μ ++ [.lst xs]) := rfl
noncomputable def cVw (o : Option Cell) : Option D := match o with | some (.lst xs) => some (.fl xs) | some (.fz xs) => some (.fl xs) | _ => none
theorem ev_vwV : viewD (.v d) μ = some d := rfl
theorem ev_vwP : viewD (.p n) μ = cVw μ[n]? := rfl
theorem ev_vwC : cVw (some (.lst xs)) = some (.fl xs) := rfl
theorem ev_vwZ : cVw (some (.fz xs)) = some (.fl xs) := rfl
noncomputable def thEq (o p : Option D) (neg : Bool) (μ : Store) : Option (R × Store) := o.bind fun a => p.bind fun b => if (okD 60 a && okD 60 b) = true then some (.v (.bl (if neg then !eqD a b else eqD a b)), μ) else none
theorem ev_eqR : eqR b x y μ = thEq (viewD x μ) (viewD y μ) b μ := rfl
theorem ev_eqF : thEq (some d) (some e) false μ = if (okD 60 d && okD 60 e) = true then some (.v (.bl (eqD d e)), μ) else none := rfl
theorem ev_eqT : thEq (some d) (some e) true μ = if (okD 60 d && okD 60 e) = true then some (.v (.bl (!eqD d e)), μ) else none := rfl
theorem ok_int : okD n (.int i) = true := by cases n <;> rfl
theorem ok_bl : okD n (.bl b) = true := by cases n <;> rfl
theorem ok_non : okD n .non = true := by cases n <;> rfl
theorem eq_int : eqD (.int i) (.int j) = (i == j) := rfl
theorem eq_bl : eqD (.bl b) (.bl c) = (b == c) := rfl
noncomputable def cFin (o : Option Cell) : Option D := match o with | some (.lst xs) => some (.fl xs) | some (.fz xs) => some (.fl xs) | some (.dct kvs) => some (.fd (kvs.map (·.1)) (kvs.map (·.2))) | some (.fzd kvs) => some (.fd (kvs.map (·.1)) (kvs.map (·.2))) | _ => none
theorem ev_finPP : finO (some (.rt (.p n) μ)) = cFin μ[n]? := by
 cases h : μ[n]? with
 | none => simp [finO, fin, fzD, cFin, h]
 | some c => cases c <;> simp [finO, fin, fzD, cFin, h]
theorem ev_finC : cFin (some (.lst xs)) = some (.fl xs) := rfl
theorem ev_finZ : cFin (some (.fz xs)) = some (.fl xs) := rfl
theorem ev_finN : finO (some (.nx ρ μ)) = some .non := rfl
noncomputable def cFz (o : Option Cell) (n : Nat) (μ : Store) : Option (R × Store) := match o with | some (.lst xs) => some (.v (.fl xs), μ.set n (.fz xs)) | some (.fz xs) => some (.v (.fl xs), μ) | some (.dct kvs) => some (.v (.fd (kvs.map (·.1)) (kvs.map (·.2))), μ.set n (.fzd kvs)) | some (.fzd kvs) => some (.v (.fd (kvs.map (·.1)) (kvs.map (·.2))), μ) | _ => none
theorem ev_fzP : thFz (some (.p n, μ)) = cFz μ[n]? n μ := by
 cases h : μ[n]? with
 | none => simp [thFz, fzD, cFz, h]
 | some c => cases c <;> simp [thFz, fzD, cFz, h]
theorem ev_fzC : cFz (some (.lst xs)) n μ = some (.v (.fl xs), μ.set n (.fz xs)) := rfl
theorem ev_fzZ : cFz (some (.fz xs)) n μ = some (.v (.fl xs), μ) := rfl
noncomputable def thAs (o : Option D) (xs : List R) (μ : Store) : Option (List D) := o.bind fun d => (valsB xs μ).bind fun ds => some (d :: ds)
noncomputable def thAs2 (d : D) (o : Option (List D)) : Option (List D) := o.bind fun ds => some (d :: ds)
theorem ev_vb0 : valsB [] μ = some [] := rfl
theorem ev_vb {rs} : valsB (x :: rs) μ = thAs (asD x μ) rs μ := rfl
theorem ev_vb1 {rs} : thAs (some d) rs μ = thAs2 d (valsB rs μ) := rfl
theorem ev_vb2 {ds} : thAs2 d (some ds) = some (d :: ds) := rfl
noncomputable def cAs (o : Option Cell) : Option D := match o with | some (.lst xs) => some (.fl xs) | some (.fz xs) => some (.fl xs) | some (.dct kvs) => some (.fd (kvs.map (·.1)) (kvs.map (·.2))) | some (.fzd kvs) => some (.fd (kvs.map (·.1)) (kvs.map (·.2))) | _ => none
theorem ev_asV : asD (.v d) μ = some d := rfl
theorem ev_asP : asD (.p n) μ = cAs μ[n]? := rfl
theorem ev_asC : cAs (some (.lst xs)) = some (.fl xs) := rfl
theorem ev_asZ : cAs (some (.fz xs)) = some (.fl xs) := rfl
noncomputable def thVs (o : Option (List D)) (f : MF) (n : Nat) (μ : Store) : Option (R × Store) := o.bind fun ds => if ds.length = n then (f ds).bind fun d => some (.v d, μ) else none
noncomputable def thVr (o : Option D) (μ : Store) : Option (R × Store) := o.bind fun d => some (.v d, μ)
theorem ev_c1 {rs f n} : thCall (some (rs, μ)) f n = thVs (vals rs) f n μ := rfl
theorem ev_c2 {f : MF} {ds : List D} : thVs (some ds) f n μ = if ds.length = n then thVr (f ds) μ else none := rfl
theorem ev_c3 : thVr (some d) μ = some (.v d, μ) := rfl
noncomputable def thVc (d : D) (o : Option (List D)) : Option (List D) := o.bind fun ds => some (d :: ds)
theorem ev_vs0 : vals [] = some [] := rfl
theorem ev_vs1 {rs} : vals (.v d :: rs) = thVc d (vals rs) := by unfold thVc; cases h : vals rs <;> simp [vals, h]
theorem ev_vs2 {ds} : thVc d (some ds) = some (d :: ds) := rfl
noncomputable def thVsQ (o : Option (List D)) (f : MF) (n : Nat) (μ : Store) : Option (R × Store) := o.bind fun ds => if ds.length = n then (f ds).bind fun d => if flatD d = true then some (.v d, μ) else none else none
noncomputable def thVrQ (o : Option D) (μ : Store) : Option (R × Store) := o.bind fun d => if flatD d = true then some (.v d, μ) else none
theorem ev_q1 {rs f n} : thCallQ (some (rs, μ)) f n = thVsQ (valsB rs μ) f n μ := rfl
theorem ev_q2 {f : MF} {ds : List D} : thVsQ (some ds) f n μ = if ds.length = n then thVrQ (f ds) μ else none := rfl
theorem ev_q3 : thVrQ (some d) μ = if flatD d = true then some (.v d, μ) else none := rfl
noncomputable def thTv (o : Option (List D)) (μ : Store) : Option (R × Store) := o.bind fun ds => if ds.length <= sizeLine then some (.v (.tup ds), μ) else none
theorem ev_tv {rs} : thTup (some (rs, μ)) = thTv (vals rs) μ := rfl
theorem ev_tv1 {ds} : thTv (some ds) μ = if ds.length <= sizeLine then some (.v (.tup ds), μ) else none := rfl
noncomputable def thLv (o : Option (List D)) (μ : Store) : Option (R × Store) := o.bind fun ds => if ds.length <= sizeLine then some (.p μ.length, μ ++ [.lst ds]) else none
theorem ev_lv {rs} : thLst (some (rs, μ)) = thLv (vals rs) μ := rfl
theorem ev_lv1 {ds} : thLv (some ds) μ = if ds.length <= sizeLine then some (.p μ.length, μ ++ [.lst ds]) else none := rfl
noncomputable def thAsg (o : Option (R × Store)) (g : FG) (ρ : Lo) : Option Out := o.bind fun a => (g a.1 ρ a.2).bind fun b => some (.nx b.1 b.2)
noncomputable def thAsg2 (o : Option (Lo × Store)) : Option Out := o.bind fun b => some (.nx b.1 b.2)
theorem ev_asg {f g} : sAsg f g ρ μ = thAsg (f ρ μ) g ρ := rfl
theorem ev_asg1 {g} : thAsg (some (x, μ)) g ρ = thAsg2 (g x ρ μ) := rfl
theorem ev_asg2 : thAsg2 (some (ρ, μ)) = some (.nx ρ μ) := rfl
theorem ev_gtp {g} : gTp n g (.v (.tup xs)) ρ μ = if xs.length = n then g (xs.map .v) ρ μ else none := rfl
theorem ev_gs0 : gsNil [] ρ μ = some (ρ, μ) := rfl
noncomputable def thGs (o : Option (Lo × Store)) (r : FGs) (ds : List R) : Option (Lo × Store) := o.bind fun a => r ds a.1 a.2
theorem ev_gs {g r ds} : gsCons g r (x :: ds) ρ μ = thGs (g x ρ μ) r ds := rfl
theorem ev_gs1 {r ds} : thGs (some (ρ, μ)) r ds = r ds ρ μ := rfl
theorem ev_slF {l h} : slD (.v (.fl xs)) l h μ = some (.p μ.length, μ ++ [.lst (cutD xs l h)]) := rfl
theorem ev_addQI : addQ (.v (.int i)) (.v (.int j)) μ = some (.v (.int (i + j)), μ) := rfl
theorem ev_addQT : addQ (.v (.tup xs)) (.v (.tup ys)) μ = if xs.length + ys.length <= sizeLine then some (.v (.tup (xs ++ ys)), μ) else none := by
 cases xs with
 | nil => simp [addQ]
 | cons x xs => simp [addQ, addD]
noncomputable def cAdd (o p : Option Cell) (μ : Store) : Option (R × Store) := match o, p with | some (.lst xs), some (.lst ys) => if xs.length + ys.length <= sizeLine then some (.p μ.length, μ ++ [.lst (xs ++ ys)]) else none | _, _ => none
theorem ev_addQP : addQ (.p n) (.p m) μ = cAdd μ[n]? μ[m]? μ := rfl
theorem ev_addC : cAdd (some (.lst xs)) (some (.lst ys)) μ = if xs.length + ys.length <= sizeLine then some (.p μ.length, μ ++ [.lst (xs ++ ys)]) else none := rfl
theorem ev_intI : intD [.v (.int i)] μ = some (.v (.int i), μ) := rfl
theorem ev_intB : intD [.v (.bl b)] μ = some (.v (.int (if b then 1 else 0)), μ) := rfl
theorem ev_str : strD [.v (.int i)] μ = if i.natAbs.log2 < 1920 then some (.v (.str (toString i)), μ) else none := rfl
noncomputable def thSub (o : Option (R × Store)) (fi : FE) (dv : D) (ρ : Lo) : Option (Lo × Store) := o.bind fun o => (fi ρ o.2).bind fun i => (putC o.1 i.1 dv i.2).bind fun μ' => some (ρ, μ')
noncomputable def thSub2 (x : R) (o : Option (R × Store)) (dv : D) (ρ : Lo) : Option (Lo × Store) := o.bind fun i => (putC x i.1 dv i.2).bind fun μ' => some (ρ, μ')
noncomputable def thSub3 (o : Option Store) (ρ : Lo) : Option (Lo × Store) := o.bind fun μ' => some (ρ, μ')
theorem ev_sub1 {fo fi} : gSub fo fi (.v d) ρ μ = thSub (fo ρ μ) fi d ρ := rfl
theorem ev_sub2 {fi} : thSub (some (x, μ)) fi d ρ = thSub2 x (fi ρ μ) d ρ := rfl
theorem ev_sub3 : thSub2 x (some (y, μ)) d ρ = thSub3 (putC x y d μ) ρ := rfl
theorem ev_sub4 : thSub3 (some μ) ρ = some (ρ, μ) := rfl
noncomputable def cPut (o : Option Cell) (n : Nat) (i : R) (dv : D) (μ : Store) : Option Store := match o with
  | some (.lst xs) => (match i with | .v (.int k) => (ixN xs.length k).bind fun j => some (μ.set n (.lst (xs.set j dv))) | _ => none)
  | some (.dct kvs) => if kvs.length < sizeLine then (keyOf i).bind fun k => some (μ.set n (.dct (putKD kvs k dv))) else none
  | _ => none
theorem ev_putP : putC (.p n) x d μ = cPut μ[n]? n x d μ := rfl
noncomputable def thPut (o : Option Nat) (n : Nat) (xs : List D) (d : D) (μ : Store) : Option Store := o.bind fun j => some (μ.set n (.lst (xs.set j d)))
theorem ev_putL : cPut (some (.lst xs)) n (.v (.int i)) d μ = thPut (ixN xs.length i) n xs d μ := rfl
theorem ev_putL1 {j : Nat} : thPut (some j) n xs d μ = some (μ.set n (.lst (xs.set j d))) := rfl
noncomputable def thCo (o : Option (List D × Store)) : Option (R × Store) := o.bind fun r => some (.p r.2.length, r.2 ++ [.lst r.1])
theorem ev_compE {ix k g c f} : thComp (some (xs, μ)) ix k g c f ρ = if xs.length <= sizeLine then thCo (compL g c f xs (blockLo k ix ρ) μ) else none := Eq.trans rfl rfl
theorem ev_coE {r : List D} : thCo (some (r, μ)) = some (.p μ.length, μ ++ [.lst r]) := rfl
theorem ev_blk0 : blockLo 1 [] ρ = [none] := rfl
theorem ev_blk1 {i : Nat} : blockLo 1 [i] ρ = [none, (ρ[i]?).join] := rfl
theorem ev_blk2 {i j : Nat} : blockLo 1 [i, j] ρ = [none, (ρ[i]?).join, (ρ[j]?).join] := rfl
theorem ev_jn {x : Option R} : (some x).join = x := rfl
noncomputable def thAll (o : Option (List D)) (any : Bool) (μ : Store) : Option (R × Store) := o.bind fun xs => (boolsD xs).bind fun bs => some (.v (.bl (if any then bs.any id else bs.all id)), μ)
noncomputable def thAll2 (o : Option (List Bool)) (any : Bool) (μ : Store) : Option (R × Store) := o.bind fun bs => some (.v (.bl (if any then bs.any id else bs.all id)), μ)
theorem ev_all : allD b [x] μ = thAll (lstD x μ) b μ := rfl
theorem ev_all1 : thAll (some xs) b μ = thAll2 (boolsD xs) b μ := rfl
theorem ev_all2 {bs : List Bool} : thAll2 (some bs) false μ = some (.v (.bl (bs.all id)), μ) := rfl
theorem ev_any2 {bs : List Bool} : thAll2 (some bs) true μ = some (.v (.bl (bs.any id)), μ) := rfl
theorem ev_lstP : lstD (.p n) μ = cIt μ[n]? := rfl
theorem ev_lstF : lstD (.v (.fl xs)) μ = some xs := rfl
theorem ev_boolsE {bs : List Bool} : boolsD (bs.map D.bl) = some bs := bools_map bs
noncomputable def thCallN (o : Option (List R × Store)) (f : MC) (n : Nat) : Option (R × Store) := o.bind fun a => (valsB a.1 a.2).bind fun ds => if ds.length = n then (f ds).bind fun c => if flatC c = true then some (.p a.2.length, a.2 ++ [c]) else none else none
noncomputable def thVsN (o : Option (List D)) (f : MC) (n : Nat) (μ : Store) : Option (R × Store) := o.bind fun ds => if ds.length = n then (f ds).bind fun c => if flatC c = true then some (.p μ.length, μ ++ [c]) else none else none
noncomputable def thVrN (o : Option Cell) (μ : Store) : Option (R × Store) := o.bind fun c => if flatC c = true then some (.p μ.length, μ ++ [c]) else none
theorem ev_callN {f : MC} {fa} : fCallN f n fa ρ μ = thCallN (fa ρ μ) f n := rfl
theorem ev_n1 {f : MC} {rs} : thCallN (some (rs, μ)) f n = thVsN (valsB rs μ) f n μ := rfl
theorem ev_n2 {f : MC} {ds : List D} : thVsN (some ds) f n μ = if ds.length = n then thVrN (f ds) μ else none := rfl
theorem ev_n3 {k : Cell} : thVrN (some k) μ = if flatC k = true then some (.p μ.length, μ ++ [k]) else none := rfl
theorem ev_flC : flatC (.lst xs) = flatDs xs := rfl
noncomputable def finNO (o : Option Out) : Option Cell := o.bind finN
noncomputable def cFinN (o : Option Cell) : Option Cell := match o with | some (.lst xs) => some (.lst xs) | some (.dct kvs) => some (.dct kvs) | _ => none
theorem ev_finNP : finNO (some (.rt (.p n) μ)) = cFinN μ[n]? := by
 cases h : μ[n]? with
 | none => simp [finNO, finN, cFinN, h]
 | some c => cases c <;> simp [finNO, finN, cFinN, h]
theorem ev_finNC : cFinN (some (.lst xs)) = some (.lst xs) := rfl
noncomputable def thBest (o : Option (List D)) (lt : Int -> Int -> Bool) (μ : Store) : Option (R × Store) := o.bind fun ds => (intsD ds).bind fun ns => if ns = [] then none else some (.v (.int (bestOf lt ns)), μ)
noncomputable def thBest2 (o : Option (List Int)) (lt : Int -> Int -> Bool) (μ : Store) : Option (R × Store) := o.bind fun ns => if ns = [] then none else some (.v (.int (bestOf lt ns)), μ)
theorem ev_best {lt} : bestD lt [x] μ = thBest (lstD x μ) lt μ := rfl
theorem ev_best1 {lt} : thBest (some xs) lt μ = thBest2 (intsD xs) lt μ := rfl
theorem ev_best2 {lt} {ns : List Int} : thBest2 (some ns) lt μ = if ns = [] then none else some (.v (.int (bestOf lt ns)), μ) := rfl
theorem ev_ints {ns : List Int} : intsD (ns.map D.int) = some ns := by
 induction ns with
 | nil => rfl
 | cons n ns ih => simp [intsD, ih]
noncomputable def thSetQ (o : Option (List D)) (c : Bool) (μ : Store) : Option (R × Store) := o.bind fun ds => (intsD ds).bind fun ns => if ns.length < 4000 then some (.s c (HS.metOf [] ns), μ) else none
noncomputable def thSetQ2 (o : Option (List Int)) (c : Bool) (μ : Store) : Option (R × Store) := o.bind fun ns => if ns.length < 4000 then some (.s c (HS.metOf [] ns), μ) else none
theorem ev_setQ : setQ c [x] μ = thSetQ (itemsD x μ) c μ := rfl
theorem ev_setQ1 : thSetQ (some xs) c μ = thSetQ2 (intsD xs) c μ := rfl
theorem ev_setQ2 {ns : List Int} : thSetQ2 (some ns) c μ = if ns.length < 4000 then some (.s c (HS.metOf [] ns), μ) else none := rfl
theorem ev_sortQ {ns : List Int} : sortedQ c [.s c ns] μ = if ns.length < 64 then some (.p μ.length, μ ++ [.lst ((isort ns).map D.int)]) else none := by simp [sortedQ]
theorem ev_sortK {ns : List Int} : srtK c [.s c ns] μ = if ns.length < 64 then some (.p μ.length, μ ++ [.lst ((isort ns).map D.int)]) else none := by simp [srtK, sortedQ]
noncomputable def cSrt (o : Option Cell) (c : Bool) (n : Nat) (μ : Store) : Option (R × Store) := match o with
  | some (.dct kvs) => (intKeys (kvs.map (·.1))).bind fun ns => if ns.length < 64 then some (.p μ.length, μ ++ [.lst ((isort ns).map D.int)]) else none
  | some (.fzd kvs) => (intKeys (kvs.map (·.1))).bind fun ns => if ns.length < 64 then some (.p μ.length, μ ++ [.lst ((isort ns).map D.int)]) else none
  | _ => sortedQ c [.p n] μ
theorem ev_sortP : srtK c [.p n] μ = cSrt μ[n]? c n μ := rfl
theorem ev_sortL : cSrt (some (.lst xs)) c n μ = sortedQ c [.p n] μ := rfl
theorem ev_sortZ : cSrt (some (.fz xs)) c n μ = sortedQ c [.p n] μ := rfl
noncomputable def thSrt (o : Option (List Int)) (μ : Store) : Option (R × Store) := o.bind fun ns => if ns.length < 64 then some (.p μ.length, μ ++ [.lst ((isort ns).map D.int)]) else none
theorem ev_sortD {kvs} : cSrt (some (.dct kvs)) c n μ = thSrt (intKeys (kvs.map (·.1))) μ := rfl
theorem ev_srt {ns : List Int} : thSrt (some ns) μ = if ns.length < 64 then some (.p μ.length, μ ++ [.lst ((isort ns).map D.int)]) else none := rfl
noncomputable def thDs (o : Option (List (R × R) × Store)) (n : Nat) : Option (R × Store) := o.bind fun a => (kvsOf a.1).bind fun kvs => if kvs.length <= 15 then
 (match a.2[n]? with | some (.dct []) => some (.p n, a.2.set n (.dct (putAllD [] kvs))) | _ => none) else none
theorem ev_dsp {prs} : fDisp prs ρ μ = thDs (fPairs prs ρ (μ ++ [.dct []])) μ.length := rfl
noncomputable def thDs2 (o : Option (List (Key × D))) (n : Nat) (μ : Store) : Option (R × Store) := o.bind fun kvs => if kvs.length <= 15 then
 (match μ[n]? with | some (.dct []) => some (.p n, μ.set n (.dct (putAllD [] kvs))) | _ => none) else none
theorem ev_dsp1 {rs} : thDs (some (rs, μ)) n = thDs2 (kvsOf rs) n μ := rfl
noncomputable def cDs (o : Option Cell) (n : Nat) (kvs : List (Key × D)) (μ : Store) : Option (R × Store) := match o with | some (.dct []) => some (.p n, μ.set n (.dct (putAllD [] kvs))) | _ => none
theorem ev_dsp2 {kvs} : thDs2 (some kvs) n μ = if kvs.length <= 15 then cDs μ[n]? n kvs μ else none := rfl
theorem ev_dsp3 {kvs} : cDs (some (.dct [])) n kvs μ = some (.p n, μ.set n (.dct (putAllD [] kvs))) := rfl
theorem ev_prs0 : fPairs [] ρ μ = some ([], μ) := rfl
noncomputable def thPr (o : Option (R × Store)) (fv : FE) (r : List (FE × FE)) (ρ : Lo) : Option (List (R × R) × Store) := o.bind fun a => (fv ρ a.2).bind fun b => (fPairs r ρ b.2).bind fun c => some ((a.1, b.1) :: c.1, c.2)
noncomputable def thPr2 (x : R) (o : Option (R × Store)) (r : List (FE × FE)) (ρ : Lo) : Option (List (R × R) × Store) := o.bind fun b => (fPairs r ρ b.2).bind fun c => some ((x, b.1) :: c.1, c.2)
noncomputable def thPr3 (x y : R) (o : Option (List (R × R) × Store)) : Option (List (R × R) × Store) := o.bind fun c => some ((x, y) :: c.1, c.2)
theorem ev_prs {fk fv r} : fPairs ((fk, fv) :: r) ρ μ = thPr (fk ρ μ) fv r ρ := rfl
theorem ev_prs1 {fv r} : thPr (some (x, μ)) fv r ρ = thPr2 x (fv ρ μ) r ρ := rfl
theorem ev_prs2 {r} : thPr2 x (some (y, μ)) r ρ = thPr3 x y (fPairs r ρ μ) := rfl
theorem ev_prs3 {rs} : thPr3 x y (some (rs, μ)) = some ((x, y) :: rs, μ) := rfl
noncomputable def thPutD (o : Option Key) (kvs : List (Key × D)) (n : Nat) (d : D) (μ : Store) : Option Store := o.bind fun k => some (μ.set n (.dct (putKD kvs k d)))
theorem ev_putD {kvs} : cPut (some (.dct kvs)) n x d μ = if kvs.length < sizeLine then thPutD (keyOf x) kvs n d μ else none := rfl
theorem ev_putD1 {kvs k} : thPutD (some k) kvs n d μ = some (μ.set n (.dct (putKD kvs k d))) := rfl
theorem ev_key : keyOf (.v (.int i)) = some (.inl i) := rfl
theorem ev_setKT : setKs c [.v (.tup xs)] μ = thSetQ (some xs) c μ := rfl
theorem ev_setKF : setKs c [.v (.fl xs)] μ = thSetQ (some xs) c μ := rfl
noncomputable def cSet (o : Option Cell) (c : Bool) (n : Nat) (μ : Store) : Option (R × Store) := match o with
  | some (.dct kvs) => (intKeys (kvs.map (·.1))).bind fun ns => if ns.length < 60 then some (.s c (HS.metOf [] ns), μ) else none
  | some (.fzd kvs) => (intKeys (kvs.map (·.1))).bind fun ns => if ns.length < 60 then some (.s c (HS.metOf [] ns), μ) else none
  | _ => setQ c [.p n] μ
theorem ev_setKs : setKs c [.p n] μ = cSet μ[n]? c n μ := rfl
theorem ev_setKL : cSet (some (.lst xs)) c n μ = setQ c [.p n] μ := rfl
theorem ev_setKZ : cSet (some (.fz xs)) c n μ = setQ c [.p n] μ := rfl
noncomputable def thSk (o : Option (List Int)) (c : Bool) (μ : Store) : Option (R × Store) := o.bind fun ns => if ns.length < 60 then some (.s c (HS.metOf [] ns), μ) else none
theorem ev_setKD {kvs} : cSet (some (.dct kvs)) c n μ = thSk (intKeys (kvs.map (·.1))) c μ := rfl
theorem ev_setK1 {ns : List Int} : thSk (some ns) c μ = if ns.length < 60 then some (.s c (HS.metOf [] ns), μ) else none := rfl
theorem ev_dicT : dictQ [.v (.tup xs)] μ = (pairsD xs).bind fun ps => if ps.length <= sizeLine then some (.p μ.length, μ ++ [.dct (putAllD [] ps)]) else none := rfl
theorem ev_dicP : dictQ [.p n] μ = dictD [.p n] μ := rfl
noncomputable def thGet (o : Option (R × Store)) (fk fx : FE) (ρ : Lo) : Option (R × Store) := o.bind fun o => if (kvsD o.1 o.2).isSome = true then (fk ρ o.2).bind fun k => (fx ρ k.2).bind fun x => (kvsD o.1 x.2).bind fun kvs => (keyOf k.1).bind fun key => some ((match valD kvs key with | some d => .v d | none => x.1), x.2) else none
noncomputable def cKvs (o : Option Cell) : Option (List (Key × D)) := match o with | some (.dct kvs) => some kvs | some (.fzd kvs) => some kvs | _ => none
noncomputable def thGet1 (o : Option (List (Key × D))) (x : R) (fk fx : FE) (ρ : Lo) (μ : Store) : Option (R × Store) := if o.isSome = true then (fk ρ μ).bind fun k => (fx ρ k.2).bind fun y => (kvsD x y.2).bind fun kvs => (keyOf k.1).bind fun key => some ((match valD kvs key with | some d => .v d | none => y.1), y.2) else none
noncomputable def thGet2 (o : Option (R × Store)) (x : R) (fx : FE) (ρ : Lo) : Option (R × Store) := o.bind fun k => (fx ρ k.2).bind fun y => (kvsD x y.2).bind fun kvs => (keyOf k.1).bind fun key => some ((match valD kvs key with | some d => .v d | none => y.1), y.2)
noncomputable def thGet3 (o : Option (R × Store)) (x k : R) : Option (R × Store) := o.bind fun y => (kvsD x y.2).bind fun kvs => (keyOf k).bind fun key => some ((match valD kvs key with | some d => .v d | none => y.1), y.2)
noncomputable def thGet4 (o : Option (List (Key × D))) (k y : R) (μ : Store) : Option (R × Store) := o.bind fun kvs => (keyOf k).bind fun key => some ((match valD kvs key with | some d => .v d | none => y), μ)
noncomputable def thGet5 (o : Option D) (y : R) : R := match o with | some d => .v d | none => y
theorem ev_get {fo fk fx} : fGet fo fk fx ρ μ = thGet (fo ρ μ) fk fx ρ := rfl
theorem ev_kvsP : kvsD (.p n) μ = cKvs μ[n]? := rfl
theorem ev_kvsD {kvs} : cKvs (some (.dct kvs)) = some kvs := rfl
theorem ev_kvsZ {kvs} : cKvs (some (.fzd kvs)) = some kvs := rfl
theorem ev_get0 {fk fx} : thGet (some (x, μ)) fk fx ρ = thGet1 (kvsD x μ) x fk fx ρ μ := rfl
theorem ev_get1 {kvs fk fx} : thGet1 (some kvs) x fk fx ρ μ = thGet2 (fk ρ μ) x fx ρ := rfl
theorem ev_get2 {fx} : thGet2 (some (y, μ)) x fx ρ = thGet3 (fx ρ μ) x y := rfl
theorem ev_get3 {z} : thGet3 (some (z, μ)) x y = thGet4 (kvsD x μ) y z μ := rfl
theorem ev_get4 {kvs} : thGet4 (some kvs) (.v (.int i)) y μ = some (thGet5 (valD kvs (.inl i)) y, μ) := rfl
theorem ev_get5 : thGet5 (some d) y = .v d := rfl
theorem ev_get6 : thGet5 none y = y := rfl
noncomputable def thStep (o : Option (R × Store)) (fl fh : FO) (k : Int) (ρ : Lo) : Option (R × Store) := o.bind fun a => (fl ρ a.2).bind fun l => (fh ρ l.2).bind fun h => if k = 0 then none else (lstD a.1 h.2).bind fun xs => some (.p h.2.length, h.2 ++ [.lst (stepV xs l.1 h.1 k)])
noncomputable def thStep1 (x : R) (o : Option (Option Int × Store)) (fh : FO) (k : Int) (ρ : Lo) : Option (R × Store) := o.bind fun l => (fh ρ l.2).bind fun h => if k = 0 then none else (lstD x h.2).bind fun xs => some (.p h.2.length, h.2 ++ [.lst (stepV xs l.1 h.1 k)])
noncomputable def thStep2 (x : R) (l : Option Int) (o : Option (Option Int × Store)) (k : Int) : Option (R × Store) := o.bind fun h => if k = 0 then none else (lstD x h.2).bind fun xs => some (.p h.2.length, h.2 ++ [.lst (stepV xs l h.1 k)])
noncomputable def thStep3 (o : Option (List D)) (l h : Option Int) (k : Int) (μ : Store) : Option (R × Store) := if k = 0 then none else o.bind fun xs => some (.p μ.length, μ ++ [.lst (stepV xs l h k)])
theorem ev_step {fa fl fh} {k : Int} : fStep fa fl fh k ρ μ = thStep (fa ρ μ) fl fh k ρ := rfl
theorem ev_step1 {fl fh} {k : Int} : thStep (some (x, μ)) fl fh k ρ = thStep1 x (fl ρ μ) fh k ρ := rfl
theorem ev_step2 {fh} {l : Option Int} {k : Int} : thStep1 x (some (l, μ)) fh k ρ = thStep2 x l (fh ρ μ) k := rfl
theorem ev_step3 {l h : Option Int} {k : Int} : thStep2 x l (some (h, μ)) k = thStep3 (lstD x μ) l h k μ := rfl
theorem ev_step4 {l h : Option Int} : thStep3 (some xs) l h 2 μ = some (.p μ.length, μ ++ [.lst (stepV xs l h 2)]) := by simp [thStep3]
theorem sz2 : 2 <= sizeLine := by decide
theorem sz0 : 0 <= sizeLine := by decide
theorem sz3 : 3 <= sizeLine := by decide
theorem sz4 : 4 <= sizeLine := by decide
theorem small' {n : Nat} (h : n < 4000) : n < sizeLine := Nat.lt_of_lt_of_le h (by decide)
theorem small'' {n : Nat} (h : n < 4000) : n <= sizeLine := Nat.le_of_lt (small' h)
end
theorem ls_set0 {α : Type} {x y : α} {l : List α} : (x :: l).set 0 y = y :: l := rfl
theorem ls_sets {α : Type} {x y : α} {l : List α} {n : Nat} : (x :: l).set (n + 1) y = x :: l.set n y := rfl
theorem ls_get0 {α : Type} {x : α} {l : List α} : (x :: l)[0]? = some x := rfl
theorem ls_gets {α : Type} {x : α} {l : List α} {n : Nat} : (x :: l)[n + 1]? = l[n]? := rfl
theorem ls_len {α : Type} {x : α} {l : List α} : (x :: l).length = l.length + 1 := rfl
theorem ls_len0 {α : Type} : ([] : List α).length = 0 := rfl
theorem ls_app {α : Type} {x : α} {l r : List α} : (x :: l) ++ r = x :: (l ++ r) := rfl
theorem ls_app0 {α : Type} {r : List α} : [] ++ r = r := rfl
theorem ls_map {α β : Type} {f : α -> β} {x : α} {l : List α} : (x :: l).map f = f x :: l.map f := rfl
theorem ls_map0 {α β : Type} {f : α -> β} : ([] : List α).map f = [] := rfl
theorem ls_n1 {n : Nat} : 0 + n = n := Nat.zero_add n
theorem ls_not1 : (!true) = false := rfl
theorem ls_not0 : (!false) = true := rfl
theorem ls_if1 {α : Type} {a b : α} : (if true = true then a else b) = a := rfl
theorem ls_if0 {α : Type} {a b : α} : (if false = true then a else b) = b := rfl
section
variable {g : FG} {b : FS} {ρ : Lo} {μ : Store}
noncomputable def thLp (o : Option Out) (g : FG) (b : FS) (xs : List D) : Option Out := o.bind fun o => match o with
  | .nx ρ' μ' => loop g b xs ρ' μ'
  | .ct ρ' μ' => loop g b xs ρ' μ'
  | .bk ρ' μ' => some (.nx ρ' μ')
  | .rt d μ' => some (.rt d μ')
theorem loop_cons {x : D} {xs : List D} : loop g b (x :: xs) ρ μ = thLp (thG (g (.v x) ρ μ) b) g b xs := by
 show (g (.v x) ρ μ).bind _ = _
 cases e : g (.v x) ρ μ <;> rfl
theorem loop_nil : loop g b [] ρ μ = some (.nx ρ μ) := rfl
theorem lp_nx {xs} : thLp (some (.nx ρ μ)) g b xs = loop g b xs ρ μ := rfl
theorem lp_ct {xs} : thLp (some (.ct ρ μ)) g b xs = loop g b xs ρ μ := rfl
theorem lp_bk {xs} : thLp (some (.bk ρ μ)) g b xs = some (.nx ρ μ) := rfl
theorem lp_rt {xs d} : thLp (some (.rt d μ)) g b xs = some (.rt d μ) := rfl
theorem loop_inv {α σ : Type} (e : α -> D) (S : σ -> Lo × Store) (P : σ -> List α -> Prop) : ∀ (as : List α) (s : σ), P s as ->
  (∀ s a r, P s (a :: r) -> ∃ s', thG (g (.v (e a)) (S s).1 (S s).2) b = some (.nx (S s').1 (S s').2) /\ P s' r) ->
  ∃ s', loop g b (as.map e) (S s).1 (S s).2 = some (.nx (S s').1 (S s').2) /\ P s' []
 | [], s, h, _ => ⟨s, rfl, h⟩
 | a :: as, s, h, k => by
  obtain ⟨s1, h1, h2⟩ := k s a as h
  obtain ⟨s2, h3, h4⟩ := loop_inv e S P as s1 h2 k
  exact ⟨s2, by rw [List.map_cons, loop_cons, h1, lp_nx, h3], h4⟩
theorem loop_range (n : Nat) (I : Nat -> Lo -> Store -> Prop) (h0 : I 0 ρ μ)
  (hs : ∀ i < n, ∀ ρ μ, I i ρ μ -> ∃ ρ' μ', thG (g (.v (.int (i : Int))) ρ μ) b = some (.nx ρ' μ') /\ I (i + 1) ρ' μ') :
  ∃ ρ' μ', loop g b ((List.range n).map fun i => .int ((i : Nat) : Int)) ρ μ = some (.nx ρ' μ') /\ I n ρ' μ' := by
 obtain ⟨ρ', μ', e, h⟩ := loop_nx (g := g) (b := b) I (xs := (List.range n).map fun i => D.int ((i : Nat) : Int)) h0 fun i x ρ μ hx hI => by
  rw [List.getElem?_map] at hx
  obtain ⟨k, hk, rfl⟩ := Option.map_eq_some_iff.mp hx
  obtain ⟨hl, hk⟩ := List.getElem?_eq_some_iff.mp hk
  rw [List.getElem_range] at hk
  subst hk
  exact hs i (by simpa using hl) ρ μ hI
 exact ⟨ρ', μ', e, by simpa using h⟩
end
theorem comp_typed {α : Type} {f : FE} {μ : Store} {rest : Lo} (e out : α -> D) : ∀ (xs : List α) (x0 : Option R), (∀ a ∈ xs, f (some (.v (e a)) :: rest) μ = some (.v (out a), μ)) -> compL (gNm 0) cYes f (xs.map e) (x0 :: rest) μ = some (xs.map out, μ)
 | [], _, _ => rfl
 | a :: xs, x0, h => by
  have h1 := h a List.mem_cons_self
  have ih := comp_typed e out xs (some (.v (e a))) fun b hb => h b (List.mem_cons_of_mem _ hb)
  simp only [List.map_cons, compL, gNm, List.set_cons_zero, Option.bind_some, cYes, if_true, h1, ih]
theorem A2 {a b : Prop} (x : a) (y : b) : a /\ b := ⟨x, y⟩
end HW
local macro_rules
 | `(tactic| push_cast [$xs,*] $[$loc]?) => do
  let ids : Array (Lean.TSyntax `term) := ("sz2 sz0 sz3 sz4 ls_set0 ls_sets ls_get0 ls_gets ls_len ls_len0 ls_app ls_app0 ls_map ls_map0 ls_n1 ls_not1 ls_not0 ls_if1 ls_if0 loop_nil lp_nx lp_ct lp_bk lp_rt ev_v0 ev_vs ev_k ev_op ev_op1 ev_op2 ev_un ev_un1 ev_nil ev_ar ev_ar1 ev_B ev_B1 ev_tru ev_tru1 ev_tru2 ev_tru3 ev_tru4 ev_tru5 ev_tand ev_tand1 ev_tor ev_tor1 ev_tnot ev_tnot1 ev_and ev_and1 ev_or ev_or1 ev_not ev_not1 ev_if ev_if1 ev_tup ev_lst ev_dnew ev_fz ev_fz1 ev_call ev_next ev_seq ev_seq1 ev_seq2 ev_seq3 ev_seq4 ev_break ev_drop ev_drop1 ev_ret ev_ret1 ev_retN ev_ifS ev_ifT ev_ifF ev_for ev_for1 ev_iseq ev_iseq1 ev_iseq2 ev_r1 ev_yes ev_mt ev_mt2 ev_add ev_sub ev_lt ev_le ev_gt ev_ge ev_neg ev_gnm ev_fin ev_G ev_mtP ev_mtC ev_appP ev_appC ev_itT ev_itF ev_itP ev_itC ev_itZ ev_ix ev_ix1 ev_ix2 ev_at0 ev_at1 ev_at2 ev_at3 ev_len ev_len1 ev_tp ev_tp1 ev_ls ev_ls1 ev_vwV ev_vwP ev_vwC ev_vwZ ev_eqR ev_eqF ev_eqT ok_int ok_bl ok_non eq_int eq_bl ev_finPP ev_finC ev_finZ ev_fzP ev_fzC ev_fzZ ev_vb0 ev_vb ev_vb1 ev_vb2 ev_asV ev_asP ev_asC ev_asZ ev_c1 ev_c2 ev_c3 ev_vs0 ev_vs1 ev_vs2 ev_tv ev_tv1 ev_lv ev_lv1 ev_asg ev_asg1 ev_asg2 ev_gtp ev_gs0 ev_gs ev_gs1 ev_addQI ev_addQT ev_addQP ev_addC ev_lstP ev_lstF ev_cons ev_cons1 ev_cons2 ev_cont ev_set ev_set1 ev_r2 ev_r21 ev_comp ev_sl ev_sl1 ev_sl2 ev_sl3 ev_slT ev_oN ev_oS ev_oS1 ev_callQ ev_clrP ev_clrC ev_extP ev_extC ev_finN ev_q1 ev_q2 ev_q3 ev_slF ev_intI ev_intB ev_str ev_sub1 ev_sub2 ev_sub3 ev_sub4 ev_putP ev_putL ev_putL1 ev_compE ev_coE ev_blk0 ev_blk1 ev_blk2 ev_jn ev_all ev_all1 ev_all2 ev_any2 ev_boolsE ev_callN ev_n1 ev_n2 ev_n3 ev_flC ev_finNP ev_finNC ev_best ev_best1 ev_best2 ev_ints ev_setQ ev_setQ1 ev_setQ2 ev_sortQ ev_sortK ev_sortP ev_sortL ev_sortZ ev_sortD ev_srt ev_dsp ev_dsp1 ev_dsp2 ev_dsp3 ev_prs0 ev_prs ev_prs1 ev_prs2 ev_prs3 ev_putD ev_putD1 ev_key ev_setKT ev_setKF ev_setKs ev_setKL ev_setKZ ev_setKD ev_setK1 ev_dicT ev_dicP ev_get ev_kvsP ev_kvsD ev_kvsZ ev_get0 ev_get1 ev_get2 ev_get3 ev_get4 ev_get5 ev_get6 ev_step ev_step1 ev_step2 ev_step3 ev_step4".splitOn " ").toArray.map fun n => ⟨(Lean.mkIdent (String.toName ("HW." ++ n))).raw⟩
  `(tactic| simp -implicitDefEqProofs only [$xs,*, $[$ids:term],*, Nat.reduceAdd, if_true, Bool.and_self] $[$loc]?)
namespace LW
open PySem PySem.Spec PyProof.Rows L2 HW
noncomputable def top (i : Nat) : Stmt := PySem.Challenge.pw_heldwhen_k48_asks_written.main.body.getD i (.Pass ⟨0, 0, 0, 0⟩)
noncomputable section
noncomputable abbrev st_Reader_init : Stmt := L2.inClass (top 22) 0
theorem sc_Reader_init : FnScope ["self", "text"] ["self", "text"] (defScope st_Reader_init) := ⟨rfl, rfl, rfl, by decide +kernel, rfl, by decide +kernel, by decide +kernel⟩
noncomputable abbrev st_Reader_word : Stmt := L2.inClass (top 22) 1
theorem sc_Reader_word : FnScope ["self"] ["self"] (defScope st_Reader_word) := ⟨rfl, rfl, rfl, by decide +kernel, rfl, by decide +kernel, by decide +kernel⟩
noncomputable abbrev st_Reader_letters : Stmt := L2.inClass (top 22) 3
theorem sc_Reader_letters : FnScope ["self"] ["self"] (defScope st_Reader_letters) := ⟨rfl, rfl, rfl, by decide +kernel, rfl, by decide +kernel, by decide +kernel⟩
noncomputable abbrev st_Reader_number : Stmt := L2.inClass (top 22) 4
theorem sc_Reader_number : FnScope ["self"] ["self"] (defScope st_Reader_number) := ⟨rfl, rfl, rfl, by decide +kernel, rfl, by decide +kernel, by decide +kernel⟩
noncomputable abbrev st_Reader_many : Stmt := L2.inClass (top 22) 5
theorem sc_Reader_many : FnScope ["self"] ["self"] (defScope st_Reader_many) := ⟨rfl, rfl, rfl, by decide +kernel, rfl, by decide +kernel, by decide +kernel⟩
noncomputable abbrev st_Reader_numbers : Stmt := L2.inClass (top 22) 6
theorem sc_Reader_numbers : FnScope ["self"] ["self"] (defScope st_Reader_numbers) := ⟨rfl, rfl, rfl, by decide +kernel, rfl, by decide +kernel, by decide +kernel⟩
noncomputable abbrev st_Reader_finish : Stmt := L2.inClass (top 22) 7
theorem sc_Reader_finish : FnScope ["self"] ["self"] (defScope st_Reader_finish) := ⟨rfl, rfl, rfl, by decide +kernel, rfl, by decide +kernel, by decide +kernel⟩
noncomputable abbrev st_form_of : Stmt := top 6
theorem sc_form_of : FnScope ["word"] ["word"] (defScope st_form_of) := ⟨rfl, rfl, rfl, by decide +kernel, rfl, by decide +kernel, by decide +kernel⟩
noncomputable abbrev st_formed : Stmt := top 7
theorem sc_formed : FnScope ["ask"] ["ask"] (defScope st_formed) := ⟨rfl, rfl, rfl, by decide +kernel, rfl, by decide +kernel, by decide +kernel⟩
noncomputable abbrev st_check_text : Stmt := top 13
theorem sc_check_text : FnScope ["thing"] ["thing"] (defScope st_check_text) := ⟨rfl, rfl, rfl, by decide +kernel, rfl, by decide +kernel, by decide +kernel⟩
noncomputable abbrev st_is_made_of : Stmt := top 14
theorem sc_is_made_of : FnScope ["text", "signs", "most"] ["text", "signs", "most"] (defScope st_is_made_of) := ⟨rfl, rfl, rfl, by decide +kernel, rfl, by decide +kernel, by decide +kernel⟩
noncomputable abbrev st_write_number : Stmt := top 15
theorem sc_write_number : FnScope ["number"] ["number"] (defScope st_write_number) := ⟨rfl, rfl, rfl, by decide +kernel, rfl, by decide +kernel, by decide +kernel⟩
noncomputable abbrev st_read_number : Stmt := top 16
theorem sc_read_number : FnScope ["text", "figures"] ["text"] (defScope st_read_number) := ⟨rfl, rfl, rfl, by decide +kernel, rfl, by decide +kernel, by decide +kernel⟩
noncomputable abbrev st_read_number_from : Stmt := top 17
theorem sc_read_number_from : FnScope ["text", "least", "number"] ["text", "least"] (defScope st_read_number_from) := ⟨rfl, rfl, rfl, by decide +kernel, rfl, by decide +kernel, by decide +kernel⟩
noncomputable abbrev st_write_numbers : Stmt := top 18
theorem sc_write_numbers : FnScope ["numbers"] ["numbers"] (defScope st_write_numbers) := ⟨rfl, rfl, rfl, by decide +kernel, rfl, by decide +kernel, by decide +kernel⟩
noncomputable abbrev st_write_counted : Stmt := top 19
theorem sc_write_counted : FnScope ["numbers"] ["numbers"] (defScope st_write_counted) := ⟨rfl, rfl, rfl, by decide +kernel, rfl, by decide +kernel, by decide +kernel⟩
noncomputable abbrev st_read_letters : Stmt := top 20
theorem sc_read_letters : FnScope ["text"] ["text"] (defScope st_read_letters) := ⟨rfl, rfl, rfl, by decide +kernel, rfl, by decide +kernel, by decide +kernel⟩
noncomputable abbrev st_words_of : Stmt := top 21
theorem sc_words_of : FnScope ["text"] ["text"] (defScope st_words_of) := ⟨rfl, rfl, rfl, by decide +kernel, rfl, by decide +kernel, by decide +kernel⟩
noncomputable abbrev st_write_thing : Stmt := top 25
theorem sc_write_thing : FnScope ["kind", "thing"] ["kind", "thing"] (defScope st_write_thing) := ⟨rfl, rfl, rfl, by decide +kernel, rfl, by decide +kernel, by decide +kernel⟩
noncomputable abbrev st_write_pairs : Stmt := top 26
theorem sc_write_pairs : FnScope ["pairs", "words", "pair"] ["pairs"] (defScope st_write_pairs) := ⟨rfl, rfl, rfl, by decide +kernel, rfl, by decide +kernel, by decide +kernel⟩
noncomputable abbrev st_ask_words : Stmt := top 27
theorem sc_ask_words : FnScope ["ask", "words", "kind", "thing"] ["ask"] (defScope st_ask_words) := ⟨rfl, rfl, rfl, by decide +kernel, rfl, by decide +kernel, by decide +kernel⟩
noncomputable abbrev st_write_ask : Stmt := top 28
theorem sc_write_ask : FnScope ["ask"] ["ask"] (defScope st_write_ask) := ⟨rfl, rfl, rfl, by decide +kernel, rfl, by decide +kernel, by decide +kernel⟩
noncomputable abbrev st_read_thing : Stmt := top 29
theorem sc_read_thing : FnScope ["reader", "kind", "deep"] ["reader", "kind", "deep"] (defScope st_read_thing) := ⟨rfl, rfl, rfl, by decide +kernel, rfl, by decide +kernel, by decide +kernel⟩
noncomputable abbrev st_read_part : Stmt := top 30
theorem sc_read_part : FnScope ["reader", "deep", "word", "form"] ["reader", "deep"] (defScope st_read_part) := ⟨rfl, rfl, rfl, by decide +kernel, rfl, by decide +kernel, by decide +kernel⟩
noncomputable abbrev st_read_ask : Stmt := top 31
theorem sc_read_ask : FnScope ["text", "reader", "ask"] ["text"] (defScope st_read_ask) := ⟨rfl, rfl, rfl, by decide +kernel, rfl, by decide +kernel, by decide +kernel⟩
noncomputable abbrev st_law_draw : Stmt := top 33
theorem sc_law_draw : FnScope ["script", "k", "many", "cell", "number"] ["script", "k", "many"] (defScope st_law_draw) := ⟨rfl, rfl, rfl, by decide +kernel, rfl, by decide +kernel, by decide +kernel⟩
noncomputable abbrev st_law_far : Stmt := top 34
theorem sc_law_far : FnScope ["script", "k", "number"] ["script", "k"] (defScope st_law_far) := ⟨rfl, rfl, rfl, by decide +kernel, rfl, by decide +kernel, by decide +kernel⟩
noncomputable abbrev st_law_name : Stmt := top 35
theorem sc_law_name : FnScope ["script", "k", "name", "j"] ["script", "k"] (defScope st_law_name) := ⟨rfl, rfl, rfl, by decide +kernel, rfl, by decide +kernel, by decide +kernel⟩
noncomputable abbrev st_law_number : Stmt := top 36
theorem sc_law_number : FnScope ["script", "k", "way"] ["script", "k"] (defScope st_law_number) := ⟨rfl, rfl, rfl, by decide +kernel, rfl, by decide +kernel, by decide +kernel⟩
noncomputable abbrev st_law_columns : Stmt := top 37
theorem sc_law_columns : FnScope ["script", "k", "many"] ["script", "k"] (defScope st_law_columns) := ⟨rfl, rfl, rfl, by decide +kernel, rfl, by decide +kernel, by decide +kernel⟩
noncomputable abbrev st_law_one : Stmt := top 38
theorem sc_law_one : FnScope ["script", "k", "kind", "part", "word"] ["script", "k", "kind", "part"] (defScope st_law_one) := ⟨rfl, rfl, rfl, by decide +kernel, rfl, by decide +kernel, by decide +kernel⟩
noncomputable abbrev st_law_two : Stmt := top 39
theorem sc_law_two : FnScope ["script", "k", "kind", "part", "other", "columns"] ["script", "k", "kind", "part", "other"] (defScope st_law_two) := ⟨rfl, rfl, rfl, by decide +kernel, rfl, by decide +kernel, by decide +kernel⟩
noncomputable abbrev st_law_asks : Stmt := top 40
theorem sc_law_asks : FnScope ["script", "many", "base", "asks", "deep", "k", "kinds", "kind", "at", "other", "more"] ["script", "many", "base"] (defScope st_law_asks) := ⟨rfl, rfl, rfl, by decide +kernel, rfl, by decide +kernel, by decide +kernel⟩
noncomputable abbrev st_law_words : Stmt := top 41
theorem sc_law_words : FnScope ["ask", "words", "part", "one"] ["ask"] (defScope st_law_words) := ⟨rfl, rfl, rfl, by decide +kernel, rfl, by decide +kernel, by decide +kernel⟩
noncomputable abbrev st_law_same : Stmt := top 42
theorem sc_law_same : FnScope ["told", "due", "k"] ["told", "due"] (defScope st_law_same) := ⟨rfl, rfl, rfl, by decide +kernel, rfl, by decide +kernel, by decide +kernel⟩
noncomputable abbrev st_law : Stmt := top 43
theorem sc_law : FnScope ["script", "ask", "due", "told"] ["script"] (defScope st_law) := ⟨rfl, rfl, rfl, by decide +kernel, rfl, by decide +kernel, by decide +kernel⟩
noncomputable def cd_FORMS : List (Str × D) := [("table", (.tup [(.str "name")])), ("pick", (.tup [(.str "ask"), (.str "column"), (.str "word"), (.str "number")])), ("twins", (.tup [(.str "ask"), (.str "column"), (.str "column")])), ("columns", (.tup [(.str "ask"), (.str "columns")])), ("joined", (.tup [(.str "ask"), (.str "ask"), (.str "word")])), ("matched", (.tup [(.str "ask"), (.str "ask"), (.str "pairs")])), ("counted", (.tup [(.str "ask"), (.str "columns")])), ("summed", (.tup [(.str "ask"), (.str "columns"), (.str "column")])), ("lifted", (.tup [(.str "ask"), (.str "word"), (.str "number")]))]
noncomputable abbrev b_Reader_word : FS := (sSeq (sIf (fB (fOp (eqR false) (fFld "Reader" "place" (fVar 0)) (fAr lenD (fCons (fFld "Reader" "words" (fVar 0)) fNil))))
  sStuck
  sNext)
  (sSeq (sAugF "Reader" "place" (fVar 0) 1)
  (sRet (fOp ixD (fFld "Reader" "words" (fVar 0)) (fOp subD (fFld "Reader" "place" (fVar 0)) (fK (.int 1)))))))
noncomputable def w_Reader_word : MW := runW 1 (b_Reader_word)
noncomputable abbrev b_Reader_finish : FS := (sIf (fB (fOp (eqR true) (fFld "Reader" "place" (fVar 0)) (fAr lenD (fCons (fFld "Reader" "words" (fVar 0)) fNil))))
  sStuck
  sNext)
noncomputable def w_Reader_finish : MW := runW 1 (b_Reader_finish)
noncomputable abbrev b_form_of : FS := (sRet (fCGet cd_FORMS (fVar 0)))
noncomputable def m_form_of : MF := runP 1 (b_form_of)
noncomputable abbrev b_check_text : FS := (sIf (tNotF (fTru (fUn (isiD "str") (fVar 0))))
  sStuck
  sNext)
noncomputable def m_check_text : MF := runP 1 (b_check_text)
noncomputable abbrev b_is_made_of : FS := (sRet (fAnd (fCh leD leD (fK (.int 1)) (fAr lenS (fCons (fVar 0) fNil)) (fVar 2)) (fAr (allD false) (fCons (fComp [1] 1 (fiStr (fVar 0)) (gNm 0) cYes (fOp (inS false) (fVar 0) (fVar 1))) fNil))))
noncomputable def m_is_made_of : MF := runP 3 (b_is_made_of)
noncomputable abbrev b_write_number : FS := (sRet (fAr strD (fCons (fVar 0) fNil)))
noncomputable def m_write_number : MF := runP 1 (b_write_number)
noncomputable abbrev b_law_draw : FS := (sSeq (sIf (fB (fOp (eqR false) (fAr lenD (fCons (fVar 0) fNil)) (fK (.int 0))))
  (sRet (fK (.int 0)))
  sNext)
  (sSeq (sSet 3 (fOp modD (fOp ixD (fVar 0) (fOp modD (fVar 1) (fAr lenD (fCons (fVar 0) fNil)))) (fK (.int 1000000007))))
  (sSeq (sSet 4 (fOp modD (fOp mulD (fOp addQ (fVar 3) (fK (.int 5))) (fOp addQ (fK (.int 40692)) (fOp mulD (fK (.int 977)) (fVar 1)))) (fK (.int 2147483629))))
  (sSeq (sSet 4 (fOp modD (fOp mulD (fOp addQ (fVar 4) (fVar 1)) (fOp addQ (fVar 4) (fK (.int 3)))) (fK (.int 2147483647))))
  (sRet (fOp modD (fOp divD (fVar 4) (fK (.int 13))) (fVar 2)))))))
noncomputable def m_law_draw : MF := runP 5 (b_law_draw)
noncomputable abbrev b_formed : FS := (sRet (fZipL (fCall m_form_of 1 (fCons (fFz (fOp ixD (fVar 0) (fK (.int 0)))) fNil)) (fSl (fVar 0) (oSome (fK (.int 1))) oNone)))
noncomputable def n_formed : MC := runN 1 (b_formed)
noncomputable abbrev b_read_number : FS := (sSeq (sDrop (fCall m_check_text 1 (fCons (fFz (fVar 0)) fNil)))
  (sSeq (sSet 1 (fIf (fTru (fSw (fVar 0) (fK (.str "-")))) (fSlS (fVar 0) (oSome (fK (.int 1))) oNone) (fVar 0)))
  (sSeq (sIf (tNotF (fTru (fCall m_is_made_of 3 (fCons (fFz (fVar 1)) (fCons (fFz (fK (.str "0123456789"))) (fCons (fFz (fK (.int (60)))) fNil))))))
  sStuck
  sNext)
  (sSeq (sIf (tAndF (fB (fOp (eqR false) (fOp ixS (fVar 1) (fK (.int 0))) (fK (.str "0")))) (fB (fOp (eqR true) (fVar 0) (fK (.str "0")))))
  sStuck
  sNext)
  (sRet (fAr intS (fCons (fVar 0) fNil)))))))
noncomputable def m_read_number : MF := runP 2 (b_read_number)
noncomputable abbrev b_write_numbers : FS := (sRet (fComp [] 1 (fiSeq (fVar 0)) (gNm 0) cYes (fCall m_write_number 1 (fCons (fFz (fVar 0)) fNil))))
noncomputable def n_write_numbers : MC := runN 1 (b_write_numbers)
noncomputable abbrev b_read_letters : FS := (sSeq (sIf (tNotF (fTru (fCall m_is_made_of 3 (fCons (fFz (fVar 0)) (fCons (fFz (fK (.str "abcdefghijklmnopqrstuvwxyz"))) (fCons (fFz (fK (.int (8)))) fNil))))))
  sStuck
  sNext)
  (sRet (fVar 0)))
noncomputable def m_read_letters : MF := runP 1 (b_read_letters)
noncomputable abbrev b_words_of : FS := (sSeq (sDrop (fCall m_check_text 1 (fCons (fFz (fVar 0)) fNil)))
  (sRet (fOp splD (fVar 0) (fK (.str " ")))))
noncomputable def n_words_of : MC := runN 1 (b_words_of)
noncomputable abbrev b_law_far : FS := (sSeq (sIf (fB (fOp (eqR false) (fAr lenD (fCons (fVar 0) fNil)) (fK (.int 0))))
  (sRet (fK (.int 0)))
  sNext)
  (sSeq (sSet 2 (fOp addQ (fCall m_law_draw 3 (fCons (fFz (fVar 0)) (fCons (fFz (fVar 1)) (fCons (fK (.int 100000000)) fNil)))) (fK (.int 1))))
  (sRet (fOp modD (fOp addQ (fOp mulD (fOp modD (fOp ixD (fVar 0) (fOp modD (fVar 1) (fAr lenD (fCons (fVar 0) fNil)))) (fOp powD (fK (.int 10)) (fK (.int 50)))) (fVar 2)) (fOp powD (fVar 2) (fK (.int 5)))) (fOp powD (fK (.int 10)) (fK (.int 50)))))))
noncomputable def m_law_far : MF := runP 3 (b_law_far)
noncomputable abbrev l_law_name_0 : FS := (sSet 2 (fOp addQ (fVar 2) (fOp ixS (fK (.str "abcdefghijklmnopqrstuvwxyz")) (fCall m_law_draw 3 (fCons (fFz (fVar 0)) (fCons (fFz (fOp addQ (fOp addQ (fVar 1) (fK (.int 1))) (fVar 3))) (fCons (fK (.int 26)) fNil)))))))
noncomputable abbrev b_law_name : FS := (sSeq (sSet 2 (fK (.str "")))
  (sSeq (sFor (fiR1 (fOp addQ (fK (.int 1)) (fCall m_law_draw 3 (fCons (fFz (fVar 0)) (fCons (fFz (fVar 1)) (fCons (fK (.int 8)) fNil)))))) (gNm 3)
  l_law_name_0)
  (sRet (fVar 2))))
noncomputable def m_law_name : MF := runP 4 (b_law_name)
noncomputable abbrev b_law_columns : FS := (sSeq (sSet 2 (fCall m_law_draw 3 (fCons (fFz (fVar 0)) (fCons (fFz (fVar 1)) (fCons (fK (.int 4)) fNil)))))
  (sRet (fAr tupD (fCons (fComp [0, 1] 1 (fiR1 (fVar 2)) (gNm 0) cYes (fCall m_law_draw 3 (fCons (fFz (fVar 1)) (fCons (fFz (fOp addQ (fOp addQ (fVar 2) (fK (.int 1))) (fVar 0))) (fCons (fK (.int 9)) fNil))))) fNil))))
noncomputable def m_law_columns : MF := runP 3 (b_law_columns)
noncomputable abbrev b_Reader_init : FS := (sSeq (sFldF "Reader" "words" (fVar 0) (fCallN n_words_of 1 (fCons (fVar 1) fNil)))
  (sFldF "Reader" "place" (fVar 0) (fK (.int 0))))
noncomputable def w_Reader_init : MW := runW 2 (b_Reader_init)
noncomputable abbrev b_Reader_letters : FS := (sRet (fCall m_read_letters 1 (fCons (fFz (fMeth "Reader" "word" w_Reader_word 1 (fVar 0) fNil)) fNil)))
noncomputable def w_Reader_letters : MW := runW 1 (b_Reader_letters)
noncomputable abbrev b_Reader_number : FS := (sRet (fCall m_read_number 1 (fCons (fFz (fMeth "Reader" "word" w_Reader_word 1 (fVar 0) fNil)) fNil)))
noncomputable def w_Reader_number : MW := runW 1 (b_Reader_number)
noncomputable abbrev b_read_number_from : FS := (sSeq (sSet 2 (fCall m_read_number 1 (fCons (fFz (fVar 0)) fNil)))
  (sSeq (sIf (fB (fOp ltD (fVar 2) (fVar 1)))
  sStuck
  sNext)
  (sRet (fVar 2))))
noncomputable def m_read_number_from : MF := runP 3 (b_read_number_from)
noncomputable abbrev b_write_counted : FS := (sRet (fOp addF (fLst (fCons (fCall m_write_number 1 (fCons (fFz (fAr lenD (fCons (fVar 0) fNil))) fNil)) fNil)) (fCallN n_write_numbers 1 (fCons (fVar 0) fNil))))
noncomputable def n_write_counted : MC := runN 1 (b_write_counted)
noncomputable abbrev l_write_pairs_0 : FS := (sDrop (fMt extL (fVar 1) (fCons (fCallN n_write_numbers 1 (fCons (fVar 2) fNil)) fNil)))
noncomputable abbrev b_write_pairs : FS := (sSeq (sSet 1 (fLst (fCons (fCall m_write_number 1 (fCons (fFz (fAr lenD (fCons (fVar 0) fNil))) fNil)) fNil)))
  (sSeq (sFor (fiSeq (fVar 0)) (gNm 2)
  l_write_pairs_0)
  (sRet (fVar 1))))
noncomputable def n_write_pairs : MC := runN 3 (b_write_pairs)
noncomputable abbrev b_law_number : FS := (sSeq (sSet 2 (fCall m_law_draw 3 (fCons (fFz (fVar 0)) (fCons (fFz (fVar 1)) (fCons (fK (.int 5)) fNil)))))
  (sSeq (sIf (fB (fOp ltD (fVar 2) (fK (.int 2))))
  (sRet (fOp subD (fCall m_law_draw 3 (fCons (fFz (fVar 0)) (fCons (fFz (fOp addQ (fVar 1) (fK (.int 1)))) (fCons (fK (.int 25)) fNil)))) (fK (.int 12))))
  sNext)
  (sSeq (sIf (fB (fOp (eqR false) (fVar 2) (fK (.int 2))))
  (sRet (fOp subD (fOp subD (fOp powD (fK (.int 10)) (fK (.int 60))) (fK (.int 1))) (fCall m_law_draw 3 (fCons (fFz (fVar 0)) (fCons (fFz (fOp addQ (fVar 1) (fK (.int 1)))) (fCons (fK (.int 3)) fNil))))))
  sNext)
  (sSeq (sIf (fB (fOp (eqR false) (fVar 2) (fK (.int 3))))
  (sRet (fOp addQ (fOp subD (fK (.int 1)) (fOp powD (fK (.int 10)) (fK (.int 60)))) (fCall m_law_draw 3 (fCons (fFz (fVar 0)) (fCons (fFz (fOp addQ (fVar 1) (fK (.int 1)))) (fCons (fK (.int 3)) fNil))))))
  sNext)
  (sRet (fOp subD (fCall m_law_far 2 (fCons (fFz (fVar 0)) (fCons (fFz (fOp addQ (fVar 1) (fK (.int 1)))) fNil))) (fOp mulD (fK (.int 5)) (fOp powD (fK (.int 10)) (fK (.int 49))))))))))
noncomputable def m_law_number : MF := runP 3 (b_law_number)
noncomputable abbrev b_law_two : FS := (sSeq (sIf (fB (fOp (eqR false) (fVar 2) (fK (.str "joined"))))
  (sRet (fTup (fCons (fVar 2) (fCons (fVar 3) (fCons (fVar 4) (fCons (fOp ixD (fLst (fCons (fK (.str "both")) (fCons (fK (.str "either")) (fCons (fK (.str "less")) (fCons (fK (.str "just")) (fCons (fK (.str "table")) fNil)))))) (fCall m_law_draw 3 (fCons (fFz (fVar 0)) (fCons (fFz (fOp addQ (fVar 1) (fK (.int 1)))) (fCons (fK (.int 5)) fNil))))) fNil))))))
  sNext)
  (sSeq (sSet 5 (fCall m_law_columns 2 (fCons (fFz (fVar 0)) (fCons (fFz (fOp addQ (fVar 1) (fK (.int 1)))) fNil))))
  (sRet (fTup (fCons (fVar 2) (fCons (fVar 3) (fCons (fVar 4) (fCons (fAr tupD (fCons (fComp [0, 1] 1 (fiSeq (fVar 5)) (gNm 0) cYes (fTup (fCons (fVar 0) (fCons (fCall m_law_draw 3 (fCons (fFz (fVar 1)) (fCons (fFz (fOp addQ (fVar 2) (fK (.int 6)))) (fCons (fK (.int 9)) fNil)))) fNil)))) fNil)) fNil))))))))
noncomputable def m_law_two : MF := runP 6 (b_law_two)
noncomputable abbrev b_Reader_many : FS := (sRet (fCall m_read_number_from 2 (fCons (fFz (fMeth "Reader" "word" w_Reader_word 1 (fVar 0) fNil)) (fCons (fK (.int 0)) fNil))))
noncomputable def w_Reader_many : MW := runW 1 (b_Reader_many)
noncomputable abbrev b_law_one : FS := (sSeq (sIf (fB (fOp (eqR false) (fVar 2) (fK (.str "pick"))))
  (sSeq (sSet 4 (fOp ixD (fLst (fCons (fK (.str "is")) (fCons (fK (.str "under")) (fCons (fK (.str "over")) (fCons (fK (.str "abcdefgh")) fNil))))) (fCall m_law_draw 3 (fCons (fFz (fVar 0)) (fCons (fFz (fOp addQ (fVar 1) (fK (.int 1)))) (fCons (fK (.int 4)) fNil))))))
  (sRet (fTup (fCons (fVar 2) (fCons (fVar 3) (fCons (fCall m_law_draw 3 (fCons (fFz (fVar 0)) (fCons (fFz (fOp addQ (fVar 1) (fK (.int 2)))) (fCons (fK (.int 9)) fNil)))) (fCons (fVar 4) (fCons (fCall m_law_number 2 (fCons (fFz (fVar 0)) (fCons (fFz (fOp addQ (fVar 1) (fK (.int 3)))) fNil))) fNil))))))))
  sNext)
  (sSeq (sIf (fB (fOp (eqR false) (fVar 2) (fK (.str "twins"))))
  (sRet (fTup (fCons (fVar 2) (fCons (fVar 3) (fCons (fCall m_law_draw 3 (fCons (fFz (fVar 0)) (fCons (fFz (fOp addQ (fVar 1) (fK (.int 1)))) (fCons (fK (.int 9)) fNil)))) (fCons (fCall m_law_draw 3 (fCons (fFz (fVar 0)) (fCons (fFz (fOp addQ (fVar 1) (fK (.int 2)))) (fCons (fK (.int 9)) fNil)))) fNil))))))
  sNext)
  (sSeq (sIf (fB (fOp (eqR false) (fVar 2) (fK (.str "lifted"))))
  (sSeq (sSet 4 (fOp ixD (fLst (fCons (fK (.str "moved")) (fCons (fK (.str "ever")) (fCons (fK (.str "always")) (fCons (fK (.str "known")) (fCons (fK (.str "asof")) (fCons (fK (.str "from")) (fCons (fK (.str "q")) fNil)))))))) (fCall m_law_draw 3 (fCons (fFz (fVar 0)) (fCons (fFz (fOp addQ (fVar 1) (fK (.int 1)))) (fCons (fK (.int 7)) fNil))))))
  (sRet (fTup (fCons (fVar 2) (fCons (fVar 3) (fCons (fVar 4) (fCons (fCall m_law_number 2 (fCons (fFz (fVar 0)) (fCons (fFz (fOp addQ (fVar 1) (fK (.int 2)))) fNil))) fNil)))))))
  sNext)
  (sSeq (sIf (fB (fOp (eqR false) (fVar 2) (fK (.str "summed"))))
  (sRet (fTup (fCons (fVar 2) (fCons (fVar 3) (fCons (fCall m_law_columns 2 (fCons (fFz (fVar 0)) (fCons (fFz (fOp addQ (fVar 1) (fK (.int 1)))) fNil))) (fCons (fCall m_law_draw 3 (fCons (fFz (fVar 0)) (fCons (fFz (fOp addQ (fVar 1) (fK (.int 6)))) (fCons (fK (.int 9)) fNil)))) fNil))))))
  sNext)
  (sRet (fTup (fCons (fVar 2) (fCons (fVar 3) (fCons (fCall m_law_columns 2 (fCons (fFz (fVar 0)) (fCons (fFz (fOp addQ (fVar 1) (fK (.int 1)))) fNil))) fNil)))))))))
noncomputable def m_law_one : MF := runP 5 (b_law_one)
noncomputable abbrev b_Reader_numbers : FS := (sRet (fAr tupD (fCons (fComp [0] 1 (fiR1 (fMeth "Reader" "many" w_Reader_many 1 (fVar 0) fNil)) (gNm 0) cYes (fMeth "Reader" "number" w_Reader_number 1 (fVar 1) fNil)) fNil)))
noncomputable def w_Reader_numbers : MW := runW 1 (b_Reader_numbers)
noncomputable abbrev b_write_thing (F : MC) : FS := (sSeq (sIf (fB (fOp (eqR false) (fVar 0) (fK (.str "ask"))))
  (sRet (fCallN F 1 (fCons (fVar 1) fNil)))
  sNext)
  (sSeq (sIf (tOrF (fB (fOp (eqR false) (fVar 0) (fK (.str "column")))) (fB (fOp (eqR false) (fVar 0) (fK (.str "number")))))
  (sRet (fLst (fCons (fCall m_write_number 1 (fCons (fFz (fVar 1)) fNil)) fNil)))
  sNext)
  (sSeq (sIf (fB (fOp (eqR false) (fVar 0) (fK (.str "columns"))))
  (sRet (fCallN n_write_counted 1 (fCons (fVar 1) fNil)))
  sNext)
  (sSeq (sIf (fB (fOp (eqR false) (fVar 0) (fK (.str "pairs"))))
  (sRet (fCallN n_write_pairs 1 (fCons (fVar 1) fNil)))
  sNext)
  (sRet (fLst (fCons (fVar 1) fNil)))))))
noncomputable def n_write_thing (F : MC) : MC := runN 2 (b_write_thing F)
noncomputable abbrev l_law_asks_0 : FS := (sSeq (sSet 6 (fLst (fCons (fK (.str "table")) (fCons (fK (.str "pick")) (fCons (fK (.str "twins")) (fCons (fK (.str "columns")) (fCons (fK (.str "counted")) (fCons (fK (.str "summed")) (fCons (fK (.str "lifted")) (fCons (fK (.str "joined")) (fCons (fK (.str "matched")) (fCons (fK (.str "joined")) fNil))))))))))))
  (sSeq (sSet 7 (fOp ixD (fVar 6) (fCall m_law_draw 3 (fCons (fFz (fVar 0)) (fCons (fFz (fVar 5)) (fCons (fK (.int 10)) fNil))))))
  (sSeq (sSet 8 (fOp addQ (fOp addQ (fVar 2) (fK (.int 20))) (fOp mulD (fK (.int 10)) (fVar 5))))
  (sIf (tAndF (fB (fOp (inW false) (fVar 7) (fTup (fCons (fK (.str "joined")) (fCons (fK (.str "matched")) fNil))))) (tAndF (fB (fOp gtD (fAr lenD (fCons (fVar 3) fNil)) (fK (.int 1)))) (fB (fOp ltD (fAr maxD (fCons (fOp ixD (fVar 4) (fUn negD (fK (.int 1)))) (fCons (fOp ixD (fVar 4) (fUn negD (fK (.int 2)))) fNil))) (fK (.int 20))))))
  (sSeq (sSet 9 (fMt pop0D (fVar 3) fNil))
  (sSeq (sSet 10 (fMt pop0D (fVar 4) fNil))
  (sSeq (sAsg (fFz (fCall m_law_two 5 (fCons (fFz (fVar 0)) (fCons (fFz (fVar 8)) (fCons (fFz (fVar 7)) (fCons (fFz (fOp ixD (fVar 3) (fUn negD (fK (.int 1))))) (fCons (fFz (fVar 9)) fNil))))))) (gSub (fVar 3) (fUn negD (fK (.int 1)))))
  (sAsg (fFz (fOp addQ (fK (.int 1)) (fAr maxD (fCons (fOp ixD (fVar 4) (fUn negD (fK (.int 1)))) (fCons (fVar 10) fNil))))) (gSub (fVar 4) (fUn negD (fK (.int 1))))))))
  (sIf (tOrF (fB (fOp (inW false) (fVar 7) (fTup (fCons (fK (.str "table")) (fCons (fK (.str "joined")) (fCons (fK (.str "matched")) fNil)))))) (fB (fOp gtD (fOp ixD (fVar 4) (fUn negD (fK (.int 1)))) (fK (.int 19)))))
  (sSeq (sDrop (fMt appD (fVar 3) (fCons (fTup (fCons (fK (.str "table")) (fCons (fCall m_law_name 2 (fCons (fFz (fVar 0)) (fCons (fFz (fVar 8)) fNil))) fNil))) fNil)))
  (sDrop (fMt appD (fVar 4) (fCons (fK (.int 1)) fNil))))
  (sSeq (sAsg (fFz (fCall m_law_one 4 (fCons (fFz (fVar 0)) (fCons (fFz (fVar 8)) (fCons (fFz (fVar 7)) (fCons (fFz (fOp ixD (fVar 3) (fUn negD (fK (.int 1))))) fNil)))))) (gSub (fVar 3) (fUn negD (fK (.int 1)))))
  (sAsg (fFz (fOp addQ (fOp ixD (fVar 4) (fUn negD (fK (.int 1)))) (fK (.int 1)))) (gSub (fVar 4) (fUn negD (fK (.int 1)))))))))))
noncomputable abbrev b_law_asks : FS := (sSeq (sSet 3 (fLst (fCons (fTup (fCons (fK (.str "table")) (fCons (fCall m_law_name 2 (fCons (fFz (fVar 0)) (fCons (fFz (fVar 2)) fNil))) fNil))) fNil)))
  (sSeq (sSet 4 (fLst (fCons (fK (.int 1)) fNil)))
  (sSeq (sFor (fiR1 (fVar 1)) (gNm 5)
  l_law_asks_0)
  (sRet (fVar 3)))))
noncomputable def n_law_asks : MC := runN 11 (b_law_asks)
noncomputable abbrev b_read_thing (F : MW) : FS := (sSeq (sIf (fB (fOp (eqR false) (fVar 1) (fK (.str "ask"))))
  (sRet (fCallW F 2 (fCons (fVar 0) (fCons (fOp addQ (fVar 2) (fK (.int 1))) fNil))))
  sNext)
  (sSeq (sIf (tOrF (fB (fOp (eqR false) (fVar 1) (fK (.str "column")))) (fB (fOp (eqR false) (fVar 1) (fK (.str "number")))))
  (sRet (fMeth "Reader" "number" w_Reader_number 1 (fVar 0) fNil))
  sNext)
  (sSeq (sIf (fB (fOp (eqR false) (fVar 1) (fK (.str "columns"))))
  (sRet (fMeth "Reader" "numbers" w_Reader_numbers 1 (fVar 0) fNil))
  sNext)
  (sSeq (sIf (fB (fOp (eqR false) (fVar 1) (fK (.str "pairs"))))
  (sRet (fAr tupD (fCons (fComp [0] 1 (fiR1 (fMeth "Reader" "many" w_Reader_many 1 (fVar 0) fNil)) (gNm 0) cYes (fTup (fCons (fMeth "Reader" "number" w_Reader_number 1 (fVar 1) fNil) (fCons (fMeth "Reader" "number" w_Reader_number 1 (fVar 1) fNil) fNil)))) fNil)))
  sNext)
  (sRet (fMeth "Reader" "letters" w_Reader_letters 1 (fVar 0) fNil))))))
noncomputable def w_read_thing (F : MW) : MW := runW 3 (b_read_thing F)
noncomputable abbrev l_law_words_0 (F : MC) : FS := (sIf (fTru (fUn (isiD "tuple") (fVar 3)))
  (sSet 1 (fOp addF (fVar 1) (fLst (fCons (fAr strD (fCons (fOp ixD (fVar 3) (fK (.int 0))) fNil)) (fCons (fAr strD (fCons (fOp ixD (fVar 3) (fK (.int 1))) fNil)) fNil)))))
  (sDrop (fMt appD (fVar 1) (fCons (fAr strD (fCons (fVar 3) fNil)) fNil))))
noncomputable abbrev l_law_words_1 (F : MC) : FS := (sIf (fTru (fUn (isiD "str") (fVar 2)))
  (sDrop (fMt appD (fVar 1) (fCons (fVar 2) fNil)))
  (sIf (tNotF (fTru (fUn (isiD "tuple") (fVar 2))))
  (sDrop (fMt appD (fVar 1) (fCons (fAr strD (fCons (fVar 2) fNil)) fNil)))
  (sIf (tAndF (fB (fOp gtD (fAr lenD (fCons (fVar 2) fNil)) (fK (.int 0)))) (fTru (fUn (isiD "str") (fOp ixD (fVar 2) (fK (.int 0))))))
  (sSet 1 (fOp addF (fVar 1) (fCallN F 1 (fCons (fVar 2) fNil))))
  (sSeq (sDrop (fMt appD (fVar 1) (fCons (fAr strD (fCons (fAr lenD (fCons (fVar 2) fNil)) fNil)) fNil)))
  (sFor (fiSeq (fVar 2)) (gNm 3)
  (l_law_words_0 F))))))
noncomputable abbrev b_law_words (F : MC) : FS := (sSeq (sSet 1 (fLst (fCons (fOp ixD (fVar 0) (fK (.int 0))) fNil)))
  (sSeq (sFor (fiSeq (fSl (fVar 0) (oSome (fK (.int 1))) oNone)) (gNm 2)
  (l_law_words_1 F))
  (sRet (fVar 1))))
noncomputable def n_law_words : Nat -> MC
 | 0 => runN 4 sStuck
 | n + 1 => runN 4 (b_law_words (n_law_words n))
noncomputable abbrev l_law_same_0 (F : MF) : FS := (sIf (tNotF (fTru (fCall F 2 (fCons (fFz (fOp ixD (fVar 0) (fVar 2))) (fCons (fFz (fOp ixD (fVar 1) (fVar 2))) fNil)))))
  (sRet (fK (.bl false)))
  sNext)
noncomputable abbrev b_law_same (F : MF) : FS := (sSeq (sIf (fTru (fUn (isiD "tuple") (fVar 1)))
  (sSeq (sIf (tOrF (tNotF (fTru (fUn (isiD "tuple") (fVar 0)))) (fB (fOp (eqR true) (fAr lenD (fCons (fVar 0) fNil)) (fAr lenD (fCons (fVar 1) fNil)))))
  (sRet (fK (.bl false)))
  sNext)
  (sSeq (sFor (fiR1 (fAr lenD (fCons (fVar 1) fNil))) (gNm 2)
  (l_law_same_0 F))
  (sRet (fK (.bl true)))))
  sNext)
  (sSeq (sIf (fTru (fUn (isiD "str") (fVar 1)))
  (sRet (fAnd (fUn (isiD "str") (fVar 0)) (fOp (eqR false) (fVar 0) (fVar 1))))
  sNext)
  (sRet (fAnd (fUn (isiD "int") (fVar 0)) (fAnd (fNot (fUn (isiD "bool") (fVar 0))) (fOp (eqR false) (fVar 0) (fVar 1)))))))
noncomputable def m_law_same : Nat -> MF
 | 0 => runP 3 sStuck
 | n + 1 => runP 3 (b_law_same (m_law_same n))
noncomputable abbrev l_ask_words_0 (F : MC) : FS := (sDrop (fMt extL (fVar 1) (fCons (fCallN (n_write_thing F) 2 (fCons (fVar 2) (fCons (fVar 3) fNil))) fNil)))
noncomputable abbrev b_ask_words (F : MC) : FS := (sSeq (sSet 1 (fLst (fCons (fOp ixD (fVar 0) (fK (.int 0))) fNil)))
  (sSeq (sFor (fiSeq (fCallN n_formed 1 (fCons (fVar 0) fNil))) (gTp 2 (gsCons (gNm 2) (gsCons (gNm 3) gsNil)))
  (l_ask_words_0 F))
  (sRet (fVar 1))))
noncomputable def n_ask_words : Nat -> MC
 | 0 => runN 4 sStuck
 | n + 1 => runN 4 (b_ask_words (n_ask_words n))
noncomputable abbrev b_write_ask : FS := (sRet (fOp joinD (fK (.str " ")) (fCallN (n_ask_words 24) 1 (fCons (fVar 0) fNil))))
noncomputable def m_write_ask : MF := runP 1 (b_write_ask)
noncomputable abbrev b_read_part (F : MW) : FS := (sSeq (sIf (fB (fOp gtD (fVar 1) (fK (.int (20)))))
  sStuck
  sNext)
  (sSeq (sSet 2 (fMeth "Reader" "word" w_Reader_word 1 (fVar 0) fNil))
  (sSeq (sSet 3 (fCall m_form_of 1 (fCons (fFz (fVar 2)) fNil)))
  (sSeq (sIf (fB (fUn (isK false .non) (fVar 3)))
  sStuck
  sNext)
  (sRet (fAr tupD (fCons (fOp addF (fLst (fCons (fVar 2) fNil)) (fComp [0, 1] 1 (fiSeq (fVar 3)) (gNm 0) cYes (fCallW (w_read_thing F) 3 (fCons (fVar 1) (fCons (fVar 0) (fCons (fVar 2) fNil)))))) fNil)))))))
noncomputable def w_read_part : Nat -> MW
 | 0 => runW 4 sStuck
 | n + 1 => runW 4 (b_read_part (w_read_part n))
noncomputable abbrev b_read_ask : FS := (sSeq (sSet 1 (fMakeA "Reader" w_Reader_init 2 (fCons (fVar 0) fNil)))
  (sSeq (sSet 2 (fCallW (w_read_part 24) 2 (fCons (fVar 1) (fCons (fK (.int 1)) fNil))))
  (sSeq (sDrop (fMeth "Reader" "finish" w_Reader_finish 1 (fVar 1) fNil))
  (sRet (fVar 2)))))
noncomputable def m_read_ask : MF := runP 3 (b_read_ask)
noncomputable abbrev l_law_0 : FS := (sSeq (sSet 2 (fOp joinD (fK (.str " ")) (fCallN (n_law_words 24) 1 (fCons (fVar 1) fNil))))
  (sSeq (sSet 3 (fCall m_write_ask 1 (fCons (fFz (fVar 1)) fNil)))
  (sIf (tOrF (tNotF (fTru (fUn (isiD "str") (fVar 3)))) (tOrF (fB (fOp (eqR true) (fVar 3) (fVar 2))) (tNotF (fTru (fCall (m_law_same 24) 2 (fCons (fFz (fCall m_read_ask 1 (fCons (fFz (fVar 2)) fNil))) (fCons (fFz (fVar 1)) fNil)))))))
  (sRet (fK (.bl false)))
  sNext)))
noncomputable abbrev b_law : FS := (sSeq (sFor (fiSeq (fCallN n_law_asks 3 (fCons (fVar 0) (fCons (fAr minD (fCons (fAr lenD (fCons (fVar 0) fNil)) (fCons (fK (.int 63)) fNil))) (fCons (fK (.int 63)) fNil))))) (gNm 1)
  l_law_0)
  (sRet (fOp (eqR false) (fCall m_read_ask 1 (fCons (fK (.str "joined table a pick table b 0 over 5 less")) fNil)) (fTup (fCons (fK (.str "joined")) (fCons (fTup (fCons (fK (.str "table")) (fCons (fK (.str "a")) fNil))) (fCons (fTup (fCons (fK (.str "pick")) (fCons (fTup (fCons (fK (.str "table")) (fCons (fK (.str "b")) fNil))) (fCons (fK (.int 0)) (fCons (fK (.str "over")) (fCons (fK (.int 5)) fNil)))))) (fCons (fK (.str "less")) fNil))))))))
noncomputable def m_law : MF := runP 4 (b_law)
noncomputable def zs : List Str := ["len", "range", "tuple", "list", "zip", "isinstance", "str", "all", "int", "max", "bool", "min"]
def ZsL (mg : Str -> Option Value) (l : List Str) : Prop := ∀ (i : Nat) (x : Str), l[i]? = some x -> mg x = none
theorem zs_nil {mg : Str -> Option Value} : ZsL mg [] := fun i x e => by simp at e
theorem zs_cons {mg : Str -> Option Value} {x : Str} {l : List Str} (h : mg x = none) (t : ZsL mg l) : ZsL mg (x :: l) := fun i y e => by
 cases i with
 | zero => cases e; exact h
 | succ i => exact t i y e
def Zs (mg : Str -> Option Value) : Prop := ZsL mg zs
structure CF (K : PySem.W.Frag) (mg : Str -> Option Value) (C : Addr) : Prop where
 n : ClsN K mg "Reader" C
 a_words : NoAttr K C "words"
 a_place : NoAttr K C "place"
 mks : PySem.W.makesIn K C = true
 kp : PySem.W.keepIn K (.ref C) = true
section
variable {P : Program} {w : World} {K : PySem.W.Frag} {mg : Str -> Option Value} {base : Heap} {qC : Addr} (cf : CF K mg qC)
include cf
set_option maxHeartbeats 4000000
theorem k_Reader_init (z : Zs mg) (d : MethAt K qC "__init__" "Reader.__init__" st_Reader_init ["self", "text"]) (h_words_of : KeptN P w K mg base 2 "words_of" ["text"] n_words_of) : KeptM P w K mg base 3 "__init__" qC ["self", "text"] w_Reader_init :=
 okM (k := 2) d sc_Reader_init fun f cdv A outer s H E hr =>
  (s_cons (s_fld cf.n cf.a_words (q_var 0) (q_callN h_words_of (hr.mono (by decide)) (q_cons (q_var 1) q_nil)))
  (s_one (s_fld cf.n cf.a_place (q_var 0) q_int)))
theorem k_Reader_word (z : Zs mg) (d : MethAt K qC "word" "Reader.word" st_Reader_word ["self"])  : KeptM P w K mg base 1 "word" qC ["self"] w_Reader_word :=
 okM (k := 0) d sc_Reader_word fun f cdv A outer s H E hr =>
  (s_cons (s_if (t_eq hr.units (q_fld cf.n cf.a_place (q_var 0)) (q_len rfl (z 0 _ rfl) (q_cons (q_fld cf.n cf.a_words (q_var 0)) q_nil)))
  (s_one s_stuck)
  s_nil)
  (s_cons (s_augF cf.n cf.a_place (q_var 0) q_int)
  (s_one (s_ret (q_ix (q_fld cf.n cf.a_words (q_var 0)) (q_sub (q_fld cf.n cf.a_place (q_var 0)) q_int))))))
theorem k_Reader_letters (z : Zs mg) (d : MethAt K qC "letters" "Reader.letters" st_Reader_letters ["self"]) (h_read_letters : Kept P w K mg base 2 "read_letters" ["text"] m_read_letters) (h_Reader_word : KeptM P w K mg base 1 "word" qC ["self"] w_Reader_word) : KeptM P w K mg base 3 "letters" qC ["self"] w_Reader_letters :=
 okM (k := 2) d sc_Reader_letters fun f cdv A outer s H E hr =>
  (s_one (s_ret (q_callK h_read_letters (hr.mono (by decide)) (q_cons (q_fz (q_meth0 cf.n h_Reader_word (hr.mono (by decide)) (q_var 0))) q_nil))))
theorem k_Reader_number (z : Zs mg) (d : MethAt K qC "number" "Reader.number" st_Reader_number ["self"]) (h_read_number : Kept P w K mg base 2 "read_number" ["text"] m_read_number) (h_Reader_word : KeptM P w K mg base 1 "word" qC ["self"] w_Reader_word) : KeptM P w K mg base 3 "number" qC ["self"] w_Reader_number :=
 okM (k := 2) d sc_Reader_number fun f cdv A outer s H E hr =>
  (s_one (s_ret (q_callK h_read_number (hr.mono (by decide)) (q_cons (q_fz (q_meth0 cf.n h_Reader_word (hr.mono (by decide)) (q_var 0))) q_nil))))
theorem k_Reader_many (z : Zs mg) (d : MethAt K qC "many" "Reader.many" st_Reader_many ["self"]) (h_read_number_from : Kept P w K mg base 3 "read_number_from" ["text", "least"] m_read_number_from) (h_Reader_word : KeptM P w K mg base 1 "word" qC ["self"] w_Reader_word) : KeptM P w K mg base 4 "many" qC ["self"] w_Reader_many :=
 okM (k := 3) d sc_Reader_many fun f cdv A outer s H E hr =>
  (s_one (s_ret (q_callK h_read_number_from (hr.mono (by decide)) (q_cons (q_fz (q_meth0 cf.n h_Reader_word (hr.mono (by decide)) (q_var 0))) (q_cons q_int q_nil)))))
theorem k_Reader_numbers (z : Zs mg) (d : MethAt K qC "numbers" "Reader.numbers" st_Reader_numbers ["self"]) (h_Reader_number : KeptM P w K mg base 3 "number" qC ["self"] w_Reader_number) (h_Reader_many : KeptM P w K mg base 4 "many" qC ["self"] w_Reader_many) : KeptM P w K mg base 5 "numbers" qC ["self"] w_Reader_numbers :=
 okM (k := 4) d sc_Reader_numbers fun f cdv A outer s H E hr =>
  (s_one (s_ret (q_tuple rfl (z 2 _ rfl) (q_cons (q_comp [0] ["place"] ["self"] rfl (show CompNames (defScope st_Reader_numbers) _ ["place"] ["self"] from ⟨rfl, by decide +kernel, by decide +kernel, by decide +kernel, by decide +kernel, by decide +kernel⟩) (i_r1 rfl (z 1 _ rfl) (q_meth0 cf.n h_Reader_many (hr.mono (by decide)) (q_var 0))) (fun cl C s₂ H₂ fp => ⟨(g_nm 0 (show (["place", "self"] : List Str).Nodup by decide +kernel)), f_nil, (q_meth0 cf.n h_Reader_number (hr.mono (by decide)) (q_var 1))⟩)) q_nil))))
theorem k_Reader_finish (z : Zs mg) (d : MethAt K qC "finish" "Reader.finish" st_Reader_finish ["self"])  : KeptM P w K mg base 1 "finish" qC ["self"] w_Reader_finish :=
 okM (k := 0) d sc_Reader_finish fun f cdv A outer s H E hr =>
  (s_one (s_if (t_ne hr.units (q_fld cf.n cf.a_place (q_var 0)) (q_len rfl (z 0 _ rfl) (q_cons (q_fld cf.n cf.a_words (q_var 0)) q_nil)))
  (s_one s_stuck)
  s_nil))
theorem k_form_of (z : Zs mg) (d : DefAt K mg "form_of" st_form_of ["word"])  (c_FORMS : CDict K w mg "FORMS" cd_FORMS) : Kept P w K mg base 1 "form_of" ["word"] m_form_of :=
 okP (k := 0) d sc_form_of fun f cdv A outer s H E hr =>
  (s_one (s_ret (q_cget c_FORMS (q_var 0))))
theorem k_formed (z : Zs mg) (d : DefAt K mg "formed" st_formed ["ask"]) (h_form_of : Kept P w K mg base 1 "form_of" ["word"] m_form_of) : KeptN P w K mg base 2 "formed" ["ask"] n_formed :=
 okN (k := 1) d sc_formed fun f cdv A outer s H E hr =>
  (s_one (s_ret (q_zip rfl rfl (z 3 _ rfl) rfl (z 4 _ rfl) (q_callK h_form_of (hr.mono (by decide)) (q_cons (q_fz (q_ix (q_var 0) q_int)) q_nil)) (q_sl (q_var 0) (q_oS q_int) q_oN))))
theorem k_check_text (z : Zs mg) (d : DefAt K mg "check_text" st_check_text ["thing"])  : Kept P w K mg base 1 "check_text" ["thing"] m_check_text :=
 okP (k := 0) d sc_check_text fun f cdv A outer s H E hr =>
  (s_one (s_if (t_not (t_tru (q_isi kinds_str rfl (z 5 _ rfl) rfl (z 6 _ rfl) boot_str' (q_var 0))))
  (s_one s_stuck)
  s_nil))
theorem k_is_made_of (z : Zs mg) (d : DefAt K mg "is_made_of" st_is_made_of ["text", "signs", "most"])  : Kept P w K mg base 1 "is_made_of" ["text", "signs", "most"] m_is_made_of :=
 okP (k := 0) d sc_is_made_of fun f cdv A outer s H E hr =>
  (s_one (s_ret (q_and (q_ch q_int (q_lenS rfl (z 0 _ rfl) (q_cons (q_var 0) q_nil)) (q_var 2)) (q_one (q_all rfl rfl (z 7 _ rfl) (q_cons (q_comp [1] ["sign"] ["signs"] rfl (show CompNames (defScope st_is_made_of) _ ["sign"] ["signs"] from ⟨rfl, by decide +kernel, by decide +kernel, by decide +kernel, by decide +kernel, by decide +kernel⟩) (i_str (q_var 0)) (fun cl C s₂ H₂ fp => ⟨(g_nm 0 (show (["sign", "signs"] : List Str).Nodup by decide +kernel)), f_nil, (q_inS (q_var 0) (q_var 1))⟩)) q_nil))))))
theorem k_write_number (z : Zs mg) (d : DefAt K mg "write_number" st_write_number ["number"])  : Kept P w K mg base 1 "write_number" ["number"] m_write_number :=
 okP (k := 0) d sc_write_number fun f cdv A outer s H E hr =>
  (s_one (s_ret (q_strc rfl (z 6 _ rfl) (q_cons (q_var 0) q_nil))))
theorem k_read_number (z : Zs mg) (d : DefAt K mg "read_number" st_read_number ["text"]) (h_check_text : Kept P w K mg base 1 "check_text" ["thing"] m_check_text) (h_is_made_of : Kept P w K mg base 1 "is_made_of" ["text", "signs", "most"] m_is_made_of) (c_FIGURES : ConstR K mg "FIGURES" (.str "0123456789")) (c_MOST_FIGURES : ConstR K mg "MOST_FIGURES" (.int (60))) : Kept P w K mg base 2 "read_number" ["text"] m_read_number :=
 okP (k := 1) d sc_read_number fun f cdv A outer s H E hr =>
  (s_cons (s_expr (q_callK h_check_text (hr.mono (by decide)) (q_cons (q_fz (q_var 0)) q_nil)))
  (s_cons (s_set 1 sc_read_number.nd (q_if (t_tru (q_sw (q_var 0) q_str)) (q_slS (q_var 0) (q_oS q_int) q_oN) (q_var 0)))
  (s_cons (s_if (t_not (t_tru (q_callK h_is_made_of (hr.mono (by decide)) (q_cons (q_fz (q_var 1)) (q_cons (q_fz (q_const c_FIGURES)) (q_cons (q_fz (q_const c_MOST_FIGURES)) q_nil))))))
  (s_one s_stuck)
  s_nil)
  (s_cons (s_if (t_w (w_and (t_eq hr.units (q_ixS (q_var 1) q_int) q_str) (w_and1 (t_ne hr.units (q_var 0) q_str))))
  (s_one s_stuck)
  s_nil)
  (s_one (s_ret (q_intS rfl (z 8 _ rfl) (q_cons (q_var 0) q_nil))))))))
theorem k_read_number_from (z : Zs mg) (d : DefAt K mg "read_number_from" st_read_number_from ["text", "least"]) (h_read_number : Kept P w K mg base 2 "read_number" ["text"] m_read_number) : Kept P w K mg base 3 "read_number_from" ["text", "least"] m_read_number_from :=
 okP (k := 2) d sc_read_number_from fun f cdv A outer s H E hr =>
  (s_cons (s_set 2 sc_read_number_from.nd (q_callK h_read_number (hr.mono (by decide)) (q_cons (q_fz (q_var 0)) q_nil)))
  (s_cons (s_if (t_lt (q_var 2) (q_var 1))
  (s_one s_stuck)
  s_nil)
  (s_one (s_ret (q_var 2)))))
theorem k_write_numbers (z : Zs mg) (d : DefAt K mg "write_numbers" st_write_numbers ["numbers"]) (h_write_number : Kept P w K mg base 1 "write_number" ["number"] m_write_number) : KeptN P w K mg base 2 "write_numbers" ["numbers"] n_write_numbers :=
 okN (k := 1) d sc_write_numbers fun f cdv A outer s H E hr =>
  (s_one (s_ret (q_comp [] ["number"] [] rfl (show CompNames (defScope st_write_numbers) _ ["number"] [] from ⟨rfl, by decide +kernel, by decide +kernel, by decide +kernel, by decide +kernel, by decide +kernel⟩) (i_seq (q_var 0)) (fun cl C s₂ H₂ fp => ⟨(g_nm 0 (show (["number"] : List Str).Nodup by decide +kernel)), f_nil, (q_callK h_write_number (hr.mono (by decide)) (q_cons (q_fz (q_var 0)) q_nil))⟩))))
theorem k_write_counted (z : Zs mg) (d : DefAt K mg "write_counted" st_write_counted ["numbers"]) (h_write_numbers : KeptN P w K mg base 2 "write_numbers" ["numbers"] n_write_numbers) (h_write_number : Kept P w K mg base 1 "write_number" ["number"] m_write_number) : KeptN P w K mg base 3 "write_counted" ["numbers"] n_write_counted :=
 okN (k := 2) d sc_write_counted fun f cdv A outer s H E hr =>
  (s_one (s_ret (q_addF (q_lst (q_cons (q_callK h_write_number (hr.mono (by decide)) (q_cons (q_fz (q_len rfl (z 0 _ rfl) (q_cons (q_var 0) q_nil))) q_nil)) q_nil)) (q_callN h_write_numbers (hr.mono (by decide)) (q_cons (q_var 0) q_nil)))))
theorem k_read_letters (z : Zs mg) (d : DefAt K mg "read_letters" st_read_letters ["text"]) (h_is_made_of : Kept P w K mg base 1 "is_made_of" ["text", "signs", "most"] m_is_made_of) (c_SMALL_LETTERS : ConstR K mg "SMALL_LETTERS" (.str "abcdefghijklmnopqrstuvwxyz")) (c_MOST_LETTERS : ConstR K mg "MOST_LETTERS" (.int (8))) : Kept P w K mg base 2 "read_letters" ["text"] m_read_letters :=
 okP (k := 1) d sc_read_letters fun f cdv A outer s H E hr =>
  (s_cons (s_if (t_not (t_tru (q_callK h_is_made_of (hr.mono (by decide)) (q_cons (q_fz (q_var 0)) (q_cons (q_fz (q_const c_SMALL_LETTERS)) (q_cons (q_fz (q_const c_MOST_LETTERS)) q_nil))))))
  (s_one s_stuck)
  s_nil)
  (s_one (s_ret (q_var 0))))
theorem k_words_of (z : Zs mg) (d : DefAt K mg "words_of" st_words_of ["text"]) (h_check_text : Kept P w K mg base 1 "check_text" ["thing"] m_check_text) : KeptN P w K mg base 2 "words_of" ["text"] n_words_of :=
 okN (k := 1) d sc_words_of fun f cdv A outer s H E hr =>
  (s_cons (s_expr (q_callK h_check_text (hr.mono (by decide)) (q_cons (q_fz (q_var 0)) q_nil)))
  (s_one (s_ret (q_split (q_var 0) q_str))))
theorem k_write_thing {F : MC} {L : Nat} (hL : 4 <= L) (z : Zs mg) (d : DefAt K mg "write_thing" st_write_thing ["kind", "thing"]) (h_write_counted : KeptN P w K mg base 3 "write_counted" ["numbers"] n_write_counted) (h_write_pairs : KeptN P w K mg base 3 "write_pairs" ["pairs"] n_write_pairs) (h_write_number : Kept P w K mg base 1 "write_number" ["number"] m_write_number) (h_ask_words : KeptN P w K mg base L "ask_words" ["ask"] F) : KeptN P w K mg base (L + 1) "write_thing" ["kind", "thing"] (n_write_thing F) :=
 okN (k := L) d sc_write_thing fun f cdv A outer s H E hr =>
  (s_cons (s_if (t_eq hr.units (q_var 0) q_str)
  (s_one (s_ret (q_callN h_ask_words (hr.mono (by omega)) (q_cons (q_var 1) q_nil))))
  s_nil)
  (s_cons (s_if (t_w (w_or (t_eq hr.units (q_var 0) q_str) (w_or1 (t_eq hr.units (q_var 0) q_str))))
  (s_one (s_ret (q_lst (q_cons (q_callK h_write_number (hr.mono (by omega)) (q_cons (q_fz (q_var 1)) q_nil)) q_nil))))
  s_nil)
  (s_cons (s_if (t_eq hr.units (q_var 0) q_str)
  (s_one (s_ret (q_callN h_write_counted (hr.mono (by omega)) (q_cons (q_var 1) q_nil))))
  s_nil)
  (s_cons (s_if (t_eq hr.units (q_var 0) q_str)
  (s_one (s_ret (q_callN h_write_pairs (hr.mono (by omega)) (q_cons (q_var 1) q_nil))))
  s_nil)
  (s_one (s_ret (q_lst (q_cons (q_var 1) q_nil))))))))
theorem k_write_pairs (z : Zs mg) (d : DefAt K mg "write_pairs" st_write_pairs ["pairs"]) (h_write_number : Kept P w K mg base 1 "write_number" ["number"] m_write_number) (h_write_numbers : KeptN P w K mg base 2 "write_numbers" ["numbers"] n_write_numbers) : KeptN P w K mg base 3 "write_pairs" ["pairs"] n_write_pairs :=
 okN (k := 2) d sc_write_pairs fun f cdv A outer s H E hr =>
  (s_cons (s_set 1 sc_write_pairs.nd (q_lst (q_cons (q_callK h_write_number (hr.mono (by decide)) (q_cons (q_fz (q_len rfl (z 0 _ rfl) (q_cons (q_var 0) q_nil))) q_nil)) q_nil)))
  (s_cons (s_for rfl (i_seq (q_var 0)) (g_nm 2 sc_write_pairs.nd)
  (s_one (s_expr (q_extendL (q_var 1) (q_cons (q_callN h_write_numbers (hr.mono (by decide)) (q_cons (q_var 2) q_nil)) q_nil)))) PassesOwn.never)
  (s_one (s_ret (q_var 1)))))
theorem k_ask_words (z : Zs mg) (d : DefAt K mg "ask_words" st_ask_words ["ask"]) (d_write_thing : DefAt K mg "write_thing" st_write_thing ["kind", "thing"]) (h_formed : KeptN P w K mg base 2 "formed" ["ask"] n_formed) (h_write_counted : KeptN P w K mg base 3 "write_counted" ["numbers"] n_write_counted) (h_write_pairs : KeptN P w K mg base 3 "write_pairs" ["pairs"] n_write_pairs) (h_write_number : Kept P w K mg base 1 "write_number" ["number"] m_write_number) : ∀ n, KeptN P w K mg base (5 + 2 * n) "ask_words" ["ask"] (n_ask_words n)
 | 0 => okN (k := 4) d sc_ask_words fun f cdv A outer s H E hr => ss_stuck
 | n + 1 => by
  have h_ask_words := k_ask_words z d d_write_thing h_formed h_write_counted h_write_pairs h_write_number n
  have h_write_thing := k_write_thing cf (L := 5 + 2 * n) (by omega) z d_write_thing h_write_counted h_write_pairs h_write_number h_ask_words
  exact okN (k := 5 + 2 * n + 1) d sc_ask_words fun f cdv A outer s H E hr =>
  (s_cons (s_set 1 sc_ask_words.nd (q_lst (q_cons (q_ix (q_var 0) q_int) q_nil)))
  (s_cons (s_for rfl (i_seq (q_callN h_formed (hr.mono (by omega)) (q_cons (q_var 0) q_nil))) (g_tp rfl (gs_cons (g_nm 2 sc_ask_words.nd) (gs_cons (g_nm 3 sc_ask_words.nd) gs_nil)))
  (s_one (s_expr (q_extendL (q_var 1) (q_cons (q_callN h_write_thing (hr.mono (by omega)) (q_cons (q_var 2) (q_cons (q_var 3) q_nil))) q_nil)))) PassesOwn.never)
  (s_one (s_ret (q_var 1)))))
theorem k_write_ask (z : Zs mg) (d : DefAt K mg "write_ask" st_write_ask ["ask"]) (h_ask_words : KeptN P w K mg base 53 "ask_words" ["ask"] (n_ask_words 24)) : Kept P w K mg base 54 "write_ask" ["ask"] m_write_ask :=
 okP (k := 53) d sc_write_ask fun f cdv A outer s H E hr =>
  (s_one (s_ret (q_join q_str (q_callN h_ask_words (hr.mono (by decide)) (q_cons (q_var 0) q_nil)))))
theorem k_read_thing {F : MW} {L : Nat} (hL : 6 <= L) (z : Zs mg) (d : DefAt K mg "read_thing" st_read_thing ["reader", "kind", "deep"]) (h_Reader_letters : KeptM P w K mg base 3 "letters" qC ["self"] w_Reader_letters) (h_Reader_number : KeptM P w K mg base 3 "number" qC ["self"] w_Reader_number) (h_Reader_numbers : KeptM P w K mg base 5 "numbers" qC ["self"] w_Reader_numbers) (h_Reader_many : KeptM P w K mg base 4 "many" qC ["self"] w_Reader_many) (h_read_part : KeptW P w K mg base L "read_part" ["reader", "deep"] F) : KeptW P w K mg base (L + 1) "read_thing" ["reader", "kind", "deep"] (w_read_thing F) :=
 okW (k := L) d sc_read_thing fun f cdv A outer s H E hr =>
  (s_cons (s_if (t_eq hr.units (q_var 1) q_str)
  (s_one (s_ret (q_callW h_read_part (hr.mono (by omega)) (q_cons (q_var 0) (q_cons (q_addQ (q_var 2) q_int) q_nil)))))
  s_nil)
  (s_cons (s_if (t_w (w_or (t_eq hr.units (q_var 1) q_str) (w_or1 (t_eq hr.units (q_var 1) q_str))))
  (s_one (s_ret (q_meth0 cf.n h_Reader_number (hr.mono (by omega)) (q_var 0))))
  s_nil)
  (s_cons (s_if (t_eq hr.units (q_var 1) q_str)
  (s_one (s_ret (q_meth0 cf.n h_Reader_numbers (hr.mono (by omega)) (q_var 0))))
  s_nil)
  (s_cons (s_if (t_eq hr.units (q_var 1) q_str)
  (s_one (s_ret (q_tuple rfl (z 2 _ rfl) (q_cons (q_comp [0] ["place"] ["reader"] rfl (show CompNames (defScope st_read_thing) _ ["place"] ["reader"] from ⟨rfl, by decide +kernel, by decide +kernel, by decide +kernel, by decide +kernel, by decide +kernel⟩) (i_r1 rfl (z 1 _ rfl) (q_meth0 cf.n h_Reader_many (hr.mono (by omega)) (q_var 0))) (fun cl C s₂ H₂ fp => ⟨(g_nm 0 (show (["place", "reader"] : List Str).Nodup by decide +kernel)), f_nil, (q_tup (q_cons (q_meth0 cf.n h_Reader_number (hr.mono (by omega)) (q_var 1)) (q_cons (q_meth0 cf.n h_Reader_number (hr.mono (by omega)) (q_var 1)) q_nil)))⟩)) q_nil))))
  s_nil)
  (s_one (s_ret (q_meth0 cf.n h_Reader_letters (hr.mono (by omega)) (q_var 0))))))))
theorem k_read_part (z : Zs mg) (d : DefAt K mg "read_part" st_read_part ["reader", "deep"]) (d_read_thing : DefAt K mg "read_thing" st_read_thing ["reader", "kind", "deep"]) (h_Reader_word : KeptM P w K mg base 1 "word" qC ["self"] w_Reader_word) (h_form_of : Kept P w K mg base 1 "form_of" ["word"] m_form_of) (c_DEEPEST : ConstR K mg "DEEPEST" (.int (20))) (h_Reader_letters : KeptM P w K mg base 3 "letters" qC ["self"] w_Reader_letters) (h_Reader_number : KeptM P w K mg base 3 "number" qC ["self"] w_Reader_number) (h_Reader_numbers : KeptM P w K mg base 5 "numbers" qC ["self"] w_Reader_numbers) (h_Reader_many : KeptM P w K mg base 4 "many" qC ["self"] w_Reader_many) : ∀ n, KeptW P w K mg base (7 + 2 * n) "read_part" ["reader", "deep"] (w_read_part n)
 | 0 => okW (k := 6) d sc_read_part fun f cdv A outer s H E hr => ss_stuck
 | n + 1 => by
  have h_read_part := k_read_part z d d_read_thing h_Reader_word h_form_of c_DEEPEST h_Reader_letters h_Reader_number h_Reader_numbers h_Reader_many n
  have h_read_thing := k_read_thing cf (L := 7 + 2 * n) (by omega) z d_read_thing h_Reader_letters h_Reader_number h_Reader_numbers h_Reader_many h_read_part
  exact okW (k := 7 + 2 * n + 1) d sc_read_part fun f cdv A outer s H E hr =>
  (s_cons (s_if (t_gt (q_var 1) (q_const c_DEEPEST))
  (s_one s_stuck)
  s_nil)
  (s_cons (s_set 2 sc_read_part.nd (q_meth0 cf.n h_Reader_word (hr.mono (by omega)) (q_var 0)))
  (s_cons (s_set 3 sc_read_part.nd (q_callK h_form_of (hr.mono (by omega)) (q_cons (q_fz (q_var 2)) q_nil)))
  (s_cons (s_if (t_isN (q_var 3))
  (s_one s_stuck)
  s_nil)
  (s_one (s_ret (q_tuple rfl (z 2 _ rfl) (q_cons (q_addF (q_lst (q_cons (q_var 2) q_nil)) (q_comp [0, 1] ["kind"] ["reader", "deep"] rfl (show CompNames (defScope st_read_part) _ ["kind"] ["reader", "deep"] from ⟨rfl, by decide +kernel, by decide +kernel, by decide +kernel, by decide +kernel, by decide +kernel⟩) (i_seq (q_var 3)) (fun cl C s₂ H₂ fp => ⟨(g_nm 0 (show (["kind", "reader", "deep"] : List Str).Nodup by decide +kernel)), f_nil, (q_callW h_read_thing (hr.mono (by omega)) (q_cons (q_var 1) (q_cons (q_var 0) (q_cons (q_var 2) q_nil))))⟩))) q_nil))))))))
theorem k_read_ask (z : Zs mg) (d : DefAt K mg "read_ask" st_read_ask ["text"]) (h_Reader_init : KeptM P w K mg base 3 "__init__" qC ["self", "text"] w_Reader_init) (h_read_part : KeptW P w K mg base 55 "read_part" ["reader", "deep"] (w_read_part 24)) (h_Reader_finish : KeptM P w K mg base 1 "finish" qC ["self"] w_Reader_finish) : Kept P w K mg base 56 "read_ask" ["text"] m_read_ask :=
 okP (k := 55) d sc_read_ask fun f cdv A outer s H E hr =>
  (s_cons (s_set 1 sc_read_ask.nd (q_makeA cf.n cf.mks cf.kp h_Reader_init (hr.mono (by decide)) (q_cons (q_var 0) q_nil)))
  (s_cons (s_set 2 sc_read_ask.nd (q_callW h_read_part (hr.mono (by decide)) (q_cons (q_var 1) (q_cons q_int q_nil))))
  (s_cons (s_expr (q_meth0 cf.n h_Reader_finish (hr.mono (by decide)) (q_var 1)))
  (s_one (s_ret (q_var 2))))))
theorem k_law_draw (z : Zs mg) (d : DefAt K mg "_law_draw" st_law_draw ["script", "k", "many"])  : Kept P w K mg base 1 "_law_draw" ["script", "k", "many"] m_law_draw :=
 okP (k := 0) d sc_law_draw fun f cdv A outer s H E hr =>
  (s_cons (s_if (t_eq hr.units (q_len rfl (z 0 _ rfl) (q_cons (q_var 0) q_nil)) q_int)
  (s_one (s_ret q_int))
  s_nil)
  (s_cons (s_set 3 sc_law_draw.nd (q_mod (q_ix (q_var 0) (q_mod (q_var 1) (q_len rfl (z 0 _ rfl) (q_cons (q_var 0) q_nil)))) q_int))
  (s_cons (s_set 4 sc_law_draw.nd (q_mod (q_mul (q_addQ (q_var 3) q_int) (q_addQ q_int (q_mul q_int (q_var 1)))) q_int))
  (s_cons (s_set 4 sc_law_draw.nd (q_mod (q_mul (q_addQ (q_var 4) (q_var 1)) (q_addQ (q_var 4) q_int)) q_int))
  (s_one (s_ret (q_mod (q_div (q_var 4) q_int) (q_var 2))))))))
theorem k_law_far (z : Zs mg) (d : DefAt K mg "_law_far" st_law_far ["script", "k"]) (h_law_draw : Kept P w K mg base 1 "_law_draw" ["script", "k", "many"] m_law_draw) : Kept P w K mg base 2 "_law_far" ["script", "k"] m_law_far :=
 okP (k := 1) d sc_law_far fun f cdv A outer s H E hr =>
  (s_cons (s_if (t_eq hr.units (q_len rfl (z 0 _ rfl) (q_cons (q_var 0) q_nil)) q_int)
  (s_one (s_ret q_int))
  s_nil)
  (s_cons (s_set 2 sc_law_far.nd (q_addQ (q_callK h_law_draw (hr.mono (by decide)) (q_cons (q_fz (q_var 0)) (q_cons (q_fz (q_var 1)) (q_cons q_int q_nil)))) q_int))
  (s_one (s_ret (q_mod (q_addQ (q_mul (q_mod (q_ix (q_var 0) (q_mod (q_var 1) (q_len rfl (z 0 _ rfl) (q_cons (q_var 0) q_nil)))) (q_pow q_int q_int)) (q_var 2)) (q_pow (q_var 2) q_int)) (q_pow q_int q_int))))))
theorem k_law_name (z : Zs mg) (d : DefAt K mg "_law_name" st_law_name ["script", "k"]) (h_law_draw : Kept P w K mg base 1 "_law_draw" ["script", "k", "many"] m_law_draw) : Kept P w K mg base 2 "_law_name" ["script", "k"] m_law_name :=
 okP (k := 1) d sc_law_name fun f cdv A outer s H E hr =>
  (s_cons (s_set 2 sc_law_name.nd q_str)
  (s_cons (s_for rfl (i_r1 rfl (z 1 _ rfl) (q_addQ q_int (q_callK h_law_draw (hr.mono (by decide)) (q_cons (q_fz (q_var 0)) (q_cons (q_fz (q_var 1)) (q_cons q_int q_nil)))))) (g_nm 3 sc_law_name.nd)
  (s_one (s_set 2 sc_law_name.nd (q_addQ (q_var 2) (q_ixS q_str (q_callK h_law_draw (hr.mono (by decide)) (q_cons (q_fz (q_var 0)) (q_cons (q_fz (q_addQ (q_addQ (q_var 1) q_int) (q_var 3))) (q_cons q_int q_nil)))))))) PassesOwn.never)
  (s_one (s_ret (q_var 2)))))
theorem k_law_number (z : Zs mg) (d : DefAt K mg "_law_number" st_law_number ["script", "k"]) (h_law_draw : Kept P w K mg base 1 "_law_draw" ["script", "k", "many"] m_law_draw) (h_law_far : Kept P w K mg base 2 "_law_far" ["script", "k"] m_law_far) : Kept P w K mg base 3 "_law_number" ["script", "k"] m_law_number :=
 okP (k := 2) d sc_law_number fun f cdv A outer s H E hr =>
  (s_cons (s_set 2 sc_law_number.nd (q_callK h_law_draw (hr.mono (by decide)) (q_cons (q_fz (q_var 0)) (q_cons (q_fz (q_var 1)) (q_cons q_int q_nil)))))
  (s_cons (s_if (t_lt (q_var 2) q_int)
  (s_one (s_ret (q_sub (q_callK h_law_draw (hr.mono (by decide)) (q_cons (q_fz (q_var 0)) (q_cons (q_fz (q_addQ (q_var 1) q_int)) (q_cons q_int q_nil)))) q_int)))
  s_nil)
  (s_cons (s_if (t_eq hr.units (q_var 2) q_int)
  (s_one (s_ret (q_sub (q_sub (q_pow q_int q_int) q_int) (q_callK h_law_draw (hr.mono (by decide)) (q_cons (q_fz (q_var 0)) (q_cons (q_fz (q_addQ (q_var 1) q_int)) (q_cons q_int q_nil)))))))
  s_nil)
  (s_cons (s_if (t_eq hr.units (q_var 2) q_int)
  (s_one (s_ret (q_addQ (q_sub q_int (q_pow q_int q_int)) (q_callK h_law_draw (hr.mono (by decide)) (q_cons (q_fz (q_var 0)) (q_cons (q_fz (q_addQ (q_var 1) q_int)) (q_cons q_int q_nil)))))))
  s_nil)
  (s_one (s_ret (q_sub (q_callK h_law_far (hr.mono (by decide)) (q_cons (q_fz (q_var 0)) (q_cons (q_fz (q_addQ (q_var 1) q_int)) q_nil))) (q_mul q_int (q_pow q_int q_int)))))))))
theorem k_law_columns (z : Zs mg) (d : DefAt K mg "_law_columns" st_law_columns ["script", "k"]) (h_law_draw : Kept P w K mg base 1 "_law_draw" ["script", "k", "many"] m_law_draw) : Kept P w K mg base 2 "_law_columns" ["script", "k"] m_law_columns :=
 okP (k := 1) d sc_law_columns fun f cdv A outer s H E hr =>
  (s_cons (s_set 2 sc_law_columns.nd (q_callK h_law_draw (hr.mono (by decide)) (q_cons (q_fz (q_var 0)) (q_cons (q_fz (q_var 1)) (q_cons q_int q_nil)))))
  (s_one (s_ret (q_tuple rfl (z 2 _ rfl) (q_cons (q_comp [0, 1] ["j"] ["script", "k"] rfl (show CompNames (defScope st_law_columns) _ ["j"] ["script", "k"] from ⟨rfl, by decide +kernel, by decide +kernel, by decide +kernel, by decide +kernel, by decide +kernel⟩) (i_r1 rfl (z 1 _ rfl) (q_var 2)) (fun cl C s₂ H₂ fp => ⟨(g_nm 0 (show (["j", "script", "k"] : List Str).Nodup by decide +kernel)), f_nil, (q_callK h_law_draw (hr.mono (by decide)) (q_cons (q_fz (q_var 1)) (q_cons (q_fz (q_addQ (q_addQ (q_var 2) q_int) (q_var 0))) (q_cons q_int q_nil))))⟩)) q_nil)))))
theorem k_law_one (z : Zs mg) (d : DefAt K mg "_law_one" st_law_one ["script", "k", "kind", "part"]) (h_law_columns : Kept P w K mg base 2 "_law_columns" ["script", "k"] m_law_columns) (h_law_draw : Kept P w K mg base 1 "_law_draw" ["script", "k", "many"] m_law_draw) (h_law_number : Kept P w K mg base 3 "_law_number" ["script", "k"] m_law_number) : Kept P w K mg base 4 "_law_one" ["script", "k", "kind", "part"] m_law_one :=
 okP (k := 3) d sc_law_one fun f cdv A outer s H E hr =>
  (s_cons (s_if (t_eq hr.units (q_var 2) q_str)
  (s_cons (s_set 4 sc_law_one.nd (q_ix (q_lst (q_cons q_str (q_cons q_str (q_cons q_str (q_cons q_str q_nil))))) (q_callK h_law_draw (hr.mono (by decide)) (q_cons (q_fz (q_var 0)) (q_cons (q_fz (q_addQ (q_var 1) q_int)) (q_cons q_int q_nil))))))
  (s_one (s_ret (q_tup (q_cons (q_var 2) (q_cons (q_var 3) (q_cons (q_callK h_law_draw (hr.mono (by decide)) (q_cons (q_fz (q_var 0)) (q_cons (q_fz (q_addQ (q_var 1) q_int)) (q_cons q_int q_nil)))) (q_cons (q_var 4) (q_cons (q_callK h_law_number (hr.mono (by decide)) (q_cons (q_fz (q_var 0)) (q_cons (q_fz (q_addQ (q_var 1) q_int)) q_nil))) q_nil)))))))))
  s_nil)
  (s_cons (s_if (t_eq hr.units (q_var 2) q_str)
  (s_one (s_ret (q_tup (q_cons (q_var 2) (q_cons (q_var 3) (q_cons (q_callK h_law_draw (hr.mono (by decide)) (q_cons (q_fz (q_var 0)) (q_cons (q_fz (q_addQ (q_var 1) q_int)) (q_cons q_int q_nil)))) (q_cons (q_callK h_law_draw (hr.mono (by decide)) (q_cons (q_fz (q_var 0)) (q_cons (q_fz (q_addQ (q_var 1) q_int)) (q_cons q_int q_nil)))) q_nil)))))))
  s_nil)
  (s_cons (s_if (t_eq hr.units (q_var 2) q_str)
  (s_cons (s_set 4 sc_law_one.nd (q_ix (q_lst (q_cons q_str (q_cons q_str (q_cons q_str (q_cons q_str (q_cons q_str (q_cons q_str (q_cons q_str q_nil)))))))) (q_callK h_law_draw (hr.mono (by decide)) (q_cons (q_fz (q_var 0)) (q_cons (q_fz (q_addQ (q_var 1) q_int)) (q_cons q_int q_nil))))))
  (s_one (s_ret (q_tup (q_cons (q_var 2) (q_cons (q_var 3) (q_cons (q_var 4) (q_cons (q_callK h_law_number (hr.mono (by decide)) (q_cons (q_fz (q_var 0)) (q_cons (q_fz (q_addQ (q_var 1) q_int)) q_nil))) q_nil))))))))
  s_nil)
  (s_cons (s_if (t_eq hr.units (q_var 2) q_str)
  (s_one (s_ret (q_tup (q_cons (q_var 2) (q_cons (q_var 3) (q_cons (q_callK h_law_columns (hr.mono (by decide)) (q_cons (q_fz (q_var 0)) (q_cons (q_fz (q_addQ (q_var 1) q_int)) q_nil))) (q_cons (q_callK h_law_draw (hr.mono (by decide)) (q_cons (q_fz (q_var 0)) (q_cons (q_fz (q_addQ (q_var 1) q_int)) (q_cons q_int q_nil)))) q_nil)))))))
  s_nil)
  (s_one (s_ret (q_tup (q_cons (q_var 2) (q_cons (q_var 3) (q_cons (q_callK h_law_columns (hr.mono (by decide)) (q_cons (q_fz (q_var 0)) (q_cons (q_fz (q_addQ (q_var 1) q_int)) q_nil))) q_nil))))))))))
theorem k_law_two (z : Zs mg) (d : DefAt K mg "_law_two" st_law_two ["script", "k", "kind", "part", "other"]) (h_law_columns : Kept P w K mg base 2 "_law_columns" ["script", "k"] m_law_columns) (h_law_draw : Kept P w K mg base 1 "_law_draw" ["script", "k", "many"] m_law_draw) : Kept P w K mg base 3 "_law_two" ["script", "k", "kind", "part", "other"] m_law_two :=
 okP (k := 2) d sc_law_two fun f cdv A outer s H E hr =>
  (s_cons (s_if (t_eq hr.units (q_var 2) q_str)
  (s_one (s_ret (q_tup (q_cons (q_var 2) (q_cons (q_var 3) (q_cons (q_var 4) (q_cons (q_ix (q_lst (q_cons q_str (q_cons q_str (q_cons q_str (q_cons q_str (q_cons q_str q_nil)))))) (q_callK h_law_draw (hr.mono (by decide)) (q_cons (q_fz (q_var 0)) (q_cons (q_fz (q_addQ (q_var 1) q_int)) (q_cons q_int q_nil))))) q_nil)))))))
  s_nil)
  (s_cons (s_set 5 sc_law_two.nd (q_callK h_law_columns (hr.mono (by decide)) (q_cons (q_fz (q_var 0)) (q_cons (q_fz (q_addQ (q_var 1) q_int)) q_nil))))
  (s_one (s_ret (q_tup (q_cons (q_var 2) (q_cons (q_var 3) (q_cons (q_var 4) (q_cons (q_tuple rfl (z 2 _ rfl) (q_cons (q_comp [0, 1] ["column"] ["script", "k"] rfl (show CompNames (defScope st_law_two) _ ["column"] ["script", "k"] from ⟨rfl, by decide +kernel, by decide +kernel, by decide +kernel, by decide +kernel, by decide +kernel⟩) (i_seq (q_var 5)) (fun cl C s₂ H₂ fp => ⟨(g_nm 0 (show (["column", "script", "k"] : List Str).Nodup by decide +kernel)), f_nil, (q_tup (q_cons (q_var 0) (q_cons (q_callK h_law_draw (hr.mono (by decide)) (q_cons (q_fz (q_var 1)) (q_cons (q_fz (q_addQ (q_var 2) q_int)) (q_cons q_int q_nil)))) q_nil)))⟩)) q_nil)) q_nil)))))))))
theorem k_law_asks (z : Zs mg) (d : DefAt K mg "_law_asks" st_law_asks ["script", "many", "base"]) (h_law_name : Kept P w K mg base 2 "_law_name" ["script", "k"] m_law_name) (h_law_draw : Kept P w K mg base 1 "_law_draw" ["script", "k", "many"] m_law_draw) (h_law_two : Kept P w K mg base 3 "_law_two" ["script", "k", "kind", "part", "other"] m_law_two) (h_law_one : Kept P w K mg base 4 "_law_one" ["script", "k", "kind", "part"] m_law_one) : KeptN P w K mg base 5 "_law_asks" ["script", "many", "base"] n_law_asks :=
 okN (k := 4) d sc_law_asks fun f cdv A outer s H E hr =>
  (s_cons (s_set 3 sc_law_asks.nd (q_lst (q_cons (q_tup (q_cons q_str (q_cons (q_callK h_law_name (hr.mono (by decide)) (q_cons (q_fz (q_var 0)) (q_cons (q_fz (q_var 2)) q_nil))) q_nil))) q_nil)))
  (s_cons (s_set 4 sc_law_asks.nd (q_lst (q_cons q_int q_nil)))
  (s_cons (s_for rfl (i_r1 rfl (z 1 _ rfl) (q_var 1)) (g_nm 5 sc_law_asks.nd)
  (s_cons (s_set 6 sc_law_asks.nd (q_lst (q_cons q_str (q_cons q_str (q_cons q_str (q_cons q_str (q_cons q_str (q_cons q_str (q_cons q_str (q_cons q_str (q_cons q_str (q_cons q_str q_nil))))))))))))
  (s_cons (s_set 7 sc_law_asks.nd (q_ix (q_var 6) (q_callK h_law_draw (hr.mono (by decide)) (q_cons (q_fz (q_var 0)) (q_cons (q_fz (q_var 5)) (q_cons q_int q_nil))))))
  (s_cons (s_set 8 sc_law_asks.nd (q_addQ (q_addQ (q_var 2) q_int) (q_mul q_int (q_var 5))))
  (s_one (s_if (t_w (w_and (t_inW (q_var 7) (q_tup (q_cons q_str (q_cons q_str q_nil)))) (w_and (t_gt (q_len rfl (z 0 _ rfl) (q_cons (q_var 3) q_nil)) q_int) (w_and1 (t_lt (q_max rfl rfl (z 9 _ rfl) (q_cons (q_ix (q_var 4) (q_neg q_int)) (q_cons (q_ix (q_var 4) (q_neg q_int)) q_nil))) q_int)))))
  (s_cons (s_set 9 sc_law_asks.nd (q_pop0 (q_var 3)))
  (s_cons (s_set 10 sc_law_asks.nd (q_pop0 (q_var 4)))
  (s_cons (s_asg (q_fz (q_callK h_law_two (hr.mono (by decide)) (q_cons (q_fz (q_var 0)) (q_cons (q_fz (q_var 8)) (q_cons (q_fz (q_var 7)) (q_cons (q_fz (q_ix (q_var 3) (q_neg q_int))) (q_cons (q_fz (q_var 9)) q_nil))))))) (g_sb hr.units (q_var 3) (q_neg q_int)))
  (s_one (s_asg (q_fz (q_addQ q_int (q_max rfl rfl (z 9 _ rfl) (q_cons (q_ix (q_var 4) (q_neg q_int)) (q_cons (q_var 10) q_nil))))) (g_sb hr.units (q_var 4) (q_neg q_int)))))))
  (s_one (s_if (t_w (w_or (t_inW (q_var 7) (q_tup (q_cons q_str (q_cons q_str (q_cons q_str q_nil))))) (w_or1 (t_gt (q_ix (q_var 4) (q_neg q_int)) q_int))))
  (s_cons (s_expr (q_app (q_var 3) (q_cons (q_tup (q_cons q_str (q_cons (q_callK h_law_name (hr.mono (by decide)) (q_cons (q_fz (q_var 0)) (q_cons (q_fz (q_var 8)) q_nil))) q_nil))) q_nil)))
  (s_one (s_expr (q_app (q_var 4) (q_cons q_int q_nil)))))
  (s_cons (s_asg (q_fz (q_callK h_law_one (hr.mono (by decide)) (q_cons (q_fz (q_var 0)) (q_cons (q_fz (q_var 8)) (q_cons (q_fz (q_var 7)) (q_cons (q_fz (q_ix (q_var 3) (q_neg q_int))) q_nil)))))) (g_sb hr.units (q_var 3) (q_neg q_int)))
  (s_one (s_asg (q_fz (q_addQ (q_ix (q_var 4) (q_neg q_int)) q_int)) (g_sb hr.units (q_var 4) (q_neg q_int)))))))))))) PassesOwn.never)
  (s_one (s_ret (q_var 3))))))
theorem k_law_words (z : Zs mg) (d : DefAt K mg "_law_words" st_law_words ["ask"])   : ∀ n, KeptN P w K mg base (2 + 1 * n) "_law_words" ["ask"] (n_law_words n)
 | 0 => okN (k := 1) d sc_law_words fun f cdv A outer s H E hr => ss_stuck
 | n + 1 => by
  have h_law_words := k_law_words z d   n
  exact okN (k := 2 + 1 * n) d sc_law_words fun f cdv A outer s H E hr =>
  (s_cons (s_set 1 sc_law_words.nd (q_lst (q_cons (q_ix (q_var 0) q_int) q_nil)))
  (s_cons (s_for rfl (i_seq (q_sl (q_var 0) (q_oS q_int) q_oN)) (g_nm 2 sc_law_words.nd)
  (s_one (s_if (t_tru (q_isi kinds_str rfl (z 5 _ rfl) rfl (z 6 _ rfl) boot_str' (q_var 2)))
  (s_one (s_expr (q_app (q_var 1) (q_cons (q_var 2) q_nil))))
  (s_one (s_if (t_not (t_tru (q_isi kinds_tuple rfl (z 5 _ rfl) rfl (z 2 _ rfl) boot_tuple' (q_var 2))))
  (s_one (s_expr (q_app (q_var 1) (q_cons (q_strc rfl (z 6 _ rfl) (q_cons (q_var 2) q_nil)) q_nil))))
  (s_one (s_if (t_w (w_and (t_gt (q_len rfl (z 0 _ rfl) (q_cons (q_var 2) q_nil)) q_int) (w_and1 (t_tru (q_isi kinds_str rfl (z 5 _ rfl) rfl (z 6 _ rfl) boot_str' (q_ix (q_var 2) q_int))))))
  (s_one (s_set 1 sc_law_words.nd (q_addF (q_var 1) (q_callN h_law_words (hr.mono (by omega)) (q_cons (q_var 2) q_nil)))))
  (s_cons (s_expr (q_app (q_var 1) (q_cons (q_strc rfl (z 6 _ rfl) (q_cons (q_len rfl (z 0 _ rfl) (q_cons (q_var 2) q_nil)) q_nil)) q_nil)))
  (s_one (s_for rfl (i_seq (q_var 2)) (g_nm 3 sc_law_words.nd)
  (s_one (s_if (t_tru (q_isi kinds_tuple rfl (z 5 _ rfl) rfl (z 2 _ rfl) boot_tuple' (q_var 3)))
  (s_one (s_set 1 sc_law_words.nd (q_addF (q_var 1) (q_lst (q_cons (q_strc rfl (z 6 _ rfl) (q_cons (q_ix (q_var 3) q_int) q_nil)) (q_cons (q_strc rfl (z 6 _ rfl) (q_cons (q_ix (q_var 3) q_int) q_nil)) q_nil))))))
  (s_one (s_expr (q_app (q_var 1) (q_cons (q_strc rfl (z 6 _ rfl) (q_cons (q_var 3) q_nil)) q_nil)))))) PassesOwn.never))))))))) PassesOwn.never)
  (s_one (s_ret (q_var 1)))))
theorem k_law_same (z : Zs mg) (d : DefAt K mg "_law_same" st_law_same ["told", "due"])   : ∀ n, Kept P w K mg base (2 + 1 * n) "_law_same" ["told", "due"] (m_law_same n)
 | 0 => okP (k := 1) d sc_law_same fun f cdv A outer s H E hr => ss_stuck
 | n + 1 => by
  have h_law_same := k_law_same z d   n
  exact okP (k := 2 + 1 * n) d sc_law_same fun f cdv A outer s H E hr =>
  (s_cons (s_if (t_tru (q_isi kinds_tuple rfl (z 5 _ rfl) rfl (z 2 _ rfl) boot_tuple' (q_var 1)))
  (s_cons (s_if (t_w (w_or (t_not (t_tru (q_isi kinds_tuple rfl (z 5 _ rfl) rfl (z 2 _ rfl) boot_tuple' (q_var 0)))) (w_or1 (t_ne hr.units (q_len rfl (z 0 _ rfl) (q_cons (q_var 0) q_nil)) (q_len rfl (z 0 _ rfl) (q_cons (q_var 1) q_nil))))))
  (s_one (s_ret q_bl))
  s_nil)
  (s_cons (s_for rfl (i_r1 rfl (z 1 _ rfl) (q_len rfl (z 0 _ rfl) (q_cons (q_var 1) q_nil))) (g_nm 2 sc_law_same.nd)
  (s_one (s_if (t_not (t_tru (q_callK h_law_same (hr.mono (by omega)) (q_cons (q_fz (q_ix (q_var 0) (q_var 2))) (q_cons (q_fz (q_ix (q_var 1) (q_var 2))) q_nil)))))
  (s_one (s_ret q_bl))
  s_nil)) PassesOwn.never)
  (s_one (s_ret q_bl))))
  s_nil)
  (s_cons (s_if (t_tru (q_isi kinds_str rfl (z 5 _ rfl) rfl (z 6 _ rfl) boot_str' (q_var 1)))
  (s_one (s_ret (q_and (q_isi kinds_str rfl (z 5 _ rfl) rfl (z 6 _ rfl) boot_str' (q_var 0)) (q_one (q_eq hr.units (q_var 0) (q_var 1))))))
  s_nil)
  (s_one (s_ret (q_and (q_isi kinds_int rfl (z 5 _ rfl) rfl (z 8 _ rfl) boot_int' (q_var 0)) (q_and (q_not (q_isi kinds_bool rfl (z 5 _ rfl) rfl (z 10 _ rfl) boot_bool' (q_var 0))) (q_one (q_eq hr.units (q_var 0) (q_var 1)))))))))
theorem k_law {f : Addr} {fd : FuncData} (z : Zs mg) (F : Fun K "law" "law" st_law f fd) (h_law_asks : KeptN P w K mg base 5 "_law_asks" ["script", "many", "base"] n_law_asks) (h_write_ask : Kept P w K mg base 54 "write_ask" ["ask"] m_write_ask) (h_read_ask : Kept P w K mg base 56 "read_ask" ["text"] m_read_ask) (h_law_words : KeptN P w K mg base 26 "_law_words" ["ask"] (n_law_words 24)) (h_law_same : Kept P w K mg base 26 "_law_same" ["told", "due"] (m_law_same 24)) : FnOk P w K mg base CX0 57 f fd ["script"] (spP K 1 m_law) :=
 funOkP (k := 56) F sc_law fun cdv A outer s H E hr =>
  (s_cons (s_for rfl (i_seq (q_callN h_law_asks (hr.mono (by decide)) (q_cons (q_var 0) (q_cons (q_min rfl rfl (z 11 _ rfl) (q_cons (q_len rfl (z 0 _ rfl) (q_cons (q_var 0) q_nil)) (q_cons q_int q_nil))) (q_cons q_int q_nil))))) (g_nm 1 sc_law.nd)
  (s_cons (s_set 2 sc_law.nd (q_join q_str (q_callN h_law_words (hr.mono (by decide)) (q_cons (q_var 1) q_nil))))
  (s_cons (s_set 3 sc_law.nd (q_callK h_write_ask (hr.mono (by decide)) (q_cons (q_fz (q_var 1)) q_nil)))
  (s_one (s_if (t_w (w_or (t_not (t_tru (q_isi kinds_str rfl (z 5 _ rfl) rfl (z 6 _ rfl) boot_str' (q_var 3)))) (w_or (t_ne hr.units (q_var 3) (q_var 2)) (w_or1 (t_not (t_tru (q_callK h_law_same (hr.mono (by decide)) (q_cons (q_fz (q_callK h_read_ask (hr.mono (by decide)) (q_cons (q_fz (q_var 2)) q_nil))) (q_cons (q_fz (q_var 1)) q_nil)))))))))
  (s_one (s_ret q_bl))
  s_nil)))) PassesOwn.never)
  (s_one (s_ret (q_eq hr.units (q_callK h_read_ask (hr.mono (by decide)) (q_cons q_str q_nil)) (q_tup (q_cons q_str (q_cons (q_tup (q_cons q_str (q_cons q_str q_nil))) (q_cons (q_tup (q_cons q_str (q_cons (q_tup (q_cons q_str (q_cons q_str q_nil))) (q_cons q_int (q_cons q_str (q_cons q_int q_nil)))))) (q_cons q_str q_nil)))))))))
end
set_option maxHeartbeats 4000000 in
theorem all_mk {l : PySem.W.OpenLaw} {w : World} {K : PySem.W.Frag} {h : Heap} {mg : Str -> Option Value} {fa qC : Addr} (X : K.In h) (G : h.Ns mainGlobals mg) (hfa : mg "law" = some (.ref fa))
  (aC : PySem.W.nsIn K mainGlobals "Reader" = some (some (.ref qC))) (pg : PySem.W.plainGet K qC Str.empty = true) (hd : PySem.W.hasDictIn K qC = true) (po : PySem.W.plainOver K qC = true) (sa : PySem.W.findIn K (.ref qC) "__setattr__" = some (some (.builtin "object.__setattr__"))) (mk : PySem.W.makesIn K qC = true) (kc : PySem.W.keepIn K (.ref qC) = true)
  (n_words : PySem.W.findIn K (.ref qC) "words" = some none)
  (n_place : PySem.W.findIn K (.ref qC) "place" = some none)
  (a0 : FKM K qC "__init__" "Reader.__init__" st_Reader_init)
  (a1 : FKM K qC "word" "Reader.word" st_Reader_word)
  (a2 : FKM K qC "letters" "Reader.letters" st_Reader_letters)
  (a3 : FKM K qC "number" "Reader.number" st_Reader_number)
  (a4 : FKM K qC "many" "Reader.many" st_Reader_many)
  (a5 : FKM K qC "numbers" "Reader.numbers" st_Reader_numbers)
  (a6 : FKM K qC "finish" "Reader.finish" st_Reader_finish)
  (a7 : FK K "form_of" st_form_of)
  (a8 : FK K "formed" st_formed)
  (a9 : FK K "check_text" st_check_text)
  (a10 : FK K "is_made_of" st_is_made_of)
  (a11 : FK K "write_number" st_write_number)
  (a12 : FK K "read_number" st_read_number)
  (a13 : FK K "read_number_from" st_read_number_from)
  (a14 : FK K "write_numbers" st_write_numbers)
  (a15 : FK K "write_counted" st_write_counted)
  (a16 : FK K "read_letters" st_read_letters)
  (a17 : FK K "words_of" st_words_of)
  (a18 : FK K "write_thing" st_write_thing)
  (a19 : FK K "write_pairs" st_write_pairs)
  (a20 : FK K "ask_words" st_ask_words)
  (a21 : FK K "write_ask" st_write_ask)
  (a22 : FK K "read_thing" st_read_thing)
  (a23 : FK K "read_part" st_read_part)
  (a24 : FK K "read_ask" st_read_ask)
  (a25 : FK K "_law_draw" st_law_draw)
  (a26 : FK K "_law_far" st_law_far)
  (a27 : FK K "_law_name" st_law_name)
  (a28 : FK K "_law_number" st_law_number)
  (a29 : FK K "_law_columns" st_law_columns)
  (a30 : FK K "_law_one" st_law_one)
  (a31 : FK K "_law_two" st_law_two)
  (a32 : FK K "_law_asks" st_law_asks)
  (a33 : FK K "_law_words" st_law_words)
  (a34 : FK K "_law_same" st_law_same)
  (a35 : FK K "law" st_law)
  {tkFIGURES : Tok} {tkMOST_FIGURES : Tok} {tkSMALL_LETTERS : Tok} {tkMOST_LETTERS : Tok} {tkDEEPEST : Tok} (gFIGURES : PySem.W.nsIn K mainGlobals "FIGURES" = some (some (.str "0123456789" tkFIGURES))) (gMOST_FIGURES : PySem.W.nsIn K mainGlobals "MOST_FIGURES" = some (some (.int (60) tkMOST_FIGURES))) (gSMALL_LETTERS : PySem.W.nsIn K mainGlobals "SMALL_LETTERS" = some (some (.str "abcdefghijklmnopqrstuvwxyz" tkSMALL_LETTERS))) (gMOST_LETTERS : PySem.W.nsIn K mainGlobals "MOST_LETTERS" = some (some (.int (8) tkMOST_LETTERS))) (gDEEPEST : PySem.W.nsIn K mainGlobals "DEEPEST" = some (some (.int (20) tkDEEPEST))) {qFORMS : Addr} {epFORMS : Nat} {qFORMS_0 : Addr} {nFORMS_0 : Nat} {sFORMS_0 : Array (Option Value)} {tkFORMS_0 tFORMS_0_0 : Tok} {qFORMS_1 : Addr} {nFORMS_1 : Nat} {sFORMS_1 : Array (Option Value)} {tkFORMS_1 tFORMS_1_0 tFORMS_1_1 tFORMS_1_2 tFORMS_1_3 : Tok} {qFORMS_2 : Addr} {nFORMS_2 : Nat} {sFORMS_2 : Array (Option Value)} {tkFORMS_2 tFORMS_2_0 tFORMS_2_1 tFORMS_2_2 : Tok} {qFORMS_3 : Addr} {nFORMS_3 : Nat} {sFORMS_3 : Array (Option Value)} {tkFORMS_3 tFORMS_3_0 tFORMS_3_1 : Tok} {qFORMS_4 : Addr} {nFORMS_4 : Nat} {sFORMS_4 : Array (Option Value)} {tkFORMS_4 tFORMS_4_0 tFORMS_4_1 tFORMS_4_2 : Tok} {qFORMS_5 : Addr} {nFORMS_5 : Nat} {sFORMS_5 : Array (Option Value)} {tkFORMS_5 tFORMS_5_0 tFORMS_5_1 tFORMS_5_2 : Tok} {qFORMS_6 : Addr} {nFORMS_6 : Nat} {sFORMS_6 : Array (Option Value)} {tkFORMS_6 tFORMS_6_0 tFORMS_6_1 : Tok} {qFORMS_7 : Addr} {nFORMS_7 : Nat} {sFORMS_7 : Array (Option Value)} {tkFORMS_7 tFORMS_7_0 tFORMS_7_1 tFORMS_7_2 : Tok} {qFORMS_8 : Addr} {nFORMS_8 : Nat} {sFORMS_8 : Array (Option Value)} {tkFORMS_8 tFORMS_8_0 tFORMS_8_1 tFORMS_8_2 : Tok} (gFORMS : PySem.W.nsIn K mainGlobals "FORMS" = some (some (.ref qFORMS))) (LFORMS : K.lookup qFORMS = some ⟨.type "dict", none, .dict (List.toArray [⟨hashStr w "table", .str "table" tkFORMS_0, .ref qFORMS_0⟩, ⟨hashStr w "pick", .str "pick" tkFORMS_1, .ref qFORMS_1⟩, ⟨hashStr w "twins", .str "twins" tkFORMS_2, .ref qFORMS_2⟩, ⟨hashStr w "columns", .str "columns" tkFORMS_3, .ref qFORMS_3⟩, ⟨hashStr w "joined", .str "joined" tkFORMS_4, .ref qFORMS_4⟩, ⟨hashStr w "matched", .str "matched" tkFORMS_5, .ref qFORMS_5⟩, ⟨hashStr w "counted", .str "counted" tkFORMS_6, .ref qFORMS_6⟩, ⟨hashStr w "summed", .str "summed" tkFORMS_7, .ref qFORMS_7⟩, ⟨hashStr w "lifted", .str "lifted" tkFORMS_8, .ref qFORMS_8⟩]) epFORMS, #[]⟩) (LFORMS_0 : K.lookup qFORMS_0 = some ⟨.type "tuple", none, .seq ([.str "name" tFORMS_0_0] : List Value).toArray nFORMS_0, sFORMS_0⟩) (LFORMS_1 : K.lookup qFORMS_1 = some ⟨.type "tuple", none, .seq ([.str "ask" tFORMS_1_0, .str "column" tFORMS_1_1, .str "word" tFORMS_1_2, .str "number" tFORMS_1_3] : List Value).toArray nFORMS_1, sFORMS_1⟩) (LFORMS_2 : K.lookup qFORMS_2 = some ⟨.type "tuple", none, .seq ([.str "ask" tFORMS_2_0, .str "column" tFORMS_2_1, .str "column" tFORMS_2_2] : List Value).toArray nFORMS_2, sFORMS_2⟩) (LFORMS_3 : K.lookup qFORMS_3 = some ⟨.type "tuple", none, .seq ([.str "ask" tFORMS_3_0, .str "columns" tFORMS_3_1] : List Value).toArray nFORMS_3, sFORMS_3⟩) (LFORMS_4 : K.lookup qFORMS_4 = some ⟨.type "tuple", none, .seq ([.str "ask" tFORMS_4_0, .str "ask" tFORMS_4_1, .str "word" tFORMS_4_2] : List Value).toArray nFORMS_4, sFORMS_4⟩) (LFORMS_5 : K.lookup qFORMS_5 = some ⟨.type "tuple", none, .seq ([.str "ask" tFORMS_5_0, .str "ask" tFORMS_5_1, .str "pairs" tFORMS_5_2] : List Value).toArray nFORMS_5, sFORMS_5⟩) (LFORMS_6 : K.lookup qFORMS_6 = some ⟨.type "tuple", none, .seq ([.str "ask" tFORMS_6_0, .str "columns" tFORMS_6_1] : List Value).toArray nFORMS_6, sFORMS_6⟩) (LFORMS_7 : K.lookup qFORMS_7 = some ⟨.type "tuple", none, .seq ([.str "ask" tFORMS_7_0, .str "columns" tFORMS_7_1, .str "column" tFORMS_7_2] : List Value).toArray nFORMS_7, sFORMS_7⟩) (LFORMS_8 : K.lookup qFORMS_8 = some ⟨.type "tuple", none, .seq ([.str "ask" tFORMS_8_0, .str "word" tFORMS_8_1, .str "number" tFORMS_8_2] : List Value).toArray nFORMS_8, sFORMS_8⟩) (smFORMS : (qFORMS == sysModules) = false) (z0 : PySem.W.nsIn K mainGlobals "len" = some none) (z1 : PySem.W.nsIn K mainGlobals "range" = some none) (z2 : PySem.W.nsIn K mainGlobals "tuple" = some none) (z3 : PySem.W.nsIn K mainGlobals "list" = some none) (z4 : PySem.W.nsIn K mainGlobals "zip" = some none) (z5 : PySem.W.nsIn K mainGlobals "isinstance" = some none) (z6 : PySem.W.nsIn K mainGlobals "str" = some none) (z7 : PySem.W.nsIn K mainGlobals "all" = some none) (z8 : PySem.W.nsIn K mainGlobals "int" = some none) (z9 : PySem.W.nsIn K mainGlobals "max" = some none) (z10 : PySem.W.nsIn K mainGlobals "bool" = some none) (z11 : PySem.W.nsIn K mainGlobals "min" = some none) :
  ∃ fd : FuncData, (∀ (s : Shared) (v : Value), BindsTo s fd ⟨[v], []⟩ [("script", v)]) /\ ∀ base : Heap, K.In base -> base.Ns mainGlobals mg -> FnOk l.prog w K mg base CX0 57 fa fd ["script"] (spP K 1 m_law) := by
 have z : Zs mg := (zs_cons (PySem.W.mg_none_of X G z0) (zs_cons (PySem.W.mg_none_of X G z1) (zs_cons (PySem.W.mg_none_of X G z2) (zs_cons (PySem.W.mg_none_of X G z3) (zs_cons (PySem.W.mg_none_of X G z4) (zs_cons (PySem.W.mg_none_of X G z5) (zs_cons (PySem.W.mg_none_of X G z6) (zs_cons (PySem.W.mg_none_of X G z7) (zs_cons (PySem.W.mg_none_of X G z8) (zs_cons (PySem.W.mg_none_of X G z9) (zs_cons (PySem.W.mg_none_of X G z10) (zs_cons (PySem.W.mg_none_of X G z11) zs_nil))))))))))))
 have c_FIGURES : ConstR K mg "FIGURES" (.str "0123456789") := const_of (PySem.W.mg_of X G gFIGURES) cr_str
 have c_MOST_FIGURES : ConstR K mg "MOST_FIGURES" (.int (60)) := const_of (PySem.W.mg_of X G gMOST_FIGURES) cr_int
 have c_SMALL_LETTERS : ConstR K mg "SMALL_LETTERS" (.str "abcdefghijklmnopqrstuvwxyz") := const_of (PySem.W.mg_of X G gSMALL_LETTERS) cr_str
 have c_MOST_LETTERS : ConstR K mg "MOST_LETTERS" (.int (8)) := const_of (PySem.W.mg_of X G gMOST_LETTERS) cr_int
 have c_DEEPEST : ConstR K mg "DEEPEST" (.int (20)) := const_of (PySem.W.mg_of X G gDEEPEST) cr_int
 have c_FORMS : CDict K w mg "FORMS" cd_FORMS := ⟨_, _, _, _, PySem.W.mg_of X G gFORMS, LFORMS, smFORMS, by decide +kernel, (.cons (cr_tup LFORMS_0 (show 1 <= sizeLine by decide) (crs_cons cr_str crs_nil)) (.cons (cr_tup LFORMS_1 (show 4 <= sizeLine by decide) (crs_cons cr_str (crs_cons cr_str (crs_cons cr_str (crs_cons cr_str crs_nil))))) (.cons (cr_tup LFORMS_2 (show 3 <= sizeLine by decide) (crs_cons cr_str (crs_cons cr_str (crs_cons cr_str crs_nil)))) (.cons (cr_tup LFORMS_3 (show 2 <= sizeLine by decide) (crs_cons cr_str (crs_cons cr_str crs_nil))) (.cons (cr_tup LFORMS_4 (show 3 <= sizeLine by decide) (crs_cons cr_str (crs_cons cr_str (crs_cons cr_str crs_nil)))) (.cons (cr_tup LFORMS_5 (show 3 <= sizeLine by decide) (crs_cons cr_str (crs_cons cr_str (crs_cons cr_str crs_nil)))) (.cons (cr_tup LFORMS_6 (show 2 <= sizeLine by decide) (crs_cons cr_str (crs_cons cr_str crs_nil))) (.cons (cr_tup LFORMS_7 (show 3 <= sizeLine by decide) (crs_cons cr_str (crs_cons cr_str (crs_cons cr_str crs_nil)))) (.cons (cr_tup LFORMS_8 (show 3 <= sizeLine by decide) (crs_cons cr_str (crs_cons cr_str (crs_cons cr_str crs_nil)))) .nil)))))))))⟩
 have cf : CF K mg qC := ⟨⟨aC, PySem.W.mg_of X G aC, ⟨pg, hd, po, sa⟩⟩, n_words, n_place, mk, kc⟩
 have d_Reader_init := a0.at_ (ps := ["self", "text"]) (fun _ _ _ _ _ _ => us2 fun _ _ => rfl)
 have d_Reader_word := a1.at_ (ps := ["self"]) (fun _ _ _ _ _ _ => us1 fun _ => rfl)
 have d_Reader_letters := a2.at_ (ps := ["self"]) (fun _ _ _ _ _ _ => us1 fun _ => rfl)
 have d_Reader_number := a3.at_ (ps := ["self"]) (fun _ _ _ _ _ _ => us1 fun _ => rfl)
 have d_Reader_many := a4.at_ (ps := ["self"]) (fun _ _ _ _ _ _ => us1 fun _ => rfl)
 have d_Reader_numbers := a5.at_ (ps := ["self"]) (fun _ _ _ _ _ _ => us1 fun _ => rfl)
 have d_Reader_finish := a6.at_ (ps := ["self"]) (fun _ _ _ _ _ _ => us1 fun _ => rfl)
 have d_form_of := a7.at_ (ps := ["word"]) X G (fun _ _ _ _ _ _ => us1 fun _ => rfl)
 have d_formed := a8.at_ (ps := ["ask"]) X G (fun _ _ _ _ _ _ => us1 fun _ => rfl)
 have d_check_text := a9.at_ (ps := ["thing"]) X G (fun _ _ _ _ _ _ => us1 fun _ => rfl)
 have d_is_made_of := a10.at_ (ps := ["text", "signs", "most"]) X G (fun _ _ _ _ _ _ => us3 fun _ _ _ => rfl)
 have d_write_number := a11.at_ (ps := ["number"]) X G (fun _ _ _ _ _ _ => us1 fun _ => rfl)
 have d_read_number := a12.at_ (ps := ["text"]) X G (fun _ _ _ _ _ _ => us1 fun _ => rfl)
 have d_read_number_from := a13.at_ (ps := ["text", "least"]) X G (fun _ _ _ _ _ _ => us2 fun _ _ => rfl)
 have d_write_numbers := a14.at_ (ps := ["numbers"]) X G (fun _ _ _ _ _ _ => us1 fun _ => rfl)
 have d_write_counted := a15.at_ (ps := ["numbers"]) X G (fun _ _ _ _ _ _ => us1 fun _ => rfl)
 have d_read_letters := a16.at_ (ps := ["text"]) X G (fun _ _ _ _ _ _ => us1 fun _ => rfl)
 have d_words_of := a17.at_ (ps := ["text"]) X G (fun _ _ _ _ _ _ => us1 fun _ => rfl)
 have d_write_thing := a18.at_ (ps := ["kind", "thing"]) X G (fun _ _ _ _ _ _ => us2 fun _ _ => rfl)
 have d_write_pairs := a19.at_ (ps := ["pairs"]) X G (fun _ _ _ _ _ _ => us1 fun _ => rfl)
 have d_ask_words := a20.at_ (ps := ["ask"]) X G (fun _ _ _ _ _ _ => us1 fun _ => rfl)
 have d_write_ask := a21.at_ (ps := ["ask"]) X G (fun _ _ _ _ _ _ => us1 fun _ => rfl)
 have d_read_thing := a22.at_ (ps := ["reader", "kind", "deep"]) X G (fun _ _ _ _ _ _ => us3 fun _ _ _ => rfl)
 have d_read_part := a23.at_ (ps := ["reader", "deep"]) X G (fun _ _ _ _ _ _ => us2 fun _ _ => rfl)
 have d_read_ask := a24.at_ (ps := ["text"]) X G (fun _ _ _ _ _ _ => us1 fun _ => rfl)
 have d_law_draw := a25.at_ (ps := ["script", "k", "many"]) X G (fun _ _ _ _ _ _ => us3 fun _ _ _ => rfl)
 have d_law_far := a26.at_ (ps := ["script", "k"]) X G (fun _ _ _ _ _ _ => us2 fun _ _ => rfl)
 have d_law_name := a27.at_ (ps := ["script", "k"]) X G (fun _ _ _ _ _ _ => us2 fun _ _ => rfl)
 have d_law_number := a28.at_ (ps := ["script", "k"]) X G (fun _ _ _ _ _ _ => us2 fun _ _ => rfl)
 have d_law_columns := a29.at_ (ps := ["script", "k"]) X G (fun _ _ _ _ _ _ => us2 fun _ _ => rfl)
 have d_law_one := a30.at_ (ps := ["script", "k", "kind", "part"]) X G (fun _ _ _ _ _ _ => us4 fun _ _ _ _ => rfl)
 have d_law_two := a31.at_ (ps := ["script", "k", "kind", "part", "other"]) X G (fun _ _ _ _ _ _ => us5 fun _ _ _ _ _ => rfl)
 have d_law_asks := a32.at_ (ps := ["script", "many", "base"]) X G (fun _ _ _ _ _ _ => us3 fun _ _ _ => rfl)
 have d_law_words := a33.at_ (ps := ["ask"]) X G (fun _ _ _ _ _ _ => us1 fun _ => rfl)
 have d_law_same := a34.at_ (ps := ["told", "due"]) X G (fun _ _ _ _ _ _ => us2 fun _ _ => rfl)
 obtain ⟨fdL, FL, bL⟩ := a35.law (ps := ["script"]) X G hfa (fun _ _ _ _ _ _ => us1 fun _ => rfl)
 refine ⟨fdL, fun s v => bL s [v] rfl, fun base _ _ => ?_⟩
 have h_Reader_word := k_Reader_word (P := l.prog) (w := w) (base := base) cf z d_Reader_word
 have h_Reader_finish := k_Reader_finish (P := l.prog) (w := w) (base := base) cf z d_Reader_finish
 have h_form_of := k_form_of (P := l.prog) (w := w) (base := base) cf z d_form_of c_FORMS
 have h_check_text := k_check_text (P := l.prog) (w := w) (base := base) cf z d_check_text
 have h_is_made_of := k_is_made_of (P := l.prog) (w := w) (base := base) cf z d_is_made_of
 have h_write_number := k_write_number (P := l.prog) (w := w) (base := base) cf z d_write_number
 have h_law_draw := k_law_draw (P := l.prog) (w := w) (base := base) cf z d_law_draw
 have h_formed := k_formed (P := l.prog) (w := w) (base := base) cf z d_formed h_form_of
 have h_read_number := k_read_number (P := l.prog) (w := w) (base := base) cf z d_read_number h_check_text h_is_made_of c_FIGURES c_MOST_FIGURES
 have h_write_numbers := k_write_numbers (P := l.prog) (w := w) (base := base) cf z d_write_numbers h_write_number
 have h_read_letters := k_read_letters (P := l.prog) (w := w) (base := base) cf z d_read_letters h_is_made_of c_SMALL_LETTERS c_MOST_LETTERS
 have h_words_of := k_words_of (P := l.prog) (w := w) (base := base) cf z d_words_of h_check_text
 have h_law_far := k_law_far (P := l.prog) (w := w) (base := base) cf z d_law_far h_law_draw
 have h_law_name := k_law_name (P := l.prog) (w := w) (base := base) cf z d_law_name h_law_draw
 have h_law_columns := k_law_columns (P := l.prog) (w := w) (base := base) cf z d_law_columns h_law_draw
 have h_Reader_init := k_Reader_init (P := l.prog) (w := w) (base := base) cf z d_Reader_init h_words_of
 have h_Reader_letters := k_Reader_letters (P := l.prog) (w := w) (base := base) cf z d_Reader_letters h_read_letters h_Reader_word
 have h_Reader_number := k_Reader_number (P := l.prog) (w := w) (base := base) cf z d_Reader_number h_read_number h_Reader_word
 have h_read_number_from := k_read_number_from (P := l.prog) (w := w) (base := base) cf z d_read_number_from h_read_number
 have h_write_counted := k_write_counted (P := l.prog) (w := w) (base := base) cf z d_write_counted h_write_numbers h_write_number
 have h_write_pairs := k_write_pairs (P := l.prog) (w := w) (base := base) cf z d_write_pairs h_write_number h_write_numbers
 have h_law_number := k_law_number (P := l.prog) (w := w) (base := base) cf z d_law_number h_law_draw h_law_far
 have h_law_two := k_law_two (P := l.prog) (w := w) (base := base) cf z d_law_two h_law_columns h_law_draw
 have h_Reader_many := k_Reader_many (P := l.prog) (w := w) (base := base) cf z d_Reader_many h_read_number_from h_Reader_word
 have h_law_one := k_law_one (P := l.prog) (w := w) (base := base) cf z d_law_one h_law_columns h_law_draw h_law_number
 have h_Reader_numbers := k_Reader_numbers (P := l.prog) (w := w) (base := base) cf z d_Reader_numbers h_Reader_number h_Reader_many
 have h_law_asks := k_law_asks (P := l.prog) (w := w) (base := base) cf z d_law_asks h_law_name h_law_draw h_law_two h_law_one
 have h_law_words := k_law_words (P := l.prog) (w := w) (base := base) cf z d_law_words   24
 have h_law_same := k_law_same (P := l.prog) (w := w) (base := base) cf z d_law_same   24
 have h_ask_words := k_ask_words (P := l.prog) (w := w) (base := base) cf z d_ask_words d_write_thing h_formed h_write_counted h_write_pairs h_write_number 24
 have h_write_ask := k_write_ask (P := l.prog) (w := w) (base := base) cf z d_write_ask h_ask_words
 have h_read_part := k_read_part (P := l.prog) (w := w) (base := base) cf z d_read_part d_read_thing h_Reader_word h_form_of c_DEEPEST h_Reader_letters h_Reader_number h_Reader_numbers h_Reader_many 24
 have h_read_ask := k_read_ask (P := l.prog) (w := w) (base := base) cf z d_read_ask h_Reader_init h_read_part h_Reader_finish
 exact k_law (P := l.prog) (w := w) (base := base) cf z FL h_law_asks h_write_ask h_read_ask h_law_words h_law_same
end
end LW
namespace LW
open PySem HW
theorem u_Reader_init (a0 a1 : R) (μ : Store) : w_Reader_init [a0, a1] μ = (b_Reader_init [some a0, some a1] μ).bind finW := rfl
theorem u_Reader_word (a0 : R) (μ : Store) : w_Reader_word [a0] μ = (b_Reader_word [some a0] μ).bind finW := rfl
theorem u_Reader_letters (a0 : R) (μ : Store) : w_Reader_letters [a0] μ = (b_Reader_letters [some a0] μ).bind finW := rfl
theorem u_Reader_number (a0 : R) (μ : Store) : w_Reader_number [a0] μ = (b_Reader_number [some a0] μ).bind finW := rfl
theorem u_Reader_many (a0 : R) (μ : Store) : w_Reader_many [a0] μ = (b_Reader_many [some a0] μ).bind finW := rfl
theorem u_Reader_numbers (a0 : R) (μ : Store) : w_Reader_numbers [a0] μ = (b_Reader_numbers [some a0] μ).bind finW := rfl
theorem u_Reader_finish (a0 : R) (μ : Store) : w_Reader_finish [a0] μ = (b_Reader_finish [some a0] μ).bind finW := rfl
theorem u_formed (a0 : D) : n_formed [a0] = finNO (b_formed [some (.v a0)] []) := rfl
theorem u_check_text (a0 : D) : m_check_text [a0] = finO (b_check_text [some (.v a0)] []) := rfl
theorem u_is_made_of (a0 a1 a2 : D) : m_is_made_of [a0, a1, a2] = finO (b_is_made_of [some (.v a0), some (.v a1), some (.v a2)] []) := rfl
theorem u_write_number (a0 : D) : m_write_number [a0] = finO (b_write_number [some (.v a0)] []) := rfl
theorem u_read_number (a0 : D) : m_read_number [a0] = finO (b_read_number [some (.v a0), none] []) := rfl
theorem u_read_number_from (a0 a1 : D) : m_read_number_from [a0, a1] = finO (b_read_number_from [some (.v a0), some (.v a1), none] []) := rfl
theorem u_write_numbers (a0 : D) : n_write_numbers [a0] = finNO (b_write_numbers [some (.v a0)] []) := rfl
theorem u_write_counted (a0 : D) : n_write_counted [a0] = finNO (b_write_counted [some (.v a0)] []) := rfl
theorem u_read_letters (a0 : D) : m_read_letters [a0] = finO (b_read_letters [some (.v a0)] []) := rfl
theorem u_words_of (a0 : D) : n_words_of [a0] = finNO (b_words_of [some (.v a0)] []) := rfl
theorem u_write_thing (F : MC) (a0 a1 : D) : n_write_thing F [a0, a1] = finNO (b_write_thing F [some (.v a0), some (.v a1)] []) := rfl
theorem u_write_pairs (a0 : D) : n_write_pairs [a0] = finNO (b_write_pairs [some (.v a0), none, none] []) := rfl
theorem u_ask_words (n : Nat) (a0 : D) : n_ask_words (n + 1) [a0] = finNO (b_ask_words (n_ask_words n) [some (.v a0), none, none, none] []) := rfl
theorem u_write_ask (a0 : D) : m_write_ask [a0] = finO (b_write_ask [some (.v a0)] []) := rfl
theorem u_read_thing (F : MW) (a0 a1 a2 : R) (μ : Store) : w_read_thing F [a0, a1, a2] μ = (b_read_thing F [some a0, some a1, some a2] μ).bind finW := rfl
theorem u_read_part (n : Nat) (a0 a1 : R) (μ : Store) : w_read_part (n + 1) [a0, a1] μ = (b_read_part (w_read_part n) [some a0, some a1, none, none] μ).bind finW := rfl
theorem u_read_ask (a0 : D) : m_read_ask [a0] = finO (b_read_ask [some (.v a0), none, none] []) := rfl
theorem u_law_draw (a0 a1 a2 : D) : m_law_draw [a0, a1, a2] = finO (b_law_draw [some (.v a0), some (.v a1), some (.v a2), none, none] []) := rfl
theorem u_law_far (a0 a1 : D) : m_law_far [a0, a1] = finO (b_law_far [some (.v a0), some (.v a1), none] []) := rfl
theorem u_law_name (a0 a1 : D) : m_law_name [a0, a1] = finO (b_law_name [some (.v a0), some (.v a1), none, none] []) := rfl
theorem u_law_number (a0 a1 : D) : m_law_number [a0, a1] = finO (b_law_number [some (.v a0), some (.v a1), none] []) := rfl
theorem u_law_columns (a0 a1 : D) : m_law_columns [a0, a1] = finO (b_law_columns [some (.v a0), some (.v a1), none] []) := rfl
theorem u_law_one (a0 a1 a2 a3 : D) : m_law_one [a0, a1, a2, a3] = finO (b_law_one [some (.v a0), some (.v a1), some (.v a2), some (.v a3), none] []) := rfl
theorem u_law_two (a0 a1 a2 a3 a4 : D) : m_law_two [a0, a1, a2, a3, a4] = finO (b_law_two [some (.v a0), some (.v a1), some (.v a2), some (.v a3), some (.v a4), none] []) := rfl
theorem u_law_asks (a0 a1 a2 : D) : n_law_asks [a0, a1, a2] = finNO (b_law_asks [some (.v a0), some (.v a1), some (.v a2), none, none, none, none, none, none, none, none] []) := rfl
theorem u_law_words (n : Nat) (a0 : D) : n_law_words (n + 1) [a0] = finNO (b_law_words (n_law_words n) [some (.v a0), none, none, none] []) := rfl
theorem u_law_same (n : Nat) (a0 a1 : D) : m_law_same (n + 1) [a0, a1] = finO (b_law_same (m_law_same n) [some (.v a0), some (.v a1), none] []) := rfl
theorem u_law (a0 : D) : m_law [a0] = finO (b_law [some (.v a0), none, none, none] []) := rfl
end LW
namespace HW
open PySem L2
noncomputable abbrev Tx (l : List Nat) : Str := ⟨l.toArray⟩
theorem tx_len {l : List Nat} : (Tx l).length = l.length := by simp [Str.length]
theorem tx_ne {l r : List Nat} : (Tx l == Tx r) = (l == r) := by
 rw [Bool.eq_iff_iff, beq_iff_eq, beq_iff_eq]
 exact ⟨fun e => by injection e with e; injection e, fun e => by rw [e]⟩
theorem tx_of (x : Str) : x = Tx x.cps.toList := by cases x; simp [Tx]
theorem tx_fig : (Str.ofString "0123456789") = Tx [48, 49, 50, 51, 52, 53, 54, 55, 56, 57] := by decide +kernel
theorem tx_min : (Str.ofString "-") = Tx [45] := by decide +kernel
theorem tx_0 : (Str.ofString "0") = Tx [48] := by decide +kernel
theorem tx_nil : (Str.ofString "") = Tx [] := by decide +kernel
section
variable {ρ : Lo} {μ : Store} {a b l : List Nat} {c : Nat} {i : Int} {x y : R}
theorem sv_add : addQ (.v (.str (Tx a))) (.v (.str (Tx b))) μ = if a.length + b.length <= sizeLine then some (.v (.str (Tx (a ++ b))), μ) else none := by
 show (if (Tx a).length + (Tx b).length <= sizeLine then some (R.v (.str (Tx a ++ Tx b)), μ) else none) = _
 rw [tx_len, tx_len]
 have : Tx a ++ Tx b = Tx (a ++ b) := by show Str.append _ _ = _; simp [Str.append]
 rw [this]
theorem sv_ix (h : 0 <= i) (hl : l.length < 2 ^ 63) (hc : l[i.toNat]? = some c) : ixS (.v (.str (Tx l))) (.v (.int i)) μ = some (.v (.str (Tx [c])), μ) := by
 have hi := (List.getElem?_eq_some_iff.mp hc).1
 have e : (Tx l).cps[i.toNat]? = some c := by simpa using hc
 unfold ixS
 dsimp only
 rw [if_pos ⟨h, by omega, by rw [tx_len]; omega⟩, e]
 rfl
theorem sv_len (h : l.length <= sizeLine) : lenS [.v (.str (Tx l))] μ = some (.v (.int l.length), μ) := by
 unfold lenS; dsimp only; rw [tx_len, if_pos h]
theorem sv_in : inS false (.v (.str (Tx [c]))) (.v (.str (Tx l))) μ = some (.v (.bl (decide (c ∈ l))), μ) := by
 unfold inS
 have := PySem.StrLaws.found_one (Tx l) c
 simp only [Bool.false_eq_true, if_false]
 rw [show (Tx [c]) = ⟨#[c]⟩ from rfl, this]
theorem sv_nin : inS true (.v (.str (Tx [c]))) (.v (.str (Tx l))) μ = some (.v (.bl (!decide (c ∈ l))), μ) := by
 unfold inS
 have := PySem.StrLaws.found_one (Tx l) c
 simp only [if_true]
 rw [show (Tx [c]) = ⟨#[c]⟩ from rfl, this]
theorem sv_sw : swD (.v (.str (Tx l))) (.v (.str (Tx [c]))) μ = some (.v (.bl (l.head? == some c)), μ) := by
 unfold swD
 dsimp only
 rw [tx_len, tx_len]
 cases l with
 | nil => rfl
 | cons d r =>
  have : Builtin.Str.subAt (Tx (d :: r)) (Tx [c]) 0 = (d == c) := by
   unfold Builtin.Str.subAt
   rw [tx_len]
   by_cases h : d = c
   ·subst h; simp
   ·simp [h]
  rw [this]
  simp
noncomputable def thSt (o : Option (R × Store)) : Option (List D × Store) := o.bind fun a => match a.1 with | .v (.str x) => some (signs x, a.2) | _ => none
theorem sv_it {f : FE} : fiStr f ρ μ = thSt (f ρ μ) := rfl
theorem sv_it1 : thSt (some (.v (.str (Tx l)), μ)) = some (l.map (fun c => D.str (Tx [c])), μ) := rfl
noncomputable def thCh1 (o : Option (R × Store)) (g g' : R -> R -> Store -> Option (R × Store)) (fb fc : FE) (ρ : Lo) : Option (R × Store) := o.bind fun a => (fb ρ a.2).bind fun b => (g a.1 b.1 b.2).bind fun z => match z.1 with
 | .v (.bl k) => if k = true then (fc ρ z.2).bind fun c => g' b.1 c.1 c.2 else some (.v (.bl false), z.2)
 | _ => none
noncomputable def thCh2 (x : R) (o : Option (R × Store)) (g g' : R -> R -> Store -> Option (R × Store)) (fc : FE) (ρ : Lo) : Option (R × Store) := o.bind fun b => (g x b.1 b.2).bind fun z => match z.1 with
 | .v (.bl k) => if k = true then (fc ρ z.2).bind fun c => g' b.1 c.1 c.2 else some (.v (.bl false), z.2)
 | _ => none
noncomputable def thCh3 (y : R) (o : Option (R × Store)) (g' : R -> R -> Store -> Option (R × Store)) (fc : FE) (ρ : Lo) : Option (R × Store) := o.bind fun z => match z.1 with
 | .v (.bl k) => if k = true then (fc ρ z.2).bind fun c => g' y c.1 c.2 else some (.v (.bl false), z.2)
 | _ => none
noncomputable def thCh4 (y : R) (o : Option (R × Store)) (g' : R -> R -> Store -> Option (R × Store)) : Option (R × Store) := o.bind fun c => g' y c.1 c.2
theorem sv_ch {g g' fa fb fc} : fCh g g' fa fb fc ρ μ = thCh1 (fa ρ μ) g g' fb fc ρ := rfl
theorem sv_ch1 {g g' fb fc} : thCh1 (some (x, μ)) g g' fb fc ρ = thCh2 x (fb ρ μ) g g' fc ρ := rfl
theorem sv_ch2 {g g' fc} : thCh2 x (some (y, μ)) g g' fc ρ = thCh3 y (g x y μ) g' fc ρ := rfl
theorem sv_ch3 {g' fc} {b : Bool} : thCh3 y (some (.v (.bl b), μ)) g' fc ρ = if b = true then thCh4 y (fc ρ μ) g' else some (.v (.bl false), μ) := rfl
theorem sv_ch4 {g'} : thCh4 y (some (x, μ)) g' = g' y x μ := rfl
theorem sv_abs : absD [.v (.int i)] μ = some (.v (.int (if i < 0 then -i else i)), μ) := rfl
noncomputable def thSs1 (o : Option (R × Store)) (fl fh : FO) (ρ : Lo) : Option (R × Store) := o.bind fun a => (fl ρ a.2).bind fun l => (fh ρ l.2).bind fun h => slS a.1 l.1 h.1 h.2
noncomputable def thSs2 (x : R) (o : Option (Option Int × Store)) (fh : FO) (ρ : Lo) : Option (R × Store) := o.bind fun l => (fh ρ l.2).bind fun h => slS x l.1 h.1 h.2
noncomputable def thSs3 (x : R) (l : Option Int) (o : Option (Option Int × Store)) : Option (R × Store) := o.bind fun h => slS x l h.1 h.2
theorem sv_ss {fa fl fh} : fSlS fa fl fh ρ μ = thSs1 (fa ρ μ) fl fh ρ := rfl
theorem sv_ss1 {fl fh} : thSs1 (some (x, μ)) fl fh ρ = thSs2 x (fl ρ μ) fh ρ := rfl
theorem sv_ss2 {fh} {l : Option Int} : thSs2 x (some (l, μ)) fh ρ = thSs3 x l (fh ρ μ) := rfl
theorem sv_ss3 {l h : Option Int} : thSs3 x l (some (h, μ)) = slS x l h μ := rfl
theorem sl_from (l : List Nat) (n : Nat) (h : n <= l.length) : Txt.slice (Tx l) (some (n : Int)) none = Tx (l.drop n) := by
 have := PySem.StrLaws.sliceText_from (x := Tx l) (i := n) (by simpa using h)
 refine Eq.trans (show Txt.slice (Tx l) (some (n : Int)) none = PySem.StrLaws.sliceText (Tx l) (some (n : Int)) none from rfl) (this.trans ?_)
 simp only [Tx, Int.toNat_natCast]
 congr 2
 exact List.take_of_length_le (by simp)
theorem sv_from {n : Nat} (h : n <= l.length) (hl : l.length <= sizeLine) : slS (.v (.str (Tx l))) (some (n : Int)) none μ = some (.v (.str (Tx (l.drop n))), μ) := by
 unfold slS; dsimp only; rw [tx_len, if_pos hl, sl_from l n h]
theorem sv_int {n : Int} (hl : l.length <= 640) (h : PySem.intText? (Tx l) = some n) : intS [.v (.str (Tx l))] μ = some (.v (.int n), μ) := by
 unfold intS; dsimp only; rw [tx_len, if_pos hl, h]; rfl
theorem sv_ok {n : Nat} (h : ∀ c ∈ l, c < 1114112) : okD n (.str (Tx l)) = true := by
 cases n <;> (show PyData.strOk (Tx l) = true; unfold PyData.strOk; simpa using h)
theorem sv_eq : eqD (.str (Tx a)) (.str (Tx b)) = (a == b) := tx_ne
end
end HW
namespace LW
open PySem HW
theorem emod_b (i : Int) {j : Int} (h : 0 < j) : 0 <= i % j /\ i % j < j := ⟨Int.emod_nonneg _ (by omega), Int.emod_lt_of_pos _ h⟩
theorem cell_at (ns : List Int) (k : Int) (h : ns ≠ []) : ∃ c, L2.atI (ns.map D.int) (k % (ns.length : Int)) = some (.int c) := by
 have hl : 0 < ns.length := List.length_pos_iff.mpr h
 obtain ⟨h1, h2⟩ := emod_b k (j := (ns.length : Int)) (by omega)
 refine ⟨ns[(k % (ns.length : Int)).toNat], at_int h1 ?_⟩
 simp
theorem draw_ex (ns : List Int) (k many : Int) (hm : 0 < many) : ∃ d, m_law_draw [.fl (ns.map .int), .int k, .int many] = some (.int d) /\ 0 <= d /\ d < many := by
 rw [u_law_draw]
 by_cases h : ns = []
 ·subst h
  exact ⟨0, by push_cast [b_law_draw, Int.natCast_zero, beq_self_eq_true], by omega, hm⟩
 ·have hl : 0 < ns.length := List.length_pos_iff.mpr h
  have e0 : ((ns.length : Int) == 0) = false := by simp; omega
  obtain ⟨c, hc⟩ := cell_at ns k h
  have b1 := emod_b c (j := 1000000007) (by decide)
  have b2 := emod_b ((c % 1000000007 + 5) * (40692 + 977 * k)) (j := 2147483629) (by decide)
  push_cast [b_law_draw, e0, List.length_map, ev_mod (i := k) (j := (ns.length : Int)) (by omega), hc, ev_mod (i := c) (j := 1000000007) (by decide), ev_mulL (i := 977) (j := k) (by decide), ev_mulL (i := c % 1000000007 + 5) (j := 40692 + 977 * k) (by omega), ev_mod (j := 2147483629) (by decide), ev_mulR (j := (c % 1000000007 + 5) * (40692 + 977 * k) % 2147483629 + 3) (by omega), ev_mod (j := 2147483647) (by decide), ev_div (j := 13) (by decide) (by decide), ev_mod (j := many) hm]
  exact ⟨_, rfl, emod_b _ hm⟩
end LW
namespace LW
open PySem HW L2 PyProof.Rows PySem.NumText PySem.W
noncomputable def dg (m : Nat) : List Nat := (Nat.toDigits 10 m).map Char.toNat
theorem dg_lt {m : Nat} (h : m < 10) : dg m = [48 + m] := by
 unfold dg
 rw [Nat.toDigits_of_lt_base h]
 have : ∀ d : Nat, d < 10 -> [Nat.digitChar d].map Char.toNat = [48 + d] := by decide
 exact this m h
theorem dg_ge {m : Nat} (h : 10 <= m) : dg m = dg (m / 10) ++ [48 + m % 10] := by
 have hm : m % 10 < 10 := Nat.mod_lt m (by decide)
 have t : Nat.toDigits 10 (m / 10) ++ Nat.toDigits 10 (m % 10) = Nat.toDigits 10 (10 * (m / 10) + m % 10) := Nat.toDigits_append_toDigits (by decide) (by omega) hm
 rw [Nat.div_add_mod] at t
 rw [← dg_lt hm]
 unfold dg
 rw [← t, List.map_append]
theorem dg_dig (m : Nat) : PySem.NumText.AllDigits (dg m) := by
 intro c hc
 obtain ⟨ch, hch, e⟩ := List.mem_map.mp hc
 rw [← e]
 exact PyProof.Rows.digit_range (Nat.isDigit_of_mem_toDigits (by decide) (by decide) hch)
theorem dg_val (m : Nat) : PySem.NumText.digitsVal (dg m) = m := PySem.W.KIN.val_back m
theorem dg_pos (m : Nat) : 1 <= (dg m).length := by
 unfold dg; rw [List.length_map]; exact toDigits_len_ge 10 m
theorem dg_len {m k : Nat} (hk : 1 <= k) (h : m < 10 ^ k) : (dg m).length <= k := by
 unfold dg; rw [List.length_map]; exact toDigits_len_pow (by decide) hk h
theorem dg_ne (m : Nat) : dg m ≠ [] := fun e => by have := dg_pos m; rw [e] at this; simp at this
theorem dg_head : ∀ (m : Nat), 0 < m -> (dg m)[0]? ≠ some 48 := by
 intro m
 induction m using Nat.strongRecOn with
 | _ m ih =>
  intro h0
  by_cases h : m < 10
  ·rw [dg_lt h]; simp; omega
  ·rw [dg_ge (by omega)]
   have h1 := ih (m / 10) (by omega) (by omega)
   have := dg_pos (m / 10)
   rw [List.getElem?_append_left (by omega)]
   exact h1
theorem str_pos (m : Nat) : Str.ofString (toString (m : Int)) = Tx (dg m) := by
 rw [tx_of (Str.ofString (toString (m : Int))), PySem.W.KIN.signs_num]; rfl
theorem str_neg (m : Nat) : Str.ofString (toString (-((m + 1 : Nat) : Int))) = Tx (45 :: dg (m + 1)) := by
 rw [tx_of (Str.ofString _), PyProof.Rows.signs_ofString]
 have : (toString (-((m + 1 : Nat) : Int))).toList = '-' :: Nat.toDigits 10 (m + 1) := by
  show (Int.repr (Int.negSucc m)).toList = _
  show ("-" ++ Nat.repr (m + 1)).toList = _
  rw [String.toList_append, Nat.toList_repr]; rfl
 rw [this]; rfl
noncomputable def tn (n : Int) : List Nat := if n < 0 then 45 :: dg n.natAbs else dg n.natAbs
theorem str_tn (n : Int) : Str.ofString (toString n) = Tx (tn n) := by
 unfold tn
 by_cases h : n < 0
 ·rw [if_pos h]
  obtain ⟨m, rfl⟩ : ∃ m : Nat, n = -((m + 1 : Nat) : Int) := ⟨n.natAbs - 1, by omega⟩
  rw [str_neg]
  have : (-((m + 1 : Nat) : Int)).natAbs = m + 1 := by omega
  rw [this]
 ·rw [if_neg h]
  obtain ⟨m, rfl⟩ : ∃ m : Nat, n = (m : Int) := ⟨n.natAbs, by omega⟩
  rw [str_pos]; rfl
theorem tn_len {n : Int} {k : Nat} (hk : 1 <= k) (h : n.natAbs < 10 ^ k) : (tn n).length <= k + 1 := by
 unfold tn
 have := dg_len hk h
 split <;> simp <;> omega
theorem tn_sig (n : Int) : ∀ c ∈ tn n, c < 1114112 := by
 intro c hc
 have : c = 45 \/ c ∈ dg n.natAbs := by
  unfold tn at hc
  split at hc
  ·simpa using hc
  ·exact .inr hc
 rcases this with rfl | h
 ·decide
 ·have := dg_dig _ c h; omega
theorem ok_all {l : List Nat} (h : ∀ c ∈ l, c < 1114112) : okD 60 (.str (Tx l)) = true := sv_ok h
end LW
namespace LW
open PySem HW L2 PyProof.Rows PySem.NumText PySem.W
theorem wr_number (n : Int) (h : n.natAbs < 10 ^ 60) : m_write_number [.int n] = some (.str (Tx (tn n))) := by
 rw [u_write_number]
 have hl : n.natAbs.log2 < 1920 := by
  by_cases h0 : n.natAbs = 0
  ·rw [h0]; decide
  ·have : n.natAbs.log2 < 200 := by rw [Nat.log2_lt h0]; exact Nat.lt_trans h (by decide)
   omega
 push_cast [b_write_number, if_pos hl, str_tn]
theorem chk (l : List Nat) : m_check_text [.str (Tx l)] = some .non := by
 rw [u_check_text]
 have : isiD "str" (.v (.str (Tx l))) [] = some (.v (.bl true), []) := rfl
 push_cast [b_check_text, this]
theorem mem_fig {c : Nat} (h : 48 <= c /\ c <= 57) : decide (c ∈ [48, 49, 50, 51, 52, 53, 54, 55, 56, 57]) = true := by
 have : c = 48 \/ c = 49 \/ c = 50 \/ c = 51 \/ c = 52 \/ c = 53 \/ c = 54 \/ c = 55 \/ c = 56 \/ c = 57 := by omega
 rcases this with rfl | rfl | rfl | rfl | rfl | rfl | rfl | rfl | rfl | rfl <;> decide
theorem made_by (l sg : List Nat) (S : Str) (most : Int) (hS : S = Tx sg) (h0 : 1 <= l.length) (h1 : (l.length : Int) <= most) (h2 : l.length < 4000) (hd : ∀ c ∈ l, c ∈ sg) : m_is_made_of [.str (Tx l), .str S, .int most] = some (.bl true) := by
 subst hS
 rw [u_is_made_of]
 have a1 : (1 : Int) <= (l.length : Int) := by omega
 have hz : l.length <= sizeLine := small'' h2
 have hm : (l.map fun c => D.str (Tx [c])).length <= sizeLine := by rw [List.length_map]; exact hz
 have hc := comp_typed (f := fOp (inS false) (fVar 0) (fVar 1)) (μ := []) (rest := [some (.v (.str (Tx sg)))]) (fun c => D.str (Tx [c])) (fun c => D.bl (decide (c ∈ sg))) l none
  (fun c _ => by push_cast [sv_it, sv_it1, sv_ch, sv_ch1, sv_ch2, sv_ch3, sv_ch4, sv_abs, sv_ss, sv_ss1, sv_ss2, sv_ss3, sv_add, sv_in, sv_nin, sv_sw, sv_eq])
 have hb : boolsD (l.map fun c => D.bl (decide (c ∈ sg))) = some (l.map fun c => decide (c ∈ sg)) := by
  have := bools_map (l.map fun c => decide (c ∈ sg))
  rwa [List.map_map] at this
 have ha : (l.map fun c => decide (c ∈ sg)).all id = true := by
  rw [List.all_map, List.all_eq_true]
  exact fun c hc => decide_eq_true (hd c hc)
 push_cast [b_is_made_of, sv_it, sv_it1, sv_ch, sv_ch1, sv_ch2, sv_ch3, sv_ch4, sv_abs, sv_ss, sv_ss1, sv_ss2, sv_ss3, sv_add, sv_in, sv_nin, sv_sw, sv_eq, sv_len hz, a1, h1, decide_true, if_pos hm, hc, hb, ha]
theorem made_of (l : List Nat) (h0 : 1 <= l.length) (h1 : l.length <= 60) (hd : PySem.NumText.AllDigits l) : m_is_made_of [.str (Tx l), .str "0123456789", .int 60] = some (.bl true) :=
 made_by l [48, 49, 50, 51, 52, 53, 54, 55, 56, 57] _ 60 tx_fig h0 (by omega) (by omega) fun c hc => of_decide_eq_true (mem_fig (hd c hc))
theorem eq48 {c : Nat} (h : c ≠ 48) : ([c] == [48]) = false := by simp [h]
theorem rd_number (n : Int) (h : n.natAbs < 10 ^ 60) : m_read_number [.str (Tx (tn n))] = some (.int n) := by
 rw [u_read_number]
 have hl := dg_len (m := n.natAbs) (k := 60) (by decide) h
 have hp := dg_pos n.natAbs
 have hm := made_of (dg n.natAbs) hp hl (dg_dig _)
 have ht : (tn n).length <= 61 := tn_len (by decide) h
 have hs : (tn n).length <= sizeLine := small'' (by omega)
 have hi : PySem.intText? (Tx (tn n)) = some n := by
  by_cases hn : n < 0
  ·have e : (Tx (tn n)).cps.toList = 45 :: dg n.natAbs := by unfold tn; rw [if_pos hn]
   rw [intText_neg e (dg_dig _) (dg_ne _) (by rw [tx_len]; omega), dg_val]
   congr 1; omega
  ·have e : (Tx (tn n)).cps.toList = dg n.natAbs := by unfold tn; rw [if_neg hn]
   rw [intText_digits (by rw [e]; exact dg_dig _) (by rw [e]; exact dg_ne _) (by rw [tx_len]; omega), e, dg_val]
   congr 1; omega
 obtain ⟨c, l, hcl⟩ := List.exists_cons_of_ne_nil (dg_ne n.natAbs)
 have hc : 48 <= c /\ c <= 57 := dg_dig n.natAbs c (by rw [hcl]; simp)
 have hg : (dg n.natAbs)[(0 : Int).toNat]? = some c := by rw [hcl]; rfl
 have hok : okD 60 (.str (Tx (tn n))) = true := ok_all (tn_sig n)
 have hok1 : okD 60 (.str (Tx [c])) = true := ok_all (by intro d hd; simp at hd; omega)
 have hok0 : okD 60 (.str (Tx [48])) = true := ok_all (by decide)
 have hsw : ((tn n).head? == some 45) = decide (n < 0) := by
  unfold tn
  by_cases hn : n < 0
  ·rw [if_pos hn]; simp [hn]
  ·rw [if_neg hn, hcl]; simp [hn]; omega
 have h60 : (60 : Int) = 60 := rfl
 have hfig : m_check_text [.str (Tx (tn n))] = some .non := chk _
 have hix := fun μ => sv_ix (μ := μ) (i := 0) (l := dg n.natAbs) (c := c) (by decide) (by omega) hg
 by_cases hn : n < 0
 ·have hd : (tn n).drop 1 = dg n.natAbs := by unfold tn; rw [if_pos hn]; rfl
  have hfr : ∀ μ : Store, slS (.v (.str (Tx (tn n)))) (some (1 : Int)) none μ = some (.v (.str (Tx ((tn n).drop 1))), μ) := fun μ => sv_from (μ := μ) (l := tn n) (n := 1) (by unfold tn; rw [if_pos hn]; simp) hs
  have h48 : c ≠ 48 := fun e => dg_head n.natAbs (by omega) (by rw [hcl, e]; rfl)
  rw [hd] at hfr
  push_cast [b_read_number, sv_it, sv_it1, sv_ch, sv_ch1, sv_ch2, sv_ch3, sv_ch4, sv_abs, sv_ss, sv_ss1, sv_ss2, sv_ss3, sv_add, sv_in, sv_nin, sv_sw, sv_eq, tx_min, tx_0, hfig, hsw, hn, decide_true, hfr, hm, hix, hok1, hok0, eq48 h48, sv_int (by omega) hi]
 ·have ht' : tn n = dg n.natAbs := by unfold tn; rw [if_neg hn]
  by_cases h0 : n = 0
  ·subst h0
   have e : dg (Int.natAbs 0) = [48] := by rw [dg_lt (by decide)]; rfl
   have et : tn 0 = [48] := by unfold tn; rw [if_neg (by decide)]; exact e
   rw [e] at hm hix
   have hc48 : c = 48 := by rw [e] at hcl; injection hcl with h1; exact h1.symm
   subst hc48
   rw [et] at hfig hi ⊢
   have hsw : (([48] : List Nat).head? == some 45) = false := rfl
   push_cast [b_read_number, sv_it, sv_it1, sv_ch, sv_ch1, sv_ch2, sv_ch3, sv_ch4, sv_abs, sv_ss, sv_ss1, sv_ss2, sv_ss3, sv_add, sv_in, sv_nin, sv_sw, sv_eq, tx_min, tx_0, hfig, hsw, hm, hix, hok0, beq_self_eq_true, sv_int (by simp) hi]
  ·have h48 : c ≠ 48 := fun e => dg_head n.natAbs (by omega) (by rw [hcl, e]; rfl)
   rw [ht'] at hfig hsw hi ⊢
   push_cast [b_read_number, sv_it, sv_it1, sv_ch, sv_ch1, sv_ch2, sv_ch3, sv_ch4, sv_abs, sv_ss, sv_ss1, sv_ss2, sv_ss3, sv_add, sv_in, sv_nin, sv_sw, sv_eq, tx_min, tx_0, hfig, hsw, hn, decide_false, hm, hix, hok1, hok0, eq48 h48, sv_int (by omega) hi]
end LW
namespace LW
open PySem HW L2 PyProof.Rows PySem.NumText PySem.W
theorem cut_at {c : Nat} : ∀ {a b u v : List Nat}, c ∉ a -> c ∉ b -> a ++ c :: u = b ++ c :: v -> a = b /\ u = v
 | [], [], u, v, _, _, h => by injection h with _ h; exact ⟨rfl, h⟩
 | [], y :: b, u, v, _, hb, h => by injection h with h _; exact absurd (by rw [h]; simp) hb
 | x :: a, [], u, v, ha, _, h => by injection h with h _; exact absurd (by rw [h]; simp) ha
 | x :: a, y :: b, u, v, ha, hb, h => by
  injection h with h1 h2
  obtain ⟨e1, e2⟩ := cut_at (fun q => ha (by simp [q])) (fun q => hb (by simp [q])) h2
  exact ⟨by rw [h1, e1], e2⟩
theorem join_uniq (c : Nat) : ∀ {A B : List Str}, A ≠ [] -> B ≠ [] -> (∀ p ∈ A, c ∉ p.cps.toList) -> (∀ p ∈ B, c ∉ p.cps.toList) -> Str.join ⟨#[c]⟩ A = Str.join ⟨#[c]⟩ B -> A = B
 | [], _, h, _, _, _, _ => absurd rfl h
 | _, [], _, h, _, _, _ => absurd rfl h
 | [a], [b], _, _, _, _, h => by
  have : a = b := h
  rw [this]
 | [a], b :: b' :: r, _, _, ha, hb, h => by
  have e : a = b ++ ⟨#[c]⟩ ++ Str.join ⟨#[c]⟩ (b' :: r) := h
  refine absurd ?_ (ha a (by simp))
  rw [e]
  show c ∈ ((b.cps ++ #[c]) ++ (Str.join ⟨#[c]⟩ (b' :: r)).cps).toList
  simp
 | a :: a' :: q, [b], _, _, ha, hb, h => by
  have e : a ++ ⟨#[c]⟩ ++ Str.join ⟨#[c]⟩ (a' :: q) = b := h
  refine absurd ?_ (hb b (by simp))
  rw [← e]
  show c ∈ ((a.cps ++ #[c]) ++ (Str.join ⟨#[c]⟩ (a' :: q)).cps).toList
  simp
 | a :: a' :: q, b :: b' :: r, _, _, ha, hb, h => by
  have e : a ++ ⟨#[c]⟩ ++ Str.join ⟨#[c]⟩ (a' :: q) = b ++ ⟨#[c]⟩ ++ Str.join ⟨#[c]⟩ (b' :: r) := h
  have e1 : a.cps.toList ++ c :: (Str.join ⟨#[c]⟩ (a' :: q)).cps.toList = b.cps.toList ++ c :: (Str.join ⟨#[c]⟩ (b' :: r)).cps.toList := by
   have := congrArg (fun s : Str => s.cps.toList) e
   simp only [Str.cps_append, Array.toList_append] at this
   simpa using this
  obtain ⟨h1, h2⟩ := cut_at (ha a (by simp)) (hb b (by simp)) e1
  have h1' : a = b := Str.ext' (Array.toList_inj.mp h1)
  have h2' : Str.join ⟨#[c]⟩ (a' :: q) = Str.join ⟨#[c]⟩ (b' :: r) := Str.ext' (Array.toList_inj.mp h2)
  rw [h1', join_uniq c (by simp) (by simp) (fun p hp => ha p (List.mem_cons_of_mem _ hp)) (fun p hp => hb p (List.mem_cons_of_mem _ hp)) h2']
theorem split_ne (x y : Str) : Txt.split x y ≠ [] := by
 unfold Txt.split
 split
 ·simp
 ·split
  ·simp
  ·unfold Builtin.Str.partsBetween
   cases Builtin.Str.occurrences x y 0 x.length (x.length + 1) <;> simp
theorem split_join (c : Nat) (ws : List Str) (h0 : ws ≠ []) (hf : ∀ p ∈ ws, c ∉ p.cps.toList) : Txt.split (Txt.join ⟨#[c]⟩ ws) ⟨#[c]⟩ = ws := by
 refine join_uniq c (split_ne _ _) h0 (PySem.StrLaws.split_free _ c) hf ?_
 rw [PySem.StrLaws.join_split]
 exact PySem.StrLaws.glued_eq_join _ _
theorem tx_sp : (Str.ofString " ") = ⟨#[32]⟩ := by decide +kernel
theorem fold_le (k : Nat) (ws : List Str) (h : ∀ w ∈ ws, w.length <= k) : ∀ acc, ws.foldl (fun a w => a + w.length + (⟨#[32]⟩ : Str).length) acc <= acc + ws.length * (k + 1) := by
 induction ws with
 | nil => intro acc; simp
 | cons w r ih =>
  intro acc
  have h1 := h w (by simp)
  have := ih (fun v hv => h v (by simp [hv])) (acc + w.length + (⟨#[32]⟩ : Str).length)
  have e : (⟨#[32]⟩ : Str).length = 1 := rfl
  simp only [List.foldl_cons, List.length_cons]
  rw [e] at this ⊢
  refine Nat.le_trans this ?_
  rw [Nat.add_mul]
  omega
theorem join_ok (ws : List Str) (h : ∀ w ∈ ws, w.length <= 70) (hl : ws.length < 4000) : JoinOk ⟨#[32]⟩ ws = true := by
 unfold JoinOk Builtin.Str.tooLong
 have := fold_le 70 ws h 0
 rw [← List.foldl_toArray'] at this
 ·simp only [Bool.not_eq_true', decide_eq_false_iff_not, Nat.not_lt]
  refine Nat.le_trans this ?_
  have h4 : (1000000 : Nat) <= sizeLine := by decide
  have : ws.length * 71 <= 4000 * 71 := Nat.mul_le_mul_right _ (by omega)
  omega
 ·rfl
theorem join_len (ws : List Str) (h : ∀ w ∈ ws, w.length <= 70) (hl : ws.length < 4000) : (Txt.join ⟨#[32]⟩ ws).length < 1000000 := by
 have e : Txt.join ⟨#[32]⟩ ws = Str.join ⟨#[32]⟩ ws := PySem.StrLaws.glued_eq_join _ _
 rw [e]
 have h1 := PySem.StrLaws.join_length_le ⟨#[32]⟩ ws
 have h2 : (ws.map (·.length)).sum <= ws.length * 70 := by
  clear h1 e hl
  induction ws with
  | nil => simp
  | cons w r ih =>
   have := ih fun v hv => h v (by simp [hv])
   have := h w (by simp)
   simp only [List.map_cons, List.sum_cons, List.length_cons]
   omega
 have h3 : ws.length * 70 <= 4000 * 70 := Nat.mul_le_mul_right _ (by omega)
 have h4 : (⟨#[32]⟩ : Str).length = 1 := rfl
 rw [h4] at h1
 omega
end LW
namespace LW
open PySem HW L2 PyProof.Rows PySem.NumText PySem.W
theorem far_ex (ns : List Int) (k : Int) : ∃ d, m_law_far [.fl (ns.map .int), .int k] = some (.int d) /\ 0 <= d /\ d < 10 ^ 50 := by
 rw [u_law_far]
 by_cases h : ns = []
 ·subst h
  exact ⟨0, by push_cast [b_law_far, Int.natCast_zero, beq_self_eq_true], by omega, by decide⟩
 ·have hl : 0 < ns.length := List.length_pos_iff.mpr h
  have e0 : ((ns.length : Int) == 0) = false := by simp; omega
  obtain ⟨c, hc⟩ := cell_at ns k h
  obtain ⟨a, ea, ba⟩ := draw_ex ns k 100000000 (by decide)
  obtain ⟨T, hT⟩ : ∃ T : Int, T = 10 ^ 50 := ⟨_, rfl⟩
  have T0 : 0 < T := by rw [hT]; decide
  have p1 : ∀ μ : Store, powD (.v (.int 10)) (.v (.int 50)) μ = some (.v (.int T), μ) := fun μ => by rw [hT]; exact ev_pow (by decide)
  rw [← hT]
  push_cast [b_law_far, e0, List.length_map, ea, ev_mod (i := k) (j := (ns.length : Int)) (by omega), hc, p1, ev_mod (i := c) T0, ev_mulR (i := c % T) (j := a + 1) (by omega), ev_pow (i := a + 1) (j := 5) (by omega), ev_mod (j := T) T0]
  exact ⟨_, rfl, emod_b _ T0⟩
noncomputable abbrev az : List Nat := [97, 98, 99, 100, 101, 102, 103, 104, 105, 106, 107, 108, 109, 110, 111, 112, 113, 114, 115, 116, 117, 118, 119, 120, 121, 122]
theorem tx_az : (Str.ofString "abcdefghijklmnopqrstuvwxyz") = Tx az := by decide +kernel
theorem az_at : ∀ m : Nat, m < 26 -> ∃ c, c ∈ az /\ az[m]? = some c := by decide
theorem az_b : ∀ c ∈ az, 97 <= c /\ c <= 122 := by decide
theorem law_name (ns : List Int) (k : Int) : ∃ l : List Nat, m_law_name [.fl (ns.map .int), .int k] = some (.str (Tx l)) /\ 1 <= l.length /\ l.length <= 8 /\ ∀ c ∈ l, c ∈ az := by
 rw [u_law_name]
 obtain ⟨d, ed, bd⟩ := draw_ex ns k 8 (by decide)
 obtain ⟨n, hn⟩ : ∃ n : Nat, 1 + d = (n : Int) := ⟨(1 + d).toNat, by omega⟩
 have h62 : -(2 ^ 62 : Int) <= (n : Int) /\ (n : Int) < 2 ^ 62 := by omega
 obtain ⟨ρ', μ', e, l, x3, rfl, rfl, hl, ha⟩ := loop_range (g := gNm 3) (b := l_law_name_0) (ρ := [some (.v (.fl (ns.map .int))), some (.v (.int k)), some (.v (.str (Tx []))), none]) (μ := []) n
  (fun i ρ μ => ∃ l x3, ρ = [some (.v (.fl (ns.map .int))), some (.v (.int k)), some (.v (.str (Tx l))), x3] /\ μ = [] /\ l.length = i /\ ∀ c ∈ l, c ∈ az)
  ⟨[], none, rfl, rfl, rfl, by simp⟩ (by
   rintro i hi ρ μ ⟨l, x3, rfl, rfl, hl, ha⟩
   obtain ⟨a, ea, ba⟩ := draw_ex ns (k + 1 + i) 26 (by decide)
   obtain ⟨m, rfl⟩ : ∃ m : Nat, a = (m : Int) := ⟨a.toNat, by omega⟩
   obtain ⟨c, hc, ec⟩ := az_at m (by omega)
   have hz : l.length + 1 <= sizeLine := small'' (by omega)
   have hix := fun μ => sv_ix (μ := μ) (i := (m : Int)) (l := az) (c := c) (by omega) (by decide) (by rw [Int.toNat_natCast]; exact ec)
   push_cast [l_law_name_0, ea, tx_az, hix, sv_it, sv_it1, sv_ch, sv_ch1, sv_ch2, sv_ch3, sv_ch4, sv_abs, sv_ss, sv_ss1, sv_ss2, sv_ss3, sv_add, sv_in, sv_nin, sv_sw, sv_eq, if_pos hz]
   exact ⟨_, _, rfl, l ++ [c], _, rfl, rfl, by simp; omega, by intro x hx; rcases List.mem_append.mp hx with h | h; exact ha x h; simp at h; rw [h]; exact hc⟩)
 refine ⟨l, ?_, by omega, by omega, ha⟩
 rw [← tx_nil] at e
 push_cast [b_law_name, ed, hn, ev_r11 h62, Int.toNat_natCast, e]
def Sm (n : Int) : Prop := n.natAbs < 10 ^ 60
theorem p60 {T : Int} (hT : T = 10 ^ 60) (μ : Store) : powD (.v (.int 10)) (.v (.int 60)) μ = some (.v (.int T), μ) := by rw [hT]; exact ev_pow (by decide)
theorem sm_of {n : Int} (h : -(10 ^ 60 : Int) < n /\ n < 10 ^ 60) : Sm n := by
 unfold Sm
 have : ((10 ^ 60 : Nat) : Int) = 10 ^ 60 := by decide
 omega
theorem law_number (ns : List Int) (k : Int) : ∃ n, m_law_number [.fl (ns.map .int), .int k] = some (.int n) /\ Sm n := by
  rw [u_law_number]
  obtain ⟨w, ew, bw⟩ := draw_ex ns k 5 (by decide)
  obtain ⟨a, ea, ba⟩ := draw_ex ns (k + 1) 25 (by decide)
  obtain ⟨b, eb, bb⟩ := draw_ex ns (k + 1) 3 (by decide)
  obtain ⟨f, ef, bf⟩ := far_ex ns (k + 1)
  obtain ⟨T, hT⟩ : ∃ T : Int, T = 10 ^ 60 := ⟨_, rfl⟩
  obtain ⟨U, hU⟩ : ∃ U : Int, U = 10 ^ 49 := ⟨_, rfl⟩
  have q60 := p60 hT
  have q49 : ∀ μ : Store, powD (.v (.int 10)) (.v (.int 49)) μ = some (.v (.int U), μ) := fun μ => by rw [hU]; exact ev_pow (by decide)
  have hs : ∀ n : Int, -T < n /\ n < T -> Sm n := fun n h => sm_of (by rw [← hT]; exact h)
  have T1 : 1000 < T := by rw [hT]; decide
  have TU : 10 * U < T /\ 0 < U := by rw [hT, hU]; decide
  have bf' : f < 10 * U := by have : (10 : Int) * U = 10 ^ 50 := by rw [hU]; decide
                              rw [this]; exact bf.2
  by_cases h1 : w < 2
  · push_cast [b_law_number, ew, ea, h1, decide_true]
    exact ⟨_, rfl, hs _ (by omega)⟩
  by_cases h2 : w = 2
  · subst h2
    push_cast [b_law_number, ew, eb, h1, decide_false, beq_self_eq_true, q60]
    exact ⟨_, rfl, hs _ (by omega)⟩
  by_cases h3 : w = 3
  · subst h3
    push_cast [b_law_number, ew, eb, h1, decide_false, beq_self_eq_true, q60, show ((3 : Int) == 2) = false from rfl]
    exact ⟨_, rfl, hs _ (by omega)⟩
  · have e2 : (w == 2) = false := by simp [h2]
    have e3 : (w == 3) = false := by simp [h3]
    push_cast [b_law_number, ew, ef, h1, decide_false, e2, e3, q49, ev_mulL (i := 5) (j := U) (by decide)]
    exact ⟨_, rfl, hs _ (by omega)⟩
end LW
namespace LW
open PySem HW L2
section
variable {ρ : Lo} {μ μ' μ1 : Store} {r q i n : Nat} {W : List Str} {w : Str} {d : D}
noncomputable abbrev rdF (q : Nat) (i : Int) : List (Str × R) := [("words", .p q), ("place", .v (.int i))]
theorem sWP : (("place" : Str) == "words") = false := by decide +kernel
theorem sWP' : ¬ (("words" : Str) = "place") := by decide +kernel
structure RS (r q : Nat) (W : List Str) (i : Nat) (μ : Store) : Prop where
 ob : μ[r]? = some (.ob "Reader" (rdF q i))
 ws : μ[q]? = some (.lst (W.map .str))
 sm : W.length < 4000
structure Fr (r : Nat) (μ μ' : Store) : Prop where
 le : μ.length <= μ'.length
 eq : ∀ n, n < μ.length -> n ≠ r -> μ'[n]? = μ[n]?
theorem Fr.refl : Fr r μ μ := ⟨Nat.le_refl _, fun _ _ _ => rfl⟩
theorem Fr.trans (a : Fr r μ μ1) (b : Fr r μ1 μ') : Fr r μ μ' := ⟨Nat.le_trans a.le b.le, fun n h h' => (b.eq n (Nat.lt_of_lt_of_le h a.le) h').trans (a.eq n h h')⟩
theorem Fr.new (c : Cell) : Fr r μ (μ ++ [c]) := ⟨by simp, fun n h _ => List.getElem?_append_left h⟩
theorem Fr.set (c : Cell) : Fr r μ (μ.set r c) := ⟨by simp, fun n _ h => List.getElem?_set_ne (Ne.symm h)⟩
theorem RS.lt (h : RS r q W i μ) : r < μ.length := (List.getElem?_eq_some_iff.mp h.ob).1
theorem RS.qlt (h : RS r q W i μ) : q < μ.length := (List.getElem?_eq_some_iff.mp h.ws).1
theorem RS.qr (h : RS r q W i μ) : q ≠ r := fun e => by have := h.ws; rw [e, h.ob] at this; cases this
theorem RS.new (h : RS r q W i μ) (c : Cell) : RS r q W i (μ ++ [c]) := ⟨by rw [List.getElem?_append_left h.lt]; exact h.ob, by rw [List.getElem?_append_left h.qlt]; exact h.ws, h.sm⟩
theorem RS.put (h : RS r q W i μ) (j : Nat) : RS r q W j (μ.set r (.ob "Reader" (rdF q j))) :=
 ⟨List.getElem?_set_self h.lt, by rw [List.getElem?_set_ne (Ne.symm h.qr)]; exact h.ws, h.sm⟩
def Rd (o : Option (R × Store)) (r q : Nat) (W : List Str) (μ : Store) (j : Nat) (d : D) : Prop := ∃ μ', o = some (.v d, μ') /\ RS r q W j μ' /\ Fr r μ μ'
theorem at_mapS {xs : List Str} {k : Nat} {a : Str} (h : xs[k]? = some a) : L2.atI (xs.map D.str) (k : Int) = some (.str a) := by
 have hk := (List.getElem?_eq_some_iff.mp h).1
 refine at_int (by omega) ?_
 simp [h]
theorem e_fldA {c fl : Str} {fs : List (Str × R)} {x : R} {s : Nat} {fo : FE} (ho : fo ρ μ = some (.p s, μ)) (h : μ[s]? = some (.ob c fs)) (hf : fs.lookup fl = some x) : fFld c fl fo ρ μ = some (x, μ) := by
 simp [fFld, ho, obOf, h, hf]
theorem lk1 {j : Int} : (rdF q j).lookup ("words" : Str) = some (R.p q) := by simp [List.lookup_cons]
theorem lk2 {j : Int} : (rdF q j).lookup ("place" : Str) = some (R.v (.int j)) := by simp [List.lookup_cons, sWP]
theorem f_ws {fo : FE} (h : RS r q W i μ) (ho : fo ρ μ = some (.p r, μ)) : fFld "Reader" "words" fo ρ μ = some (.p q, μ) := e_fldA ho h.ob lk1
theorem f_pl {fo : FE} (h : RS r q W i μ) (ho : fo ρ μ = some (.p r, μ)) : fFld "Reader" "place" fo ρ μ = some (.v (.int i), μ) := e_fldA ho h.ob lk2
theorem a_pl (h : RS r q W i μ) : sAugF "Reader" "place" (fVar 0) 1 [some (.p r)] μ = some (.nx [some (.p r)] (μ.set r (.ob "Reader" (rdF q (i + 1 : Nat))))) := by
 have e : (fVar 0) [some (R.p r)] μ = some (.p r, μ) := rfl
 have pf : putFR "place" (.v (.int ((i : Int) + 1))) (rdF q i) = rdF q (i + 1 : Nat) := by simp [putFR, sWP']
 unfold sAugF
 simp only [e, Option.bind_some, obOf, h.ob, if_true, lk2]
 rw [pf]
 simp
theorem e_methR {nm : Str} {f : MW} {fo : FE} {m : Nat} (h : RS r q W i μ) (ho : fo ρ μ = some (.p r, μ)) (h1 : (nm == "words") = false) (h2 : (nm == "place") = false) : fMeth "Reader" nm f 1 fo fNil ρ μ = f [.p r] μ := by
 simp [fMeth, ho, obOf, h.ob, List.lookup_cons, h1, h2, fNil]
theorem lst_len (h : RS r q W i μ) : lenD [.p q] μ = some (.v (.int W.length), μ) := by
 have z : (W.map D.str).length <= sizeLine := small'' (by rw [List.length_map]; exact h.sm)
 push_cast [h.ws, z, if_true, List.length_map]
theorem word_eq (h : RS r q W i μ) (hw : W[i]? = some w) : w_Reader_word [.p r] μ = some (.v (.str w), μ.set r (.ob "Reader" (rdF q (i + 1 : Nat)))) := by
 have hi := (List.getElem?_eq_some_iff.mp hw).1
 have z : (W.map D.str).length <= sizeLine := small'' (by rw [List.length_map]; exact h.sm)
 have e0 : ((i : Int) == (W.length : Int)) = false := by simp; omega
 have p2 := h.put (i + 1)
 have a1 : L2.atI (W.map D.str) ((i + 1 : Nat) - 1 : Int) = some (.str w) := by
  rw [show ((i + 1 : Nat) - 1 : Int) = (i : Int) by omega]
  exact at_mapS hw
 rw [u_Reader_word]
 push_cast [b_Reader_word, f_ws h (fo := fVar 0) (ρ := [some (R.p r)]) rfl, f_pl h (fo := fVar 0) (ρ := [some (R.p r)]) rfl, lst_len h, e0, a_pl h, f_ws p2 (fo := fVar 0) (ρ := [some (R.p r)]) rfl, f_pl p2 (fo := fVar 0) (ρ := [some (R.p r)]) rfl, p2.ws, a1, if_true, Nat.reduceAdd, Bool.and_self]
 rfl
end
end LW
namespace LW
open PySem HW L2
section
variable {ρ : Lo} {μ μ' μ1 : Store} {r q i n : Nat} {W : List Str} {w : Str} {d : D}
def At (W : List Str) (i : Nat) (ws : List Str) : Prop := ws <+: W.drop i
theorem At.left {a b : List Str} (h : At W i (a ++ b)) : At W i a := (List.prefix_append a b).trans h
theorem At.right {a b : List Str} (h : At W i (a ++ b)) : At W (i + a.length) b := by
 obtain ⟨t, e⟩ := h
 refine ⟨t, ?_⟩
 rw [← List.drop_drop, ← e, List.append_assoc, List.drop_left]
theorem At.head {a : Str} {b : List Str} (h : At W i (a :: b)) : W[i]? = some a := by
 obtain ⟨t, e⟩ := h
 have := congrArg (fun l => l[0]?) e
 simpa using this.symm
theorem At.tail {a : Str} {b : List Str} (h : At W i (a :: b)) : At W (i + 1) b := At.right (a := [a]) h
theorem n_w : (("word" : Str) == "words") = false := by decide +kernel
theorem n_w' : (("word" : Str) == "place") = false := by decide +kernel
theorem n_l : (("letters" : Str) == "words") = false := by decide +kernel
theorem n_l' : (("letters" : Str) == "place") = false := by decide +kernel
theorem n_n : (("number" : Str) == "words") = false := by decide +kernel
theorem n_n' : (("number" : Str) == "place") = false := by decide +kernel
theorem n_m : (("many" : Str) == "words") = false := by decide +kernel
theorem n_m' : (("many" : Str) == "place") = false := by decide +kernel
theorem n_s : (("numbers" : Str) == "words") = false := by decide +kernel
theorem n_s' : (("numbers" : Str) == "place") = false := by decide +kernel
theorem n_f : (("finish" : Str) == "words") = false := by decide +kernel
theorem n_f' : (("finish" : Str) == "place") = false := by decide +kernel
theorem m_word {fo : FE} (h : RS r q W i μ) (ho : fo ρ μ = some (.p r, μ)) (hw : W[i]? = some w) : fMeth "Reader" "word" w_Reader_word 1 fo fNil ρ μ = some (.v (.str w), μ.set r (.ob "Reader" (rdF q (i + 1 : Nat)))) := by
 rw [e_methR (m := 1) h ho n_w n_w', word_eq h hw]
theorem letters_eq (h : RS r q W i μ) (hw : W[i]? = some w) (hl : m_read_letters [.str w] = some (.str w)) : w_Reader_letters [.p r] μ = some (.v (.str w), μ.set r (.ob "Reader" (rdF q (i + 1 : Nat)))) := by
 rw [u_Reader_letters]
 push_cast [b_Reader_letters, m_word h (ρ := [some (R.p r)]) (fo := fVar 0) rfl hw, hl]
 rfl
theorem number_eq {k : Int} (h : RS r q W i μ) (hw : W[i]? = some (Tx (tn k))) (hk : k.natAbs < 10 ^ 60) : w_Reader_number [.p r] μ = some (.v (.int k), μ.set r (.ob "Reader" (rdF q (i + 1 : Nat)))) := by
 rw [u_Reader_number]
 push_cast [b_Reader_number, m_word h (ρ := [some (R.p r)]) (fo := fVar 0) rfl hw, rd_number k hk]
 rfl
theorem rd_from {k : Int} (h0 : 0 <= k) (hk : k.natAbs < 10 ^ 60) : m_read_number_from [.str (Tx (tn k)), .int 0] = some (.int k) := by
 have e : decide (k < 0) = false := decide_eq_false (by omega)
 rw [u_read_number_from]
 push_cast [b_read_number_from, rd_number k hk, e]
theorem many_eq {k : Int} (h : RS r q W i μ) (hw : W[i]? = some (Tx (tn k))) (h0 : 0 <= k) (hk : k.natAbs < 10 ^ 60) : w_Reader_many [.p r] μ = some (.v (.int k), μ.set r (.ob "Reader" (rdF q (i + 1 : Nat)))) := by
 rw [u_Reader_many]
 push_cast [b_Reader_many, m_word h (ρ := [some (R.p r)]) (fo := fVar 0) rfl hw, rd_from h0 hk]
 rfl
theorem m_number {fo : FE} {k : Int} (h : RS r q W i μ) (ho : fo ρ μ = some (.p r, μ)) (hw : W[i]? = some (Tx (tn k))) (hk : k.natAbs < 10 ^ 60) : fMeth "Reader" "number" w_Reader_number 1 fo fNil ρ μ = some (.v (.int k), μ.set r (.ob "Reader" (rdF q (i + 1 : Nat)))) := by
 rw [e_methR (m := 1) h ho n_n n_n', number_eq h hw hk]
theorem m_many {fo : FE} {k : Int} (h : RS r q W i μ) (ho : fo ρ μ = some (.p r, μ)) (hw : W[i]? = some (Tx (tn k))) (h0 : 0 <= k) (hk : k.natAbs < 10 ^ 60) : fMeth "Reader" "many" w_Reader_many 1 fo fNil ρ μ = some (.v (.int k), μ.set r (.ob "Reader" (rdF q (i + 1 : Nat)))) := by
 rw [e_methR (m := 1) h ho n_m n_m', many_eq h hw h0 hk]
theorem comp_rd {f : FE} {rest : Lo} : ∀ (pw : List (D × List Str × D)) (i : Nat) (μ : Store) (x0 : Option R), RS r q W i μ -> At W i (pw.flatMap (·.2.1)) ->
  (∀ p ∈ pw, ∀ i μ, RS r q W i μ -> At W i p.2.1 -> Rd (f (some (.v p.1) :: rest) μ) r q W μ (i + p.2.1.length) p.2.2) ->
  ∃ μ', compL (gNm 0) cYes f (pw.map (·.1)) (x0 :: rest) μ = some (pw.map (·.2.2), μ') /\ RS r q W (i + (pw.flatMap (·.2.1)).length) μ' /\ Fr r μ μ'
 | [], i, μ, x0, h, ha, hp => ⟨μ, rfl, h, Fr.refl⟩
 | p :: pw, i, μ, x0, h, ha, hp => by
  rw [List.flatMap_cons] at ha
  obtain ⟨μ1, e1, h1, f1⟩ := hp p List.mem_cons_self i μ h ha.left
  obtain ⟨μ2, e2, h2, f2⟩ := comp_rd pw _ μ1 (some (.v p.1)) h1 ha.right fun p' hp' => hp p' (List.mem_cons_of_mem _ hp')
  refine ⟨μ2, ?_, by rw [List.flatMap_cons, List.length_append, ← Nat.add_assoc]; exact h2, f1.trans f2⟩
  rw [List.map_cons, compL]
  show ((f (some (.v p.1) :: rest) μ).bind _) = _
  rw [e1]
  show (compL (gNm 0) cYes f (pw.map (·.1)) (some (.v p.1) :: rest) μ1).bind _ = _
  rw [e2]
  rfl
noncomputable abbrev wN (k : Int) : Str := Tx (tn k)
noncomputable abbrev wC (cs : List Int) : List Str := wN cs.length :: cs.map wN
noncomputable abbrev prD (p : Int × Int) : D := .tup [.int p.1, .int p.2]
noncomputable abbrev wP (ps : List (Int × Int)) : List Str := wN ps.length :: ps.flatMap fun p => [wN p.1, wN p.2]
def Nm (k : Int) : Prop := k.natAbs < 10 ^ 60
theorem nm_len {α : Type} {l : List α} (h : l.length < 1000) : Nm (l.length : Int) := by
 show ((l.length : Nat) : Int).natAbs < 10 ^ 60
 rw [Int.natAbs_natCast]
 exact Nat.lt_trans h (by decide)
theorem zip_rng {α : Type} (l : List α) : l.zipIdx.map (fun p => D.int (p.2 : Nat)) = (List.range l.length).map fun i => D.int (i : Nat) := by
 have : l.zipIdx.map (fun p => D.int (p.2 : Nat)) = (l.zipIdx.map Prod.snd).map fun i => D.int (i : Nat) := by rw [List.map_map]; rfl
 rw [this, List.zipIdx_map_snd, List.range_eq_range']
theorem zip_fst {α β : Type} (l : List α) (f : α -> β) : l.zipIdx.map (fun p => f p.1) = l.map f := by
 have : l.zipIdx.map (fun p => f p.1) = (l.zipIdx.map Prod.fst).map f := by rw [List.map_map]; rfl
 rw [this, List.zipIdx_map_fst]
theorem zip_flat {α β : Type} (l : List α) (f : α -> List β) : l.zipIdx.flatMap (fun p => f p.1) = l.flatMap f := by
 rw [List.flatMap_def, zip_fst, ← List.flatMap_def]
theorem flat1 {α β : Type} {f : α -> β} : ∀ l : List α, l.flatMap (fun c => [f c]) = l.map f
 | [] => rfl
 | a :: l => by rw [List.flatMap_cons, flat1 l]; rfl
theorem lke {cs : List Cell} {c : Cell} : (cs ++ [c])[cs.length]? = some c := by simp
theorem comp_many {α : Type} {f : FE} {rest : Lo} (ws : α -> List Str) (out : α -> D) (l : List α) (h : RS r q W i μ) (ha : At W i (l.flatMap ws)) (x0 : Option R)
  (hp : ∀ a ∈ l, ∀ x i μ, RS r q W i μ -> At W i (ws a) -> Rd (f (x :: rest) μ) r q W μ (i + (ws a).length) (out a)) :
  ∃ μ', compL (gNm 0) cYes f ((List.range l.length).map fun i => D.int (i : Nat)) (x0 :: rest) μ = some (l.map out, μ') /\ RS r q W (i + (l.flatMap ws).length) μ' /\ Fr r μ μ' := by
 have c := comp_rd (f := f) (rest := rest) (l.zipIdx.map fun p => (D.int (p.2 : Nat), ws p.1, out p.1)) i μ x0 h (by rw [List.flatMap_map]; simp only [zip_flat]; exact ha) (by
  intro p hp' i μ h' ha'
  obtain ⟨p', hm, rfl⟩ := List.mem_map.mp hp'
  exact hp p'.1 (by have := List.mem_map_of_mem (f := Prod.fst) hm; rwa [List.zipIdx_map_fst] at this) _ i μ h' ha')
 rw [List.flatMap_map, List.map_map, List.map_map] at c
 simp only [Function.comp_def, zip_flat, zip_rng, zip_fst] at c
 exact c
theorem numbers_eq {cs : List Int} (h : RS r q W i μ) (ha : At W i (wC cs)) (hl : cs.length < 1000) (hc : ∀ c ∈ cs, Nm c) : Rd (w_Reader_numbers [.p r] μ) r q W μ (i + (wC cs).length) (.tup (cs.map .int)) := by
 have m := m_many (ρ := [some (R.p r)]) (fo := fVar 0) h rfl ha.head (by omega) (nm_len hl)
 have p1 := h.put (i + 1)
 obtain ⟨μ2, e2, h2, f2⟩ := comp_many (f := fMeth "Reader" "number" w_Reader_number 1 (fVar 1) fNil) (rest := [some (.p r)]) (fun c => [wN c]) D.int cs p1 (by
   rw [flat1]; exact ha.tail) none (fun c hc' x i μ h' ha' => ⟨_, m_number h' rfl ha'.head (hc c hc'), h'.put (i + 1), Fr.set _⟩)
 have z : ((List.range cs.length).map fun i => D.int (i : Nat)).length <= sizeLine := small'' (by simp; omega)
 have b : blockLo 1 [0] [some (R.p r)] = [none, some (.p r)] := rfl
 have tn : ((cs.length : Int)).toNat = cs.length := by simp
 have r1 := ev_r11 (j := (cs.length : Int)) (μ := μ.set r (.ob "Reader" (rdF q (i + 1 : Nat)))) (by omega)
 have len : (wC cs).length = 1 + (cs.flatMap (fun c => [wN c])).length := by rw [flat1]; simp [Nat.add_comm]
 refine ⟨_, ?_, ?_, ((Fr.set _).trans f2).trans (Fr.new (.lst (cs.map .int)))⟩
 ·rw [u_Reader_numbers]
  push_cast [b_Reader_numbers, m, r1, tn, z, b, e2, lke]
  rfl
 ·rw [len, ← Nat.add_assoc]
  exact h2.new _
end
end LW
namespace LW
open PySem HW L2
theorem o_ask : okD 60 (.str "ask") = true := by kernel_rfl
theorem o_column : okD 60 (.str "column") = true := by kernel_rfl
theorem o_columns : okD 60 (.str "columns") = true := by kernel_rfl
theorem o_number : okD 60 (.str "number") = true := by kernel_rfl
theorem o_pairs : okD 60 (.str "pairs") = true := by kernel_rfl
theorem o_word : okD 60 (.str "word") = true := by kernel_rfl
theorem o_name : okD 60 (.str "name") = true := by kernel_rfl
structure Kd (s : Str) (a c n cs ps : Bool) : Prop where
 ok : okD 60 (.str s) = true
 a : eqD (.str s) (.str "ask") = a
 c : eqD (.str s) (.str "column") = c
 n : eqD (.str s) (.str "number") = n
 cs : eqD (.str s) (.str "columns") = cs
 ps : eqD (.str s) (.str "pairs") = ps
theorem k_ask : Kd "ask" true false false false false := ⟨by kernel_rfl, by kernel_rfl, by kernel_rfl, by kernel_rfl, by kernel_rfl, by kernel_rfl⟩
theorem k_column : Kd "column" false true false false false := ⟨by kernel_rfl, by kernel_rfl, by kernel_rfl, by kernel_rfl, by kernel_rfl, by kernel_rfl⟩
theorem k_number : Kd "number" false false true false false := ⟨by kernel_rfl, by kernel_rfl, by kernel_rfl, by kernel_rfl, by kernel_rfl, by kernel_rfl⟩
theorem k_columns : Kd "columns" false false false true false := ⟨by kernel_rfl, by kernel_rfl, by kernel_rfl, by kernel_rfl, by kernel_rfl, by kernel_rfl⟩
theorem k_pairs : Kd "pairs" false false false false true := ⟨by kernel_rfl, by kernel_rfl, by kernel_rfl, by kernel_rfl, by kernel_rfl, by kernel_rfl⟩
theorem k_word : Kd "word" false false false false false := ⟨by kernel_rfl, by kernel_rfl, by kernel_rfl, by kernel_rfl, by kernel_rfl, by kernel_rfl⟩
theorem k_name : Kd "name" false false false false false := ⟨by kernel_rfl, by kernel_rfl, by kernel_rfl, by kernel_rfl, by kernel_rfl, by kernel_rfl⟩
structure Lt (w : Str) : Prop where
 rd : m_read_letters [.str w] = some (.str w)
 ok : okD 60 (.str w) = true
 sp : 32 ∉ w.cps.toList
 le : w.length <= 61
inductive Th (A : D -> List Str -> Prop) : D × List Str × D -> Prop
 | ask {a ws} : A a ws -> Th A (.str "ask", ws, a)
 | col {k : Int} : Nm k -> Th A (.str "column", [wN k], .int k)
 | num {k : Int} : Nm k -> Th A (.str "number", [wN k], .int k)
 | cols {cs : List Int} : cs.length < 10 -> (∀ c ∈ cs, Nm c) -> Th A (.str "columns", wC cs, .tup (cs.map .int))
 | pairs {ps : List (Int × Int)} : ps.length < 10 -> (∀ p ∈ ps, Nm p.1 /\ Nm p.2) -> Th A (.str "pairs", wP ps, .tup (ps.map prD))
 | word {w} : Lt w -> Th A (.str "word", [w], .str w)
 | name {w} : Lt w -> Th A (.str "name", [w], .str w)
def AK : Nat -> D -> List Str -> Prop
 | 0 => fun _ _ => False
 | k + 1 => fun a ws => ∃ (wd : Str) (pw : List (D × List Str × D)), m_form_of [.str wd] = some (.tup (pw.map (·.1))) /\ Lt wd /\ a = .tup (.str wd :: pw.map (·.2.2)) /\ ws = wd :: pw.flatMap (·.2.1) /\ pw.length < 10 /\ ∀ p ∈ pw, Th (AK k) p
theorem Th.mono {A B : D -> List Str -> Prop} (h : ∀ a ws, A a ws -> B a ws) {p} (t : Th A p) : Th B p := by
 cases t with
 | ask t => exact .ask (h _ _ t)
 | col t => exact .col t
 | num t => exact .num t
 | cols t u => exact .cols t u
 | pairs t u => exact .pairs t u
 | word t => exact .word t
 | name t => exact .name t
theorem AK.up : ∀ {k a ws}, AK k a ws -> AK (k + 1) a ws
 | 0, _, _, h => h.elim
 | k + 1, a, ws, hh => let ⟨wd, pw, h1, h2, h3, h4, h5, h6⟩ := hh; ⟨wd, pw, h1, h2, h3, h4, h5, fun p hp => (h6 p hp).mono fun _ _ => AK.up⟩
theorem AK.le {k m a ws} (h : AK k a ws) (hm : k <= m) : AK m a ws := by
 induction hm with
 | refl => exact h
 | step _ ih => exact ih.up
section
variable {ρ : Lo} {μ μ' μ1 : Store} {r q i n : Nat} {W : List Str} {w : Str} {d : D} {F : MW} {dp : Int} {s : Str}
theorem rt_ask : w_read_thing F [.p r, .v (.str "ask"), .v (.int dp)] μ = F [.p r, .v (.int (dp + 1))] μ := by
 have k := k_ask
 have e : ∀ o : Option (R × Store), (thRet o).bind finW = o := fun o => by cases o <;> rfl
 have c : fCallW F 2 (fCons (fVar 0) (fCons (fOp addQ (fVar 2) (fK (.int 1))) fNil)) [some (.p r), some (.v (.str "ask")), some (.v (.int dp))] μ = F [.p r, .v (.int (dp + 1))] μ := rfl
 rw [u_read_thing]
 push_cast [b_read_thing, o_ask, k.a, c]
 generalize F [.p r, .v (.int (dp + 1))] μ = o
 cases o <;> rfl
theorem rt_num {k : Int} {a b : Bool} (kd : Kd s false a b false false) (hab : (a || b) = true) (h : RS r q W i μ) (ha : At W i [wN k]) (hk : Nm k) : w_read_thing F [.p r, .v (.str s), .v (.int dp)] μ = some (.v (.int k), μ.set r (.ob "Reader" (rdF q (i + 1 : Nat)))) := by
 have m := m_number (ρ := [some (.p r), some (.v (.str s)), some (.v (.int dp))]) (fo := fVar 0) h rfl ha.head hk
 rw [u_read_thing]
 cases a
 ·cases b
  ·cases hab
  ·push_cast [b_read_thing, kd.ok, o_ask, o_column, o_number, kd.a, kd.c, kd.n, m]; rfl
 ·push_cast [b_read_thing, kd.ok, o_ask, o_column, o_number, kd.a, kd.c, kd.n, m]; rfl
theorem rt_word (kd : Kd s false false false false false) (h : RS r q W i μ) (ha : At W i [w]) (hl : Lt w) : w_read_thing F [.p r, .v (.str s), .v (.int dp)] μ = some (.v (.str w), μ.set r (.ob "Reader" (rdF q (i + 1 : Nat)))) := by
 have m := e_methR (ρ := [some (.p r), some (.v (.str s)), some (.v (.int dp))]) (fo := fVar 0) (f := w_Reader_letters) (m := 1) h rfl n_l n_l'
 rw [letters_eq h ha.head hl.rd] at m
 rw [u_read_thing]
 push_cast [b_read_thing, kd.ok, o_ask, o_column, o_number, o_columns, o_pairs, kd.a, kd.c, kd.n, kd.cs, kd.ps, m]; rfl
theorem rt_cols {cs : List Int} (h : RS r q W i μ) (ha : At W i (wC cs)) (hl : cs.length < 1000) (hc : ∀ c ∈ cs, Nm c) : Rd (w_read_thing F [.p r, .v (.str "columns"), .v (.int dp)] μ) r q W μ (i + (wC cs).length) (.tup (cs.map .int)) := by
 obtain ⟨μ', e, h', f'⟩ := numbers_eq h ha hl hc
 have m := e_methR (ρ := [some (.p r), some (.v (.str "columns")), some (.v (.int dp))]) (fo := fVar 0) (f := w_Reader_numbers) (m := 1) h rfl n_s n_s'
 rw [e] at m
 have kd := k_columns
 refine ⟨μ', ?_, h', f'⟩
 rw [u_read_thing]
 push_cast [b_read_thing, kd.ok, o_ask, o_column, o_number, kd.a, kd.c, kd.n, kd.cs, m]; rfl
theorem rt_pairs {ps : List (Int × Int)} (h : RS r q W i μ) (ha : At W i (wP ps)) (hl : ps.length < 1000) (hc : ∀ p ∈ ps, Nm p.1 /\ Nm p.2) : Rd (w_read_thing F [.p r, .v (.str "pairs"), .v (.int dp)] μ) r q W μ (i + (wP ps).length) (.tup (ps.map prD)) := by
 have m := m_many (ρ := [some (.p r), some (.v (.str "pairs")), some (.v (.int dp))]) (fo := fVar 0) h rfl ha.head (by omega) (nm_len hl)
 have p1 := h.put (i + 1)
 obtain ⟨μ2, e2, h2, f2⟩ := comp_many (f := fTup (fCons (fMeth "Reader" "number" w_Reader_number 1 (fVar 1) fNil) (fCons (fMeth "Reader" "number" w_Reader_number 1 (fVar 1) fNil) fNil))) (rest := [some (.p r)]) (fun p : Int × Int => [wN p.1, wN p.2]) prD ps p1 ha.tail none (fun c hc' x i μ h' ha' => by
   have q1 := m_number (ρ := [x, some (.p r)]) (fo := fVar 1) h' rfl ha'.head (hc c hc').1
   have q2 := m_number (ρ := [x, some (.p r)]) (fo := fVar 1) (h'.put (i + 1)) rfl ha'.tail.head (hc c hc').2
   refine ⟨_, ?_, (h'.put (i + 1)).put (i + 1 + 1), (Fr.set _).trans (Fr.set _)⟩
   push_cast [q1, q2])
 have z : ((List.range ps.length).map fun i => D.int (i : Nat)).length <= sizeLine := small'' (by simp; omega)
 have b : blockLo 1 [0] [some (R.p r), some (.v (.str "pairs")), some (.v (.int dp))] = [none, some (.p r)] := rfl
 have tn : ((ps.length : Int)).toNat = ps.length := by simp
 have r1 := ev_r11 (j := (ps.length : Int)) (μ := μ.set r (.ob "Reader" (rdF q (i + 1 : Nat)))) (by omega)
 have len : (wP ps).length = 1 + (ps.flatMap (fun p : Int × Int => [wN p.1, wN p.2])).length := by simp [Nat.add_comm]
 have kd := k_pairs
 refine ⟨_, ?_, ?_, ((Fr.set _).trans f2).trans (Fr.new (.lst (ps.map prD)))⟩
 ·rw [u_read_thing]
  push_cast [b_read_thing, kd.ok, o_ask, o_column, o_number, o_columns, o_pairs, kd.a, kd.c, kd.n, kd.cs, kd.ps, m, r1, tn, z, b, e2, lke]
  rfl
 ·rw [len, ← Nat.add_assoc]
  exact h2.new _
theorem part_eq : ∀ {k : Nat} {a : D} {ws : List Str}, AK k a ws -> ∀ (e i : Nat) (μ : Store) (dp : Int), dp + k <= 21 -> RS r q W i μ -> At W i ws -> Rd (w_read_part (k + e) [.p r, .v (.int dp)] μ) r q W μ (i + ws.length) a
 | 0, _, _, h => h.elim
 | k + 1, a, ws, hh => by
  intro ex i μ dp hd h ha
  obtain ⟨wd, pw, h1, h2, rfl, rfl, h5, h6⟩ := hh
  have m := m_word (ρ := [some (.p r), some (.v (.int dp)), none, none]) (fo := fVar 0) h rfl ha.head
  have p1 := h.put (i + 1)
  have p2 := p1.new (.lst [.str wd])
  obtain ⟨μ2, e2, hr2, f2⟩ := comp_rd (f := fCallW (w_read_thing (w_read_part (k + ex))) 3 (fCons (fVar 1) (fCons (fVar 0) (fCons (fVar 2) fNil)))) (rest := [some (.p r), some (.v (.int dp))]) pw (i + 1) _ none p2 ha.tail (fun p hp i μ h' ha' => by
   have c : fCallW (w_read_thing (w_read_part (k + ex))) 3 (fCons (fVar 1) (fCons (fVar 0) (fCons (fVar 2) fNil))) [some (.v p.1), some (.p r), some (.v (.int dp))] μ = w_read_thing (w_read_part (k + ex)) [.p r, .v p.1, .v (.int dp)] μ := rfl
   rw [c]
   have t := h6 p hp
   clear c hp
   cases t with
   | ask t => rw [rt_ask]; exact part_eq t _ _ _ _ (by omega) h' ha'
   | col t => exact ⟨_, rt_num k_column rfl h' ha' t, h'.put (i + 1), Fr.set _⟩
   | num t => exact ⟨_, rt_num k_number rfl h' ha' t, h'.put (i + 1), Fr.set _⟩
   | cols t u => exact rt_cols h' ha' (by omega) u
   | pairs t u => exact rt_pairs h' ha' (by omega) u
   | word t => exact ⟨_, rt_word k_word h' ha' t, h'.put (i + 1), Fr.set _⟩
   | name t => exact ⟨_, rt_word k_name h' ha' t, h'.put (i + 1), Fr.set _⟩)
  have g : decide (dp > 20) = false := decide_eq_false (by omega)
  have z : (pw.map (·.1)).length <= sizeLine := small'' (by rw [List.length_map]; omega)
  have b : blockLo 1 [0, 1] [some (R.p r), some (.v (.int dp)), some (.v (.str wd)), some (.v (.tup (pw.map (·.1))))] = [none, some (.p r), some (.v (.int dp))] := rfl
  have n1 : isK false .non (.v (.tup (pw.map (·.1)))) (μ.set r (.ob "Reader" (rdF q (i + 1 : Nat)))) = some (.v (.bl false), μ.set r (.ob "Reader" (rdF q (i + 1 : Nat)))) := by kernel_rfl
  have kp : μ2[(μ.set r (.ob "Reader" (rdF q (i + 1 : Nat)))).length]? = some (.lst [.str wd]) := by
   rw [f2.eq _ (by simp) (by have := h.lt; simp; omega), lke]
  have kp2 : (μ2 ++ [.lst (pw.map (·.2.2))])[(μ.set r (.ob "Reader" (rdF q (i + 1 : Nat)))).length]? = some (.lst [.str wd]) := by
   rw [List.getElem?_append_left (by have := (List.getElem?_eq_some_iff.mp kp).1; exact this)]; exact kp
  have z2 : 1 + (pw.map (·.2.2)).length <= sizeLine := small'' (by rw [List.length_map]; omega)
  have s11 : 1 <= sizeLine := by decide
  have ad : addF (.p (μ.set r (.ob "Reader" (rdF q (i + 1 : Nat)))).length) (.p μ2.length) (μ2 ++ [.lst (pw.map (·.2.2))]) = some (.p (μ2 ++ [Cell.lst (pw.map (·.2.2))]).length, μ2 ++ [.lst (pw.map (·.2.2))] ++ [.lst (.str wd :: pw.map (·.2.2))]) := by
   have s1 : seqL (.p (μ.set r (.ob "Reader" (rdF q (i + 1 : Nat)))).length) (μ2 ++ [.lst (pw.map (·.2.2))]) = some [.str wd] := by unfold seqL; simp only [kp2]
   have s2 : seqL (.p μ2.length) (μ2 ++ [.lst (pw.map (·.2.2))]) = some (pw.map (·.2.2)) := by unfold seqL; simp only [lke]
   unfold addF
   simp only [s1, s2, Option.bind_some, List.length_cons, List.length_nil, Nat.zero_add, z2, if_true, List.singleton_append]
  refine ⟨μ2 ++ [.lst (pw.map (·.2.2))] ++ [.lst (.str wd :: pw.map (·.2.2))], ?_, ?_, ((((Fr.set _).trans (Fr.new _)).trans f2).trans (Fr.new _)).trans (Fr.new _)⟩
  ·rw [show k + 1 + ex = k + ex + 1 by omega, u_read_part]
   push_cast [b_read_part, g, m, h1, n1, z, b, e2, ad, lke, s11]
   rfl
  ·rw [show i + (wd :: pw.flatMap (·.2.1)).length = i + 1 + (pw.flatMap (·.2.1)).length by simp; omega]
   exact (hr2.new _).new _
end
end LW
namespace LW
open PySem HW L2
section
variable {ρ : Lo} {μ μ' μ1 : Store} {n : Nat} {W : List Str} {w : Str} {d : D} {F : MC} {s : Str}
noncomputable abbrev sD (ws : List Str) : List D := ws.map D.str
theorem fl_strs : ∀ l : List Str, flatDs (sD l) = true
 | [] => rfl
 | i :: l => by rw [sD, List.map_cons, flatDs]; simp [flatD, fl_strs l]
theorem cut1 (x : D) (xs : List D) : cutD (x :: xs) (some 1) none = xs := by
 unfold cutD
 have h1 : HT.sIx (x :: xs).length 0 (some (1 : Int)) = min 1 (x :: xs).length := HT.sIx_nat _ _ 1
 have h2 : HT.sIx (x :: xs).length (x :: xs).length none = (x :: xs).length := rfl
 rw [h1, h2]
 simp
theorem zip_pw : ∀ pw : List (D × List Str × D), zipTs (pw.map (·.1)) (pw.map (·.2.2)) = pw.map fun p => .tup [p.1, p.2.2]
 | [] => rfl
 | p :: pw => by
  have := zip_pw pw
  unfold zipTs at this ⊢
  simp only [List.map_cons, List.zip_cons_cons, this]
theorem formed_eq {wd : Str} {pw : List (D × List Str × D)} (h1 : m_form_of [.str wd] = some (.tup (pw.map (·.1)))) (h2 : pw.length < 10) : n_formed [.tup (.str wd :: pw.map (·.2.2))] = some (.lst (pw.map fun p => .tup [p.1, p.2.2])) := by
 have c : (fCall m_form_of 1 (fCons (fFz (fOp ixD (fVar 0) (fK (.int 0)))) fNil)) [some (.v (.tup (.str wd :: pw.map (·.2.2))))] [] = some (.v (.tup (pw.map (·.1))), []) := by
  push_cast [h1]
 have c2 : (fSl (fVar 0) (oSome (fK (.int 1))) oNone) [some (.v (.tup (.str wd :: pw.map (·.2.2))))] [] = some (.v (.tup (pw.map (·.2.2))), []) := by
  push_cast [cut1]
 have z : (pw.map (·.1)).length = (pw.map (·.2.2)).length /\ (pw.map (·.1)).length <= sizeLine := ⟨by simp, small'' (by rw [List.length_map]; omega)⟩
 have e : (fZipL (fCall m_form_of 1 (fCons (fFz (fOp ixD (fVar 0) (fK (.int 0)))) fNil)) (fSl (fVar 0) (oSome (fK (.int 1))) oNone)) [some (.v (.tup (.str wd :: pw.map (·.2.2))))] [] = some (.p 0, [.lst (pw.map fun p => .tup [p.1, p.2.2])]) := by
  unfold fZipL
  rw [c]
  dsimp only [Option.bind_some]
  rw [c2]
  dsimp only [Option.bind_some]
  have i1 : itemsD (.v (.tup (pw.map (·.1)))) [] = some (pw.map (·.1)) := rfl
  have i2 : itemsD (.v (.tup (pw.map (·.2.2)))) [] = some (pw.map (·.2.2)) := rfl
  rw [i1, i2]
  dsimp only [Option.bind_some]
  rw [if_pos z, zip_pw]
  rfl
 rw [u_formed]
 push_cast [b_formed, e]
theorem wrs_eq {cs : List Int} (hl : cs.length < 1000) (hc : ∀ c ∈ cs, Nm c) : n_write_numbers [.tup (cs.map .int)] = some (.lst (sD (cs.map wN))) := by
 have co := comp_typed (f := fCall m_write_number 1 (fCons (fFz (fVar 0)) fNil)) (μ := []) (rest := []) D.int (fun c => D.str (wN c)) cs none fun c h => by
  push_cast [wr_number c (hc c h)]
 have z : (cs.map D.int).length <= sizeLine := small'' (by rw [List.length_map]; omega)
 have b : blockLo 1 [] [some (R.v (.tup (cs.map .int)))] = [none] := rfl
 rw [u_write_numbers]
 push_cast [b_write_numbers, z, b, co]
 rw [sD, List.map_map]
 rfl
theorem wrc_eq {cs : List Int} (hl : cs.length < 1000) (hc : ∀ c ∈ cs, Nm c) : n_write_counted [.tup (cs.map .int)] = some (.lst (sD (wC cs))) := by
 have w1 := wr_number (cs.length : Int) (nm_len hl)
 have w2 := wrs_eq hl hc
 have fl := fl_strs (cs.map wN)
 have z : (cs.map D.int).length <= sizeLine := small'' (by rw [List.length_map]; omega)
 have z2 : 1 + (sD (cs.map wN)).length <= sizeLine := small'' (by simp; omega)
 have s11 : 1 <= sizeLine := by decide
 have ad : addF (.p 0) (.p 1) [.lst [.str (wN cs.length)], .lst (sD (cs.map wN))] = some (.p 2, [.lst [.str (wN cs.length)], .lst (sD (cs.map wN)), .lst (sD (wC cs))]) := by
  show (if 1 + (sD (cs.map wN)).length <= sizeLine then _ else none) = _
  rw [if_pos z2]; rfl
 rw [u_write_counted]
 push_cast [b_write_counted, List.length_map, w1, w2, fl, z, s11, ad]
theorem wrp_eq {ps : List (Int × Int)} (hl : ps.length < 1000) (hc : ∀ p ∈ ps, Nm p.1 /\ Nm p.2) : n_write_pairs [.tup (ps.map prD)] = some (.lst (sD (wP ps))) := by
 have w1 := wr_number (ps.length : Int) (nm_len hl)
 have z : (ps.map prD).length <= sizeLine := small'' (by rw [List.length_map]; omega)
 have s11 : 1 <= sizeLine := by decide
 obtain ⟨⟨acc, x2, cs⟩, hlo, h1, h2⟩ := loop_inv (g := gNm 2) (b := l_write_pairs_0) prD
  (fun st : List Str × Option R × List Cell => ([some (.v (.tup (ps.map prD))), some (.p 0), st.2.1], .lst (sD st.1) :: st.2.2))
  (fun st rem => (∀ p ∈ rem, Nm p.1 /\ Nm p.2) /\ st.1 ++ (rem.flatMap fun p => [wN p.1, wN p.2]) = wP ps) ps ([wN ps.length], none, []) ⟨hc, rfl⟩ (by
   rintro ⟨acc, x2, cs⟩ p rem ⟨h1, h2⟩
   have w := wrs_eq (cs := [p.1, p.2]) (by simp) (fun c hc => by
    rcases List.mem_cons.mp hc with rfl | hc
    ·exact (h1 p List.mem_cons_self).1
    ·rw [List.mem_singleton.mp hc]; exact (h1 p List.mem_cons_self).2)
   have fl := fl_strs [wN p.1, wN p.2]
   have zz : (sD acc).length + 2 <= sizeLine := small'' (by
    have := congrArg List.length h2
    simp at this
    simp
    have e : ∀ l : List (Int × Int), (l.map (fun _ => 2)).sum = 2 * l.length := fun l => by induction l with | nil => rfl | cons a l ih => simp [ih]; omega
    simp only [e] at this
    omega)
   refine ⟨(acc ++ [wN p.1, wN p.2], some (.v (prD p)), cs ++ [.lst (sD [wN p.1, wN p.2])]), ?_, fun p' hp => h1 p' (List.mem_cons_of_mem _ hp), by rw [List.append_assoc]; exact h2⟩
   have ex : extL (.p 0) [.p (cs.length + 1)] (.lst (sD acc) :: (cs ++ [.lst (sD [wN p.1, wN p.2])])) = some (.v .non, .lst (sD (acc ++ [wN p.1, wN p.2])) :: (cs ++ [.lst (sD [wN p.1, wN p.2])])) := by
    have g1 : (Cell.lst (sD acc) :: (cs ++ [.lst (sD [wN p.1, wN p.2])]))[cs.length + 1]? = some (.lst (sD [wN p.1, wN p.2])) := by simp
    unfold extL
    simp only [List.getElem?_cons_zero, g1]
    rw [if_pos (show (sD acc).length + (sD [wN p.1, wN p.2]).length <= sizeLine from zz), List.set_cons_zero, sD, sD, sD, List.map_append]
   have w' : n_write_numbers [prD p] = some (.lst (sD [wN p.1, wN p.2])) := w
   generalize hV : [wN p.1, wN p.2] = V at w' fl ex
   push_cast [l_write_pairs_0, w', fl, List.length_cons, List.cons_append, ex])
 rw [List.flatMap_nil, List.append_nil] at h2
 subst h2
 rw [u_write_pairs]
 push_cast [b_write_pairs, List.length_map, z, w1, s11]
 simp only [sD, List.map_cons, List.map_nil] at hlo
 push_cast [hlo]
theorem wt_eq {k : Nat} {p : D × List Str × D} (hF : ∀ a ws, AK k a ws -> ws.length <= p.2.1.length -> F [a] = some (.lst (sD ws))) (t : Th (AK k) p) : n_write_thing F [p.1, p.2.2] = some (.lst (sD p.2.1)) := by
 have s11 : 1 <= sizeLine := by decide
 cases t with
 | @ask a ws t =>
  have k := k_ask
  have fl := fl_strs ws
  have f := hF a ws t (Nat.le_refl _)
  rw [u_write_thing]
  push_cast [b_write_thing, o_ask, k.a, f, fl]
 | @col n t =>
  have k := k_column
  rw [u_write_thing]
  push_cast [b_write_thing, o_ask, o_column, o_number, k.a, k.c, k.n, wr_number n t, s11]
 | @num n t =>
  have k := k_number
  rw [u_write_thing]
  push_cast [b_write_thing, o_ask, o_column, o_number, k.a, k.c, k.n, wr_number n t, s11]
 | @cols cs t u =>
  have k := k_columns
  have fl := fl_strs (wC cs)
  have e := wrc_eq (by omega) u
  show n_write_thing F [.str "columns", .tup (cs.map .int)] = some (.lst (sD (wC cs)))
  generalize wC cs = V at e fl
  rw [u_write_thing]
  push_cast [b_write_thing, o_ask, o_column, o_number, o_columns, k.a, k.c, k.n, k.cs, e, fl]
 | @pairs ps t u =>
  have k := k_pairs
  have fl := fl_strs (wP ps)
  have e := wrp_eq (by omega) u
  show n_write_thing F [.str "pairs", .tup (ps.map prD)] = some (.lst (sD (wP ps)))
  generalize wP ps = V at e fl
  rw [u_write_thing]
  push_cast [b_write_thing, o_ask, o_column, o_number, o_columns, o_pairs, k.a, k.c, k.n, k.cs, k.ps, e, fl]
 | @word w t =>
  have k := k_word
  rw [u_write_thing]
  push_cast [b_write_thing, o_ask, o_column, o_number, o_columns, o_pairs, o_word, k.a, k.c, k.n, k.cs, k.ps, s11]
 | @name w t =>
  have k := k_name
  rw [u_write_thing]
  push_cast [b_write_thing, o_ask, o_column, o_number, o_columns, o_pairs, o_name, k.a, k.c, k.n, k.cs, k.ps, s11]
end
end LW
namespace LW
open PySem HW L2
theorem fl_ints : ∀ l : List Int, flatDs (l.map D.int) = true
 | [] => rfl
 | i :: l => by rw [List.map_cons, flatDs, fl_ints l]; rfl
theorem fl_prs : ∀ l : List (Int × Int), flatDs (l.map prD) = true
 | [] => rfl
 | i :: l => by rw [List.map_cons, flatDs, fl_prs l]; rfl
theorem fl_all {xs : List D} (h : ∀ d ∈ xs, flatD d = true) : flatDs xs = true := by
 induction xs with
 | nil => rfl
 | cons x xs ih => rw [flatDs, h x List.mem_cons_self, ih fun d hd => h d (List.mem_cons_of_mem _ hd)]; rfl
theorem AK.flat : ∀ {k : Nat} {a : D} {ws : List Str}, AK k a ws -> flatD a = true
 | 0, _, _, h => h.elim
 | k + 1, a, ws, hh => by
  obtain ⟨wd, pw, h1, h2, rfl, rfl, h5, h6⟩ := hh
  have : flatDs (pw.map (·.2.2)) = true := fl_all fun d hd => by
   obtain ⟨p, hp, rfl⟩ := List.mem_map.mp hd
   have t := h6 p hp
   cases t with
   | ask t => exact AK.flat t
   | col t => rfl
   | num t => rfl
   | cols t u => simp only [flatD]; exact fl_ints _
   | pairs t u => simp only [flatD]; exact fl_prs _
   | word t => rfl
   | name t => rfl
  simp [flatD, flatDs, this]
theorem Th.flat {k : Nat} {p} (t : Th (AK k) p) : flatD p.1 = true /\ flatD p.2.2 = true := by
 cases t with
 | ask t => exact ⟨rfl, AK.flat t⟩
 | col t => exact ⟨rfl, rfl⟩
 | num t => exact ⟨rfl, rfl⟩
 | cols t u => exact ⟨rfl, by simp only [flatD]; exact fl_ints _⟩
 | pairs t u => exact ⟨rfl, by simp only [flatD]; exact fl_prs _⟩
 | word t => exact ⟨rfl, rfl⟩
 | name t => exact ⟨rfl, rfl⟩
theorem flat_le {pw : List (D × List Str × D)} {p} (h : p ∈ pw) : p.2.1.length <= (pw.flatMap (·.2.1)).length := by
 induction pw with
 | nil => cases h
 | cons a pw ih =>
  rw [List.flatMap_cons, List.length_append]
  rcases List.mem_cons.mp h with rfl | h
  ·omega
  ·have := ih h; omega
theorem words_eq : ∀ {k : Nat} {a : D} {ws : List Str}, AK k a ws -> ws.length < 4000 -> n_ask_words k [a] = some (.lst (sD ws))
 | 0, _, _, h => h.elim
 | k + 1, a, ws, hh => by
  intro hz
  obtain ⟨wd, pw, h1, h2, rfl, rfl, h5, h6⟩ := hh
  rw [List.length_cons] at hz
  have fo := formed_eq h1 h5
  have ff : flatDs (pw.map fun p => D.tup [p.1, p.2.2]) = true := fl_all fun d hd => by
   obtain ⟨p, hp, rfl⟩ := List.mem_map.mp hd
   obtain ⟨f1, f2⟩ := (h6 p hp).flat
   simp [flatD, flatDs, f1, f2]
  have zf : (pw.map fun p => D.tup [p.1, p.2.2]).length <= sizeLine := small'' (by rw [List.length_map]; omega)
  have s11 : 1 <= sizeLine := by decide
  obtain ⟨⟨acc, x2, x3, cs⟩, hlo, h7, h8⟩ := loop_inv (g := gTp 2 (gsCons (gNm 2) (gsCons (gNm 3) gsNil))) (b := l_ask_words_0 (n_ask_words k)) (fun p : D × List Str × D => D.tup [p.1, p.2.2])
   (fun st : List Str × Option R × Option R × List Cell => ([some (.v (.tup (.str wd :: pw.map (·.2.2)))), some (.p 0), st.2.1, st.2.2.1], .lst (sD st.1) :: st.2.2.2))
   (fun st rem => (∀ p ∈ rem, p ∈ pw) /\ st.1 ++ rem.flatMap (·.2.1) = wd :: pw.flatMap (·.2.1)) pw ([wd], none, none, [.fz (pw.map fun p => D.tup [p.1, p.2.2])]) ⟨fun _ h => h, rfl⟩ (by
    rintro ⟨acc, x2, x3, cs⟩ p rem ⟨h7, h8⟩
    have hp := h7 p List.mem_cons_self
    have w := wt_eq (F := n_ask_words k) (p := p) (k := k) (fun a ws' t hl => words_eq t (by have := flat_le hp; omega)) (h6 p hp)
    have fl := fl_strs p.2.1
    have zz : (sD acc).length + (sD p.2.1).length <= sizeLine := small'' (by
     have := congrArg List.length h8
     rw [List.flatMap_cons] at this
     simp only [List.length_append, List.length_cons] at this
     simp only [List.length_map]
     omega)
    refine ⟨(acc ++ p.2.1, some (.v p.1), some (.v p.2.2), cs ++ [.lst (sD p.2.1)]), ?_, fun p' hp => h7 p' (List.mem_cons_of_mem _ hp), by rw [List.append_assoc]; exact h8⟩
    have ex : extL (.p 0) [.p (cs.length + 1)] (.lst (sD acc) :: (cs ++ [.lst (sD p.2.1)])) = some (.v .non, .lst (sD (acc ++ p.2.1)) :: (cs ++ [.lst (sD p.2.1)])) := by
     have g1 : (Cell.lst (sD acc) :: (cs ++ [.lst (sD p.2.1)]))[cs.length + 1]? = some (.lst (sD p.2.1)) := by simp
     unfold extL
     simp only [List.getElem?_cons_zero, g1]
     rw [if_pos zz, List.set_cons_zero, sD, sD, sD, List.map_append]
    push_cast [l_ask_words_0, w, fl, List.length_cons, List.cons_append, ex])
  rw [List.flatMap_nil, List.append_nil] at h8
  rw [u_ask_words]
  simp only [sD, List.map_cons, List.map_nil] at hlo
  have h8 : acc = wd :: pw.flatMap (·.2.1) := h8
  rw [h8] at hlo
  push_cast [b_ask_words, s11, fo, ff, zf, hlo]
section
variable {F : MC} {A : List D}
theorem lw_part {k : Nat} {p : D × List Str × D} {acc : List Str} {x0 x2 x3 : Option R} {n : Nat} {μ : Store} (hF : ∀ a ws, AK k a ws -> ws.length <= p.2.1.length -> F [a] = some (.lst (sD ws))) (t : Th (AK k) p) (hz : acc.length + p.2.1.length < 4000) (hn : μ[n]? = some (.lst (sD acc))) :
  ∃ n' μ' x3', l_law_words_1 F [x0, some (.p n), some (.v p.2.2), x3] μ = some (.nx [x0, some (.p n'), some (.v p.2.2), x3'] μ') /\ μ'[n']? = some (.lst (sD (acc ++ p.2.1))) := by
 have hn' := (List.getElem?_eq_some_iff.mp hn).1
 have ps : ∀ (w : Str), (μ.set n (.lst (sD acc ++ [.str w])))[n]? = some (.lst (sD (acc ++ [w]))) := fun w => by
  rw [List.getElem?_set_self hn', sD, sD, List.map_append]; rfl
 have z1 : (sD acc).length < sizeLine := small' (by rw [List.length_map]; omega)
 have lg : ∀ k : Int, Nm k -> k.natAbs.log2 < 1920 := fun k hk => by
  have hk : k.natAbs < 10 ^ 60 := hk
  by_cases h0 : k.natAbs = 0
  ·rw [h0]; decide
  ·have : k.natAbs.log2 < 200 := by rw [Nat.log2_lt h0]; exact Nat.lt_trans hk (by decide)
   omega
 have iI : ∀ (i : Int) (μ : Store), isiD "str" (.v (.int i)) μ = some (.v (.bl false), μ) := fun i μ => by kernel_rfl
 have iT : ∀ (i : Int) (μ : Store), isiD "tuple" (.v (.int i)) μ = some (.v (.bl false), μ) := fun i μ => by kernel_rfl
 have iS : ∀ (s : Str) (μ : Store), isiD "str" (.v (.str s)) μ = some (.v (.bl true), μ) := fun i μ => by kernel_rfl
 have tS : ∀ (xs : List D) (μ : Store), isiD "str" (.v (.tup xs)) μ = some (.v (.bl false), μ) := fun i μ => by kernel_rfl
 have tT : ∀ (xs : List D) (μ : Store), isiD "tuple" (.v (.tup xs)) μ = some (.v (.bl true), μ) := fun i μ => by kernel_rfl
 have one : ∀ k : Int, Nm k -> ∃ n' μ' x3', l_law_words_1 F [x0, some (.p n), some (.v (.int k)), x3] μ = some (.nx [x0, some (.p n'), some (.v (.int k)), x3'] μ') /\ μ'[n']? = some (.lst (sD (acc ++ [wN k]))) := fun k hk => by
  refine ⟨n, _, x3, ?_, ps _⟩
  push_cast [l_law_words_1, iI, iT, lg k hk, str_tn, hn, z1]
 have wrd : ∀ w : Str, ∃ n' μ' x3', l_law_words_1 F [x0, some (.p n), some (.v (.str w)), x3] μ = some (.nx [x0, some (.p n'), some (.v (.str w)), x3'] μ') /\ μ'[n']? = some (.lst (sD (acc ++ [w]))) := fun w => by
  refine ⟨n, _, x3, ?_, ps _⟩
  push_cast [l_law_words_1, iS, hn, z1]
 cases t with
 | @ask a ws t =>
  have f := hF a ws t (Nat.le_refl _)
  have fl := fl_strs ws
  cases k with
  | zero => exact t.elim
  | succ k =>
   obtain ⟨wd, pw, h1, h2, rfl, h4, h5, h6⟩ := t
   have zt : (D.str wd :: pw.map (·.2.2)).length <= sizeLine := small'' (by simp; omega)
   have gt : decide (((pw.map (·.2.2)).length + 1 : Nat) > (0 : Int)) = true := decide_eq_true (by omega)
   have kp : (μ ++ [.lst (sD ws)])[n]? = some (.lst (sD acc)) := by rw [List.getElem?_append_left hn']; exact hn
   have ad : addF (.p n) (.p μ.length) (μ ++ [.lst (sD ws)]) = some (.p (μ ++ [Cell.lst (sD ws)]).length, μ ++ [.lst (sD ws)] ++ [.lst (sD acc ++ sD ws)]) := by
    have s1 : seqL (.p n) (μ ++ [.lst (sD ws)]) = some (sD acc) := by unfold seqL; simp only [kp]
    have s2 : seqL (.p μ.length) (μ ++ [.lst (sD ws)]) = some (sD ws) := by unfold seqL; simp only [lke]
    unfold addF
    simp only [s1, s2, Option.bind_some]
    rw [if_pos (small'' (by simpa using hz))]
   refine ⟨(μ ++ [Cell.lst (sD ws)]).length, μ ++ [.lst (sD ws)] ++ [.lst (sD acc ++ sD ws)], x3, ?_, ?_⟩
   ·push_cast [l_law_words_1, tS, tT, iS, zt, gt, f, fl, ad]
   ·rw [lke, sD, sD, sD, List.map_append]
 | @col k t => exact one k t
 | @num k t => exact one k t
 | @word w t => exact wrd w
 | @name w t => exact wrd w
 | @cols cs t u =>
  have hz : acc.length + (cs.length + 1) < 4000 := by simpa using hz
  have zt : (cs.map D.int).length <= sizeLine := small'' (by rw [List.length_map]; omega)
  have nt : ∀ μ, tAndF (fB (fOp gtD (fAr lenD (fCons (fVar 2) fNil)) (fK (.int 0)))) (fTru (fUn (isiD "str") (fOp ixD (fVar 2) (fK (.int 0))))) [x0, some (.p n), some (.v (.tup (cs.map .int))), x3] μ = some (false, μ) := fun μ => by
   cases cs with
   | nil => kernel_rfl
   | cons c cs =>
    have gt : decide (((cs.map D.int).length + 1 : Nat) > (0 : Int)) = true := decide_eq_true (by omega)
    push_cast [zt, gt, iI]
  obtain ⟨⟨acc', x3'⟩, hlo, h1⟩ := loop_inv (g := gNm 3) (b := l_law_words_0 F) D.int
   (fun st : List Str × Option R => ([x0, some (.p n), some (.v (.tup (cs.map .int))), st.2], μ.set n (.lst (sD st.1))))
   (fun st rem => (∀ c ∈ rem, Nm c) /\ st.1 ++ rem.map wN = acc ++ wC cs) cs (acc ++ [wN cs.length], x3) ⟨u, by rw [List.append_assoc]; rfl⟩ (by
    rintro ⟨acc', x3'⟩ c rem ⟨h1, h2⟩
    have zl : (sD acc').length < sizeLine := small' (by
     have := congrArg List.length h2
     simp at this
     rw [List.length_map]
     omega)
    refine ⟨(acc' ++ [wN c], some (.v (.int c))), ?_, fun c' hc => h1 c' (List.mem_cons_of_mem _ hc), by rw [List.append_assoc]; exact h2⟩
    have g1 : (μ.set n (.lst (sD acc')))[n]? = some (.lst (sD acc')) := List.getElem?_set_self hn'
    have sa : sD acc' ++ [.str (wN c)] = sD (acc' ++ [wN c]) := by rw [sD, sD, List.map_append]; rfl
    push_cast [l_law_words_0, iT, lg c (h1 c List.mem_cons_self), str_tn, g1, zl, sa, List.set_set])
  refine ⟨n, μ.set n (.lst (sD acc')), x3', ?_, ?_⟩
  ·have sa : sD acc ++ [.str (wN cs.length)] = sD (acc ++ [wN cs.length]) := by rw [sD, sD, List.map_append]; rfl
   have lg1 := lg (cs.length : Int) (nm_len (by omega))
   have t1 : fTru (fUn (isiD "str") (fVar 2)) [x0, some (.p n), some (.v (.tup (cs.map .int))), x3] μ = some (false, μ) := by push_cast [tS]
   have t2 : tNotF (fTru (fUn (isiD "tuple") (fVar 2))) [x0, some (.p n), some (.v (.tup (cs.map .int))), x3] μ = some (false, μ) := by push_cast [tT]
   rw [l_law_words_1, ev_ifS, t1, ev_ifF, ev_ifS, t2, ev_ifF, ev_ifS, nt, ev_ifF]
   have z1' : acc.length < sizeLine := small' (by omega)
   push_cast [lg1, str_tn, hn, z1', zt, List.length_map, sa, hlo]
  ·rw [List.getElem?_set_self hn', ← h1.2]
   simp
 | @pairs ps t u =>
  have fl2 : ∀ l : List (Int × Int), (l.flatMap fun p => [wN p.1, wN p.2]).length = 2 * l.length := fun l => by
   induction l with
   | nil => rfl
   | cons a l ih => rw [List.flatMap_cons, List.length_append, ih]; simp; omega
  have hz : acc.length + (2 * ps.length + 1) < 4000 := by
   have hz : acc.length + ((ps.flatMap fun p => [wN p.1, wN p.2]).length + 1) < 4000 := hz
   rwa [fl2] at hz
  have zt : (ps.map prD).length <= sizeLine := small'' (by rw [List.length_map]; omega)
  have nt : ∀ μ, tAndF (fB (fOp gtD (fAr lenD (fCons (fVar 2) fNil)) (fK (.int 0)))) (fTru (fUn (isiD "str") (fOp ixD (fVar 2) (fK (.int 0))))) [x0, some (.p n), some (.v (.tup (ps.map prD))), x3] μ = some (false, μ) := fun μ => by
   cases ps with
   | nil => kernel_rfl
   | cons c ps =>
    have gt : decide (((ps.map prD).length + 1 : Nat) > (0 : Int)) = true := decide_eq_true (by omega)
    push_cast [zt, gt, tS]
  have hn2 : (μ.set n (.lst (sD (acc ++ [wN ps.length]))))[n]? = some (.lst (sD (acc ++ [wN ps.length]))) := List.getElem?_set_self hn'
  obtain ⟨⟨acc', x3', n', μ'⟩, hlo, h0, h1, h2⟩ := loop_inv (g := gNm 3) (b := l_law_words_0 F) prD
   (fun st : List Str × Option R × Nat × Store => ([x0, some (.p st.2.2.1), some (.v (.tup (ps.map prD))), st.2.1], st.2.2.2))
   (fun st rem => (∀ c ∈ rem, Nm c.1 /\ Nm c.2) /\ st.2.2.2[st.2.2.1]? = some (.lst (sD st.1)) /\ st.1 ++ (rem.flatMap fun p => [wN p.1, wN p.2]) = acc ++ wP ps) ps (acc ++ [wN ps.length], x3, n, μ.set n (.lst (sD (acc ++ [wN ps.length])))) ⟨u, hn2, by rw [List.append_assoc]; rfl⟩ (by
    rintro ⟨acc', x3', n', μ'⟩ c rem ⟨h0, h1, h2⟩
    have h1 : μ'[n']? = some (.lst (sD acc')) := h1
    obtain ⟨c1, c2⟩ := h0 c List.mem_cons_self
    have zl : (sD acc').length + 2 <= sizeLine := small'' (by
     have := congrArg List.length h2
     rw [List.flatMap_cons] at this
     simp only [List.length_append, List.length_cons, fl2, List.length_nil] at this
     rw [List.length_map]
     omega)
    have kp : (μ' ++ [.lst [.str (wN c.1), .str (wN c.2)]])[n']? = some (.lst (sD acc')) := by rw [List.getElem?_append_left (List.getElem?_eq_some_iff.mp h1).1]; exact h1
    have ad : addF (.p n') (.p μ'.length) (μ' ++ [.lst [.str (wN c.1), .str (wN c.2)]]) = some (.p (μ' ++ [Cell.lst [.str (wN c.1), .str (wN c.2)]]).length, μ' ++ [.lst [.str (wN c.1), .str (wN c.2)]] ++ [.lst (sD acc' ++ [.str (wN c.1), .str (wN c.2)])]) := by
     have s1 : seqL (.p n') (μ' ++ [.lst [.str (wN c.1), .str (wN c.2)]]) = some (sD acc') := by unfold seqL; simp only [kp]
     have s2 : seqL (.p μ'.length) (μ' ++ [.lst [.str (wN c.1), .str (wN c.2)]]) = some [.str (wN c.1), .str (wN c.2)] := by unfold seqL; simp only [lke]
     unfold addF
     simp only [s1, s2, Option.bind_some]
     rw [if_pos (show (sD acc').length + [D.str (wN c.1), D.str (wN c.2)].length <= sizeLine from zl)]
    refine ⟨(acc' ++ [wN c.1, wN c.2], some (.v (prD c)), (μ' ++ [Cell.lst [.str (wN c.1), .str (wN c.2)]]).length, μ' ++ [.lst [.str (wN c.1), .str (wN c.2)]] ++ [.lst (sD acc' ++ [.str (wN c.1), .str (wN c.2)])]), ?_, fun c' hc => h0 c' (List.mem_cons_of_mem _ hc), ?_, by rw [List.append_assoc]; exact h2⟩
    ·have s22 : 2 <= sizeLine := by decide
     push_cast [l_law_words_0, tT, lg c.1 c1, lg c.2 c2, str_tn, s22, ad]
    ·show (_ ++ [_])[_]? = _
     rw [lke, sD, sD, List.map_append]
     rfl)
  refine ⟨n', μ', x3', ?_, ?_⟩
  ·have sa : sD acc ++ [.str (wN ps.length)] = sD (acc ++ [wN ps.length]) := by rw [sD, sD, List.map_append]; rfl
   have lg1 := lg (ps.length : Int) (nm_len (by omega))
   have t1 : fTru (fUn (isiD "str") (fVar 2)) [x0, some (.p n), some (.v (.tup (ps.map prD))), x3] μ = some (false, μ) := by push_cast [tS]
   have t2 : tNotF (fTru (fUn (isiD "tuple") (fVar 2))) [x0, some (.p n), some (.v (.tup (ps.map prD))), x3] μ = some (false, μ) := by push_cast [tT]
   rw [l_law_words_1, ev_ifS, t1, ev_ifF, ev_ifS, t2, ev_ifF, ev_ifS, nt, ev_ifF]
   have z1' : acc.length < sizeLine := small' (by omega)
   push_cast [lg1, str_tn, hn, z1', zt, List.length_map, sa, hlo]
  ·show μ'[n']? = some (.lst (sD (acc ++ wP ps)))
   rw [← h2, List.flatMap_nil, List.append_nil]
   exact h1
end
end LW
namespace LW
open PySem HW L2
theorem lwords_eq : ∀ {k : Nat} {a : D} {ws : List Str}, AK k a ws -> ws.length < 4000 -> n_law_words k [a] = some (.lst (sD ws))
 | 0, _, _, h => h.elim
 | k + 1, a, ws, hh => by
  intro hz
  obtain ⟨wd, pw, h1, h2, rfl, rfl, h5, h6⟩ := hh
  rw [List.length_cons] at hz
  have zf : (pw.map (·.2.2)).length <= sizeLine := small'' (by rw [List.length_map]; omega)
  have s11 : 1 <= sizeLine := by decide
  obtain ⟨⟨acc, x2, x3, n, μ⟩, hlo, h7, h8, h9⟩ := loop_inv (g := gNm 2) (b := l_law_words_1 (n_law_words k)) (fun p : D × List Str × D => p.2.2)
   (fun st : List Str × Option R × Option R × Nat × Store => ([some (.v (.tup (.str wd :: pw.map (·.2.2)))), some (.p st.2.2.2.1), st.2.1, st.2.2.1], st.2.2.2.2))
   (fun st rem => (∀ p ∈ rem, p ∈ pw) /\ st.2.2.2.2[st.2.2.2.1]? = some (.lst (sD st.1)) /\ st.1 ++ rem.flatMap (·.2.1) = wd :: pw.flatMap (·.2.1)) pw ([wd], none, none, 0, [.lst [.str wd]]) ⟨fun _ h => h, rfl, rfl⟩ (by
    rintro ⟨acc, x2, x3, n, μ⟩ p rem ⟨h7, h8, h9⟩
    have hp := h7 p List.mem_cons_self
    obtain ⟨n', μ', x3', e1, e2⟩ := lw_part (F := n_law_words k) (p := p) (k := k) (acc := acc) (x0 := some (.v (.tup (.str wd :: pw.map (·.2.2))))) (x2 := x2) (x3 := x3) (n := n) (μ := μ) (fun a ws' t hl => lwords_eq t (by have := flat_le hp; omega)) (h6 p hp) (by
     have := congrArg List.length h9
     rw [List.flatMap_cons] at this
     simp only [List.length_append, List.length_cons] at this
     omega) h8
    exact ⟨(acc ++ p.2.1, some (.v p.2.2), x3', n', μ'), e1, fun p' hp => h7 p' (List.mem_cons_of_mem _ hp), e2, by rw [List.append_assoc]; exact h9⟩)
  rw [List.flatMap_nil, List.append_nil] at h9
  have h9 : acc = wd :: pw.flatMap (·.2.1) := h9
  have h8 : μ[n]? = some (.lst (sD acc)) := h8
  rw [h9] at h8
  rw [u_law_words]
  push_cast [b_law_words, s11, cut1, zf, hlo, h8]
inductive Pl : Nat -> D -> Prop
 | int {n i} : Pl (n + 1) (.int i)
 | str {n s} : okD 60 (.str s) = true -> Pl (n + 1) (.str s)
 | tup {n ds} : (∀ d ∈ ds, Pl n d) -> ds.length < 4000 -> Pl (n + 1) (.tup ds)
theorem Pl.up {n : Nat} {d : D} (h : Pl n d) : Pl (n + 1) d := by
 induction h with
 | int => exact .int
 | str h => exact .str h
 | tup _ h ih => exact .tup ih h
theorem eq_str (s : Str) : eqD (.str s) (.str s) = true := by show (s == s) = true; exact beq_self_eq_true s
theorem same_eq : ∀ {n : Nat} {d : D}, Pl n d -> m_law_same n [d, d] = some (.bl true)
 | 0, _, h => nomatch h
 | n + 1, d, h => by
  cases h with
  | @int _ i =>
   have iI : ∀ (μ : Store), isiD "str" (.v (.int i)) μ = some (.v (.bl false), μ) := fun μ => by kernel_rfl
   have iT : ∀ (μ : Store), isiD "tuple" (.v (.int i)) μ = some (.v (.bl false), μ) := fun μ => by kernel_rfl
   have iN : ∀ (μ : Store), isiD "int" (.v (.int i)) μ = some (.v (.bl true), μ) := fun μ => by kernel_rfl
   have iB : ∀ (μ : Store), isiD "bool" (.v (.int i)) μ = some (.v (.bl false), μ) := fun μ => by kernel_rfl
   rw [u_law_same]
   push_cast [b_law_same, iI, iT, iN, iB, beq_self_eq_true]
  | @str _ s h =>
   have iI : ∀ (μ : Store), isiD "str" (.v (.str s)) μ = some (.v (.bl true), μ) := fun μ => by kernel_rfl
   have iT : ∀ (μ : Store), isiD "tuple" (.v (.str s)) μ = some (.v (.bl false), μ) := fun μ => by kernel_rfl
   rw [u_law_same]
   push_cast [b_law_same, iI, iT, h, eq_str]
  | @tup _ ds h hl =>
   have iT : ∀ (μ : Store), isiD "tuple" (.v (.tup ds)) μ = some (.v (.bl true), μ) := fun μ => by kernel_rfl
   have z : ds.length <= sizeLine := small'' hl
   have e0 : (!((ds.length : Int) == (ds.length : Int))) = false := by simp
   have r1 := ev_r11 (j := (ds.length : Int)) (μ := ([] : Store)) (by omega)
   have tn : ((ds.length : Int)).toNat = ds.length := by simp
   obtain ⟨ρ, μ, hlo, x2, rfl, rfl⟩ := loop_range (g := gNm 2) (b := l_law_same_0 (m_law_same n)) (ρ := [some (.v (.tup ds)), some (.v (.tup ds)), none]) (μ := []) ds.length
    (fun i ρ μ => ∃ x2 : Option R, ρ = [some (.v (.tup ds)), some (.v (.tup ds)), x2] /\ μ = []) ⟨none, rfl, rfl⟩ (by
     rintro i hi ρ μ ⟨x2, rfl, rfl⟩
     have a1 : atI ds (i : Int) = some ds[i] := at_int (by omega) (by simp [hi])
     have s1 := same_eq (h ds[i] (List.getElem_mem hi))
     refine ⟨_, _, ?_, some (.v (.int (i : Int))), rfl, rfl⟩
     push_cast [l_law_same_0, a1, s1])
   rw [u_law_same]
   push_cast [b_law_same, iT, z, e0, r1, tn, hlo]
theorem Pl.ints {n : Nat} {cs : List Int} (h : cs.length < 4000) : Pl (n + 2) (.tup (cs.map .int)) := .tup (fun d hd => by obtain ⟨c, _, rfl⟩ := List.mem_map.mp hd; exact .int) (by rw [List.length_map]; exact h)
theorem AK.pl : ∀ {k : Nat} {a : D} {ws : List Str}, AK k a ws -> Pl (k + 3) a
 | 0, _, _, h => h.elim
 | k + 1, a, ws, hh => by
  obtain ⟨wd, pw, h1, h2, rfl, rfl, h5, h6⟩ := hh
  refine .tup (fun d hd => ?_) (by simp; omega)
  rcases List.mem_cons.mp hd with rfl | hd
  ·exact .str h2.ok
  ·obtain ⟨p, hp, rfl⟩ := List.mem_map.mp hd
   have t := h6 p hp
   cases t with
   | ask t => exact AK.pl t
   | col t => exact .int
   | num t => exact .int
   | cols t u => exact Pl.ints (by omega)
   | pairs t u => exact .tup (fun d hd => by
     obtain ⟨p, _, rfl⟩ := List.mem_map.mp hd
     exact Pl.ints (cs := [p.1, p.2]) (by simp)) (by rw [List.length_map]; omega)
   | word t => exact .str t.ok
   | name t => exact .str t.ok
end LW
namespace LW
open PySem HW L2
theorem tn_sp (k : Int) : 32 ∉ tn k := by
 intro hc
 have : (32 : Nat) = 45 \/ 32 ∈ dg k.natAbs := by
  unfold tn at hc
  split at hc
  ·simpa using hc
  ·exact .inr hc
 rcases this with h | h
 ·omega
 ·have := dg_dig _ 32 h; omega
theorem ok_back {w : Str} (h : okD 60 (.str w) = true) : ∀ c ∈ w.cps.toList, c < 1114112 := by
 obtain ⟨l, rfl⟩ : ∃ l, w = Tx l := ⟨_, tx_of w⟩
 have o : PyData.strOk (Tx l) = true := h
 unfold PyData.strOk at o
 simp only [Tx, List.all_toArray, List.all_eq_true, decide_eq_true_eq] at o ⊢
 exact o
def Wd (w : Str) : Prop := 32 ∉ w.cps.toList /\ w.length <= 70 /\ ∀ c ∈ w.cps.toList, c < 1114112
theorem wd_n {k : Int} (h : Nm k) : Wd (wN k) := ⟨tn_sp k, by rw [tx_len]; have := tn_len (n := k) (k := 60) (by decide) h; omega, tn_sig k⟩
theorem Lt.wd {w : Str} (h : Lt w) : Wd w := ⟨h.sp, by have := h.le; omega, ok_back h.ok⟩
theorem AK.wd : ∀ {k : Nat} {a : D} {ws : List Str}, AK k a ws -> ∀ w ∈ ws, Wd w
 | 0, _, _, h => h.elim
 | k + 1, a, ws, hh => by
  intro w hw
  obtain ⟨wd, pw, h1, h2, rfl, rfl, h5, h6⟩ := hh
  rcases List.mem_cons.mp hw with rfl | hw
  ·exact h2.wd
  ·obtain ⟨p, hp, hw⟩ := List.mem_flatMap.mp hw
   have t := h6 p hp
   cases t with
   | ask t => exact AK.wd t w hw
   | col t => rw [List.mem_singleton.mp hw]; exact wd_n t
   | num t => rw [List.mem_singleton.mp hw]; exact wd_n t
   | cols t u =>
    rcases List.mem_cons.mp hw with rfl | hw
    ·exact wd_n (nm_len (by omega))
    ·obtain ⟨c, hc, rfl⟩ := List.mem_map.mp hw
     exact wd_n (u c hc)
   | pairs t u =>
    rcases List.mem_cons.mp hw with rfl | hw
    ·exact wd_n (nm_len (by omega))
    ·obtain ⟨c, hc, hw⟩ := List.mem_flatMap.mp hw
     rcases List.mem_cons.mp hw with rfl | hw
     ·exact wd_n (u c hc).1
     ·rw [List.mem_singleton.mp hw]; exact wd_n (u c hc).2
   | word t => rw [List.mem_singleton.mp hw]; exact t.wd
   | name t => rw [List.mem_singleton.mp hw]; exact t.wd
theorem AK.ne {k : Nat} {a : D} {ws : List Str} (h : AK k a ws) : ws ≠ [] := by
 cases k with
 | zero => exact h.elim
 | succ k => obtain ⟨wd, pw, h1, h2, rfl, rfl, h5, h6⟩ := h; simp
noncomputable abbrev jn (ws : List Str) : Str := Txt.join ⟨#[32]⟩ ws
theorem jn_ok : ∀ {ws : List Str}, (∀ w ∈ ws, Wd w) -> ∀ c ∈ (Str.join ⟨#[32]⟩ ws).cps.toList, c < 1114112
 | [], _, c, hc => by have hc : c ∈ ([] : List Nat) := hc; cases hc
 | [a], h, c, hc => (h a List.mem_cons_self).2.2 c hc
 | a :: b :: r, h, c, hc => by
  have e : Str.join ⟨#[32]⟩ (a :: b :: r) = a ++ ⟨#[32]⟩ ++ Str.join ⟨#[32]⟩ (b :: r) := rfl
  rw [e, Str.cps_append, Str.cps_append, Array.toList_append, Array.toList_append] at hc
  rcases List.mem_append.mp hc with hc | hc
  ·rcases List.mem_append.mp hc with hc | hc
   ·exact (h a List.mem_cons_self).2.2 c hc
   ·have : c = 32 := by simpa using hc
    omega
  ·exact jn_ok (fun w hw => h w (List.mem_cons_of_mem _ hw)) c hc
theorem ok_jn {ws : List Str} (h : ∀ w ∈ ws, Wd w) : okD 60 (.str (jn ws)) = true := by
 have e : jn ws = Str.join ⟨#[32]⟩ ws := PySem.StrLaws.glued_eq_join _ _
 rw [e, tx_of (Str.join ⟨#[32]⟩ ws)]
 exact sv_ok (jn_ok h)
theorem texts_sD (ws : List Str) : textsD (sD ws) = some ws := by
 induction ws with
 | nil => rfl
 | cons w r ih => simp only [sD, List.map_cons, textsD] at ih ⊢; rw [ih]; rfl
theorem join_ev {ws : List Str} {n : Nat} {μ : Store} (h : μ[n]? = some (.lst (sD ws))) (hw : ∀ w ∈ ws, Wd w) (hl : ws.length < 4000) : joinD (.v (.str " ")) (.p n) μ = some (.v (.str (jn ws)), μ) := by
 show ((cIt μ[n]?).bind fun ds => (textsD ds).bind fun ts => if JoinOk (Str.ofString " ") ts = true then some (R.v (.str (Txt.join (Str.ofString " ") ts)), μ) else none) = _
 rw [h]
 show ((textsD (sD ws)).bind fun ts => if JoinOk (Str.ofString " ") ts = true then some (R.v (.str (Txt.join (Str.ofString " ") ts)), μ) else none) = _
 rw [texts_sD, tx_sp]
 show (if JoinOk ⟨#[32]⟩ ws = true then some (R.v (.str (Txt.join ⟨#[32]⟩ ws)), μ) else none) = _
 rw [if_pos (join_ok ws (fun w h => (hw w h).2.1) hl)]
theorem write_eq {a : D} {ws : List Str} (h : AK 24 a ws) (hl : ws.length < 4000) : m_write_ask [a] = some (.str (jn ws)) := by
 have e := words_eq h hl
 have fl := fl_strs ws
 have j := join_ev (n := 0) (μ := [.lst (sD ws)]) rfl h.wd hl
 rw [u_write_ask]
 push_cast [b_write_ask, e, fl, j]
theorem isi_str (s : Str) (μ : Store) : isiD "str" (.v (.str s)) μ = some (.v (.bl true), μ) := by kernel_rfl
theorem wof_eq {ws : List Str} (h0 : ws ≠ []) (hw : ∀ w ∈ ws, Wd w) (hl : ws.length < 4000) : n_words_of [.str (jn ws)] = some (.lst (sD ws)) := by
 have c : m_check_text [.str (jn ws)] = some .non := by
  rw [u_check_text]
  push_cast [b_check_text, isi_str]
 have s : splD (.v (.str (jn ws))) (.v (.str " ")) [] = some (.p 0, [.lst (sD ws)]) := by
  unfold splD
  rw [tx_sp]
  dsimp only
  rw [if_pos ⟨rfl, join_len ws (fun w h => (hw w h).2.1) hl⟩, split_join 32 ws h0 fun w h => (hw w h).1]
  rfl
 rw [u_words_of]
 push_cast [b_words_of, c, s]
theorem read_eq {a : D} {ws : List Str} (h : AK 20 a ws) (hl : ws.length < 4000) : m_read_ask [.str (jn ws)] = some a := by
 have wo := wof_eq h.ne h.wd hl
 have fl := fl_strs ws
 have ini : w_Reader_init [.p 0, .v (.str (jn ws))] [.ob "Reader" []] = some (.v .non, [.ob "Reader" (rdF 1 0), .lst (sD ws)]) := by
  have e1 : (fCallN n_words_of 1 (fCons (fVar 1) fNil)) [some (.p 0), some (.v (.str (jn ws)))] [.ob "Reader" []] = some (.p 1, [.ob "Reader" [], .lst (sD ws)]) := by
   push_cast [wo, fl]
  have f1 : sFldF "Reader" "words" (fVar 0) (fCallN n_words_of 1 (fCons (fVar 1) fNil)) [some (.p 0), some (.v (.str (jn ws)))] [.ob "Reader" []] = some (.nx [some (.p 0), some (.v (.str (jn ws)))] [.ob "Reader" [("words", .p 1)], .lst (sD ws)]) := by
   unfold sFldF
   rw [e1]
   rfl
  have f2 : sFldF "Reader" "place" (fVar 0) (fK (.int 0)) [some (.p 0), some (.v (.str (jn ws)))] [.ob "Reader" [("words", .p 1)], .lst (sD ws)] = some (.nx [some (.p 0), some (.v (.str (jn ws)))] [.ob "Reader" (rdF 1 0), .lst (sD ws)]) := by
   have pf : putFR "place" (.v (.int 0)) [("words", .p 1)] = rdF 1 0 := by simp [putFR, sWP']
   show some (Out.nx _ [.ob "Reader" (putFR "place" (.v (.int 0)) [("words", .p 1)]), .lst (sD ws)]) = _
   rw [pf]
  rw [u_Reader_init]
  push_cast [b_Reader_init, f1, f2]
  rfl
 have mk : fMakeA "Reader" w_Reader_init 2 (fCons (fVar 0) fNil) [some (.v (.str (jn ws))), none, none] [] = some (.p 0, [.ob "Reader" (rdF 1 0), .lst (sD ws)]) := by
  show ((w_Reader_init [.p 0, .v (.str (jn ws))] [.ob "Reader" []]).bind _) = _
  rw [ini]
  rfl
 have rs : RS 0 1 ws 0 [.ob "Reader" (rdF 1 0), .lst (sD ws)] := ⟨rfl, rfl, hl⟩
 obtain ⟨μ', e1, h1, f1⟩ := part_eq h 4 0 _ 1 (by decide) rs (by show ws <+: ws.drop 0; rw [List.drop_zero]; exact List.prefix_refl _)
 rw [Nat.zero_add] at h1
 have cw : fCallW (w_read_part 24) 2 (fCons (fVar 1) (fCons (fK (.int 1)) fNil)) [some (.v (.str (jn ws))), some (.p 0), none] [.ob "Reader" (rdF 1 0), .lst (sD ws)] = some (.v a, μ') := e1
 have fin : w_Reader_finish [.p 0] μ' = some (.v .non, μ') := by
  have e0 : (!((ws.length : Int) == (ws.length : Int))) = false := by simp
  rw [u_Reader_finish]
  push_cast [b_Reader_finish, f_ws h1 (fo := fVar 0) (ρ := [some (R.p 0)]) rfl, f_pl h1 (fo := fVar 0) (ρ := [some (R.p 0)]) rfl, lst_len h1, e0]
  rfl
 have mf := e_methR (ρ := [some (.v (.str (jn ws))), some (.p 0), some (.v a)]) (fo := fVar 1) (f := w_Reader_finish) (m := 1) h1 rfl n_f n_f'
 rw [fin] at mf
 rw [u_read_ask]
 push_cast [b_read_ask, mk, cw, mf]
end LW
namespace LW
open PySem HW L2
theorem lt_of {l : List Nat} (h1 : 1 <= l.length) (h2 : l.length <= 8) (h : ∀ c ∈ l, c ∈ az) : Lt (Tx l) := by
 have m := made_by l az _ 8 tx_az h1 (by omega) (by omega) h
 have hb : ∀ c ∈ l, 97 <= c /\ c <= 122 := fun c hc => az_b c (h c hc)
 refine ⟨?_, ok_all fun c hc => by have := hb c hc; omega, fun hc => by have := hb 32 hc; omega, by rw [tx_len]; omega⟩
 rw [u_read_letters]
 push_cast [b_read_letters, m]
theorem lt_ws {w : Str} {l : List Nat} (e : w = Tx l) (h : (decide (1 <= l.length) && decide (l.length <= 8) && l.all (fun c => az.contains c)) = true) : Lt w := by
 subst e
 simp only [Bool.and_eq_true, decide_eq_true_eq, List.all_eq_true, List.contains_iff_mem] at h
 exact lt_of h.1.1 h.1.2 h.2
theorem lt_table : Lt "table" := lt_ws (l := [116, 97, 98, 108, 101]) (by decide +kernel) (by decide)
theorem lt_pick : Lt "pick" := lt_ws (l := [112, 105, 99, 107]) (by decide +kernel) (by decide)
theorem lt_twins : Lt "twins" := lt_ws (l := [116, 119, 105, 110, 115]) (by decide +kernel) (by decide)
theorem lt_columns : Lt "columns" := lt_ws (l := [99, 111, 108, 117, 109, 110, 115]) (by decide +kernel) (by decide)
theorem lt_counted : Lt "counted" := lt_ws (l := [99, 111, 117, 110, 116, 101, 100]) (by decide +kernel) (by decide)
theorem lt_summed : Lt "summed" := lt_ws (l := [115, 117, 109, 109, 101, 100]) (by decide +kernel) (by decide)
theorem lt_lifted : Lt "lifted" := lt_ws (l := [108, 105, 102, 116, 101, 100]) (by decide +kernel) (by decide)
theorem lt_joined : Lt "joined" := lt_ws (l := [106, 111, 105, 110, 101, 100]) (by decide +kernel) (by decide)
theorem lt_matched : Lt "matched" := lt_ws (l := [109, 97, 116, 99, 104, 101, 100]) (by decide +kernel) (by decide)
theorem w_pick : ∀ w ∈ (["is", "under", "over", "abcdefgh"] : List Str), Lt w := by
 intro w hw
 simp only [List.mem_cons, List.not_mem_nil, or_false] at hw
 rcases hw with rfl | rfl | rfl | rfl
 ·exact lt_ws (l := [105, 115]) (by decide +kernel) (by decide)
 ·exact lt_ws (l := [117, 110, 100, 101, 114]) (by decide +kernel) (by decide)
 ·exact lt_ws (l := [111, 118, 101, 114]) (by decide +kernel) (by decide)
 ·exact lt_ws (l := [97, 98, 99, 100, 101, 102, 103, 104]) (by decide +kernel) (by decide)
theorem w_lift : ∀ w ∈ (["moved", "ever", "always", "known", "asof", "from", "q"] : List Str), Lt w := by
 intro w hw
 simp only [List.mem_cons, List.not_mem_nil, or_false] at hw
 rcases hw with rfl | rfl | rfl | rfl | rfl | rfl | rfl
 ·exact lt_ws (l := [109, 111, 118, 101, 100]) (by decide +kernel) (by decide)
 ·exact lt_ws (l := [101, 118, 101, 114]) (by decide +kernel) (by decide)
 ·exact lt_ws (l := [97, 108, 119, 97, 121, 115]) (by decide +kernel) (by decide)
 ·exact lt_ws (l := [107, 110, 111, 119, 110]) (by decide +kernel) (by decide)
 ·exact lt_ws (l := [97, 115, 111, 102]) (by decide +kernel) (by decide)
 ·exact lt_ws (l := [102, 114, 111, 109]) (by decide +kernel) (by decide)
 ·exact lt_ws (l := [113]) (by decide +kernel) (by decide)
theorem w_join : ∀ w ∈ (["both", "either", "less", "just", "table"] : List Str), Lt w := by
 intro w hw
 simp only [List.mem_cons, List.not_mem_nil, or_false] at hw
 rcases hw with rfl | rfl | rfl | rfl | rfl
 ·exact lt_ws (l := [98, 111, 116, 104]) (by decide +kernel) (by decide)
 ·exact lt_ws (l := [101, 105, 116, 104, 101, 114]) (by decide +kernel) (by decide)
 ·exact lt_ws (l := [108, 101, 115, 115]) (by decide +kernel) (by decide)
 ·exact lt_ws (l := [106, 117, 115, 116]) (by decide +kernel) (by decide)
 ·exact lt_table
section
variable {k : Nat} {a b : D} {u v : List Str}
theorem mem2 {P : D × List Str × D -> Prop} {x y} (h1 : P x) (h2 : P y) : ∀ p ∈ [x, y], P p := fun p hp => by
 rcases List.mem_cons.mp hp with rfl | hp
 ·exact h1
 ·rw [List.mem_singleton.mp hp]; exact h2
theorem mem3 {P : D × List Str × D -> Prop} {x y z} (h1 : P x) (h2 : P y) (h3 : P z) : ∀ p ∈ [x, y, z], P p := fun p hp => by
 rcases List.mem_cons.mp hp with rfl | hp
 ·exact h1
 ·exact mem2 h2 h3 p hp
theorem mem4 {P : D × List Str × D -> Prop} {x y z t} (h1 : P x) (h2 : P y) (h3 : P z) (h4 : P t) : ∀ p ∈ [x, y, z, t], P p := fun p hp => by
 rcases List.mem_cons.mp hp with rfl | hp
 ·exact h1
 ·exact mem3 h2 h3 h4 p hp
theorem ak_tab {w : Str} (h : Lt w) : AK (k + 1) (.tup [.str "table", .str w]) ["table", w] :=
 ⟨"table", [(.str "name", [w], .str w)], by kernel_rfl, lt_table, rfl, rfl, by simp, fun p hp => by rw [List.mem_singleton.mp hp]; exact .name h⟩
theorem ak_pick {c n : Int} {w : Str} (h : AK k a u) (hc : Nm c) (hw : Lt w) (hn : Nm n) : AK (k + 1) (.tup [.str "pick", a, .int c, .str w, .int n]) ("pick" :: (u ++ [wN c, w, wN n])) :=
 ⟨"pick", [(.str "ask", u, a), (.str "column", [wN c], .int c), (.str "word", [w], .str w), (.str "number", [wN n], .int n)], by kernel_rfl, lt_pick, rfl, by simp, by simp, mem4 (.ask h) (.col hc) (.word hw) (.num hn)⟩
theorem ak_twins {c c' : Int} (h : AK k a u) (hc : Nm c) (hc' : Nm c') : AK (k + 1) (.tup [.str "twins", a, .int c, .int c']) ("twins" :: (u ++ [wN c, wN c'])) :=
 ⟨"twins", [(.str "ask", u, a), (.str "column", [wN c], .int c), (.str "column", [wN c'], .int c')], by kernel_rfl, lt_twins, rfl, by simp, by simp, mem3 (.ask h) (.col hc) (.col hc')⟩
theorem ak_lift {n : Int} {w : Str} (h : AK k a u) (hw : Lt w) (hn : Nm n) : AK (k + 1) (.tup [.str "lifted", a, .str w, .int n]) ("lifted" :: (u ++ [w, wN n])) :=
 ⟨"lifted", [(.str "ask", u, a), (.str "word", [w], .str w), (.str "number", [wN n], .int n)], by kernel_rfl, lt_lifted, rfl, by simp, by simp, mem3 (.ask h) (.word hw) (.num hn)⟩
theorem ak_sum {cs : List Int} {c : Int} (h : AK k a u) (hl : cs.length < 10) (hcs : ∀ c ∈ cs, Nm c) (hc : Nm c) : AK (k + 1) (.tup [.str "summed", a, .tup (cs.map .int), .int c]) ("summed" :: (u ++ (wC cs ++ [wN c]))) :=
 ⟨"summed", [(.str "ask", u, a), (.str "columns", wC cs, .tup (cs.map .int)), (.str "column", [wN c], .int c)], by kernel_rfl, lt_summed, rfl, by simp, by simp, mem3 (.ask h) (.cols hl hcs) (.col hc)⟩
theorem ak_cols {cs : List Int} (h : AK k a u) (hl : cs.length < 10) (hcs : ∀ c ∈ cs, Nm c) : AK (k + 1) (.tup [.str "columns", a, .tup (cs.map .int)]) ("columns" :: (u ++ wC cs)) :=
 ⟨"columns", [(.str "ask", u, a), (.str "columns", wC cs, .tup (cs.map .int))], by kernel_rfl, lt_columns, rfl, by simp, by simp, mem2 (.ask h) (.cols hl hcs)⟩
theorem ak_cnt {cs : List Int} (h : AK k a u) (hl : cs.length < 10) (hcs : ∀ c ∈ cs, Nm c) : AK (k + 1) (.tup [.str "counted", a, .tup (cs.map .int)]) ("counted" :: (u ++ wC cs)) :=
 ⟨"counted", [(.str "ask", u, a), (.str "columns", wC cs, .tup (cs.map .int))], by kernel_rfl, lt_counted, rfl, by simp, by simp, mem2 (.ask h) (.cols hl hcs)⟩
theorem ak_join {w : Str} (h : AK k a u) (h' : AK k b v) (hw : Lt w) : AK (k + 1) (.tup [.str "joined", a, b, .str w]) ("joined" :: (u ++ (v ++ [w]))) :=
 ⟨"joined", [(.str "ask", u, a), (.str "ask", v, b), (.str "word", [w], .str w)], by kernel_rfl, lt_joined, rfl, by simp, by simp, mem3 (.ask h) (.ask h') (.word hw)⟩
theorem ak_mat {ps : List (Int × Int)} (h : AK k a u) (h' : AK k b v) (hl : ps.length < 10) (hp : ∀ p ∈ ps, Nm p.1 /\ Nm p.2) : AK (k + 1) (.tup [.str "matched", a, b, .tup (ps.map prD)]) ("matched" :: (u ++ (v ++ wP ps))) :=
 ⟨"matched", [(.str "ask", u, a), (.str "ask", v, b), (.str "pairs", wP ps, .tup (ps.map prD))], by kernel_rfl, lt_matched, rfl, by simp, by simp, mem3 (.ask h) (.ask h') (.pairs hl hp)⟩
end
theorem nm_s {k : Int} (h : 0 <= k /\ k < 9) : Nm k := by
 show k.natAbs < 10 ^ 60
 exact Nat.lt_of_lt_of_le (show k.natAbs < 9 by omega) (by decide)
theorem columns_ex (ns : List Int) (k : Int) : ∃ cs : List Int, m_law_columns [.fl (ns.map .int), .int k] = some (.tup (cs.map .int)) /\ cs.length <= 3 /\ ∀ c ∈ cs, Nm c := by
 obtain ⟨d, ed, bd⟩ := draw_ex ns k 4 (by decide)
 obtain ⟨m, rfl⟩ : ∃ m : Nat, d = (m : Int) := ⟨d.toNat, by omega⟩
 have ex : ∀ j : Nat, ∃ c : Int, m_law_draw [.fl (ns.map .int), .int (k + 1 + j), .int 9] = some (.int c) /\ Nm c := fun j => by
  obtain ⟨c, ec, bc⟩ := draw_ex ns (k + 1 + j) 9 (by decide)
  exact ⟨c, ec, nm_s bc⟩
 obtain ⟨f, hf⟩ : ∃ f : Nat -> Int, ∀ j : Nat, m_law_draw [.fl (ns.map .int), .int (k + 1 + j), .int 9] = some (.int (f j)) /\ Nm (f j) := ⟨fun j => (ex j).choose, fun j => (ex j).choose_spec⟩
 have co := comp_typed (f := fCall m_law_draw 3 (fCons (fFz (fVar 1)) (fCons (fFz (fOp addQ (fOp addQ (fVar 2) (fK (.int 1))) (fVar 0))) (fCons (fK (.int 9)) fNil)))) (μ := []) (rest := [some (.v (.fl (ns.map .int))), some (.v (.int k))]) (fun i : Nat => D.int (i : Int)) (fun i => D.int (f i)) (List.range m) none (fun i _ => by
  push_cast [(hf i).1])
 have r1 := ev_r11 (j := (m : Int)) (μ := ([] : Store)) (by omega)
 have z : ((List.range m).map fun i : Nat => D.int (i : Int)).length <= sizeLine := small'' (by simp; omega)
 have b : blockLo 1 [0, 1] [some (R.v (.fl (ns.map .int))), some (.v (.int k)), some (.v (.int m))] = [none, some (.v (.fl (ns.map .int))), some (.v (.int k))] := rfl
 refine ⟨(List.range m).map f, ?_, by simp; omega, fun c hc => by obtain ⟨j, _, rfl⟩ := List.mem_map.mp hc; exact (hf j).2⟩
 rw [u_law_columns]
 push_cast [b_law_columns, ed, r1, Int.toNat_natCast, z, b, co]
 rw [List.map_map]
 rfl
theorem at_mapD {ws : List Str} {i : Int} (h : 0 <= i /\ i < (ws.length : Int)) : ∃ w ∈ ws, atI (sD ws) i = some (.str w) := by
 obtain ⟨j, rfl⟩ : ∃ j : Nat, (j : Int) = i := ⟨i.toNat, Int.toNat_of_nonneg h.1⟩
 have hj : j < ws.length := by omega
 exact ⟨ws[j], List.getElem_mem hj, at_mapS (List.getElem?_eq_getElem hj)⟩
end LW
namespace LW
open PySem HW L2
theorem o_pick : okD 60 (.str "pick") = true := by kernel_rfl
theorem o_twins : okD 60 (.str "twins") = true := by kernel_rfl
theorem o_lifted : okD 60 (.str "lifted") = true := by kernel_rfl
theorem o_summed : okD 60 (.str "summed") = true := by kernel_rfl
theorem o_joined : okD 60 (.str "joined") = true := by kernel_rfl
theorem one_ex {ns : List Int} {at_ : Int} {kind : Str} {k : Nat} {a : D} {u : List Str} (hk : kind ∈ (["pick", "twins", "columns", "counted", "summed", "lifted"] : List Str)) (h : AK k a u) :
  ∃ a' ws, m_law_one [.fl (ns.map .int), .int at_, .str kind, a] = some a' /\ AK (k + 1) a' ws /\ ws.length <= u.length + 9 := by
 obtain ⟨n, hn, bn⟩ := law_number ns (at_ + 3)
 obtain ⟨n2, hn2, bn2⟩ := law_number ns (at_ + 2)
 obtain ⟨c1, hc1, bc1⟩ := draw_ex ns (at_ + 1) 9 (by decide)
 obtain ⟨c2, hc2, bc2⟩ := draw_ex ns (at_ + 2) 9 (by decide)
 obtain ⟨c6, hc6, bc6⟩ := draw_ex ns (at_ + 6) 9 (by decide)
 obtain ⟨d4, hd4, bd4⟩ := draw_ex ns (at_ + 1) 4 (by decide)
 obtain ⟨d7, hd7, bd7⟩ := draw_ex ns (at_ + 1) 7 (by decide)
 obtain ⟨cs, hcs, lcs, ncs⟩ := columns_ex ns (at_ + 1)
 obtain ⟨w, hw, aw⟩ := at_mapD (ws := ["is", "under", "over", "abcdefgh"]) (i := d4) bd4
 obtain ⟨w', hw', aw'⟩ := at_mapD (ws := ["moved", "ever", "always", "known", "asof", "from", "q"]) (i := d7) bd7
 simp only [sD, List.map_cons, List.map_nil] at aw aw'
 have s4 : 4 <= sizeLine := by decide
 have s5 : 5 <= sizeLine := by decide
 have s7 : 7 <= sizeLine := by decide
 have s3 : 3 <= sizeLine := by decide
 simp only [List.mem_cons, List.not_mem_nil, or_false] at hk
 rw [u_law_one]
 rcases hk with rfl | rfl | rfl | rfl | rfl | rfl
 ·refine ⟨_, _, ?_, ak_pick h (nm_s bc2) (w_pick w hw) bn, by simp⟩
  push_cast [b_law_one, o_pick, eq_str, hd4, aw, hc2, hn, s4, s5]
 ·have e1 : eqD (.str "twins") (.str "pick") = false := by kernel_rfl
  refine ⟨_, _, ?_, ak_twins h (nm_s bc1) (nm_s bc2), by simp⟩
  push_cast [b_law_one, o_pick, o_twins, eq_str, e1, hc1, hc2, s4]
 ·have e0 : okD 60 (.str "columns") = true := by kernel_rfl
  have e1 : eqD (.str "columns") (.str "pick") = false := by kernel_rfl
  have e2 : eqD (.str "columns") (.str "twins") = false := by kernel_rfl
  have e3 : eqD (.str "columns") (.str "lifted") = false := by kernel_rfl
  have e4 : eqD (.str "columns") (.str "summed") = false := by kernel_rfl
  refine ⟨_, _, ?_, ak_cols h (by omega) ncs, by simp; omega⟩
  push_cast [b_law_one, o_pick, o_twins, o_lifted, o_summed, e0, e1, e2, e3, e4, hcs, s3]
 ·have e0 : okD 60 (.str "counted") = true := by kernel_rfl
  have e1 : eqD (.str "counted") (.str "pick") = false := by kernel_rfl
  have e2 : eqD (.str "counted") (.str "twins") = false := by kernel_rfl
  have e3 : eqD (.str "counted") (.str "lifted") = false := by kernel_rfl
  have e4 : eqD (.str "counted") (.str "summed") = false := by kernel_rfl
  refine ⟨_, _, ?_, ak_cnt h (by omega) ncs, by simp; omega⟩
  push_cast [b_law_one, o_pick, o_twins, o_lifted, o_summed, e0, e1, e2, e3, e4, hcs, s3]
 ·have e1 : eqD (.str "summed") (.str "pick") = false := by kernel_rfl
  have e2 : eqD (.str "summed") (.str "twins") = false := by kernel_rfl
  have e3 : eqD (.str "summed") (.str "lifted") = false := by kernel_rfl
  refine ⟨_, _, ?_, ak_sum h (by omega) ncs (nm_s bc6), by simp; omega⟩
  push_cast [b_law_one, o_pick, o_twins, o_lifted, o_summed, eq_str, e1, e2, e3, hcs, hc6, s4]
 ·have e1 : eqD (.str "lifted") (.str "pick") = false := by kernel_rfl
  have e2 : eqD (.str "lifted") (.str "twins") = false := by kernel_rfl
  refine ⟨_, _, ?_, ak_lift h (w_lift w' hw') bn2, by simp⟩
  push_cast [b_law_one, o_pick, o_twins, o_lifted, eq_str, e1, e2, hd7, aw', hn2, s4, s7]
theorem two_ex {ns : List Int} {at_ : Int} {kind : Str} {k : Nat} {a b : D} {u v : List Str} (hk : kind = "joined" \/ kind = "matched") (h : AK k a u) (h' : AK k b v) :
  ∃ a' ws, m_law_two [.fl (ns.map .int), .int at_, .str kind, a, b] = some a' /\ AK (k + 1) a' ws /\ ws.length <= u.length + v.length + 9 := by
 obtain ⟨c6, hc6, bc6⟩ := draw_ex ns (at_ + 6) 9 (by decide)
 obtain ⟨d5, hd5, bd5⟩ := draw_ex ns (at_ + 1) 5 (by decide)
 obtain ⟨cs, hcs, lcs, ncs⟩ := columns_ex ns (at_ + 1)
 obtain ⟨w, hw, aw⟩ := at_mapD (ws := ["both", "either", "less", "just", "table"]) (i := d5) bd5
 simp only [sD, List.map_cons, List.map_nil] at aw
 have s4 : 4 <= sizeLine := by decide
 have s5 : 5 <= sizeLine := by decide
 rw [u_law_two]
 rcases hk with rfl | rfl
 ·refine ⟨_, _, ?_, ak_join h h' (w_join w hw), by simp; omega⟩
  push_cast [b_law_two, o_joined, eq_str, hd5, aw, s4, s5]
 ·have e0 : okD 60 (.str "matched") = true := by kernel_rfl
  have e1 : eqD (.str "matched") (.str "joined") = false := by kernel_rfl
  have fl2 : ∀ l : List (Int × Int), (l.flatMap fun p => [wN p.1, wN p.2]).length = 2 * l.length := fun l => by
   induction l with
   | nil => rfl
   | cons a l ih => rw [List.flatMap_cons, List.length_append, ih]; simp; omega
  refine ⟨_, _, ?_, ak_mat h h' (ps := cs.map fun c => (c, c6)) (by simp; omega) (fun p hp => by obtain ⟨c, hc, rfl⟩ := List.mem_map.mp hp; exact ⟨ncs c hc, nm_s bc6⟩), by
   have := fl2 (cs.map fun c => (c, c6))
   rw [List.length_cons, List.length_append, List.length_append, List.length_cons, this, List.length_map]
   omega⟩
  have co := comp_typed (f := fTup (fCons (fVar 0) (fCons (fCall m_law_draw 3 (fCons (fFz (fVar 1)) (fCons (fFz (fOp addQ (fVar 2) (fK (.int 6)))) (fCons (fK (.int 9)) fNil)))) fNil))) (μ := []) (rest := [some (.v (.fl (ns.map .int))), some (.v (.int at_))]) D.int (fun c => prD (c, c6)) cs none (fun c _ => by
   push_cast [hc6])
  have z : (cs.map D.int).length <= sizeLine := small'' (by rw [List.length_map]; omega)
  have bl : blockLo 1 [0, 1] [some (R.v (.fl (ns.map .int))), some (.v (.int at_)), some (.v (.str "matched")), some (.v a), some (.v b), some (.v (.tup (cs.map .int)))] = [none, some (.v (.fl (ns.map .int))), some (.v (.int at_))] := rfl
  push_cast [b_law_two, o_joined, e0, e1, hcs, z, bl, co, s4]
  rw [List.map_map]
  rfl
end LW
namespace LW
open PySem HW L2
section
variable {xs : List D} {x y : D}
theorem ix_m1 : ixN (xs ++ [x]).length (-1) = some xs.length := by
 unfold ixN
 rw [if_neg (by omega), if_pos (by simp; omega)]
 simp; omega
theorem at_m1 : atI (xs ++ [x]) (-1) = some x := by
 unfold atI; rw [ix_m1]; simp
theorem at_m2 : atI (xs ++ [y, x]) (-2) = some y := by
 have : ixN (xs ++ [y, x]).length (-2) = some xs.length := by
  unfold ixN
  rw [if_neg (by omega), if_pos (by simp; omega)]
  simp; omega
 unfold atI; rw [this]; simp
end
theorem pop_ev0 {xs : List D} {x : D} {μ : Store} : pop0D (.p 0) [] (.lst (xs ++ [x]) :: μ) = some (.v x, .lst xs :: μ) := by simp [pop0D]
theorem pop_ev1 {xs : List D} {x : D} {c : Cell} {μ : Store} : pop0D (.p 1) [] (c :: .lst (xs ++ [x]) :: μ) = some (.v x, c :: .lst xs :: μ) := by simp [pop0D]
theorem set_m1 {xs : List D} {x y : D} : (xs ++ [x]).set xs.length y = xs ++ [y] := by simp
noncomputable abbrev Ak := D × List Str × Nat
noncomputable abbrev aD (a : Ak) : D := a.1
noncomputable abbrev dD (a : Ak) : D := .int (a.2.2 : Int)
noncomputable def wds (as : List Ak) : Nat := (as.map fun a => a.2.1.length).sum
structure GA (m : Nat) (as : List Ak) : Prop where
 ak : ∀ a ∈ as, AK a.2.2 a.1 a.2.1 /\ a.2.2 <= 20
 wd : wds as <= 10 * m
 ln : as.length <= m
theorem wds_app (as bs : List Ak) : wds (as ++ bs) = wds as + wds bs := by simp [wds]
theorem wds_1 (a : Ak) : wds [a] = a.2.1.length := by simp [wds]
theorem wds_le {as : List Ak} {a : Ak} (h : a ∈ as) : a.2.1.length <= wds as := by
 induction as with
 | nil => cases h
 | cons b as ih =>
  rw [← List.singleton_append, wds_app, wds_1]
  rcases List.mem_cons.mp h with rfl | h
  ·omega
  ·have := ih h; omega
theorem kinds_ex {w : Str} (h : w ∈ (["table", "pick", "twins", "columns", "counted", "summed", "lifted", "joined", "matched", "joined"] : List Str)) :
  ((w = "joined" \/ w = "matched") /\ (∀ μ, inW false (.v (.str w)) (.v (.tup [.str "joined", .str "matched"])) μ = some (.v (.bl true), μ)) /\ ∀ μ, inW false (.v (.str w)) (.v (.tup [.str "table", .str "joined", .str "matched"])) μ = some (.v (.bl true), μ)) \/
  ((∀ μ, inW false (.v (.str w)) (.v (.tup [.str "joined", .str "matched"])) μ = some (.v (.bl false), μ)) /\ ∀ μ, inW false (.v (.str w)) (.v (.tup [.str "table", .str "joined", .str "matched"])) μ = some (.v (.bl true), μ)) \/
  (w ∈ (["pick", "twins", "columns", "counted", "summed", "lifted"] : List Str) /\ (∀ μ, inW false (.v (.str w)) (.v (.tup [.str "joined", .str "matched"])) μ = some (.v (.bl false), μ)) /\ ∀ μ, inW false (.v (.str w)) (.v (.tup [.str "table", .str "joined", .str "matched"])) μ = some (.v (.bl false), μ)) := by
 simp only [List.mem_cons, List.not_mem_nil, or_false] at h
 rcases h with rfl | rfl | rfl | rfl | rfl | rfl | rfl | rfl | rfl | rfl
 ·exact .inr (.inl ⟨fun μ => by kernel_rfl, fun μ => by kernel_rfl⟩)
 ·exact .inr (.inr ⟨by simp, fun μ => by kernel_rfl, fun μ => by kernel_rfl⟩)
 ·exact .inr (.inr ⟨by simp, fun μ => by kernel_rfl, fun μ => by kernel_rfl⟩)
 ·exact .inr (.inr ⟨by simp, fun μ => by kernel_rfl, fun μ => by kernel_rfl⟩)
 ·exact .inr (.inr ⟨by simp, fun μ => by kernel_rfl, fun μ => by kernel_rfl⟩)
 ·exact .inr (.inr ⟨by simp, fun μ => by kernel_rfl, fun μ => by kernel_rfl⟩)
 ·exact .inr (.inr ⟨by simp, fun μ => by kernel_rfl, fun μ => by kernel_rfl⟩)
 ·exact .inl ⟨.inl rfl, fun μ => by kernel_rfl, fun μ => by kernel_rfl⟩
 ·exact .inl ⟨.inr rfl, fun μ => by kernel_rfl, fun μ => by kernel_rfl⟩
 ·exact .inl ⟨.inl rfl, fun μ => by kernel_rfl, fun μ => by kernel_rfl⟩
theorem name_ex (ns : List Int) (k : Int) : ∃ w : Str, m_law_name [.fl (ns.map .int), .int k] = some (.str w) /\ Lt w := by
 obtain ⟨l, e, h1, h2, h3⟩ := law_name ns k
 exact ⟨_, e, lt_of h1 h2 h3⟩
noncomputable abbrev kds : List D := [.str "table", .str "pick", .str "twins", .str "columns", .str "counted", .str "summed", .str "lifted", .str "joined", .str "matched", .str "joined"]
noncomputable abbrev tst2 : FT := tAndF (fB (fOp (inW false) (fVar 7) (fTup (fCons (fK (.str "joined")) (fCons (fK (.str "matched")) fNil))))) (tAndF (fB (fOp gtD (fAr lenD (fCons (fVar 3) fNil)) (fK (.int 1)))) (fB (fOp ltD (fAr maxD (fCons (fOp ixD (fVar 4) (fUn negD (fK (.int 1)))) (fCons (fOp ixD (fVar 4) (fUn negD (fK (.int 2)))) fNil))) (fK (.int 20)))))
noncomputable abbrev tst3 : FT := tOrF (fB (fOp (inW false) (fVar 7) (fTup (fCons (fK (.str "table")) (fCons (fK (.str "joined")) (fCons (fK (.str "matched")) fNil)))))) (fB (fOp gtD (fOp ixD (fVar 4) (fUn negD (fK (.int 1)))) (fK (.int 19))))
section
variable {ns : List Int} {n0 base : Int} {x5 x6 x7 x8 x9 x10 : Option R} {cs : List Cell} {i : Nat}
noncomputable abbrev asL (ns : List Int) (n0 base : Int) (x5 x6 x7 x8 x9 x10 : Option R) : Lo := [some (.v (.fl (ns.map .int))), some (.v (.int n0)), some (.v (.int base)), some (.p 0), some (.p 1), x5, x6, x7, x8, x9, x10]
theorem turn_ex {ys : List Ak} {a : Ak} (g : GA (i + 1) (ys ++ [a])) (hi : i < 70) : ∃ (zs : List Ak) (b : Ak) (cs' : List Cell) (x6' x7' x8' x9' x10' : Option R), GA (i + 2) (zs ++ [b]) /\
  l_law_asks_0 (asL ns n0 base (some (.v (.int (i : Int)))) x6 x7 x8 x9 x10) (.lst ((ys ++ [a]).map aD) :: .lst ((ys ++ [a]).map dD) :: cs) = some (.nx (asL ns n0 base (some (.v (.int (i : Int)))) x6' x7' x8' x9' x10') (.lst ((zs ++ [b]).map aD) :: .lst ((zs ++ [b]).map dD) :: cs')) := by
 obtain ⟨d, hd, bd⟩ := draw_ex ns (i : Int) 10 (by decide)
 obtain ⟨w, hw, aw⟩ := at_mapD (ws := ["table", "pick", "twins", "columns", "counted", "summed", "lifted", "joined", "matched", "joined"]) (i := d) bd
 have aw : atI kds d = some (.str w) := aw
 obtain ⟨nm, hnm, lnm⟩ := name_ex ns (base + 20 + 10 * i)
 have s10 : 10 <= sizeLine := by decide
 have ga := g.ak a (by simp)
 have wd := g.wd
 have ln := g.ln
 rw [wds_app, wds_1] at wd
 rw [List.length_append, List.length_singleton] at ln
 have step : ∀ {o : Option Out}, sIf tst2
  (sSeq (sSet 9 (fMt pop0D (fVar 3) fNil))
  (sSeq (sSet 10 (fMt pop0D (fVar 4) fNil))
  (sSeq (sAsg (fFz (fCall m_law_two 5 (fCons (fFz (fVar 0)) (fCons (fFz (fVar 8)) (fCons (fFz (fVar 7)) (fCons (fFz (fOp ixD (fVar 3) (fUn negD (fK (.int 1))))) (fCons (fFz (fVar 9)) fNil))))))) (gSub (fVar 3) (fUn negD (fK (.int 1)))))
  (sAsg (fFz (fOp addQ (fK (.int 1)) (fAr maxD (fCons (fOp ixD (fVar 4) (fUn negD (fK (.int 1)))) (fCons (fVar 10) fNil))))) (gSub (fVar 4) (fUn negD (fK (.int 1))))))))
  (sIf tst3
  (sSeq (sDrop (fMt appD (fVar 3) (fCons (fTup (fCons (fK (.str "table")) (fCons (fCall m_law_name 2 (fCons (fFz (fVar 0)) (fCons (fFz (fVar 8)) fNil))) fNil))) fNil)))
  (sDrop (fMt appD (fVar 4) (fCons (fK (.int 1)) fNil))))
  (sSeq (sAsg (fFz (fCall m_law_one 4 (fCons (fFz (fVar 0)) (fCons (fFz (fVar 8)) (fCons (fFz (fVar 7)) (fCons (fFz (fOp ixD (fVar 3) (fUn negD (fK (.int 1))))) fNil)))))) (gSub (fVar 3) (fUn negD (fK (.int 1)))))
  (sAsg (fFz (fOp addQ (fOp ixD (fVar 4) (fUn negD (fK (.int 1)))) (fK (.int 1)))) (gSub (fVar 4) (fUn negD (fK (.int 1)))))))
  (asL ns n0 base (some (.v (.int (i : Int)))) (some (.p (cs.length + 2))) (some (.v (.str w))) (some (.v (.int (base + 20 + 10 * i)))) x9 x10) (.lst ((ys ++ [a]).map aD) :: .lst ((ys ++ [a]).map dD) :: (cs ++ [.lst kds])) = o ->
  l_law_asks_0 (asL ns n0 base (some (.v (.int (i : Int)))) x6 x7 x8 x9 x10) (.lst ((ys ++ [a]).map aD) :: .lst ((ys ++ [a]).map dD) :: cs) = o := fun e => by
  rw [← e]
  have g1 : (Cell.lst ((ys ++ [a]).map aD) :: .lst ((ys ++ [a]).map dD) :: (cs ++ [.lst kds]))[cs.length + 2]? = some (.lst kds) := by simp
  have m10 := ev_mulL (i := 10) (j := (i : Int)) (μ := .lst ((ys ++ [a]).map aD) :: .lst ((ys ++ [a]).map dD) :: (cs ++ [.lst kds])) (by decide)
  push_cast [l_law_asks_0, s10, hd, List.length_cons, List.cons_append, g1, aw, m10]
 obtain ⟨A, hA⟩ : ∃ A, A = ys.map aD := ⟨_, rfl⟩
 obtain ⟨E, hE⟩ : ∃ E, E = ys.map dD := ⟨_, rfl⟩
 have mA : (ys ++ [a]).map aD = A ++ [aD a] := by rw [List.map_append, hA]; rfl
 have mE : (ys ++ [a]).map dD = E ++ [dD a] := by rw [List.map_append, hE]; rfl
 have lA : (A ++ [aD a]).length = ys.length + 1 := by rw [hA]; simp
 have zA : (A ++ [aD a]).length <= sizeLine := small'' (by rw [lA]; omega)
 have zA' : (A ++ [aD a]).length < sizeLine := small' (by rw [lA]; omega)
 have zE' : (E ++ [dD a]).length < sizeLine := small' (by rw [hE]; simp; omega)
 have tab : GA (i + 2) ((ys ++ [a]) ++ [((D.tup [.str "table", .str nm], (["table", nm] : List Str), 1) : Ak)]) := ⟨fun b hb => by
   rcases List.mem_append.mp hb with hb | hb
   ·exact g.ak b hb
   ·rw [List.mem_singleton.mp hb]; exact ⟨ak_tab lnm, show 1 <= 20 by decide⟩, by
   rw [wds_app, wds_app, wds_1, wds_1]
   show wds ys + a.2.1.length + 2 <= 10 * (i + 2)
   omega, by simp; omega⟩
 have B : ∀ {c : List Cell}, tst2 (asL ns n0 base (some (.v (.int (i : Int)))) (some (.p (cs.length + 2))) (some (.v (.str w))) (some (.v (.int (base + 20 + 10 * i)))) x9 x10) (.lst (A ++ [aD a]) :: .lst (E ++ [dD a]) :: (cs ++ [.lst kds])) = some (false, .lst (A ++ [aD a]) :: .lst (E ++ [dD a]) :: (cs ++ [.lst kds])) ->
  tst3 (asL ns n0 base (some (.v (.int (i : Int)))) (some (.p (cs.length + 2))) (some (.v (.str w))) (some (.v (.int (base + 20 + 10 * i)))) x9 x10) (.lst (A ++ [aD a]) :: .lst (E ++ [dD a]) :: (cs ++ [.lst kds])) = some (true, .lst (A ++ [aD a]) :: .lst (E ++ [dD a]) :: (cs ++ [.lst kds])) ->
  ∃ (zs : List Ak) (b : Ak) (cs' : List Cell) (x6' x7' x8' x9' x10' : Option R), GA (i + 2) (zs ++ [b]) /\
  l_law_asks_0 (asL ns n0 base (some (.v (.int (i : Int)))) x6 x7 x8 x9 x10) (.lst ((ys ++ [a]).map aD) :: .lst ((ys ++ [a]).map dD) :: cs) = some (.nx (asL ns n0 base (some (.v (.int (i : Int)))) x6' x7' x8' x9' x10') (.lst ((zs ++ [b]).map aD) :: .lst ((zs ++ [b]).map dD) :: cs')) := fun t2 t3 => by
  refine ⟨ys ++ [a], (D.tup [.str "table", .str nm], (["table", nm] : List Str), 1), cs ++ [.lst kds], some (.p (cs.length + 2)), some (.v (.str w)), some (.v (.int (base + 20 + 10 * i))), x9, x10, tab, step ?_⟩
  rw [List.map_append (l₁ := ys ++ [a]), List.map_append (l₁ := ys ++ [a]), mA, mE, ev_ifS, t2, ev_ifF, ev_ifS, t3, ev_ifT]
  push_cast [hnm, zA', zE', List.map_cons, List.map_nil]
  rfl
 rcases kinds_ex hw with ⟨k1, k2, k3⟩ | ⟨k2, k3⟩ | ⟨k1, k2, k3⟩
 ·rcases List.eq_nil_or_concat ys with e | ⟨zs, b, e⟩
  ·refine B (c := []) ?_ ?_
   ·have c1 : decide (((A ++ [aD a]).length : Int) > 1) = false := decide_eq_false (by rw [lA, e]; simp)
    have c1' : decide ((1 : Int) < (A ++ [aD a]).length) = false := c1
    push_cast [k2, zA, c1']
   ·push_cast [k3]
  ·rw [List.concat_eq_append] at e
   have c1 : decide ((1 : Int) < (A ++ [aD a]).length) = true := decide_eq_true (by rw [lA, e]; simp; omega)
   have mE2 : E ++ [dD a] = zs.map dD ++ [dD b, dD a] := by rw [hE, e, List.map_append, List.append_assoc]; rfl
   have gb := g.ak b (by rw [e]; simp)
   have a1 : atI (E ++ [dD a]) (-1) = some (dD a) := at_m1
   have a2 : atI (E ++ [dD a]) (-2) = some (dD b) := by rw [mE2]; exact at_m2
   by_cases hm : (if (b.2.2 : Int) > (a.2.2 : Int) then (b.2.2 : Int) else (a.2.2 : Int)) < 20
   ·obtain ⟨M, hM⟩ : ∃ M : Nat, M = max b.2.2 a.2.2 := ⟨_, rfl⟩
    have hM20 : M < 20 := by split at hm <;> omega
    obtain ⟨a', ws, e1, e2, e3⟩ := two_ex (ns := ns) (at_ := base + 20 + 10 * i) k1 (gb.1.le (show b.2.2 <= M by omega)) (ga.1.le (show a.2.2 <= M by omega))
    have mx : ∀ μ : Store, maxD [.v (dD b), .v (dD a)] μ = some (.v (.int (M : Int)), μ) := fun μ => by
     show some (R.v (.int (if (a.2.2 : Int) > (b.2.2 : Int) then (a.2.2 : Int) else (b.2.2 : Int))), μ) = _
     rw [show (if (a.2.2 : Int) > (b.2.2 : Int) then (a.2.2 : Int) else (b.2.2 : Int)) = (M : Int) by split <;> omega]
    have mx' : ∀ μ : Store, maxD [.v (dD a), .v (dD b)] μ = some (.v (.int (M : Int)), μ) := fun μ => by
     show some (R.v (.int (if (b.2.2 : Int) > (a.2.2 : Int) then (b.2.2 : Int) else (a.2.2 : Int))), μ) = _
     rw [show (if (b.2.2 : Int) > (a.2.2 : Int) then (b.2.2 : Int) else (a.2.2 : Int)) = (M : Int) by split <;> omega]
    have c2 : decide ((M : Int) < 20) = true := decide_eq_true (by omega)
    have t2 : tst2 (asL ns n0 base (some (.v (.int (i : Int)))) (some (.p (cs.length + 2))) (some (.v (.str w))) (some (.v (.int (base + 20 + 10 * i)))) x9 x10) (.lst (A ++ [aD a]) :: .lst (E ++ [dD a]) :: (cs ++ [.lst kds])) = some (true, .lst (A ++ [aD a]) :: .lst (E ++ [dD a]) :: (cs ++ [.lst kds])) := by
     push_cast [k2, zA, c1, a1, a2, mx', c2]
    refine ⟨zs, (a', ws, M + 1), cs ++ [.lst kds], some (.p (cs.length + 2)), some (.v (.str w)), some (.v (.int (base + 20 + 10 * i))), some (.v (aD a)), some (.v (dD a)), ⟨fun c hc => ?_, ?_, ?_⟩, step ?_⟩
    ·rcases List.mem_append.mp hc with hc | hc
     ·exact g.ak c (by rw [e]; simp [hc])
     ·rw [List.mem_singleton.mp hc]; exact ⟨e2, by show M + 1 <= 20; omega⟩
    ·rw [wds_app, wds_1]
     rw [e, wds_app, wds_1] at wd
     show wds zs + ws.length <= 10 * (i + 2)
     omega
    ·rw [e] at ln
     simp at ln ⊢
     omega
    ·have m1 : A = zs.map aD ++ [aD b] := by rw [hA, e, List.map_append]; rfl
     have m2 : E = zs.map dD ++ [dD b] := by rw [hE, e, List.map_append]; rfl
     rw [mA, mE, ev_ifS, t2, ev_ifT, List.map_append (l₁ := zs), List.map_append (l₁ := zs)]
     have hv : dD (a', ws, M + 1) = .int (1 + (M : Int)) := congrArg D.int (show ((M + 1 : Nat) : Int) = 1 + (M : Int) by omega)
     push_cast [pop_ev0, pop_ev1]
     rw [m1, m2]
     push_cast [at_m1, e1, ix_m1, set_m1, mx, List.map_cons, List.map_nil]
     rw [hv]
   ·have mx' : ∀ μ : Store, maxD [.v (dD a), .v (dD b)] μ = some (.v (.int (if (b.2.2 : Int) > (a.2.2 : Int) then (b.2.2 : Int) else (a.2.2 : Int))), μ) := fun μ => rfl
    have c2 := decide_eq_false hm
    refine B (c := []) ?_ ?_
    ·push_cast [k2, zA, c1, a1, a2, mx', c2]
    ·push_cast [k3]
 ·refine B (c := []) ?_ ?_
  ·push_cast [k2]
  ·push_cast [k3]
 ·have a1 : atI (E ++ [dD a]) (-1) = some (dD a) := at_m1
  have t2 : tst2 (asL ns n0 base (some (.v (.int (i : Int)))) (some (.p (cs.length + 2))) (some (.v (.str w))) (some (.v (.int (base + 20 + 10 * i)))) x9 x10) (.lst (A ++ [aD a]) :: .lst (E ++ [dD a]) :: (cs ++ [.lst kds])) = some (false, .lst (A ++ [aD a]) :: .lst (E ++ [dD a]) :: (cs ++ [.lst kds])) := by
   push_cast [k2]
  by_cases h19 : (19 : Int) < (a.2.2 : Int)
  ·refine B (c := []) t2 ?_
   have c2 : decide ((19 : Int) < (a.2.2 : Int)) = true := decide_eq_true h19
   push_cast [k3, a1, c2]
  ·have c2 : decide ((19 : Int) < (a.2.2 : Int)) = false := decide_eq_false h19
   obtain ⟨a', ws, e1, e2, e3⟩ := one_ex (ns := ns) (at_ := base + 20 + 10 * i) k1 ga.1
   have t3 : tst3 (asL ns n0 base (some (.v (.int (i : Int)))) (some (.p (cs.length + 2))) (some (.v (.str w))) (some (.v (.int (base + 20 + 10 * i)))) x9 x10) (.lst (A ++ [aD a]) :: .lst (E ++ [dD a]) :: (cs ++ [.lst kds])) = some (false, .lst (A ++ [aD a]) :: .lst (E ++ [dD a]) :: (cs ++ [.lst kds])) := by
    push_cast [k3, a1, c2]
   refine ⟨ys, (a', ws, a.2.2 + 1), cs ++ [.lst kds], some (.p (cs.length + 2)), some (.v (.str w)), some (.v (.int (base + 20 + 10 * i))), x9, x10, ⟨fun c hc => ?_, ?_, ?_⟩, step ?_⟩
   ·rcases List.mem_append.mp hc with hc | hc
    ·exact g.ak c (by simp [hc])
    ·rw [List.mem_singleton.mp hc]; exact ⟨e2, by show a.2.2 + 1 <= 20; omega⟩
   ·rw [wds_app, wds_1]
    show wds ys + ws.length <= 10 * (i + 2)
    omega
   ·simp; omega
   ·rw [mA, mE, ev_ifS, t2, ev_ifF, ev_ifS, t3, ev_ifF, List.map_append (l₁ := ys), List.map_append (l₁ := ys), ← hA, ← hE]
    have hv : dD (a', ws, a.2.2 + 1) = .int ((a.2.2 : Int) + 1) := congrArg D.int (show ((a.2.2 + 1 : Nat) : Int) = (a.2.2 : Int) + 1 by omega)
    push_cast [at_m1, e1, ix_m1, set_m1, List.map_cons, List.map_nil]
    rw [hv]
end
end LW
namespace LW
open PySem HW L2
theorem asks_ex (ns : List Int) (m : Nat) (hm : m <= 63) : ∃ as : List Ak, n_law_asks [.fl (ns.map .int), .int (m : Int), .int 63] = some (.lst (as.map aD)) /\ (∀ a ∈ as, AK 20 a.1 a.2.1 /\ a.2.1.length < 4000) /\ as.length <= 64 := by
 obtain ⟨nm, hnm, lnm⟩ := name_ex ns 63
 have s1 : 1 <= sizeLine := by decide
 have r1 := ev_r11 (j := (m : Int)) (μ := [.lst [.tup [.str "table", .str nm]], .lst [.int 1]]) (by omega)
 obtain ⟨ρ, μ, hlo, ys, a, cs, x5, x6, x7, x8, x9, x10, rfl, rfl, g⟩ := loop_range (g := gNm 5) (b := l_law_asks_0) (ρ := asL ns m 63 none none none none none none) (μ := [.lst [.tup [.str "table", .str nm]], .lst [.int 1]]) m
  (fun i ρ μ => ∃ (ys : List Ak) (a : Ak) (cs : List Cell) (x5 x6 x7 x8 x9 x10 : Option R), ρ = asL ns m 63 x5 x6 x7 x8 x9 x10 /\ μ = .lst ((ys ++ [a]).map aD) :: .lst ((ys ++ [a]).map dD) :: cs /\ GA (i + 1) (ys ++ [a]))
  ⟨[], (.tup [.str "table", .str nm], ["table", nm], 1), [], none, none, none, none, none, none, rfl, rfl, ⟨fun b hb => by rw [List.mem_singleton.mp hb]; exact ⟨ak_tab lnm, show 1 <= 20 by decide⟩, by rw [List.nil_append, wds_1]; show 2 <= 10 * (0 + 1); decide, by simp⟩⟩ (by
   rintro i hi ρ μ ⟨ys, a, cs, x5, x6, x7, x8, x9, x10, rfl, rfl, g⟩
   obtain ⟨zs, b, cs', y6, y7, y8, y9, y10, g', e⟩ := turn_ex (ns := ns) (n0 := m) (base := 63) (x6 := x6) (x7 := x7) (x8 := x8) (x9 := x9) (x10 := x10) (cs := cs) g (by omega)
   exact ⟨_, _, e, zs, b, cs', some (.v (.int (i : Int))), y6, y7, y8, y9, y10, rfl, rfl, g'⟩)
 refine ⟨ys ++ [a], ?_, fun b hb => ⟨(g.ak b hb).1.le (g.ak b hb).2, by have := wds_le hb; have := g.wd; omega⟩, by have := g.ln; omega⟩
 rw [u_law_asks]
 push_cast [b_law_asks, hnm, s1, r1, Int.toNat_natCast, hlo]
noncomputable abbrev lastD : D := .tup [.str "joined", .tup [.str "table", .str "a"], .tup [.str "pick", .tup [.str "table", .str "b"], .int 0, .str "over", .int 5], .str "less"]
theorem last_eq : m_read_ask [.str "joined table a pick table b 0 over 5 less"] = some lastD := by kernel_rfl
theorem law_true (ns : List Int) (hl : ns.length <= 63) : m_law [.fl (ns.map .int)] = some (.bl true) := by
 obtain ⟨as, has, ha, hal⟩ := asks_ex ns ns.length hl
 have fl : flatDs (as.map aD) = true := fl_all fun d hd => by
  obtain ⟨a, hm, rfl⟩ := List.mem_map.mp hd
  exact (ha a hm).1.flat
 have za : (as.map aD).length <= sizeLine := small'' (by rw [List.length_map]; omega)
 have zn : (ns.map D.int).length <= sizeLine := small'' (by rw [List.length_map]; omega)
 have mn : ∀ μ : Store, minD [.v (.int (ns.length : Int)), .v (.int 63)] μ = some (.v (.int (ns.length : Int)), μ) := fun μ => by
  show some (R.v (.int (if (63 : Int) < (ns.length : Int) then 63 else (ns.length : Int))), μ) = _
  rw [if_neg (by omega)]
 obtain ⟨⟨x1, x2, x3, cs⟩, hlo, _⟩ := loop_inv (g := gNm 1) (b := l_law_0) aD
  (fun st : Option R × Option R × Option R × List Cell => ([some (.v (.fl (ns.map .int))), st.1, st.2.1, st.2.2.1], .fz (as.map aD) :: st.2.2.2))
  (fun st rem => ∀ a ∈ rem, a ∈ as) as (none, none, none, []) (fun _ h => h) (by
   rintro ⟨x1, x2, x3, cs⟩ a rem h1
   obtain ⟨k1, k2⟩ := ha a (h1 a List.mem_cons_self)
   have k4 := k1.le (show 20 <= 24 by decide)
   have e1 := lwords_eq k4 k2
   have e2 := write_eq k4 k2
   have e3 := read_eq k1 k2
   have e4 := same_eq (n := 24) k1.pl.up
   have fs := fl_strs a.2.1
   have jo := join_ev (n := cs.length + 1) (μ := .fz (as.map aD) :: (cs ++ [.lst (sD a.2.1)])) (by simp) k4.wd k2
   have oj : okD 60 (.str (jn a.2.1)) = true := ok_jn k4.wd
   refine ⟨(some (.v a.1), some (.v (.str (jn a.2.1))), some (.v (.str (jn a.2.1))), cs ++ [.lst (sD a.2.1)]), ?_, fun b hb => h1 b (List.mem_cons_of_mem _ hb)⟩
   push_cast [l_law_0, e1, fs, List.length_cons, List.cons_append, jo, e2, isi_str, oj, eq_str, Bool.not_true, e3, e4])
 have rl : m_read_ask [.str "joined table a pick table b 0 over 5 less"] = some lastD := last_eq
 have ol : okD 60 lastD = true := by kernel_rfl
 have el : eqD lastD lastD = true := by kernel_rfl
 have s5 : 5 <= sizeLine := by decide
 have s4 : 4 <= sizeLine := by decide
 rw [u_law]
 push_cast [b_law, zn, List.length_map, mn, has, fl, za, hlo, rl, ol, el, s4, s5]
end LW
structure PySem.W.Fast:Prop where
 (tw14301569866912293567 tw6362614057784708330 tw8682745191411114351 tw4551804324182684797 tw386853560680109714 tw5974569096306010520 tw17257918908226958442 tw5851634332652876385 tw8894254289978803086 tw620025843325620917 tw1784385311711802610 tw13063364095633597614 tw8043054035906832164 tw11620423931326274173 tw17460148576675121878 tw3848849659165199623 tw12540215565649954451 tw11608206740768659596 tw12301074544939424114 tw2895840144786303905 tw13320349128440111713 tw8584311810470629278 tw14384822670876352733 tw7397790029329003540 tw15619047359832833055 tw7560712262056500238 tw10020965799306391814 tw8186889938216894186 tw11141869094593303571 tw13678782044716096422 tw17168541452568773133 tw125112645531628646 tw3555608448594498504 tw12260743243725971495 tw12190850673594581707 tw13425130211438323412 tw7458847203980987734 tw18305972628868410297 tw17246989963809086762 tw5409722474664486384 tw9472216827807148159 tw15206062072092867166 tw9255329908750355649 tw3992744109990026955 tw6539966346010390530 tw4774334797948739815 tw6620447949406508947 tw11509555654881110066 tw10199525876749672319 tw9114075157853453581 tw1105520598518632483 tw6455962379225091593 tw9442479907874952671 tw9097030848827114495 tw12286852732258228677 tw12613730532350997631 tw6864458251862075312 tw11595501437933256339 tw2875730492902646957 tw15420170842947560965 tw5790027638760344666 tw1238382861118077710 tw13658386322268142353 tw5148140818093956832 tw13026826787918006917 tw10884286734355089118 tw1762697033950836697 tw2325186671028722852 tw10645216562986015690 tw1202768509321522661 tw9781474211636773926 tw10989896354020369542 tw17221333537979803091 tw15107437936237698415 tw4917455506337727806 tw13550292253691664868 tw15954339095845273344 tw14894338968504504146 tw1421859391970631100 tw17405179007077640226 tw17959087885219523856 tw590267351374222954 tw15619377171230856574 tw2743349708915786112 tw4540467256186427159 tw4557192215278885888 tw9585797855729330190 tw14010701630463964724 tw15552787565511014835 tw7363209802132923578 tw10233609220243391576 tw9452811281318148656 tw17194552582936787294 tw9154981320476388819 tw8759891160934224137 tw1399330669092937012 tw11911823857516765135 tw6347153859868205929 tw10717706727542039843 tw6042345230835944627 tw14402878611434572090 tw7296704224603525464 tw2101331374019379017 tw3714162582632300072 tw13203973584304437060 tw12587562568720104222 tw4566884194477184351 tw13094336726310184119 tw6343595537016690972 tw6704773594246255905 tw1775246835185519251 tw2240788524575926328 tw10006584565069268017 tw15367884913001878154 tw5254363346926217335 tw11021981351462080485 tw1949433085185110279 tw16348932877902443864 tw1902220656493679194 tw4045565559483840123 tw16430047136708531628 tw8307244336815210589 tw10796801108627346609 tw14890481996094601168 tw9933561094400953048 tw7844565590843946190 tw16196026353430608681 tw18105579134410943419 tw16572566972308028682 tw8749127390069353075 tw12848219604520836575 tw6077275643583882951 tw14464813761152489278 tw12078827673467713018 tw18071509242991342975 tw2543509919014937455 tw1077117542876192958 tw17995141165109991825 tw14046931969046913562 tw16768681836138303353 tw4956643284897424989 tw2102216103171884501 tw15205859444421834029 tw4740765267069932407 tw10064619188759497791 tw10991734221753356218 tw15240118460077620371 tw6830009992155831182 tw3423974914965350047 tw11000389088300642669 tw17041428391614504272 tw11003236216831167262 tw16241939216012782957 tw7921924838910591822 tw9812738392520988770 tw3477027414356769721 tw15434033539902801048 tw4758510844225312767 tw11748850300595507538 tw3244363700935928494 tw225687009823847161 tw9661901444468425874 tw11470134167655090599 tw13494013820366226209 tw11186093677899077209 tw7777026908762329650 tw13604376468977642693 tw14866430546859728802:True)
open PySem PySem.W PyProof.Rows
set_option maxRecDepth 100000 in
set_option maxHeartbeats 0 in
theorem PySem.Challenge.cw_heldwhen_k48_asks_written_holds : PySem.Challenge.rw_heldwhen_k48_asks_written.Holds := by
 w_on; o_law; k_head; (case hw => w_witness2)
 k_fill
 refine L2.walk_ofK (l := PySem.Challenge.rw_heldwhen_k48_asks_written) (n := 63) (k := 57) (x := "script") (CX := L2.CX0) (sp := fun K => HW.spP K 1 LW.m_law) rfl (by decide) rfl ⟨rfl, by decide, by decide⟩ (fun w h Y => PySem.W.kIn_of Y) ?F (fun K H a ns hl hO hS => HW.law_sp hO hS (LW.law_true ns hl)) fun _ _ _ _ z => z
 case F =>
  intro w mg fa h KX G hmg
  refine' LW.all_mk KX G hmg ?aC ?pg ?hd ?po ?sa ?mk ?kc ?n_words ?n_place ?a0 ?a1 ?a2 ?a3 ?a4 ?a5 ?a6 ?a7 ?a8 ?a9 ?a10 ?a11 ?a12 ?a13 ?a14 ?a15 ?a16 ?a17 ?a18 ?a19 ?a20 ?a21 ?a22 ?a23 ?a24 ?a25 ?a26 ?a27 ?a28 ?a29 ?a30 ?a31 ?a32 ?a33 ?a34 ?a35 ?gFIGURES ?gMOST_FIGURES ?gSMALL_LETTERS ?gMOST_LETTERS ?gDEEPEST ?gFORMS ?LFORMS ?LFORMS_0 ?LFORMS_1 ?LFORMS_2 ?LFORMS_3 ?LFORMS_4 ?LFORMS_5 ?LFORMS_6 ?LFORMS_7 ?LFORMS_8 ?smFORMS ?z0 ?z1 ?z2 ?z3 ?z4 ?z5 ?z6 ?z7 ?z8 ?z9 ?z10 ?z11
  (case aC | pg | hd | po | sa | mk | kc | n_words | n_place => k_is)
  (case a0 | a1 | a2 | a3 | a4 | a5 | a6 => exact ⟨_, by k_is, by k_is, _, _, _, _, _, _, _, _, _, by k_is, by k_is, by k_is⟩)
  (case a7 | a8 | a9 | a10 | a11 | a12 | a13 | a14 | a15 | a16 | a17 | a18 | a19 | a20 | a21 | a22 | a23 | a24 | a25 | a26 | a27 | a28 | a29 | a30 | a31 | a32 | a33 | a34 | a35 => exact ⟨_, by k_is, _, _, _, _, _, _, _, _, _, by k_is, by k_is, by k_is⟩)
  (case gFIGURES | gMOST_FIGURES | gSMALL_LETTERS | gMOST_LETTERS | gDEEPEST | gFORMS | LFORMS | LFORMS_0 | LFORMS_1 | LFORMS_2 | LFORMS_3 | LFORMS_4 | LFORMS_5 | LFORMS_6 | LFORMS_7 | LFORMS_8 | z0 | z1 | z2 | z3 | z4 | z5 | z6 | z7 | z8 | z9 | z10 | z11 => k_is)
  (case smFORMS => rfl)
