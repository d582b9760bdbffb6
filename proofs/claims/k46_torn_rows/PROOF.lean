import PyProof.Rows.All
import Wide.All
import OpenK.AllK
import Wide.FinOn
import Lean
import PyProof.EqAt
import PyProof.EqKinds
import PyProof.TupleCall
import PyProof.IsiH_tuple
import PyProof.NsDelKeeps
import PyProof.FString4
import PyProof.ExcBaseAll.ValueError
import PyProof.ForAny
import KE.KIsAll
import PyProof.StrWalks
import PyProof.SliceStr2
import PyProof.StrBlockI
import KE.KIntText
import PyProof.StrCalls2
import PyProof.StrLawsTight
import PyProof.Rows.FStrParts
import PySem.Challenge.RW_heldwhen_k46_torn_rows
set_option Elab.async false
set_option linter.all false
set_option maxRecDepth 100000
namespace L2
open PySem PySem.Spec PyProof.Rows
noncomputable abbrev Key := Sum Int Str
noncomputable def keyIs : Key → Value → Bool
  | .inl k, v => Value.isInt k v
  | .inr x, v => Value.isStrOf x v
noncomputable def keyH (w : World) : Key → Int
  | .inl k => hashInt k
  | .inr x => hashStr w x
theorem keyIs_shape : ∀ {k : Key} {v : Value}, keyIs k v = true → (∃ i t, k = Sum.inl i ∧ v = Value.int i t) ∨ (∃ x t, k = Sum.inr x ∧ v = Value.str x t)
  | .inl i, v, h => by
    obtain ⟨t, e⟩ := Value.isInt_shape (k := i) (v := v) h
    exact .inl ⟨i, t, rfl, e⟩
  | .inr x, v, h => by
    obtain ⟨t, e⟩ := Value.isStrOf_shape (x := x) (v := v) h
    exact .inr ⟨x, t, rfl, e⟩
theorem key_ll (a b : Int) : decide ((Sum.inl a : Key) = Sum.inl b) = (a == b) := by
  by_cases e : a = b
  · subst e; simp
  · have h : ¬ (Sum.inl a : Key) = Sum.inl b := fun q => e (Sum.inl.inj q)
    rw [decide_eq_false h]
    exact (beq_eq_false_iff_ne.mpr e).symm
theorem key_rr (a b : Str) : decide ((Sum.inr a : Key) = Sum.inr b) = decide (a = b) := by
  by_cases e : a = b
  · subst e; simp
  · have h : ¬ (Sum.inr a : Key) = Sum.inr b := fun q => e (Sum.inr.inj q)
    rw [decide_eq_false h, decide_eq_false e]
theorem key_lr (a : Int) (b : Str) : decide ((Sum.inl a : Key) = Sum.inr b) = false := decide_eq_false (fun q => nomatch q)
theorem key_rl (a : Str) (b : Int) : decide ((Sum.inr a : Key) = Sum.inl b) = false := decide_eq_false (fun q => nomatch q)
noncomputable def mixKind (prog : Program) (w : World) : PySem.KeyKind prog w Key where
  is := keyIs
  hash := keyH w
  inj := fun v a b ha hb => by
    rcases keyIs_shape ha with ⟨i, t, rfl, rfl⟩ | ⟨x, t, rfl, rfl⟩
    · rcases keyIs_shape hb with ⟨j, u, rfl, e⟩ | ⟨y, u, rfl, e⟩
      · injection e with e1 _; rw [e1]
      · exact nomatch e
    · rcases keyIs_shape hb with ⟨j, u, rfl, e⟩ | ⟨y, u, rfl, e⟩
      · exact nomatch e
      · injection e with e1 _; rw [e1]
  byValue := fun k v h => by
    rcases keyIs_shape h with ⟨i, t, rfl, rfl⟩ | ⟨x, t, rfl, rfl⟩ <;> rfl
  pyHash := fun hv h => by
    rcases keyIs_shape hv with ⟨i, t, rfl, rfl⟩ | ⟨x, t, rfl, rfl⟩
    · exact wpAny_pyHash_int h
    · exact wpAny_pyHash_str h
  eqBool := fun hu hv h => by
    rcases keyIs_shape hu with ⟨i, t, rfl, rfl⟩ | ⟨x, t, rfl, rfl⟩
    · rcases keyIs_shape hv with ⟨j, u, rfl, rfl⟩ | ⟨y, u, rfl, rfl⟩
      · rw [key_ll] at h; exact wpAny_eqBool_int h
      · rw [key_lr] at h; exact SeqAt.EqAt.int_str i t y u _ _ _ _ h
    · rcases keyIs_shape hv with ⟨j, u, rfl, rfl⟩ | ⟨y, u, rfl, rfl⟩
      · rw [key_rl] at h; exact SeqAt.EqAt.str_int x t j u _ _ _ _ h
      · rw [key_rr] at h; exact wpAny_eqBool_str h
  «strs» := fun k x t v h => by
    rcases keyIs_shape h with ⟨i, u, rfl, e⟩ | ⟨y, u, rfl, e⟩
    · exact nomatch e
    · injection e with e1 _
      subst e1
      cases v <;> rfl
end L2
namespace L2
open PySem PySem.Spec PyProof.Rows
inductive V where
  | non | bl (b : Bool) | int (i : Int) | str (x : Str) | byt (b : Array UInt8) | flt (b : UInt64) | ref (a : Addr) | ty (n : String)
  deriving DecidableEq
def RelV : V → Value → Prop
  | .non, u => u = Value.none
  | .bl b, u => u = Value.bool b
  | .int i, u => ∃ t, u = Value.int i t
  | .str x, u => ∃ t, u = Value.str x t
  | .byt b, u => ∃ t, u = Value.bytes b t
  | .flt b, u => ∃ t, u = Value.float b t
  | .ref a, u => u = Value.ref a
  | .ty n, u => u = Value.type n
abbrev Vals : List V → List Value → Prop := Paired RelV
theorem Vals.length {xs : List V} {us : List Value} (r : Vals xs us) : xs.length = us.length := Paired.length r
theorem Vals.get : ∀ {xs : List V} {us : List Value} {i : Nat} {x : V}, Vals xs us → xs[i]? = some x → ∃ u, us[i]? = some u ∧ RelV x u
  | _, _, _, _, .nil, e => by simp at e
  | _, _, 0, _, .cons r _, e => by simp at e; subst e; exact ⟨_, rfl, r⟩
  | _, _, i + 1, x, .cons _ t, e => by
    obtain ⟨u, h1, h2⟩ := Vals.get (i := i) (x := x) t (by simpa using e)
    exact ⟨u, by simpa using h1, h2⟩
theorem Vals.append : ∀ {xs ys : List V} {us ws : List Value}, Vals xs us → Vals ys ws → Vals (xs ++ ys) (us ++ ws)
  | _, _, _, _, .nil, s => s
  | _, _, _, _, .cons r t, s => .cons r (Vals.append t s)
theorem Vals.take : ∀ {xs : List V} {us : List Value} (n : Nat), Vals xs us → Vals (xs.take n) (us.take n)
  | _, _, 0, _ => .nil
  | _, _, _ + 1, .nil => .nil
  | _, _, n + 1, .cons r t => .cons r (Vals.take n t)
theorem Vals.drop : ∀ {xs : List V} {us : List Value} (n : Nat), Vals xs us → Vals (xs.drop n) (us.drop n)
  | _, _, 0, r => r
  | _, _, _ + 1, .nil => .nil
  | _, _, n + 1, .cons _ t => Vals.drop n t
def RelO : Option V → Option Value → Prop
  | some v, some u => RelV v u
  | none, none => True
  | _, _ => False
def KV {κ : Type} : List (κ × V) → List (κ × Value) → Prop := Paired fun (p : κ × V) (q : κ × Value) => p.1 = q.1 ∧ RelV p.2 q.2
noncomputable def kV : Key → V
  | .inl i => .int i
  | .inr x => .str x
inductive HO where
  | lst (xs : List V)
  | tup (xs : List V)
  | dK (kvs : List (Key × V)) | dT (kvs : List (List Key × V))
  | set (S : Int → Bool) (n : Nat)
  | ins (C dx : Addr) (fs : List (Str × V))
  | own (x : Addr)
  | xd (fs : List (Str × V))
  | met (f x : Addr)
  | rng (lo hi : Int)
  | frz (o : Obj) (u : HO)
  | tbl (ps : Array Value)
  | ext (φ : Heap → Prop)
noncomputable abbrev Hp := Addr → Option HO
def upd (H : Hp) (a : Addr) (o : HO) : Hp := fun b => if b = a then some o else H b
theorem upd_same {H : Hp} {a : Addr} {o : HO} : upd H a o a = some o := by unfold upd; rw [if_pos rfl]
theorem upd_ne {H : Hp} {a b : Addr} {o : HO} (h : b ≠ a) : upd H a o b = H b := by unfold upd; rw [if_neg h]
theorem ne_of_none {H : Hp} {a b : Addr} {o : HO} (h : H a = some o) (h' : H b = none) : a ≠ b := by
  intro e; subst e; rw [h] at h'; cases h'
def IsTupD (h : Heap) (a : Addr) (items : Array Value) : Prop := IsTup h a items ∧ ∀ o, h.get? a = some o → o.dict = none
theorem IsTupD.new (h : Heap) (items : Array Value) : IsTupD (h.push { cls := .type "tuple", data := .seq items }) h.objs.size items := ⟨IsTup.new _ _, fun o e => by rw [Heap.get?_push_size _ rfl] at e; cases e; rfl⟩
section
variable (P : Program) (w : World)
def ObjOk (H : Hp) (h : Heap) (a : Addr) : HO → Prop
  | .lst xs => xs.length ≤ sizeLine ∧ ∃ (its : List Value) (n : Nat), Vals xs its ∧ h.get? a = some { cls := .type "list", data := .seq its.toArray n }
  | .tup xs => xs.length ≤ sizeLine ∧ ∃ its : List Value, Vals xs its ∧ IsTupD h a its.toArray
  | .dK kvs => kvs.length ≤ sizeLine ∧ (a == sysModules) = false ∧ ∃ vs, KV kvs vs ∧ h.DictOf (mixKind P w) a vs
  | .dT kvs => kvs.length ≤ sizeLine ∧ (a == sysModules) = false ∧ ∃ xs : List (List Key × Addr × Value),
      Paired (fun (p : List Key × V) (q : List Key × Addr × Value) => p.1 = q.1 ∧ H q.2.1 = some (.tup (p.1.map kV)) ∧ RelV p.2 q.2.2) kvs xs ∧
      ∃ o es ep, h.get? a = some o ∧ o.ExactDict ∧ o.data = .dict es ep ∧ es.toList = xs.map (entryOfKey (tupleKind (mixKind P w))) ∧ (xs.map (·.1)).Nodup
  | .set S n => h.SetOf (intKind P w) a S n
  | .ins C dx fs => H dx = some (.own a) ∧ fs.length ≤ 1000 ∧ dx ≠ a ∧ h.get? a = some (PySem.W.instObj C dx) ∧
      ∃ mA, h.Ns1 dx mA ∧ (∀ f, RelO (fs.lookup f) (mA f)) ∧ PySem.Within mA (fs.map (·.1))
  | .own _ => ∃ o, h.get? a = some o
  | .xd fs => ∃ mA, h.Ns1 a mA ∧ ∀ f, RelO (fs.lookup f) (mA f)
  | .rng lo hi => ∃ t u v, h.get? a = some { cls := .type "range", data := .fields #[.int lo t, .int hi u, .int 1 v] }
  | .frz o u => h.get? a = some o ∧ ObjOk H h a u
  | .tbl ps => h.get? a = some { cls := .none, data := .fields ps }
  | .met f x => h.get? a = some (PySem.W.methodObj (.ref f) (.ref x))
  | .ext φ => φ h ∧ (∃ o, h.get? a = some o) ∧ ∀ h1 h2 : Heap, φ h1 → (∀ o, h1.get? a = some o → h2.get? a = some o) → φ h2
def HOk (H : Hp) (h : Heap) : Prop := ∀ a o, H a = some o → ObjOk P w H h a o
end
section
variable {P : Program} {w : World} {H H' : Hp} {h h' : Heap} {a : Addr} {o : HO}
theorem ObjOk.lt (x : ObjOk P w H h a o) : a < h.objs.size := by
  cases o with
  | lst xs => obtain ⟨_, _, _, _, e⟩ := x; exact Heap.lt_size e
  | tup xs => obtain ⟨_, _, _, p⟩ := x; exact p.1.lt
  | dK kvs => obtain ⟨_, _, _, _, o, _, _, e, _⟩ := x; exact Heap.lt_size e
  | dT kvs => obtain ⟨_, _, _, _, o, _, _, e, _⟩ := x; exact Heap.lt_size e
  | set S n => obtain ⟨o, _, _, _, e, _⟩ := x; exact Heap.lt_size e
  | ins C dx fs => obtain ⟨_, _, _, e, _⟩ := x; exact Heap.lt_size e
  | own y => obtain ⟨_, e⟩ := x; exact Heap.lt_size e
  | xd fs => obtain ⟨_, ⟨_, _, _, e, _⟩, _⟩ := x; exact Heap.lt_size e
  | rng lo hi => obtain ⟨_, _, _, e⟩ := x; exact Heap.lt_size e
  | frz ob u => obtain ⟨e, _⟩ := x; exact Heap.lt_size e
  | tbl ps => exact Heap.lt_size (show h.get? a = some _ from x)
  | met f y => exact Heap.lt_size (show h.get? a = some _ from x)
  | ext φ => obtain ⟨_, ⟨_, e⟩, _⟩ := x; exact Heap.lt_size e
theorem Paired.mapP {α β : Type} {F G : α → β → Prop} : ∀ {l₁ : List α} {l₂ : List β}, Paired F l₁ l₂ → (∀ a b, F a b → G a b) → Paired G l₁ l₂
  | _, _, .nil, _ => .nil
  | _, _, .cons r t, f => .cons (f _ _ r) (Paired.mapP t f)
theorem ObjOk.stay (x : ObjOk P w H h a o) (k : ∀ b u, (b = a ∨ H b = some (.own a)) → h.get? b = some u → h'.get? b = some u)
    (ho : ∀ b, H b = some (.own a) → H' b = some (.own a)) (ht : ∀ b xs, H b = some (.tup xs) → H' b = some (.tup xs)) : ObjOk P w H' h' a o := by
  induction o with
  | lst xs => obtain ⟨z, its, n, r, e⟩ := x; exact ⟨z, its, n, r, k _ _ (.inl rfl) e⟩
  | tup xs => obtain ⟨z, its, r, ⟨ob, e, c⟩, dn⟩ := x; exact ⟨z, its, r, ⟨ob, k _ _ (.inl rfl) e, c⟩, fun o q => by rw [k _ _ (.inl rfl) e] at q; cases q; exact dn _ e⟩
  | dK kvs => obtain ⟨z, y, vs, r, ob, es, ep, e, c⟩ := x; exact ⟨z, y, vs, r, ob, es, ep, k _ _ (.inl rfl) e, c⟩
  | dT kvs =>
    obtain ⟨z, y, xs, r, ob, es, ep, e, c⟩ := x
    exact ⟨z, y, xs, Paired.mapP r fun p q z => ⟨z.1, ht _ _ z.2.1, z.2.2⟩, ob, es, ep, k _ _ (.inl rfl) e, c⟩
  | set S n => obtain ⟨ob, es, ep, t, e, c⟩ := x; exact ⟨ob, es, ep, t, k _ _ (.inl rfl) e, c⟩
  | ins C dx fs =>
    obtain ⟨d, z, ne, e, mA, ⟨od, es, ep, e2, c⟩, r⟩ := x
    exact ⟨ho _ d, z, ne, k _ _ (.inl rfl) e, mA, ⟨od, es, ep, k _ _ (.inr d) e2, c⟩, r⟩
  | own y => obtain ⟨ob, e⟩ := x; exact ⟨ob, k _ _ (.inl rfl) e⟩
  | xd fs => obtain ⟨mA, ⟨od, es, ep, e, c⟩, r⟩ := x; exact ⟨mA, ⟨od, es, ep, k _ _ (.inl rfl) e, c⟩, r⟩
  | rng lo hi => obtain ⟨t, u, v, e⟩ := x; exact ⟨t, u, v, k _ _ (.inl rfl) e⟩
  | frz ob u ih => obtain ⟨e, q⟩ := x; exact ⟨k _ _ (.inl rfl) e, ih q⟩
  | tbl ps =>
    have e : h.get? a = some { cls := .none, data := .fields ps } := x
    show h'.get? a = some { cls := .none, data := .fields ps }
    exact k a _ (.inl rfl) e
  | met f y =>
    have e : h.get? a = some (PySem.W.methodObj (.ref f) (.ref y)) := x
    show h'.get? a = some (PySem.W.methodObj (.ref f) (.ref y))
    exact k a _ (.inl rfl) e
  | ext φ => obtain ⟨p, ⟨o, e⟩, st⟩ := x; exact ⟨st _ _ p fun o q => k _ _ (.inl rfl) q, ⟨o, k _ _ (.inl rfl) e⟩, st⟩
theorem HOk.lt (x : HOk P w H h) (e : H a = some o) : a < h.objs.size := (x a o e).lt
theorem HOk.fresh (x : HOk P w H h) (e : h.objs.size ≤ a) : H a = none := by
  cases q : H a with
  | none => rfl
  | some u => exact absurd (Nat.lt_of_lt_of_le (x.lt q) e) (Nat.lt_irrefl _)
theorem HOk.kept (x : HOk P w H h) (k : ∀ b u, h.get? b = some u → h'.get? b = some u) : HOk P w H h' := fun a o e =>
  (x a o e).stay (fun b u _ q => k b u q) (fun _ q => q) fun _ _ q => q
theorem HOk.laid (x : HOk P w H h) (k : ∀ b u, h.get? b = some u → h'.get? b = some u) (hp : h.objs.size ≤ a) (new : ObjOk P w (upd H a o) h' a o) : HOk P w (upd H a o) h' := fun b u e => by
  have hn := x.fresh hp
  by_cases hb : b = a
  · subst hb; rw [upd_same] at e; cases e; exact new
  · rw [upd_ne hb] at e
    exact (x b u e).stay (fun c v _ q => k c v q) (fun c q => by rw [upd_ne (ne_of_none q hn)]; exact q) fun c xs q => by rw [upd_ne (ne_of_none q hn)]; exact q
end
def Rd (H : Hp) (a : Addr) (u : HO) : Prop := H a = some u ∨ ∃ o, H a = some (.frz o u)
theorem Rd.ok {P : Program} {w : World} {H : Hp} {h : Heap} {a : Addr} {u : HO} (r : Rd H a u) (x : HOk P w H h) : ObjOk P w H h a u := by
  rcases r with r | ⟨o, r⟩
  · exact x a u r
  · obtain ⟨_, q⟩ := x a _ r
    exact q
def Mut : Option HO → Prop
  | some (.lst _) => True
  | some (.dK _) => True
  | some (.dT _) => True
  | some (.set _ _) => True
  | some (.ins _ _ _) => True
  | some (.ext _) => True
  | _ => False
section
variable {P : Program} {w : World} {H : Hp} {h h' : Heap} {x e : Addr} {o' : HO}
theorem HOk.write (ok : HOk P w H h) (mu : Mut (H x)) (he : e = x ∨ H e = some (.own x)) (k : ∀ b u, b ≠ e → h.get? b = some u → h'.get? b = some u) (heo : ∃ u, h'.get? e = some u)
    (new : ObjOk P w (upd H x o') h' x o') : HOk P w (upd H x o') h' := fun b u q => by
  have nown : ∀ c y, H c = some (.own y) → c ≠ x := fun c y r z => by subst z; rw [r] at mu; exact mu
  have ntup : ∀ c xs, H c = some (.tup xs) → c ≠ x := fun c xs r z => by subst z; rw [r] at mu; exact mu
  by_cases hb : b = x
  · subst hb; rw [upd_same] at q; cases q; exact new
  · rw [upd_ne hb] at q
    by_cases hbe : b = e
    · have q' : H b = some (.own x) := by
        rcases he with z | z
        · exact absurd (hbe.trans z) hb
        · rw [hbe]; exact z
      rw [q] at q'; cases q'
      obtain ⟨v, hv⟩ := heo
      exact ⟨v, by rw [hbe]; exact hv⟩
    · refine (ok b u q).stay (fun c v hc r => k c v ?_ r) (fun c r => by rw [upd_ne (nown c b r)]; exact r) fun c xs r => by rw [upd_ne (ntup c xs r)]; exact r
      rcases hc with rfl | hc
      · exact hbe
      · rintro rfl
        rcases he with z | z
        · exact nown c b hc z
        · rw [hc] at z; cases z; exact hb rfl
end
structure Un (fs ex : List Addr) (H H' : Hp) (h h' : Heap) : Prop where
  keep : ∀ b o, h.get? b = some o → H b = none → b ∉ fs → b ∉ ex → h'.get? b = some o
  slot : ∀ b o, h.get? b = some o → H b = none → b ∈ fs → b ∉ ex → ∃ sl, h'.get? b = some { o with slots := sl }
  free : ∀ b o, h.get? b = some o → H b = none → b ∉ ex → H' b = none
  there : ∀ b o, h.get? b = some o → b ∉ ex → ∃ o', h'.get? b = some o'
  tups : ∀ b xs, H b = some (.tup xs) → H' b = some (.tup xs)
  frzs : ∀ b o u, H b = some (.frz o u) → H' b = some (.frz o u)
  tbls : ∀ b ps, H b = some (.tbl ps) → ∃ more, H' b = some (.tbl (ps ++ more))
section
variable {fs fs' ex ex' : List Addr} {H H1 H2 : Hp} {h h1 h2 h' : Heap} {a x e : Addr} {o : HO}
theorem Un.any (u : Un fs ex H H1 h h1) {b : Addr} {ob : Obj} (q : h.get? b = some ob) (n : H b = none) (hx : b ∉ ex) : ∃ sl, h1.get? b = some { ob with slots := sl } := by
  by_cases hb : b ∈ fs
  · exact u.slot b ob q n hb hx
  · exact ⟨ob.slots, u.keep b ob q n hb hx⟩
theorem Un.kept (k : ∀ b u, h.get? b = some u → h'.get? b = some u) : Un fs ex H H h h' :=
  ⟨fun b ob q _ _ _ => k b ob q, fun b ob q _ _ _ => ⟨ob.slots, k b ob q⟩, fun _ _ _ n _ => n, fun b ob q _ => ⟨ob, k b ob q⟩, fun _ _ q => q, fun _ _ _ q => q, fun _ ps q => ⟨#[], by rw [q]; simp⟩⟩
theorem Un.refl : Un fs ex H H h h := Un.kept fun _ _ q => q
theorem Un.laid (k : ∀ b u, h.get? b = some u → h'.get? b = some u) (hp : h.objs.size ≤ a) (hn : H a = none) : Un fs ex H (upd H a o) h h' where
  keep := fun b u q _ _ _ => k b u q
  slot := fun b u q _ _ _ => ⟨u.slots, k b u q⟩
  free := fun b u q n _ => by rw [upd_ne (Nat.ne_of_lt (Nat.lt_of_lt_of_le (Heap.lt_size q) hp))]; exact n
  there := fun b u q _ => ⟨u, k b u q⟩
  tups := fun b xs q => by rw [upd_ne (ne_of_none q hn)]; exact q
  frzs := fun b u xs q => by rw [upd_ne (ne_of_none q hn)]; exact q
  tbls := fun b ps q => ⟨#[], by rw [upd_ne (ne_of_none q hn), q]; simp⟩
theorem Un.write (mu : Mut (H x)) (he : e = x ∨ H e = some (.own x)) (k : ∀ b u, b ≠ e → h.get? b = some u → h'.get? b = some u) (heo : ∃ u, h'.get? e = some u) : Un fs ex H (upd H x o) h h' := by
  have hx : ∀ b, H b = none → b ≠ x := fun b n z => by subst z; rw [n] at mu; exact mu
  have hb : ∀ b, H b = none → b ≠ e := fun b n z => by
    subst z
    rcases he with r | r
    · exact hx b n r
    · rw [n] at r; cases r
  have hm : ∀ b u, H b = some u → ¬ Mut (some u) → b ≠ x := fun b u q nm z => by subst z; rw [q] at mu; exact nm mu
  refine ⟨fun b u q n _ _ => k b u (hb b n) q, fun b u q n _ _ => ⟨u.slots, k b u (hb b n) q⟩, fun b u q n _ => by rw [upd_ne (hx b n)]; exact n, fun b u q _ => ?_,
    fun b xs q => by rw [upd_ne (hm b _ q fun z => z)]; exact q, fun b u xs q => by rw [upd_ne (hm b _ q fun z => z)]; exact q, fun b ps q => ⟨#[], by rw [upd_ne (hm b _ q fun z => z), q]; simp⟩⟩
  by_cases hbe : b = e
  · subst hbe; exact heo
  · exact ⟨u, k b u hbe q⟩
end
def trk (h : Heap) (H : Hp) : List Addr := (List.range h.objs.size).filter fun a => (H a).isSome
def hidT (h : Heap) (H : Hp) : Heap := PySem.W.hideAll h (trk h H)
theorem hidT_size (h : Heap) (H : Hp) : (hidT h H).objs.size = h.objs.size := PySem.W.hideAll_size _ _
theorem hidT_get {h : Heap} {H : Hp} {b : Addr} {o : Obj} (e : h.get? b = some o) (n : H b = none) : (hidT h H).get? b = some o :=
  PySem.W.hideAll_get _ e fun hm => by
    have q : (H b).isSome = true := (List.mem_filter.mp hm).2
    rw [n] at q; simp at q
theorem of_hidT {h : Heap} {H : Hp} {b : Addr} {o : Obj} (e : (hidT h H).get? b = some o) : h.get? b = some o ∧ H b = none := by
  have e' : h.get? b = some o := PySem.W.of_hideAll (trk h H) e
  refine ⟨e', ?_⟩
  cases q : H b with
  | none => rfl
  | some x =>
    have hm : b ∈ trk h H := List.mem_filter.mpr ⟨List.mem_range.mpr (Heap.lt_size e'), by simp [q]⟩
    have z : (hidT h H).get? b = none := PySem.W.hideAll_none (trk h H) hm
    rw [z] at e; cases e
noncomputable def allNews (g h : Heap) (L : Addr) : List (Addr × Obj) := (List.range h.objs.size).filterMap fun a => if a = L ∨ (g.get? a).isSome = true then none else (h.get? a).map fun o => (a, o)
noncomputable def rest (g h : Heap) (L d : Addr) : List (Addr × Obj) := (allNews g h L).filter fun p => decide (p.1 ≠ d)
end L2
namespace L2
open PySem PySem.Spec PyProof.Rows
structure Mod (K : PySem.W.Frag) (mg : Str → Option Value) (base : Heap) : Prop where
  kin : K.In base
  glob : base.Ns mainGlobals mg
  blt : ∃ mb, base.Ns builtinsNs mb ∧ ∀ x : Str, x ≠ "__name__" → mb x = bootBuiltins x
  nolimit : base.NoLimit
/-- the context: a def's body (or a comprehension's block) running. base: fixed through the whole law; s₀, H₀: the entry; outer: the frames whose slots others may change (a def's callers); stack: all frames that run;
   ex: iterators that were made ahead of the entry and are walked here (a comprehension's); fn: the names whose cells were made at the entry (a def: all; a comprehension's block: its own); calm: not within an except suite; pn: pins that every state bears; xe: what is wanted of an exception that leaves the code -/
structure Cx where
  prog : Program
  w : World
  K : PySem.W.Frag
  mg : Str → Option Value
  base : Heap
  A : Around
  N : List Str
  s₀ : Shared
  H₀ : Hp
  env : Env
  outer : List Env
  stack : List Env
  ex : List Addr
  fn : Str → Bool
  calm : Bool
  pn : List (Addr × Obj)
  xe : Value → Shared → Prop
noncomputable def frs (l : List Env) : List Addr := l.filterMap (·.frame)
noncomputable abbrev Cx.fs (X : Cx) : List Addr := frs X.outer
def Vis (sc : Scope) (x : Str) : Prop := sc.names.lookup x = some .local ∨ sc.names.lookup x = some .cell ∨ sc.names.lookup x = some .free
def Loc (sc : Scope) (x : Str) : Prop := sc.names.lookup x = some .local ∨ sc.names.lookup x = some .cell
def Look (env : Env) (h : Heap) (m : Str → Option Value) (x : Str) (u : Value) : Prop :=
  (env.kindOf x = some .local ∧ m x = some u) ∨ ((env.kindOf x = some .cell ∨ env.kindOf x = some .free) ∧ ∃ c, env.cells.lookup x = some c ∧ h.IsCell c (some u))
structure Cx.Ok (X : Cx) : Prop where
  mod : Mod X.K X.mg X.base
  kind : X.env.scope.kind = .function
  glob : X.env.globals = mainGlobals
  blt : X.env.builtins = builtinsNs
  above : X.s₀.heap.objs.size ≤ X.env.locals
  inj : ∀ x y c, X.env.cells.lookup x = some c → X.env.cells.lookup y = some c → x = y
  has : ∀ x, (X.env.kindOf x = some .cell ∨ X.env.kindOf x = some .free) → ∃ c, X.env.cells.lookup x = some c
  cab : ∀ x c, X.fn x = true → X.env.cells.lookup x = some c → X.s₀.heap.objs.size ≤ c
  hd : X.calm = true → X.A.handled = none
  frames : X.A.frames = some X.stack
  stk : X.stack = X.outer ∨ (X.stack = X.env :: X.outer ∧ X.env.frame = some X.env.locals)
  exf : ∀ b ∈ X.ex, b ≠ X.env.locals ∧ ∀ x c, X.env.cells.lookup x = some c → c ≠ b
  bs : ∀ b o, X.base.get? b = some o → X.s₀.heap.get? b = some o ∧ X.H₀ b = none
  bsz : X.base.objs.size ≤ X.s₀.heap.objs.size
  noex : ∀ b o, X.base.get? b = some o → b ∉ X.ex
  exfs : ∀ b ∈ X.ex, b ∉ X.fs
  funs : X.s₀.heap.FunFrames X.base X.outer
  frf : ∀ b ∈ X.fs, X.H₀ b = none
structure Inv (X : Cx) (pins : List (Addr × Obj)) (σ : List (Option V)) (H : Hp) (s : Shared) : Prop where
  ok : X.Ok
  os : s.os = X.s₀.os
  bare : AllBare s.gens
  base : Un X.fs X.ex X.H₀ H X.s₀.heap s.heap
  loc : ∃ m, s.heap.Ns X.env.locals m ∧ ∀ (i : Nat) (x : Str) (v : V), X.N[i]? = some x → σ[i]? = some (some v) → Vis X.env.scope x → ∃ u, RelV v u ∧ Look X.env s.heap m x u
  cell : ∀ x c, X.env.cells.lookup x = some c → ∃ v, s.heap.IsCell c v
  free : H X.env.locals = none
  freeC : ∀ x c, X.env.cells.lookup x = some c → H c = none
  pin : ∀ p ∈ X.pn ++ pins, s.heap.get? p.1 = some p.2 ∧ H p.1 = none ∧ p.1 ≠ X.env.locals ∧ p.1 ∉ X.fs ∧ ∀ v, p.2.data ≠ .cell v
  hok : HOk X.prog X.w H s.heap
  len : σ.length = X.N.length
section
variable {X : Cx} {pins : List (Addr × Obj)} {σ : List (Option V)} {H H' : Hp} {s : Shared} {h' : Heap}
theorem Cx.Ok.nofr (ok : X.Ok) {b : Addr} {o : Obj} (e : X.base.get? b = some o) : b ∉ X.fs := fun hb => by
  have := (ok.funs.mem hb).1
  rw [e] at this; cases this
theorem Inv.bs (I : Inv X pins σ H s) : ∀ b o, X.base.get? b = some o → s.heap.get? b = some o ∧ H b = none := fun b o e =>
  ⟨I.base.keep b o (I.ok.bs b o e).1 (I.ok.bs b o e).2 (I.ok.nofr e) (I.ok.noex b o e), I.base.free b o (I.ok.bs b o e).1 (I.ok.bs b o e).2 (I.ok.noex b o e)⟩
theorem Inv.bk (I : Inv X pins σ H s) : ∀ b o, X.base.get? b = some o → s.heap.get? b = some o := fun b o e => (I.bs b o e).1
theorem Inv.mod (I : Inv X pins σ H s) : Mod X.K X.mg X.base := I.ok.mod
theorem Inv.kIn (I : Inv X pins σ H s) : X.K.In s.heap := I.ok.mod.kin.keeps I.bk
theorem Inv.lt (I : Inv X pins σ H s) : X.env.locals < s.heap.objs.size := let ⟨_, hn, _⟩ := I.loc; hn.lt
theorem Inv.sz (I : Inv X pins σ H s) : X.s₀.heap.objs.size ≤ s.heap.objs.size := Nat.le_trans I.ok.above (Nat.le_of_lt I.lt)
theorem Inv.nofs (I : Inv X pins σ H s) {a : Addr} (h : s.heap.objs.size ≤ a) : a ∉ X.fs := fun hb => by
  obtain ⟨_, o, ho, _⟩ := I.ok.funs.mem hb
  exact absurd (Nat.lt_of_lt_of_le (Heap.lt_size ho) (Nat.le_trans I.sz h)) (Nat.lt_irrefl _)
theorem Inv.cne (I : Inv X pins σ H s) : ∀ x c, X.env.cells.lookup x = some c → c ≠ X.env.locals := fun x c e z => by
  obtain ⟨v, o, ho, hd⟩ := I.cell x c e
  obtain ⟨m, ⟨o', es, ep, ho', hd', _⟩, _⟩ := I.loc
  rw [z, ho'] at ho; cases ho; rw [hd'] at hd; cases hd
theorem Inv.funs (I : Inv X pins σ H s) : s.heap.FunFrames X.base X.outer := by
  have all : ∀ (l : List Env), (∀ b ∈ frs l, b ∈ X.fs) → X.s₀.heap.FunFrames X.base l → s.heap.FunFrames X.base l := by
    intro l
    induction l with
    | nil => intro _ _; trivial
    | cons env r ih =>
      intro hs hl
      obtain ⟨hk, ⟨L, o, hf, hn, ho, hd⟩, hr⟩ := hl
      have hL : L ∈ X.fs := hs L (by unfold frs; rw [List.filterMap_cons, hf]; exact List.mem_cons_self)
      obtain ⟨sl, e⟩ := I.base.slot L o ho (I.ok.frf L hL) hL fun z => I.ok.exfs L z hL
      exact ⟨hk, ⟨L, _, hf, hn, e, hd⟩, ih (fun b hb => hs b (by unfold frs; rw [List.filterMap_cons, hf]; exact List.mem_cons_of_mem _ hb)) hr⟩
  exact all X.outer (fun _ hb => hb) I.ok.funs
theorem Inv.stack (I : Inv X pins σ H s) : s.heap.FunFrames X.base X.stack := by
  rcases I.ok.stk with e | ⟨e, hf⟩
  · rw [e]; exact I.funs
  · rw [e]
    obtain ⟨m, hn, _⟩ := I.loc
    refine .cons (by rw [I.ok.kind]; decide) hf hn ?_ I.funs
    exact Heap.get?_none_of_le (Nat.le_trans I.ok.bsz I.ok.above)
theorem Inv.stkSub (I : Inv X pins σ H s) : ∀ b ∈ frs X.stack, b ∈ X.env.locals :: X.fs := fun b hb => by
  rcases I.ok.stk with e | ⟨e, hf⟩
  · rw [e] at hb; exact List.mem_cons_of_mem _ hb
  · rw [e] at hb
    unfold frs at hb
    rw [List.filterMap_cons, hf] at hb
    exact hb
theorem Inv.stkFree (I : Inv X pins σ H s) : ∀ b ∈ frs X.stack, H b = none := fun b hb => by
  rcases List.mem_cons.mp (I.stkSub b hb) with e | hb
  · rw [e]; exact I.free
  · obtain ⟨_, o, ho, _⟩ := I.ok.funs.mem hb
    exact I.base.free b o ho (I.ok.frf b hb) fun z => I.ok.exfs b z hb
theorem Inv.step {g' : Array GenState} {t' : Nat} {d' : Drawn} {ch : List Addr} (I : Inv X pins σ H s)
    (hch : ∀ b ∈ ch, (b ∈ X.ex ∨ X.s₀.heap.objs.size ≤ b) ∧ b ≠ X.env.locals ∧ (∀ x c, X.env.cells.lookup x = some c → c ≠ b) ∧ ∀ p ∈ X.pn ++ pins, p.1 ≠ b)
    (keep : ∀ b o, b ≠ X.env.locals → b ∉ X.fs → b ∉ ch → s.heap.get? b = some o → H b = none → h'.get? b = some o)
    (slot : ∀ b o, b ≠ X.env.locals → b ∈ X.fs → b ∉ ch → s.heap.get? b = some o → H b = none → ∃ sl, h'.get? b = some { o with slots := sl }) (free : ∀ b o, b ∉ ch → s.heap.get? b = some o → H b = none → H' b = none)
    (there : ∀ b o, b ∉ ch → s.heap.get? b = some o → ∃ o', h'.get? b = some o')
    (tups : ∀ b xs, H b = some (.tup xs) → H' b = some (.tup xs)) (frzs : ∀ b o u, H b = some (.frz o u) → H' b = some (.frz o u)) (tbls : ∀ b ps, H b = some (.tbl ps) → ∃ more, H' b = some (.tbl (ps ++ more)))
    (ns : ∀ m, s.heap.Ns X.env.locals m → h'.Ns X.env.locals m) (hok : HOk X.prog X.w H' h') (hg : AllBare g') :
    Inv X pins σ H' { s with heap := h', gens := g', drawn := d', toks := t' } := by
  have neL : ∀ b o, X.s₀.heap.get? b = some o → b ≠ X.env.locals := fun b o e => Nat.ne_of_lt (Nat.lt_of_lt_of_le (Heap.lt_size e) I.ok.above)
  have neC : ∀ b o, X.s₀.heap.get? b = some o → b ∉ X.ex → b ∉ ch := fun b o e hx hb => by
    rcases (hch b hb).1 with z | z
    · exact hx z
    · exact absurd (Nat.lt_of_lt_of_le (Heap.lt_size e) z) (Nat.lt_irrefl _)
  have cellK : ∀ x c, X.env.cells.lookup x = some c → ∀ v, s.heap.IsCell c v → h'.IsCell c v := fun x c e v ⟨o, ho, hd⟩ => by
    have nch : c ∉ ch := fun z => (hch c z).2.2.1 x c e rfl
    by_cases hc : c ∈ X.fs
    · obtain ⟨sl, q⟩ := slot c o (I.cne x c e) hc nch ho (I.freeC x c e)
      exact ⟨_, q, hd⟩
    · exact ⟨o, keep c o (I.cne x c e) hc nch ho (I.freeC x c e), hd⟩
  refine ⟨I.ok, I.os, hg, ⟨fun b o e n hb hx => ?_, fun b o e n hb hx => ?_, fun b o e n hx => ?_, fun b o e hx => ?_, fun b xs e => tups b xs (I.base.tups b xs e), fun b o xs e => frzs b o xs (I.base.frzs b o xs e), fun b ps e => ?_⟩, ?_, fun x c e => ?_, ?_, fun x c e => ?_, fun p hp => ?_, hok, I.len⟩
  · exact keep b o (neL b o e) hb (neC b o e hx) (I.base.keep b o e n hb hx) (I.base.free b o e n hx)
  · obtain ⟨sl, e1⟩ := I.base.slot b o e n hb hx
    obtain ⟨sl', e2⟩ := slot b _ (neL b o e) hb (neC b o e hx) e1 (I.base.free b o e n hx)
    exact ⟨sl', e2⟩
  · obtain ⟨o', e1⟩ := I.base.there b o e hx
    exact free b o' (neC b o e hx) e1 (I.base.free b o e n hx)
  · obtain ⟨o', e1⟩ := I.base.there b o e hx
    exact there b o' (neC b o e hx) e1
  · obtain ⟨m1, e1⟩ := I.base.tbls b ps e
    obtain ⟨m2, e2⟩ := tbls b _ e1
    exact ⟨m1 ++ m2, by rw [e2, Array.append_assoc]⟩
  · obtain ⟨m, hn, hl⟩ := I.loc
    refine ⟨m, ns m hn, fun i x v e1 e2 e3 => ?_⟩
    obtain ⟨u, r, l⟩ := hl i x v e1 e2 e3
    refine ⟨u, r, ?_⟩
    rcases l with l | ⟨k, c, e, z⟩
    · exact .inl l
    · exact .inr ⟨k, c, e, cellK x c e _ z⟩
  · obtain ⟨v, z⟩ := I.cell x c e
    exact ⟨v, cellK x c e v z⟩
  · obtain ⟨m, ⟨o, _, _, ho, _⟩, _⟩ := I.loc
    exact free _ o (fun z => (hch _ z).2.1 rfl) ho I.free
  · obtain ⟨v, o, ho, hd⟩ := I.cell x c e
    exact free c o (fun z => (hch c z).2.2.1 x c e rfl) ho (I.freeC x c e)
  · obtain ⟨e, n, ne, nf, d⟩ := I.pin p hp
    have nch : p.1 ∉ ch := fun z => (hch p.1 z).2.2.2 p hp rfl
    exact ⟨keep p.1 p.2 ne nf nch e n, free p.1 p.2 nch e n, ne, nf, d⟩
theorem Inv.un {t' : Nat} (I : Inv X pins σ H s) (u : Un X.fs [] H H' s.heap h') (hok : HOk X.prog X.w H' h') : Inv X pins σ H' { s with heap := h', toks := t' } := by
  obtain ⟨m, ⟨o, es, ep, ho, r⟩, _⟩ := id I.loc
  obtain ⟨sl, hL⟩ := u.any ho I.free (by simp)
  exact I.step (g' := s.gens) (d' := s.drawn) (ch := []) (fun _ z => nomatch z) (fun b o _ hb _ e n => u.keep b o e n hb (by simp)) (fun b o _ hb _ e n => u.slot b o e n hb (by simp)) (fun b o _ e n => u.free b o e n (by simp)) (fun b o _ e => u.there b o e (by simp)) u.tups u.frzs u.tbls (fun m' hm => by
    obtain ⟨o', es', ep', ho', r'⟩ := hm
    rw [ho] at ho'; cases ho'
    exact ⟨_, es', ep', hL, r'⟩) hok I.bare
theorem Inv.call {g' : Array GenState} {t' : Nat} {d' : Drawn} {ch : List Addr} (I : Inv X pins σ H s) (u : Un (frs X.stack) ch H H' s.heap h') (hok : HOk X.prog X.w H' h') (hg : AllBare g')
    (hch : ∀ b ∈ ch, (b ∈ X.ex ∨ X.s₀.heap.objs.size ≤ b) ∧ b ≠ X.env.locals ∧ (∀ x c, X.env.cells.lookup x = some c → c ≠ b) ∧ ∀ p ∈ X.pn ++ pins, p.1 ≠ b) :
    Inv X pins σ H' { s with heap := h', gens := g', drawn := d', toks := t' } := by
  obtain ⟨m, ⟨o, es, ep, ho, r⟩, _⟩ := id I.loc
  obtain ⟨sl, hL⟩ := u.any ho I.free fun z => (hch _ z).2.1 rfl
  exact I.step (ch := ch) hch (fun b o hL hb hc e n => u.keep b o e n (fun z => (List.mem_cons.mp (I.stkSub b z)).elim hL hb) hc) (fun b o _ _ hc e n => u.any e n hc) (fun b o hc e n => u.free b o e n hc) (fun b o hc e => u.there b o e hc) u.tups u.frzs u.tbls (fun m' hm => by
    obtain ⟨o', es', ep', ho', r'⟩ := hm
    rw [ho] at ho'; cases ho'
    exact ⟨_, es', ep', hL, r'⟩) hok hg
theorem Inv.turned {t' : Nat} {it : Addr} (I : Inv X pins σ H s) (k : ∀ b o, b ≠ it → s.heap.get? b = some o → h'.get? b = some o) (hn : H it = none) (hL : it ≠ X.env.locals)
    (h1 : it ∈ X.ex ∨ X.s₀.heap.objs.size ≤ it) (h2 : ∀ x c, X.env.cells.lookup x = some c → c ≠ it) (h3 : ∀ p ∈ X.pn ++ pins, p.1 ≠ it) : Inv X pins σ H { s with heap := h', toks := t' } := by
  have nit : ∀ b u, H b = some u → b ≠ it := fun b u e z => by rw [z, hn] at e; cases e
  refine I.step (g' := s.gens) (d' := s.drawn) (ch := [it]) (fun b hb => ?_) (fun b o _ _ hc e _ => k b o (fun z => hc (by simp [z])) e) (fun b o _ _ hc e _ => ⟨o.slots, k b o (fun z => hc (by simp [z])) e⟩) (fun _ _ _ _ n => n)
    (fun b o hc e => ⟨o, k b o (fun z => hc (by simp [z])) e⟩) (fun _ _ e => e) (fun _ _ _ e => e) (fun b ps e => ⟨#[], by rw [e]; simp⟩) (fun m hm => ?_) (fun b u e => ?_) I.bare
  · have e : b = it := by simpa using hb
    subst e
    exact ⟨h1, hL, h2, h3⟩
  · obtain ⟨o, es, ep, ho, r⟩ := hm
    exact ⟨o, es, ep, k _ o (Ne.symm hL) ho, r⟩
  · refine (I.hok b u e).stay (fun c v hc q => k c v ?_ q) (fun _ q => q) fun _ _ q => q
    rcases hc with z | z
    · rw [z]; exact nit b u e
    · exact nit c _ z
theorem Inv.tok (I : Inv X pins σ H s) (t : Nat) : Inv X pins σ H { s with toks := t } := I.un (h' := s.heap) (t' := t) Un.refl I.hok
theorem Inv.kept {t' : Nat} (I : Inv X pins σ H s) (k : ∀ b u, s.heap.get? b = some u → h'.get? b = some u) : Inv X pins σ H { s with heap := h', toks := t' } := I.un (Un.kept k) (I.hok.kept k)
theorem Inv.laid {a : Addr} {o : HO} {t' : Nat} (I : Inv X pins σ H s) (k : ∀ b u, s.heap.get? b = some u → h'.get? b = some u) (hp : s.heap.objs.size ≤ a) (new : ObjOk X.prog X.w (upd H a o) h' a o) :
    Inv X pins σ (upd H a o) { s with heap := h', toks := t' } := I.un (Un.laid k hp (I.hok.fresh hp)) (I.hok.laid k hp new)
theorem Inv.write {x e : Addr} {o : HO} {t' : Nat} (I : Inv X pins σ H s) (mu : Mut (H x)) (he : e = x ∨ H e = some (.own x)) (k : ∀ b u, b ≠ e → s.heap.get? b = some u → h'.get? b = some u) (heo : ∃ u, h'.get? e = some u)
    (new : ObjOk X.prog X.w (upd H x o) h' x o) : Inv X pins σ (upd H x o) { s with heap := h', toks := t' } := I.un (Un.write mu he k heo) (I.hok.write mu he k heo new)
theorem Inv.pins_of {pins' : List (Addr × Obj)} (I : Inv X pins σ H s) (h : ∀ p ∈ pins', s.heap.get? p.1 = some p.2 ∧ H p.1 = none ∧ p.1 ≠ X.env.locals ∧ p.1 ∉ X.fs ∧ ∀ v, p.2.data ≠ .cell v) : Inv X pins' σ H s :=
  ⟨I.ok, I.os, I.bare, I.base, I.loc, I.cell, I.free, I.freeC, fun p hp => (List.mem_append.mp hp).elim (fun z => I.pin p (List.mem_append_left _ z)) (h p), I.hok, I.len⟩
theorem nodup_ix {N : List Str} (hN : N.Nodup) {i j : Nat} {x : Str} (a : N[i]? = some x) (b : N[j]? = some x) : i = j := by
  obtain ⟨h1, e1⟩ := List.getElem?_eq_some_iff.mp a
  obtain ⟨h2, e2⟩ := List.getElem?_eq_some_iff.mp b
  exact (List.getElem_inj hN).mp (e1.trans e2.symm)
theorem store_ok2 {M : Model} {A : Around} {E : Value → Shared → Prop} {i : Nat} {x : Str} {v : V} {u : Value} {Q : Unit → Shared → Prop} (I : Inv X pins σ H s) (hN : X.N.Nodup) (hi : X.N[i]? = some x) (hx : Loc X.env.scope x) (r : RelV v u)
    (h : ∀ s', Inv X pins (σ.set i (some v)) H s' → (∃ a, Heap.SameBut a s.heap s'.heap ∧ (a = X.env.locals ∨ X.env.cells.lookup x = some a)) → Q () s') (hf : X.fn x = true ∨ X.env.scope.names.lookup x = some .local := by first | exact .inl rfl | exact .inr rfl | assumption) : wpAny M A (storeName X.env x u) Q E s := by
  obtain ⟨m, hn, hl⟩ := id I.loc
  have hcls : (X.env.scope.kind == .class || (X.env.scope.kind == .module && X.env.locals != X.env.globals)) = false := by rw [I.ok.kind]; rfl
  have hiσ : i < σ.length := by rw [I.len]; exact (List.getElem?_eq_some_iff.mp hi).1
  have cne := I.cne
  have tracked : ∀ {a : Addr} {h' : Heap}, (∃ o, s.heap.get? a = some o ∧ H a = none) → Heap.SameBut a s.heap h' → HOk X.prog X.w H h' := fun {a h'} ha hs b ob e => by
    obtain ⟨_, _, hfree⟩ := ha
    refine (I.hok b ob e).stay (fun c w' hc q => (hs.2 c ?_).trans q) (fun _ q => q) fun _ _ q => q
    rintro rfl
    rcases hc with rfl | hc
    · rw [hfree] at e; cases e
    · rw [hfree] at hc; cases hc
  rcases hx with hk | hk
  · refine wpAny_storeName_local hk hn (fun h' hn' hs => ?_) hcls
    obtain ⟨oL, _, _, hoL, _⟩ := id hn
    refine h _ ⟨I.ok, I.os, I.bare, ⟨fun b o e n hb hx => ?_, fun b o e n hb hx => ?_, I.base.free, fun b o e hx => ?_, I.base.tups, I.base.frzs, I.base.tbls⟩, ⟨_, hn', fun j y v' e1 e2 e3 => ?_⟩, fun y c e => ?_, I.free, I.freeC, fun p hp => ?_, tracked ⟨oL, hoL, I.free⟩ hs, by simpa using I.len⟩ ⟨_, hs, .inl rfl⟩
    · exact (hs.2 b (Nat.ne_of_lt (Nat.lt_of_lt_of_le (Heap.lt_size e) I.ok.above))).trans (I.base.keep b o e n hb hx)
    · obtain ⟨sl, e1⟩ := I.base.slot b o e n hb hx
      exact ⟨sl, (hs.2 b (Nat.ne_of_lt (Nat.lt_of_lt_of_le (Heap.lt_size e) I.ok.above))).trans e1⟩
    · obtain ⟨o', e1⟩ := I.base.there b o e hx
      exact ⟨o', (hs.2 b (Nat.ne_of_lt (Nat.lt_of_lt_of_le (Heap.lt_size e) I.ok.above))).trans e1⟩
    · by_cases hj : j = i
      · subst hj
        rw [hi] at e1; cases e1
        rw [List.getElem?_set_self hiσ] at e2
        cases e2
        exact ⟨u, r, .inl ⟨hk, by simp⟩⟩
      · rw [List.getElem?_set_ne (Ne.symm hj)] at e2
        obtain ⟨u', r', q⟩ := hl j y v' e1 e2 e3
        refine ⟨u', r', ?_⟩
        rcases q with ⟨k, e⟩ | ⟨k, c, e, z⟩
        · refine .inl ⟨k, ?_⟩
          have : y ≠ x := fun e => hj (nodup_ix hN e1 (e ▸ hi))
          simp [this, e]
        · exact .inr ⟨k, c, e, z.sameBut hs (cne y c e)⟩
    · obtain ⟨w', z⟩ := I.cell y c e
      exact ⟨w', z.sameBut hs (cne y c e)⟩
    · obtain ⟨e, n, ne, nf, d⟩ := I.pin p hp
      exact ⟨(hs.2 p.1 ne).trans e, n, ne, nf, d⟩
  · have hfn : X.fn x = true := by
      rcases hf with z | z
      · exact z
      · rw [z] at hk; cases hk
    obtain ⟨c, hc⟩ := I.ok.has x (.inl hk)
    obtain ⟨w', z⟩ := I.cell x c hc
    refine wpAny_storeName_cell I.ok.kind hk hc z (fun h' hc' hs => ?_)
    obtain ⟨oc, hoc, hocd⟩ := id z
    refine h { s with heap := h' } ⟨I.ok, I.os, I.bare, ⟨fun b o e n hb hx => ?_, fun b o e n hb hx => ?_, I.base.free, fun b o e hx => ?_, I.base.tups, I.base.frzs, I.base.tbls⟩, ⟨m, hn.sameBut hs (Ne.symm (cne x c hc)), fun j y v' e1 e2 e3 => ?_⟩, fun y c' e => ?_, I.free, I.freeC, fun p hp => ?_, tracked ⟨oc, hoc, I.freeC x c hc⟩ hs, by simpa using I.len⟩ ⟨c, hs, .inr hc⟩
    · exact (hs.2 b (Nat.ne_of_lt (Nat.lt_of_lt_of_le (Heap.lt_size e) (I.ok.cab x c hfn hc)))).trans (I.base.keep b o e n hb hx)
    · obtain ⟨sl, e1⟩ := I.base.slot b o e n hb hx
      exact ⟨sl, (hs.2 b (Nat.ne_of_lt (Nat.lt_of_lt_of_le (Heap.lt_size e) (I.ok.cab x c hfn hc)))).trans e1⟩
    · obtain ⟨o', e1⟩ := I.base.there b o e hx
      exact ⟨o', (hs.2 b (Nat.ne_of_lt (Nat.lt_of_lt_of_le (Heap.lt_size e) (I.ok.cab x c hfn hc)))).trans e1⟩
    · by_cases hj : j = i
      · subst hj
        rw [hi] at e1; cases e1
        rw [List.getElem?_set_self hiσ] at e2
        cases e2
        exact ⟨u, r, .inr ⟨.inl hk, c, hc, hc'⟩⟩
      · rw [List.getElem?_set_ne (Ne.symm hj)] at e2
        obtain ⟨u', r', q⟩ := hl j y v' e1 e2 e3
        refine ⟨u', r', ?_⟩
        rcases q with q | ⟨k, c', e, z'⟩
        · exact .inl q
        · refine .inr ⟨k, c', e, z'.sameBut hs ?_⟩
          rintro rfl
          exact hj (nodup_ix hN e1 (I.ok.inj _ _ _ e hc ▸ hi))
    · by_cases hcc : c' = c
      · subst hcc; exact ⟨_, hc'⟩
      · obtain ⟨w2, z2⟩ := I.cell y c' e
        exact ⟨w2, z2.sameBut hs hcc⟩
    · obtain ⟨e, n, ne, nf, d⟩ := I.pin p hp
      refine ⟨(hs.2 p.1 ?_).trans e, n, ne, nf, d⟩
      intro q
      rw [q, hoc] at e
      have q' : oc = p.2 := Option.some.inj e
      exact d w' (by rw [← q']; exact hocd)
theorem store_ok {M : Model} {A : Around} {E : Value → Shared → Prop} {i : Nat} {x : Str} {v : V} {u : Value} {Q : Unit → Shared → Prop} (I : Inv X pins σ H s) (hN : X.N.Nodup) (hi : X.N[i]? = some x) (hx : Loc X.env.scope x) (r : RelV v u)
    (h : ∀ s', Inv X pins (σ.set i (some v)) H s' → Q () s') (hf : X.fn x = true ∨ X.env.scope.names.lookup x = some .local := by first | exact .inl rfl | exact .inr rfl | assumption) : wpAny M A (storeName X.env x u) Q E s :=
  store_ok2 I hN hi hx r (fun s' I' _ => h s' I') hf
theorem Inv.call' {s' : Shared} {ch : List Addr} (I : Inv X pins σ H s) (ho : s'.os = s.os) (u : Un (frs X.stack) ch H H' s.heap s'.heap) (hok : HOk X.prog X.w H' s'.heap) (hg : AllBare s'.gens)
    (hch : ∀ b ∈ ch, (b ∈ X.ex ∨ X.s₀.heap.objs.size ≤ b) ∧ b ≠ X.env.locals ∧ (∀ x c, X.env.cells.lookup x = some c → c ≠ b) ∧ ∀ p ∈ X.pn ++ pins, p.1 ≠ b) : Inv X pins σ H' s' := by
  obtain ⟨h', g', d', t', o'⟩ := s'
  have e : o' = s.os := ho
  subst e
  exact I.call (g' := g') (t' := t') (d' := d') u hok hg hch
end
noncomputable abbrev XK := Value → Option Addr → Hp → Prop
noncomputable abbrev St := List (Option V)
noncomputable abbrev VK := V → Hp → Prop
noncomputable abbrev TE := St → Hp → VK → Prop
noncomputable abbrev TT := St → Hp → (Bool → Hp → Prop) → Prop
noncomputable abbrev TA := St → Hp → (List V → Hp → Prop) → Prop
structure Ends where
  nx : St → Hp → Prop
  rt : VK
  bk : St → Hp → Prop := fun _ _ => False
  ct : St → Hp → Prop := fun _ _ => False
noncomputable abbrev TS := Ends → St → Hp → Prop
def EP (X : Cx) (pins : List (Addr × Obj)) (σ : St) (Q : VK) (u : Value) (s' : Shared) : Prop := ∃ v H', Inv X pins σ H' s' ∧ RelV v u ∧ Q v H'
def TP (X : Cx) (pins : List (Addr × Obj)) (σ : St) (Q : Bool → Hp → Prop) (b : Bool) (s' : Shared) : Prop := ∃ H', Inv X pins σ H' s' ∧ Q b H'
def AP (X : Cx) (pins : List (Addr × Obj)) (σ : St) (Q : List V → Hp → Prop) (us : List Value) (s' : Shared) : Prop := ∃ vs H', Inv X pins σ H' s' ∧ Vals vs us ∧ Q vs H'
def SP (X : Cx) (pins : List (Addr × Obj)) (D : Ends) (f : Flow) (s' : Shared) : Prop :=
  match f with
  | .next => ∃ σ' H', Inv X pins σ' H' s' ∧ D.nx σ' H'
  | .brk => ∃ σ' H', Inv X pins σ' H' s' ∧ D.bk σ' H'
  | .cont => ∃ σ' H', Inv X pins σ' H' s' ∧ D.ct σ' H'
  | .ret u => ∃ v σ' H', Inv X pins σ' H' s' ∧ RelV v u ∧ D.rt v H'
def PE (X : Cx) (e : Expr) (t : TE) : Prop :=
  ∀ (pins : List (Addr × Obj)) (s : Shared) (σ : St) (H : Hp) (Q : VK), Inv X pins σ H s → t σ H Q → wpAny (model X.prog X.w) X.A (eval e X.env) (EP X pins σ Q) X.xe s
def PT (X : Cx) (e : Expr) (t : TT) : Prop :=
  ∀ (pins : List (Addr × Obj)) (s : Shared) (σ : St) (H : Hp) (Q : Bool → Hp → Prop), Inv X pins σ H s → t σ H Q → wpAny (model X.prog X.w) X.A (isTrue e X.env (eval e X.env)) (TP X pins σ Q) X.xe s
def PW (X : Cx) (e : Expr) (t : TT) : Prop :=
  ∀ (whole : Sem Value) (pins : List (Addr × Obj)) (s : Shared) (σ : St) (H : Hp) (Q : Bool → Hp → Prop), Inv X pins σ H s → t σ H Q → wpAny (model X.prog X.w) X.A (isTrue e X.env whole) (TP X pins σ Q) X.xe s
theorem PW.pt {X : Cx} {e : Expr} {t : TT} (h : PW X e t) : PT X e t := h _
def PA (X : Cx) (es : List Expr) (t : TA) : Prop :=
  ∀ (pos : Pos) (pins : List (Addr × Obj)) (s : Shared) (σ : St) (H : Hp) (Q : List V → Hp → Prop), Inv X pins σ H s → t σ H Q → wpAny (model X.prog X.w) X.A (spliced (backTo pos (starEach es X.env))) (AP X pins σ Q) X.xe s
def PS (X : Cx) (st : Stmt) (t : TS) : Prop :=
  ∀ (pins : List (Addr × Obj)) (s : Shared) (σ : St) (H : Hp) (D : Ends), Inv X pins σ H s → t D σ H → wpAny (model X.prog X.w) X.A (exec st X.env) (SP X pins D) X.xe s
def PSs (X : Cx) (st : List Stmt) (t : TS) : Prop :=
  ∀ (pins : List (Addr × Obj)) (s : Shared) (σ : St) (H : Hp) (D : Ends), Inv X pins σ H s → t D σ H → wpAny (model X.prog X.w) X.A (execs st X.env) (SP X pins D) X.xe s
theorem thn {α : Type} {t : Sem α} {Q Q' : α → Shared → Prop} {M : Model} {A : Around} {E : Value → Shared → Prop} {s : Shared} (h : wpAny M A t Q E s) (hQ : ∀ a s, Q a s → Q' a s) : wpAny M A t Q' E s := wpAny_mono h hQ fun _ _ x => x
end L2
namespace L2
open PySem PySem.Spec PyProof.Rows
section
variable {X : Cx}
def tVar (i : Nat) : TE := fun σ H Q => ∃ v, σ[i]? = some (some v) ∧ Q v H
def tC (v : V) : TE := fun _ H Q => Q v H
theorem pe_var {i : Nat} {x : Str} {pos : Pos} (hN : X.N[i]? = some x) (hv : Vis X.env.scope x) (hd : (x == ("__debug__" : Str)) = false := by decide) (hcd : (x == ("__classdict__" : Str)) = false := by decide) : PE X (.Name x pos) (tVar i) := by
  intro pins s σ H Q I h
  obtain ⟨v, e, h⟩ := h
  obtain ⟨m, hn, hl⟩ := I.loc
  obtain ⟨u, r, l⟩ := hl i x v hN e hv
  have fin : EP X pins σ Q u s := ⟨v, H, I, r, h⟩
  rcases l with ⟨hk, hm⟩ | ⟨hk, c, hc, hcell⟩
  · exact wpAny_Name (wpAny_loadName_local I.ok.kind hk hn hm fin) hd
  · rcases hk with hk | hk
    · exact wpAny_Name (wpAny_loadName_cell I.ok.kind hk hc hcell fin) hd
    · exact wpAny_Name (wpAny_loadName_free I.ok.kind hk hc hcell fin hcd) hd
theorem pe_int {i j pos} : PE X (.Constant (.int i) j pos) (tC (.int i)) := fun _ _ _ H _ I h => wpAny_Constant_int ⟨.int i, H, I.tok _, ⟨_, rfl⟩, h⟩
theorem pe_bl {b j pos} : PE X (.Constant (.bool b) j pos) (tC (.bl b)) := fun _ _ _ H _ I h => Constant_bool ⟨.bl b, H, I, rfl, h⟩
theorem pe_non {j pos} : PE X (.Constant .none j pos) (tC .non) := fun _ _ _ H _ I h => Constant_none ⟨.non, H, I, rfl, h⟩
theorem pe_str {x j pos} : PE X (.Constant (.str x) j pos) (tC (.str x)) := fun _ _ _ H _ I h => Calls.Constant_str ⟨.str x, H, I.tok _, ⟨_, rfl⟩, h⟩
def Gl (X : Cx) (x : Str) : Prop := X.env.kindOf x = some .globalImplicit
theorem ld_glob {E : Value → Shared → Prop} {pins : List (Addr × Obj)} {s : Shared} {σ : St} {H : Hp} {x : Str} {u : Value} {pos : Pos} {Q : Value → Shared → Prop} (I : Inv X pins σ H s) (hg : Gl X x) (hm : X.mg x = some u) (h : Q u s)
    (hd : (x == ("__debug__" : Str)) = false := by decide) : wpAny (model X.prog X.w) X.A (eval (.Name x pos) X.env) Q E s :=
  Calls.Name_function_global I.ok.kind hg (Calls.loadGlobal_global (by rw [I.ok.glob]; exact I.mod.glob.keeps I.bk) hm h) hd
theorem ld_blt {E : Value → Shared → Prop} {pins : List (Addr × Obj)} {s : Shared} {σ : St} {H : Hp} {x : Str} {u : Value} {pos : Pos} {Q : Value → Shared → Prop} (I : Inv X pins σ H s) (hg : Gl X x) (hm : X.mg x = none) (hv : bootBuiltins x = some u) (h : Q u s)
    (hn : x ≠ "__name__" := by decide) (hd : (x == ("__debug__" : Str)) = false := by decide) : wpAny (model X.prog X.w) X.A (eval (.Name x pos) X.env) Q E s := by
  obtain ⟨mb, h1, h2⟩ := I.mod.blt
  exact Calls.Name_function_global I.ok.kind hg (Calls.loadGlobal_builtin (by rw [I.ok.glob]; exact I.mod.glob.keeps I.bk) hm (by rw [I.ok.blt]; exact h1.keeps I.bk) ((h2 x hn).trans hv) h) hd
theorem pe_glob {x : Str} {v : V} {u : Value} {pos : Pos} (hg : Gl X x) (hm : X.mg x = some u) (r : RelV v u) (hd : (x == ("__debug__" : Str)) = false := by decide) : PE X (.Name x pos) (tC v) :=
  fun _ _ _ H _ I h => ld_glob I hg hm ⟨v, H, I, r, h⟩ hd
theorem pe_bltn {x : Str} {v : V} {u : Value} {pos : Pos} (hg : Gl X x) (hm : X.mg x = none) (hv : bootBuiltins x = some u) (r : RelV v u) (hn : x ≠ "__name__" := by decide) (hd : (x == ("__debug__" : Str)) = false := by decide) : PE X (.Name x pos) (tC v) :=
  fun _ _ _ H _ I h => ld_blt I hg hm hv ⟨v, H, I, r, h⟩ hn hd
variable {a b : Expr} {ta tb : TE} {pos : Pos}
def tB (t : TE) : TT := fun σ H Q => t σ H fun x H1 => ∃ c, x = .bl c ∧ Q c H1
variable {tA tB' : TT} {rest : List Expr}
def tAnd (t u : TT) : TT := fun σ H Q => t σ H fun c H1 => if c = true then u σ H1 Q else Q false H1
def tOr (t u : TT) : TT := fun σ H Q => t σ H fun c H1 => if c = true then Q true H1 else u σ H1 Q
def tNot (t : TT) : TT := fun σ H Q => t σ H fun c H1 => Q (!c) H1
theorem pw_and1 (ha : PT X a tA) : PW X (.BoolOp .And [a] pos) tA := by
  intro wh pins s σ H Q I h
  refine isTrue_and (thn (ha pins s σ H Q I h) fun c s1 e => ?_)
  cases c with
  | true => exact isTrue_and_nil e
  | false => exact e
theorem pw_or1 (ha : PT X a tA) : PW X (.BoolOp .Or [a] pos) tA := by
  intro wh pins s σ H Q I h
  refine isTrue_or (thn (ha pins s σ H Q I h) fun c s1 e => ?_)
  cases c with
  | false => exact isTrue_or_nil e
  | true => exact e
theorem pw_and (ha : PT X a tA) (hb : PW X (.BoolOp .And (b :: rest) pos) tB') : PW X (.BoolOp .And (a :: b :: rest) pos) (tAnd tA tB') := by
  intro wh pins s σ H Q I h
  refine isTrue_and (thn (ha pins s σ H _ I h) fun c s1 ⟨H1, I1, q1⟩ => ?_)
  cases c with
  | true => exact hb wh pins s1 σ H1 Q I1 q1
  | false => exact ⟨H1, I1, q1⟩
theorem pw_or (ha : PT X a tA) (hb : PW X (.BoolOp .Or (b :: rest) pos) tB') : PW X (.BoolOp .Or (a :: b :: rest) pos) (tOr tA tB') := by
  intro wh pins s σ H Q I h
  refine isTrue_or (thn (ha pins s σ H _ I h) fun c s1 ⟨H1, I1, q1⟩ => ?_)
  cases c with
  | true => exact ⟨H1, I1, q1⟩
  | false => exact hb wh pins s1 σ H1 Q I1 q1
theorem pt_not (ha : PT X a tA) : PT X (.UnaryOp .Not a pos) (tNot tA) := by
  intro pins s σ H Q I h
  exact isTrue_not (ha pins s σ H (fun c H1 => Q (!c) H1) I h)
def tAndV (ta tb : TE) : TE := fun σ H Q => ta σ H fun x H1 => ∃ c, x = .bl c ∧ if c = true then tb σ H1 Q else Q (.bl false) H1
def tNotV (ta : TE) : TE := fun σ H Q => ta σ H fun x H1 => ∃ c, x = .bl c ∧ Q (.bl (!c)) H1
theorem pe_one {op} {t : TE} (h : PE X a t) : PE X (.BoolOp op [a] pos) t := fun pins s σ H Q I hw => BoolOp_one (h pins s σ H Q I hw)
theorem pe_and (ha : PE X a ta) (hb : PE X (.BoolOp .And (b :: rest) pos) tb) : PE X (.BoolOp .And (a :: b :: rest) pos) (tAndV ta tb) := by
  intro pins s σ H Q I h
  refine BoolOp_and (thn (ha pins s σ H _ I h) fun v s1 ⟨x, H1, I1, r1, q1⟩ => ?_)
  obtain ⟨c, rfl, q1⟩ := q1
  cases r1
  refine wpAny_truthy_bool ?_
  cases c with
  | true => exact hb pins s1 σ H1 Q I1 q1
  | false => exact ⟨.bl false, H1, I1, rfl, q1⟩
theorem pe_not (ha : PE X a ta) : PE X (.UnaryOp .Not a pos) (tNotV ta) := by
  intro pins s σ H Q I h
  refine UnaryOp_ (thn (ha pins s σ H _ I h) fun v s1 ⟨x, H1, I1, r1, q1⟩ => ?_)
  obtain ⟨c, rfl, q1⟩ := q1
  cases r1
  exact not_of (wpAny_truthy_bool ⟨.bl (!c), H1, I1, rfl, q1⟩)
def tIf (t : TT) (ta tb : TE) : TE := fun σ H Q => t σ H fun c H1 => if c = true then ta σ H1 Q else tb σ H1 Q
theorem pe_ifExp {c : Expr} (hc : PT X c tA) (ha : PE X a ta) (hb : PE X b tb) : PE X (.IfExp c a b pos) (tIf tA ta tb) := by
  intro pins s σ H Q I h
  refine wpAny_IfExp (thn (hc pins s σ H _ I h) fun d s1 ⟨H1, I1, q1⟩ => ?_)
  cases d with
  | true => exact ha pins s1 σ H1 Q I1 q1
  | false => exact hb pins s1 σ H1 Q I1 q1
end
end L2
namespace L2
open PySem PySem.Spec PyProof.Rows
def SqL (K : PySem.W.Frag) (H : Hp) (a : Addr) (xs : List V) : Prop :=
  Rd H a (.lst xs) ∨
    ∃ (o : Obj) (its : Array Value) (n : Nat), K.lookup a = some o ∧ o.cls = .type "list" ∧ o.dict = none ∧ o.data = .seq its n ∧ its.size ≤ sizeLine ∧ Vals xs its.toList
def SqT (K : PySem.W.Frag) (H : Hp) (a : Addr) (xs : List V) : Prop :=
  Rd H a (.tup xs) ∨
    ∃ (o : Obj) (its : Array Value) (n : Nat), K.lookup a = some o ∧ o.cls = .type "tuple" ∧ o.dict = none ∧ o.data = .seq its n ∧ its.size ≤ sizeLine ∧ Vals xs its.toList
noncomputable def absV : Value → Option V
  | .none => some .non
  | .bool b => some (.bl b)
  | .int i _ => some (.int i)
  | .str x _ => some (.str x)
  | .bytes b _ => some (.byt b)
  | .float b _ => some (.flt b)
  | .ref a => some (.ref a)
  | .type n => some (.ty n)
  | _ => none
theorem RelV.abs {x : V} {u : Value} (r : RelV x u) : absV u = some x := by
  cases x with
  | non => cases r; rfl
  | bl _ => cases r; rfl
  | int _ => obtain ⟨t, rfl⟩ := r; rfl
  | str _ => obtain ⟨t, rfl⟩ := r; rfl
  | byt _ => obtain ⟨t, rfl⟩ := r; rfl
  | flt _ => obtain ⟨t, rfl⟩ := r; rfl
  | ref _ => cases r; rfl
  | ty _ => cases r; rfl
theorem RelV.inj {x y : V} {u : Value} (r : RelV x u) (q : RelV y u) : x = y := Option.some.inj (r.abs.symm.trans q.abs)
theorem Vals.inj : ∀ {xs ys : List V} {us : List Value}, Vals xs us → Vals ys us → xs = ys
  | _, _, _, .nil, .nil => rfl
  | _, _, _, .cons r t, .cons r' t' => by rw [r.inj r', Vals.inj t t']
section
variable {X : Cx} {pins : List (Addr × Obj)} {σ : St} {H : Hp} {s : Shared} {a : Addr} {xs ys : List V}
theorem Inv.list (I : Inv X pins σ H s) (h : SqL X.K H a xs) : ∃ its : List Value, Vals xs its ∧ PlainL s.heap a its.toArray ∧ xs.length ≤ sizeLine := by
  rcases h with h | ⟨o, its, n, hk, hc, hd, hs, hz, r⟩
  · obtain ⟨z, its, n, r, e⟩ := h.ok I.hok
    exact ⟨its, r, ⟨_, n, e, rfl, rfl, rfl⟩, z⟩
  · refine ⟨its.toList, r, ⟨o, n, I.kIn a o hk, hc, hd, by simpa using hs⟩, ?_⟩
    have e := r.length
    simp only [Array.length_toList] at e
    omega
theorem Inv.tuple (I : Inv X pins σ H s) (h : SqT X.K H a xs) : ∃ its : List Value, Vals xs its ∧ IsTup s.heap a its.toArray ∧ xs.length ≤ sizeLine := by
  rcases h with h | ⟨o, its, n, hk, hc, hn, hs, hz, r⟩
  · obtain ⟨z, its, r, p⟩ := h.ok I.hok
    exact ⟨its, r, p.1, z⟩
  · refine ⟨its.toList, r, ⟨o, I.kIn a o hk, hc, n, by simpa using hs⟩, ?_⟩
    have e := r.length
    simp only [Array.length_toList] at e
    omega
theorem Inv.tupleD (I : Inv X pins σ H s) (h : SqT X.K H a xs) : ∃ its : List Value, Vals xs its ∧ IsTupD s.heap a its.toArray ∧ xs.length ≤ sizeLine := by
  obtain ⟨its, r, p, z⟩ := I.tuple h
  refine ⟨its, r, ⟨p, fun o e => ?_⟩, z⟩
  rcases h with h | ⟨o', its', n, hk, hc, hn, hs, hz, r'⟩
  · obtain ⟨_, _, _, q⟩ := h.ok I.hok
    exact q.2 o e
  · have := I.kIn a o' hk
    rw [this] at e; cases e; exact hn
theorem Inv.list_inj (I : Inv X pins σ H s) (h : SqL X.K H a xs) (h' : SqL X.K H a ys) : xs = ys := by
  obtain ⟨its, r, ⟨o, n, e, _, _, d⟩, _⟩ := I.list h
  obtain ⟨its', r', ⟨o', n', e', _, _, d'⟩, _⟩ := I.list h'
  rw [e] at e'; cases e'
  rw [d] at d'
  injection d' with d1 _
  have : its = its' := by simpa using congrArg Array.toList d1
  subst this
  exact r.inj r'
theorem Inv.tuple_inj (I : Inv X pins σ H s) (h : SqT X.K H a xs) (h' : SqT X.K H a ys) : xs = ys := by
  obtain ⟨its, r, ⟨o, e, _, n, d⟩, _⟩ := I.tuple h
  obtain ⟨its', r', ⟨o', e', _, n', d'⟩, _⟩ := I.tuple h'
  rw [e] at e'; cases e'
  rw [d] at d'
  injection d' with d1 _
  have : its = its' := by simpa using congrArg Array.toList d1
  subst this
  exact r.inj r'
end
abbrev Cx.wish (X : Cx) (E : Value → Shared → Prop) : Cx := { X with xe := E }
noncomputable abbrev Cx.nox (X : Cx) : Cx := X.wish fun _ _ => False
theorem Cx.Ok.wish {X : Cx} (ok : X.Ok) (E : Value → Shared → Prop) : (X.wish E).Ok :=
  ⟨ok.mod, ok.kind, ok.glob, ok.blt, ok.above, ok.inj, ok.has, ok.cab, ok.hd, ok.frames, ok.stk, ok.exf, ok.bs, ok.bsz, ok.noex, ok.exfs, ok.funs, ok.frf⟩
theorem Cx.Ok.unwish {X : Cx} {E : Value → Shared → Prop} (ok : (X.wish E).Ok) : X.Ok :=
  ⟨ok.mod, ok.kind, ok.glob, ok.blt, ok.above, ok.inj, ok.has, ok.cab, ok.hd, ok.frames, ok.stk, ok.exf, ok.bs, ok.bsz, ok.noex, ok.exfs, ok.funs, ok.frf⟩
section
variable {X : Cx} {pins : List (Addr × Obj)} {σ : St} {H : Hp} {s : Shared} {E : Value → Shared → Prop}
theorem Inv.wish (I : Inv X pins σ H s) (E : Value → Shared → Prop) : Inv (X.wish E) pins σ H s := ⟨I.ok.wish E, I.os, I.bare, I.base, I.loc, I.cell, I.free, I.freeC, I.pin, I.hok, I.len⟩
theorem Inv.unwish (I : Inv (X.wish E) pins σ H s) : Inv X pins σ H s := ⟨I.ok.unwish, I.os, I.bare, I.base, I.loc, I.cell, I.free, I.freeC, I.pin, I.hok, I.len⟩
theorem SP.unwish {D : Ends} {f : Flow} {s' : Shared} (h : SP (X.wish E) pins D f s') : SP X pins D f s' := by
  cases f with
  | next => obtain ⟨σ', H', I, q⟩ := h; exact ⟨σ', H', I.unwish, q⟩
  | brk => obtain ⟨σ', H', I, q⟩ := h; exact ⟨σ', H', I.unwish, q⟩
  | cont => obtain ⟨σ', H', I, q⟩ := h; exact ⟨σ', H', I.unwish, q⟩
  | ret u => obtain ⟨v, σ', H', I, r, q⟩ := h; exact ⟨v, σ', H', I.unwish, r, q⟩
theorem PSs.nox {st : List Stmt} {t : TS} (h : PSs X.nox st t) : PSs X st t := fun pins s σ H D I hw =>
  wpAny_mono (h pins s σ H D (I.wish _) hw) (fun _ _ q => q.unwish) fun _ _ z => False.elim z
end
section
variable {X : Cx} {st : Stmt} {rest : List Stmt} {t u : TS} {e : Expr} {te : TE} {pos : Pos}
def tNext : TS := fun D σ H => D.nx σ H
def tSeq (t u : TS) : TS := fun D σ H => t { D with nx := u D } σ H
theorem pss_nil : PSs X [] tNext := fun _ _ σ H _ I h => wpAny_execs_nil ⟨σ, H, I, h⟩
theorem pss_cons (h1 : PS X st t) (h2 : PSs X rest u) : PSs X (st :: rest) (tSeq t u) := by
  intro pins s σ H D I h
  refine wpAny_execs_cons (thn (h1 pins s σ H { D with nx := u D } I h) fun f s1 q => ?_)
  cases f with
  | next =>
    obtain ⟨σ', H', I', q⟩ := q
    exact h2 pins s1 σ' H' D I' q
  | ret v => exact q
  | brk => exact q
  | cont => exact q
theorem pss_one (h1 : PS X st t) : PSs X [st] t := by
  intro pins s σ H D I h
  refine wpAny_execs_cons (thn (h1 pins s σ H D I h) fun f s1 q => ?_)
  cases f with
  | next => exact wpAny_execs_nil q
  | ret v => exact q
  | brk => exact q
  | cont => exact q
theorem Inv.quiet {pins : List (Addr × Obj)} {σ : St} {H : Hp} {s : Shared} (I : Inv X pins σ H s) : interactive X.env = false := by simp [interactive, I.ok.kind]
def tDrop (te : TE) : TS := fun D σ H => te σ H fun _ H1 => D.nx σ H1
theorem ps_expr (he : PE X e te) (hs : swapsWith e none pos.line X.env = pure false := by rfl) : PS X (.Expr e pos) (tDrop te) := by
  intro pins s σ H D I h
  exact wpAny_Expr_any (thn (he pins s σ H _ I h) fun v s1 ⟨x, H1, I1, r1, q1⟩ => ⟨σ, H1, I1, q1⟩) I.quiet hs
def tRet (te : TE) : TS := fun D σ H => te σ H D.rt
theorem ps_ret (he : PE X e te) : PS X (.Return (some e) pos) (tRet te) := by
  intro pins s σ H D I h
  exact wpAny_Return_some (thn (he pins s σ H _ I h) fun v s1 ⟨x, H1, I1, r1, q1⟩ => ⟨x, σ, H1, I1, r1, q1⟩)
def tIfS (c : TT) (t u : TS) : TS := fun D σ H => c σ H fun b H1 => if b = true then t D σ H1 else u D σ H1
theorem ps_if {c : Expr} {a b : List Stmt} {tc : TT} (hc : PT X c tc) (ha : PSs X a t) (hb : PSs X b u) : PS X (.If c a b pos) (tIfS tc t u) := by
  intro pins s σ H D I h
  refine wpAny_If (thn (hc pins s σ H _ I h) fun d s1 ⟨H1, I1, q1⟩ => ?_)
  cases d with
  | true => exact ha pins s1 σ H1 D I1 q1
  | false => exact hb pins s1 σ H1 D I1 q1
end
noncomputable abbrev TG := V → St → Hp → (St → Hp → Prop) → Prop
def PG (X : Cx) (target : Expr) (t : TG) : Prop :=
  ∀ (pins : List (Addr × Obj)) (s : Shared) (σ : St) (H : Hp) (v : V) (u : Value) (Q : St → Hp → Prop), Inv X pins σ H s → RelV v u → t v σ H Q →
    wpAny (model X.prog X.w) X.A (assign target X.env u) (fun _ s' => ∃ σ' H', Inv X pins σ' H' s' ∧ Q σ' H') X.xe s
noncomputable abbrev TSet := V → V → V → Hp → (Hp → Prop) → Prop
section
variable {X : Cx} {pos : Pos}
def gName (i : Nat) : TG := fun v σ H Q => Q (σ.set i (some v)) H
theorem pg_name {i : Nat} {x : Str} (hN : X.N.Nodup) (hi : X.N[i]? = some x) (hx : Loc X.env.scope x) (hf : X.fn x = true ∨ X.env.scope.names.lookup x = some .local := by first | exact .inl rfl | exact .inr rfl | assumption) : PG X (.Name x pos) (gName i) := by
  intro pins s σ H v u Q I r h
  exact wpAny_assign_Name (store_ok I hN hi hx r (fun s' I' => ⟨_, H, I', h⟩) hf)
def gSub (to ti : TE) (t : TSet) : TG := fun v σ H Q => to σ H fun o H1 => ti σ H1 fun i H2 => t o i v H2 fun H3 => Q σ H3
def tAsg (te : TE) (g : TG) : TS := fun D σ H => te σ H fun x H1 => g x σ H1 D.nx
theorem ps_set {i : Nat} {x : Str} {e : Expr} {te : TE} {pos' : Pos} (hN : X.N.Nodup) (hi : X.N[i]? = some x) (hx : Loc X.env.scope x) (he : PE X e te) (hs : swapsWith e (some (.Name x pos')) pos.line X.env = pure false := by rfl) (hf : X.fn x = true ∨ X.env.scope.names.lookup x = some .local := by first | exact .inl rfl | exact .inr rfl | assumption) :
    PS X (.Assign [.Name x pos'] e pos) (tAsg te (gName i)) := by
  intro pins s σ H D I h
  refine wpAny_Assign_Name (thn (he pins s σ H _ I h) fun v s1 ⟨y, H1, I1, r1, q1⟩ => ?_) hs
  exact store_ok I1 hN hi hx r1 (fun s2 I2 => ⟨_, H1, I2, q1⟩) hf
end
section
variable {X : Cx} {pos : Pos}
end
structure It where
  go : Nat → Hp → Prop
  yld : Nat → Hp → V → Hp → Prop
  stop : Nat → Hp → Prop
def FpOk (X : Cx) (pins : List (Addr × Obj)) (H : Hp) (b : Addr) : Prop :=
  H b = none ∧ b ≠ X.env.locals ∧ b ∉ X.fs ∧ (b ∈ X.ex ∨ X.s₀.heap.objs.size ≤ b) ∧ (∀ x c, X.env.cells.lookup x = some c → c ≠ b) ∧ ∀ p ∈ X.pn ++ pins, p.1 ≠ b
theorem Inv.fpOk {X : Cx} {pins : List (Addr × Obj)} {σ : St} {H H' : Hp} {s : Shared} {b : Addr} (I : Inv X pins σ H s) (hb : s.heap.objs.size ≤ b) (hn : H' b = none) : FpOk X pins H' b := by
  refine ⟨hn, Nat.ne_of_gt (Nat.lt_of_lt_of_le I.lt hb), I.nofs hb, .inr (Nat.le_trans I.sz hb), fun x c e z => ?_, fun p hp z => ?_⟩
  · obtain ⟨v, q⟩ := I.cell x c e
    exact absurd (Nat.lt_of_lt_of_le q.lt (by rw [z]; exact hb)) (Nat.lt_irrefl _)
  · exact absurd (Nat.lt_of_lt_of_le (Heap.lt_size (I.pin p hp).1) (by rw [z]; exact hb)) (Nat.lt_irrefl _)
structure Turn (P : Program) (w : World) (K : PySem.W.Frag) (tg : Expr) (J : It) (fp : List Addr) (it : Addr) (tn : Nat → Heap → Prop) : Prop where
  mem : it ∈ fp
  obj : ∀ i h, tn i h → ∀ b ∈ fp, ∃ o, h.get? b = some o ∧ ∀ v, o.data ≠ .cell v
  keep : ∀ i h h', tn i h → (∀ b ∈ fp, ∀ o, h.get? b = some o → h'.get? b = some o) → tn i h'
  item : ∀ (X : Cx), X.prog = P → X.w = w → X.K = K → X.calm = true → ∀ (i : Nat) (pins : List (Addr × Obj)) (s : Shared) (σ : St) (H : Hp) (E : Value → Shared → Prop), Inv X pins σ H s → (∀ b ∈ fp, FpOk X pins H b) → tn i s.heap → J.go i H →
    wpAny (model P w) X.A (pyNext (.ref it)) (fun r s1 => ∃ u, r = some u ∧
      wpAny (model P w) X.A (letOwnedTupleGo tg (.ref it) u) (fun _ s2 => ∃ x H', Inv X pins σ H' s2 ∧ RelV x u ∧ J.yld i H x H' ∧ tn (i + 1) s2.heap ∧ ∀ b ∈ fp, H' b = none) E s1) E s
  done : ∀ (X : Cx), X.prog = P → X.w = w → X.K = K → X.calm = true → ∀ (i : Nat) (pins : List (Addr × Obj)) (s : Shared) (σ : St) (H : Hp) (E : Value → Shared → Prop), Inv X pins σ H s → (∀ b ∈ fp, FpOk X pins H b) → tn i s.heap → J.stop i H →
    wpAny (model P w) X.A (pyNext (.ref it)) (fun r s1 => r = none ∧ Inv X pins σ H s1) E s
  self : ∀ (A : Around) (i : Nat) (s : Shared) (Q : Value → Shared → Prop) (E : Value → Shared → Prop), tn i s.heap → Q (.ref it) s → wpAny (model P w) A (pyIter (.ref it)) Q E s
noncomputable abbrev TI := St → Hp → (It → Hp → Prop) → Prop
def PIE (X : Cx) (pins : List (Addr × Obj)) (σ : St) (tg : Expr) (R : It → Hp → Prop) (itv : Value) (s2 : Shared) : Prop :=
  ∃ (it : Addr) (fp : List Addr) (tn : Nat → Heap → Prop) (J : It) (H' : Hp), itv = .ref it ∧ Inv X pins σ H' s2 ∧ Turn X.prog X.w X.K tg J fp it tn ∧ tn 0 s2.heap ∧ (∀ b ∈ fp, FpOk X pins H' b) ∧ R J H'
def PI (X : Cx) (tg iter : Expr) (wi : TI) : Prop :=
  ∀ (pins : List (Addr × Obj)) (s : Shared) (σ : St) (H : Hp) (R : It → Hp → Prop), Inv X pins σ H s → wi σ H R →
    wpAny (model X.prog X.w) X.A (eval iter X.env) (fun v s1 => wpAny (model X.prog X.w) X.A (pyIter v) (PIE X pins σ tg R) X.xe s1) X.xe s
theorem go_of {M : Model} {A : Around} {E : Value → Shared → Prop} {s : Shared} {tg : Expr} {it : Addr} {u : Value} {o : Obj} {n : String} {vs : Array Value} {Q : Unit → Shared → Prop} (ho : s.heap.get? it = some o) (hc : o.cls = .type n) (hd : o.data = .fields vs)
    (hn : ["enumerate", "zip", "dict_itemiterator", "dict_reverseitemiterator", "odict_iterator", "itertools.zip_longest", "itertools.pairwise"].contains n = false) (hQ : Q () s) : wpAny M A (letOwnedTupleGo tg (.ref it) u) Q E s := by
  unfold letOwnedTupleGo
  cases tg <;> first
    | exact wpAny_pure hQ
    | (cases u <;> first
        | exact wpAny_pure hQ
        | (refine wpAny_bind (wpAny_load ho ?_)
           rw [hc, hd]
           show wpAny M A (if (["enumerate", "zip", "dict_itemiterator", "dict_reverseitemiterator", "odict_iterator", "itertools.zip_longest", "itertools.pairwise"].contains n && vs[0]? == some (rawInt _)) = true then _ else _) Q E s
           rw [if_neg (by intro h; rw [hn, Bool.false_and] at h; cases h)]
           exact wpAny_pure hQ))
noncomputable def Itl (K : PySem.W.Frag) (a : Addr) : It :=
  ⟨fun i H => ∃ xs x, SqL K H a xs ∧ xs[i]? = some x, fun i H x H' => H' = H ∧ ∀ xs, SqL K H a xs → xs[i]? = some x, fun i H => ∃ xs, SqL K H a xs ∧ xs.length ≤ i⟩
noncomputable def Itt (K : PySem.W.Frag) (a : Addr) : It :=
  ⟨fun i H => ∃ xs x, SqT K H a xs ∧ xs[i]? = some x, fun i H x H' => H' = H ∧ ∀ xs, SqT K H a xs → xs[i]? = some x, fun i H => ∃ xs, SqT K H a xs ∧ xs.length ≤ i⟩
noncomputable def Itr (lo : Int) (n : Nat) : It := ⟨fun i _ => i < n, fun i H x H' => H' = H ∧ x = .int (lo + i), fun i _ => n ≤ i⟩
theorem turn_list {P : Program} {w : World} {K : PySem.W.Frag} {tg : Expr} (a it : Addr) : Turn P w K tg (Itl K a) [it] it (fun i h => h.IsListIter it a i) where
  mem := by simp
  obj := fun i h st b hb => by
    have e : b = it := by simpa using hb
    subst e
    obtain ⟨o, e, c, d⟩ := st
    exact ⟨o, e, fun v z => by rw [d] at z; cases z⟩
  keep := fun i h h' st k => st.at fun o e => k it (by simp) o e
  item := by
    intro X hP hw hK hc i pins s σ H E I hf st hg
    subst hP hw hK
    obtain ⟨xs, x, hq, hx⟩ := hg
    obtain ⟨its, rv, p, hz⟩ := I.list hq
    obtain ⟨u, hu, ru⟩ := rv.get hx
    obtain ⟨f0, f1, f2, f3, f4, f5⟩ := hf it (by simp)
    refine wpAny_pyNext_list_item st p.isList (x := u) (by simpa using hu) fun h' st' sb => ?_
    have I1 : Inv X pins σ H { s with heap := h' } := I.turned (t' := s.toks) (fun b o hb e => (sb.2 b hb).trans e) f0 f1 f3 f4 f5
    obtain ⟨o, e, c, d⟩ := id st'
    exact ⟨u, rfl, go_of (s := { s with heap := h' }) e c d (by decide) ⟨x, H, I1, ru, ⟨rfl, fun ys hy => by rw [I.list_inj hy hq]; exact hx⟩, st', fun b hb => (hf b hb).1⟩⟩
  done := by
    intro X hP hw hK hc i pins s σ H E I hf st hg
    subst hP hw hK
    obtain ⟨xs, hq, hx⟩ := hg
    obtain ⟨its, rv, p, hz⟩ := I.list hq
    obtain ⟨f0, f1, f2, f3, f4, f5⟩ := hf it (by simp)
    have hl := rv.length
    exact wpAny_pyNext_list_end (I.ok.hd hc) st p.isList (by simp; omega) fun h' eb => ⟨rfl, I.turned (t' := s.toks) (fun b o hb e => eb b o hb e) f0 f1 f3 f4 f5⟩
  self := fun _ _ _ _ _ st h => wpAny_pyIter_listiter st h
theorem turn_tuple {P : Program} {w : World} {K : PySem.W.Frag} {tg : Expr} (a it : Addr) : Turn P w K tg (Itt K a) [it] it (fun i h => h.IsTupleIter it a i) where
  mem := by simp
  obj := fun i h st b hb => by
    have e : b = it := by simpa using hb
    subst e
    obtain ⟨o, e, c, d⟩ := st
    exact ⟨o, e, fun v z => by rw [d] at z; cases z⟩
  keep := fun i h h' st k => st.at fun o e => k it (by simp) o e
  item := by
    intro X hP hw hK hc i pins s σ H E I hf st hg
    subst hP hw hK
    obtain ⟨xs, x, hq, hx⟩ := hg
    obtain ⟨its, rv, p, hz⟩ := I.tuple hq
    obtain ⟨u, hu, ru⟩ := rv.get hx
    obtain ⟨f0, f1, f2, f3, f4, f5⟩ := hf it (by simp)
    refine wpAny_pyNext_tuple_item st (show s.heap.IsTuple a its.toArray from p) (x := u) (by simpa using hu) fun h' st' sb => ?_
    have I1 : Inv X pins σ H { s with heap := h' } := I.turned (t' := s.toks) (fun b o hb e => (sb.2 b hb).trans e) f0 f1 f3 f4 f5
    obtain ⟨o, e, c, d⟩ := id st'
    exact ⟨u, rfl, go_of (s := { s with heap := h' }) e c d (by decide) ⟨x, H, I1, ru, ⟨rfl, fun ys hy => by rw [I.tuple_inj hy hq]; exact hx⟩, st', fun b hb => (hf b hb).1⟩⟩
  done := by
    intro X hP hw hK hc i pins s σ H E I hf st hg
    subst hP hw hK
    obtain ⟨xs, hq, hx⟩ := hg
    obtain ⟨its, rv, p, hz⟩ := I.tuple hq
    obtain ⟨f0, f1, f2, f3, f4, f5⟩ := hf it (by simp)
    have hl := rv.length
    exact wpAny_pyNext_tuple_end (I.ok.hd hc) st (show s.heap.IsTuple a its.toArray from p) (by simp; omega) fun h' eb => ⟨rfl, I.turned (t' := s.toks) (fun b o hb e => eb b o hb e) f0 f1 f3 f4 f5⟩
  self := fun _ _ _ _ _ st h => wpAny_pyIter_tupleiter st h
theorem turn_range {P : Program} {w : World} {K : PySem.W.Frag} {tg : Expr} (it : Addr) (lo : Int) (n : Nat) : Turn P w K tg (Itr lo n) [it] it (fun i h => IsRangeIter h it (lo + (i : Nat) * 1) ((n : Int) - (i : Nat)) 1) where
  mem := by simp
  obj := fun i h st b hb => by
    have e : b = it := by simpa using hb
    subst e
    exact ⟨_, st, fun v z => by
      have z' : Data.fields _ = Data.cell v := z
      cases z'⟩
  keep := fun i h h' st k => k it (by simp) _ st
  item := by
    intro X hP hw hK hc i pins s σ H E I hf st hg
    subst hP hw hK
    obtain ⟨f0, f1, f2, f3, f4, f5⟩ := hf it (by simp)
    have W := Walks.range (prog := X.prog) (w := X.w) (I.ok.hd hc) it lo 1 n
    refine W.item i s _ _ hg st fun v h' tk hv st' kk => ?_
    obtain ⟨t, rfl⟩ := hv
    have I1 : Inv X pins σ H { s with heap := h', toks := tk } := I.turned (fun b o hb e => kk b o (by simpa using hb) e) f0 f1 f3 f4 f5
    refine ⟨_, rfl, go_of (s := { s with heap := h', toks := tk }) (n := "range_iterator") st' rfl rfl (by decide) ⟨.int (lo + i), H, I1, ⟨t, ?_⟩, ⟨rfl, rfl⟩, st', fun b hb => (hf b hb).1⟩⟩
    rw [Int.mul_one]
  done := by
    intro X hP hw hK hc i pins s σ H E I hf st hg
    subst hP hw hK
    obtain ⟨f0, f1, f2, f3, f4, f5⟩ := hf it (by simp)
    exact wpAny_pyNext_range_end (I.ok.hd hc) st (by have : n ≤ i := hg; omega) fun h' eb => ⟨rfl, I.turned (t' := s.toks) (fun b o hb e => eb b o hb e) f0 f1 f3 f4 f5⟩
  self := fun _ _ _ _ _ st h => wpAny_pyIter_rangeiter st h
end L2
namespace L2
open PySem PySem.Spec PyProof.Rows
section
variable {X : Cx} {tg : Expr}
theorem range_it {pins : List (Addr × Obj)} {σ : St} {H : Hp} {s : Shared} {R : It → Hp → Prop} {E : Value → Shared → Prop} {lo hi : Int} {t u v : Tok} {tk : Nat} (I : Inv X pins σ H s) (h1 : -(2 ^ 62) ≤ lo) (h2 : lo < 2 ^ 62) (h3 : -(2 ^ 62) ≤ hi) (h4 : hi < 2 ^ 62)
    (q : R (Itr lo (hi - lo).toNat) H) : wpAny (model X.prog X.w) X.A (pyIter (.ref s.heap.objs.size)) (PIE X pins σ tg R) E { s with heap := s.heap.push { cls := .type "range", data := .fields #[.int lo t, .int hi u, .int 1 v] }, toks := tk } := by
  refine wpAny_pyIter_range (IsRange.new ..) (small_one h1 h2 h3 h4) ?_
  have I1 : Inv X pins σ H { s with heap := s.heap.push { cls := .type "range", data := .fields #[.int lo t, .int hi u, .int 1 v] }, toks := tk } := I.kept fun b o e => Heap.get?_push_of_some _ e
  refine ⟨(s.heap.push { cls := .type "range", data := .fields #[.int lo t, .int hi u, .int 1 v] }).objs.size, [(s.heap.push { cls := .type "range", data := .fields #[.int lo t, .int hi u, .int 1 v] }).objs.size], _, _, H, rfl,
    I1.kept (t' := tk) fun b o e => Heap.get?_push_of_some _ e, turn_range _ lo (hi - lo).toNat, ?_, fun b hb => ?_, q⟩
  · have e1 : lo + ((0 : Nat) : Int) * 1 = lo := by simp
    have e2 : (((hi - lo).toNat : Nat) : Int) - ((0 : Nat) : Int) = Builtin.Range.rangeSize lo hi 1 := by rw [rangeSize_one]; split <;> omega
    show IsRangeIter _ _ (lo + ((0 : Nat) : Int) * 1) ((((hi - lo).toNat : Nat) : Int) - ((0 : Nat) : Int)) 1
    rw [e1, e2]
    exact Heap.get?_push_size _ rfl
  · have e : b = (s.heap.push { cls := .type "range", data := .fields #[.int lo t, .int hi u, .int 1 v] }).objs.size := by simpa using hb
    subst e
    exact I1.fpOk (Nat.le_refl _) (I1.hok.fresh (Nat.le_refl _))
def iRng1 (ta : TA) : TI := fun σ H R => ta σ H fun vs H1 => ∃ j : Int, vs = [.int j] ∧ -(2 ^ 62) ≤ j ∧ j < 2 ^ 62 ∧ R (Itr 0 j.toNat) H1
theorem pi_range1 {a : Expr} {ta : TA} {p pos : Pos} (hg : Gl X "range") (hm : X.mg "range" = none) (ha : PA X [a] ta) (hs : starEach [a] X.env = [(false, eval a X.env)] := by rfl) : PI X tg (.Call (.Name "range" p) [a] [] pos) (iRng1 ta) := by
  intro pins s σ H R I h
  refine Call_ (ld_blt I hg hm boot_range (PyProof.Rows.callWith_type1 (thn (ha pos pins s σ H _ I h) fun us s1 ⟨vs, H1, I1, r1, q1⟩ => ?_) hs rfl))
  obtain ⟨j, e, q1, q2, q⟩ := q1
  subst e
  cases r1 with
  | cons r rr =>
    cases rr
    obtain ⟨t, rfl⟩ := r
    exact call_range_1 (range_it I1 (by omega) (by omega) q1 q2 (by simpa using q))
def tFor (wi : TI) (g : TG) (tb : TS) : TS := fun D σ H => wi σ H fun J H1 => ∃ W : Nat → Nat → St → Hp → Prop, (∃ m, W 0 m σ H1) ∧ ∀ i m σ H, W i m σ H →
  (J.stop i H ∧ D.nx σ H) ∨ (J.go i H ∧ ∃ N : St → Hp → Prop, (∀ σ' H', N σ' H' → ∃ m', m' < m ∧ W (i + 1) m' σ' H') ∧ ∀ x H', J.yld i H x H' → g x σ H' fun σ2 H2 => tb { D with nx := N, ct := N, bk := D.nx } σ2 H2)
noncomputable def pinsAt (fp : List Addr) (h : Heap) : List (Addr × Obj) := fp.filterMap fun b => (h.get? b).map fun o => (b, o)
theorem mem_pinsAt {fp : List Addr} {h : Heap} {b : Addr} {o : Obj} (hb : b ∈ fp) (e : h.get? b = some o) : (b, o) ∈ pinsAt fp h := List.mem_filterMap.mpr ⟨b, hb, by rw [e]; rfl⟩
theorem of_pinsAt {fp : List Addr} {h : Heap} {p : Addr × Obj} (hp : p ∈ pinsAt fp h) : p.1 ∈ fp ∧ h.get? p.1 = some p.2 := by
  obtain ⟨b, hb, e⟩ := List.mem_filterMap.mp hp
  cases q : h.get? b with
  | none => rw [q] at e; cases e
  | some o =>
    rw [q] at e
    have e' : (b, o) = p := Option.some.inj e
    subst e'
    exact ⟨hb, q⟩
theorem Inv.pinned {pins : List (Addr × Obj)} {σ : St} {H : Hp} {s : Shared} {fp : List Addr} (I : Inv X pins σ H s) (hf : ∀ b ∈ fp, FpOk X pins H b) (ho : ∀ b ∈ fp, ∃ o, s.heap.get? b = some o ∧ ∀ v, o.data ≠ .cell v) : Inv X (pins ++ pinsAt fp s.heap) σ H s :=
  I.pins_of fun p hp => (List.mem_append.mp hp).elim (fun z => I.pin p (List.mem_append_right _ z)) fun z => by
    obtain ⟨hb, e⟩ := of_pinsAt z
    obtain ⟨f0, f1, f2, _⟩ := hf p.1 hb
    obtain ⟨o, e', d⟩ := ho p.1 hb
    rw [e] at e'; cases e'
    exact ⟨e, f0, f1, f2, d⟩
theorem Inv.unpinned {pins pl : List (Addr × Obj)} {σ : St} {H : Hp} {s : Shared} (I : Inv X (pins ++ pl) σ H s) : Inv X pins σ H s := I.pins_of fun p hp => I.pin p (List.mem_append_right _ (List.mem_append_left _ hp))
theorem ps_for {iter : Expr} {body : List Stmt} {wi : TI} {g : TG} {tb : TS} {pos : Pos} (hp : PassesOwn (model X.prog X.w) X.A X.env X.xe) (hc : X.calm = true) (hi : PI X tg iter wi) (hg : PG X tg g) (hb : PSs X body tb)
    (hs : ∀ x, foldedSetIterable iter X.env x = pure x := by intro _; rfl) : PS X (.For tg iter body [] pos) (tFor wi g tb) := by
  intro pins s σ H D I h
  refine wpAny_For (thn (hi pins s σ H _ I h) fun v s1 h1 => thn h1 fun itv s2 h2 => ?_) hs
  obtain ⟨it, fp, tn, J, H2, e, I2, T, st2, f2, W, ⟨m0, w0⟩, turn⟩ := h2
  subst e
  -- what stays true of the iterator's objects through the loop
  have stat : ∀ {H' : Hp}, (∀ b ∈ fp, H' b = none) → ∀ b ∈ fp, FpOk X pins H' b := fun hn b hb => ⟨hn b hb, (f2 b hb).2⟩
  refine codeAny_forLoop_any (fun n s' => ∃ i σ' H', Inv X pins σ' H' s' ∧ tn i s'.heap ∧ (∀ b ∈ fp, H' b = none) ∧ W i n σ' H') ?_ m0 ⟨0, σ, H2, I2, st2, fun b hb => (f2 b hb).1, w0⟩
  rintro n s3 ⟨i, σ3, H3, I3, st3, fr3, w3⟩
  rcases turn i n σ3 H3 w3 with ⟨stop, qn⟩ | ⟨go, N, hN, step⟩
  · refine wpAny_passesOwn hp (thn (T.done X rfl rfl rfl hc i pins s3 σ3 H3 X.xe I3 (stat fr3) st3 stop) fun r s4 ⟨hr, I4⟩ => ?_)
    subst hr
    exact wpAny_execs_nil ⟨σ3, H3, I4, qn⟩
  · refine wpAny_passesOwn hp (thn (T.item X rfl rfl rfl hc i pins s3 σ3 H3 X.xe I3 (stat fr3) st3 go) fun r s4 ⟨u, hr, h4⟩ => ?_)
    subst hr
    refine wpAny_passesOwn hp (thn h4 fun _ s5 ⟨x, H5, I5, r5, y5, st5, fr5⟩ => ?_)
    have I5' := I5.pinned (stat fr5) (T.obj _ _ st5)
    refine wpAny_passesOwn hp (thn (hg _ s5 σ3 H5 x u _ I5' r5 (step x H5 y5)) fun _ s6 ⟨σ6, H6, I6, q6⟩ => ?_)
    refine wpAny_passesOwn hp (thn (hb _ s6 σ6 H6 _ I6 q6) fun f s7 q7 => ?_)
    have again : ∀ {σ7 : St} {H7 : Hp}, Inv X (pins ++ pinsAt fp s5.heap) σ7 H7 s7 → N σ7 H7 → ∃ m, m < n ∧ ∃ i σ' H', Inv X pins σ' H' s7 ∧ tn i s7.heap ∧ (∀ b ∈ fp, H' b = none) ∧ W i m σ' H' := fun {σ7 H7} I7 n7 => by
      obtain ⟨m', hm, w7⟩ := hN σ7 H7 n7
      refine ⟨m', hm, i + 1, σ7, H7, I7.unpinned, T.keep _ _ _ st5 fun b hb o e => (I7.pin (b, o) (List.mem_append_right _ (List.mem_append_right _ (mem_pinsAt hb e)))).1, fun b hb => ?_, w7⟩
      obtain ⟨o, e, d⟩ := T.obj _ _ st5 b hb
      exact (I7.pin (b, o) (List.mem_append_right _ (List.mem_append_right _ (mem_pinsAt hb e)))).2.1
    cases f with
    | next => obtain ⟨σ7, H7, I7, n7⟩ := q7; exact again I7 n7
    | cont => obtain ⟨σ7, H7, I7, n7⟩ := q7; exact again I7 n7
    | brk => obtain ⟨σ7, H7, I7, q7⟩ := q7; exact ⟨σ7, H7, I7.unpinned, q7⟩
    | ret v => obtain ⟨x7, σ7, H7, I7, r7, q7⟩ := q7; exact ⟨x7, σ7, H7, I7.unpinned, r7, q7⟩
end
end L2
namespace L2
open PySem PySem.Spec PyProof.Rows
noncomputable abbrev R2 := V → V → Hp → VK → Prop
def OpR (X : Cx) (f : Value → Value → Sem Value) (r : R2) : Prop :=
  ∀ (pins : List (Addr × Obj)) (s : Shared) (σ : St) (H : Hp) (x y : V) (v u : Value) (Q : VK), Inv X pins σ H s → RelV x v → RelV y u → r x y H Q →
    wpAny (model X.prog X.w) X.A (f v u) (EP X pins σ Q) X.xe s
def UnR (X : Cx) (f : Value → Sem Value) (r : V → Hp → VK → Prop) : Prop :=
  ∀ (pins : List (Addr × Obj)) (s : Shared) (σ : St) (H : Hp) (x : V) (v : Value) (Q : VK), Inv X pins σ H s → RelV x v → r x H Q →
    wpAny (model X.prog X.w) X.A (f v) (EP X pins σ Q) X.xe s
def CallR (X : Cx) (f : Value) (r : List V → Hp → VK → Prop) : Prop :=
  ∀ (pins : List (Addr × Obj)) (s : Shared) (σ : St) (H : Hp) (xs : List V) (us : List Value) (Q : VK), Inv X pins σ H s → Vals xs us → r xs H Q →
    wpAny (model X.prog X.w) X.A (call f us) (EP X pins σ Q) X.xe s
def TruR (X : Cx) (r : V → Hp → (Bool → Hp → Prop) → Prop) : Prop :=
  ∀ (pins : List (Addr × Obj)) (s : Shared) (σ : St) (H : Hp) (x : V) (v : Value) (Q : Bool → Hp → Prop), Inv X pins σ H s → RelV x v → r x H Q →
    wpAny (model X.prog X.w) X.A (truthy v) (TP X pins σ Q) X.xe s
def tOp (r : R2) (ta tb : TE) : TE := fun σ H Q => ta σ H fun x H1 => tb σ H1 fun y H2 => r x y H2 Q
def tUn (r : V → Hp → VK → Prop) (ta : TE) : TE := fun σ H Q => ta σ H fun x H1 => r x H1 Q
def rI (C : Int → Int → Prop) (g : Int → Int → V) : R2 := fun x y H Q => ∃ i j, x = .int i ∧ y = .int j ∧ C i j ∧ Q (g i j) H
noncomputable def rI0 (g : Int → Int → V) : R2 := fun x y H Q => ∃ i j, x = .int i ∧ y = .int j ∧ Q (g i j) H
def rU (g : Int → V) : V → Hp → VK → Prop := fun x H Q => ∃ i, x = .int i ∧ Q (g i) H
section
variable {X : Cx} {a b c : Expr} {ta tb tc : TE} {pos : Pos}
theorem binT (ha : PE X a ta) (hb : PE X b tb) {pins : List (Addr × Obj)} {s : Shared} {σ : St} {H : Hp} {R : V → V → Hp → Prop} (I : Inv X pins σ H s)
    (h : ta σ H fun x H1 => tb σ H1 fun y H2 => R x y H2) {Q : Value → Shared → Prop} {f : Value → Value → Sem Value}
    (hf : ∀ v u s2 x y H2, Inv X pins σ H2 s2 → RelV x v → RelV y u → R x y H2 → wpAny (model X.prog X.w) X.A (f v u) Q X.xe s2) :
    wpAny (model X.prog X.w) X.A (eval a X.env) (fun v s₁ => wpAny (model X.prog X.w) X.A (eval b X.env) (fun u s₂ => wpAny (model X.prog X.w) X.A (f v u) Q X.xe s₂) X.xe s₁) X.xe s := by
  refine thn (ha pins s σ H _ I h) fun v s1 ⟨x, H1, I1, r1, q1⟩ => ?_
  refine thn (hb pins s1 σ H1 _ I1 q1) fun u s2 ⟨y, H2, I2, r2, q2⟩ => ?_
  exact hf v u s2 x y H2 I2 r1 r2 q2
theorem pe_op {op : Operator} {r : R2} (ho : OpR X (binaryOp op) r) (ha : PE X a ta) (hb : PE X b tb) : PE X (.BinOp a op b pos) (tOp r ta tb) := by
  intro pins s σ H Q I h
  exact wpAny_BinOp (binT ha hb I h fun v u s2 x y H2 I2 rx ry q => ho pins s2 σ H2 x y v u Q I2 rx ry q)
theorem pe_un {op : UnaryOp} {r : V → Hp → VK → Prop} (ho : UnR X (unaryOp op) r) (ha : PE X a ta) : PE X (.UnaryOp op a pos) (tUn r ta) := by
  intro pins s σ H Q I h
  exact UnaryOp_ (thn (ha pins s σ H _ I h) fun v s1 ⟨x, H1, I1, r1, q1⟩ => ho pins s1 σ H1 x v Q I1 r1 q1)
theorem opI {f : Value → Value → Sem Value} {C : Int → Int → Prop} {g : Int → Int → Int}
    (rule : ∀ (i j : Int) (t u : Tok) (s : Shared) (Q : Value → Shared → Prop) (E : Value → Shared → Prop), C i j → Q (.int (g i j) s.toks) { s with toks := s.toks + 1 } → wpAny (model X.prog X.w) X.A (f (.int i t) (.int j u)) Q E s) :
    OpR X f (rI C fun i j => .int (g i j)) := by
  intro pins s σ H x y v u Q I rx ry h
  obtain ⟨i, j, rfl, rfl, hc, q⟩ := h
  obtain ⟨t, rfl⟩ := rx
  obtain ⟨t', rfl⟩ := ry
  exact rule i j t t' s _ _ hc ⟨.int (g i j), H, I.tok _, ⟨_, rfl⟩, q⟩
theorem opI0 {f : Value → Value → Sem Value} {g : Int → Int → Int}
    (rule : ∀ (i j : Int) (t u : Tok) (s : Shared) (Q : Value → Shared → Prop) (E : Value → Shared → Prop), Q (.int (g i j) s.toks) { s with toks := s.toks + 1 } → wpAny (model X.prog X.w) X.A (f (.int i t) (.int j u)) Q E s) :
    OpR X f (rI0 fun i j => .int (g i j)) := by
  intro pins s σ H x y v u Q I rx ry h
  obtain ⟨i, j, rfl, rfl, q⟩ := h
  obtain ⟨t, rfl⟩ := rx
  obtain ⟨t', rfl⟩ := ry
  exact rule i j t t' s _ _ ⟨.int (g i j), H, I.tok _, ⟨_, rfl⟩, q⟩
theorem opB0 {f : Value → Value → Sem Value} {g : Int → Int → Bool}
    (rule : ∀ (i j : Int) (t u : Tok) (s : Shared) (Q : Value → Shared → Prop) (E : Value → Shared → Prop), Q (.bool (g i j)) s → wpAny (model X.prog X.w) X.A (f (.int i t) (.int j u)) Q E s) :
    OpR X f (rI0 fun i j => .bl (g i j)) := by
  intro pins s σ H x y v u Q I rx ry h
  obtain ⟨i, j, rfl, rfl, q⟩ := h
  obtain ⟨t, rfl⟩ := rx
  obtain ⟨t', rfl⟩ := ry
  exact rule i j t t' s _ _ ⟨.bl (g i j), H, I, rfl, q⟩
def CDiv (i j : Int) : Prop := 0 < j ∧ j < 1073741824
def CPow (i j : Int) : Prop := 0 ≤ j ∧ j ≤ 1000000 ∧ i.natAbs < 2 ^ 64
def CMul (i j : Int) : Prop := (-(2 ^ 64) < i ∧ i < 2 ^ 64) ∨ (-(2 ^ 64) < j ∧ j < 2 ^ 64)
theorem CMul.ok {i j : Int} (h : CMul i j) : IntMulOk i j := by
  rcases h with ⟨h1, h2⟩ | ⟨h1, h2⟩
  · exact .of_left (intBits_le_64 h1 h2)
  · exact .of_right (intBits_le_64 h1 h2)
theorem op_add : OpR X (binaryOp .Add) (rI0 fun i j => .int (i + j)) := opI0 fun _ _ _ _ _ _ _ q => add_int q
theorem op_sub : OpR X (binaryOp .Sub) (rI0 fun i j => .int (i - j)) := opI0 fun _ _ _ _ _ _ _ q => sub_int q
theorem op_mul : OpR X (binaryOp .Mult) (rI CMul fun i j => .int (i * j)) := opI fun _ _ _ _ _ _ _ hc q => mul_int q hc.ok
theorem op_fdiv : OpR X (binaryOp .FloorDiv) (rI CDiv fun i j => .int (i / j)) := opI fun i j _ _ _ _ _ hc q => by
  have h1 : (0 : Int) < j := hc.1
  have h2 : j < 1073741824 := hc.2
  exact floordiv_int (by omega) (by rw [Int.fdiv_eq_ediv_of_nonneg i (by omega)]; exact q) (.inl (PyProof.noPylong_small (by omega)))
theorem op_mod : OpR X (binaryOp .Mod) (rI (fun _ j => 0 < j) fun i j => .int (i % j)) := opI fun i j _ _ _ _ _ hc q => by
  have h1 : (0 : Int) < j := hc
  exact mod_int' (by omega) (by rw [Int.fmod_eq_emod_of_nonneg i (by omega)]; exact q)
theorem op_pow : OpR X (binaryOp .Pow) (rI CPow fun i j => .int (i ^ j.toNat)) := opI fun _ _ _ _ _ _ _ hc q => pow_int_small hc.1 hc.2.1 hc.2.2 q
theorem unI {f : Value → Sem Value} {g : Int → Int}
    (rule : ∀ (i : Int) (t : Tok) (s : Shared) (Q : Value → Shared → Prop) (E : Value → Shared → Prop), Q (.int (g i) s.toks) { s with toks := s.toks + 1 } → wpAny (model X.prog X.w) X.A (f (.int i t)) Q E s) :
    UnR X f (rU fun i => .int (g i)) := by
  intro pins s σ H x v Q I rx h
  obtain ⟨i, rfl, q⟩ := h
  obtain ⟨t, rfl⟩ := rx
  exact rule i t s _ _ ⟨.int (g i), H, I.tok _, ⟨_, rfl⟩, q⟩
theorem un_neg : UnR X (unaryOp .USub) (rU fun i => .int (-i)) := unI fun _ _ _ _ _ q => neg_int q
end
section
variable {X : Cx} {a b c : Expr} {ta tb tc : TE} {pos : Pos}
theorem fin_bl {pins : List (Addr × Obj)} {σ : St} {H : Hp} {s : Shared} {Q : VK} {k k' : Bool} (I : Inv X pins σ H s) (q : Q (.bl k) H) (e : k = k') : EP X pins σ Q (.bool k') s := by
  subst e
  exact ⟨.bl k, H, I, rfl, q⟩
theorem op_lt : OpR X (compareOp .Lt) (rI0 fun i j => .bl (decide (i < j))) := opB0 fun _ _ _ _ _ _ _ q => lt_int q
theorem op_le : OpR X (compareOp .LtE) (rI0 fun i j => .bl (decide (i ≤ j))) := opB0 fun _ _ _ _ _ _ _ q => le_int q
theorem op_gt : OpR X (compareOp .Gt) (rI0 fun i j => .bl (decide (j < i))) := opB0 fun _ _ _ _ _ _ _ q => gt_int q
theorem op_ge : OpR X (compareOp .GtE) (rI0 fun i j => .bl (decide (j ≤ i))) := opB0 fun _ _ _ _ _ _ _ q => ge_int q
theorem op_in_str : OpR X (compareOp .In) (fun x y H Q => ∃ i j, x = .str i ∧ y = .str j ∧ Q (.bl (!(Builtin.Str.occurrences j i 0 j.length 1).isEmpty)) H) := by
  intro pins s σ H x y v u Q I rx ry h
  obtain ⟨i, j, rfl, rfl, q⟩ := h
  obtain ⟨t, rfl⟩ := rx
  obtain ⟨t', rfl⟩ := ry
  exact in_str (fin_bl I q rfl)
theorem op_isN : OpR X (compareOp .Is) (fun x y H Q => y = .non ∧ Q (.bl (decide (x = .non))) H) := by
  intro pins s σ H x y v u Q I rx ry h
  obtain ⟨rfl, q⟩ := h
  cases ry
  refine is_none_gen (fin_bl I q ?_)
  cases x <;> first
    | (cases rx; rfl)
    | (obtain ⟨t, rfl⟩ := rx; rfl)
theorem op_notN : OpR X (compareOp .IsNot) (fun x y H Q => y = .non ∧ Q (.bl (!decide (x = .non))) H) := by
  intro pins s σ H x y v u Q I rx ry h
  obtain ⟨rfl, q⟩ := h
  cases ry
  refine isnot_none_gen (fin_bl I q ?_)
  cases x <;> first
    | (cases rx; rfl)
    | (obtain ⟨t, rfl⟩ := rx; rfl)
theorem op_notin_str : OpR X (compareOp .NotIn) (fun x y H Q => ∃ i j, x = .str i ∧ y = .str j ∧ Q (.bl (!(!(Builtin.Str.occurrences j i 0 j.length 1).isEmpty))) H) := by
  intro pins s σ H x y v u Q I rx ry h
  obtain ⟨i, j, rfl, rfl, q⟩ := h
  obtain ⟨t, rfl⟩ := rx
  obtain ⟨t', rfl⟩ := ry
  exact notIn_str (fin_bl I q rfl)
theorem OpR.or {f : Value → Value → Sem Value} {r r' : R2} (h : OpR X f r) (h' : OpR X f r') : OpR X f (fun x y H Q => r x y H Q ∨ r' x y H Q) := by
  intro pins s σ H x y v u Q I rx ry q
  rcases q with q | q
  · exact h pins s σ H x y v u Q I rx ry q
  · exact h' pins s σ H x y v u Q I rx ry q
theorem nomark (b : Expr) {op : CmpOp} (h : op ≠ .In := by decide) (h2 : op ≠ .NotIn := by decide) : behindInMarks op b = false := by
  have e1 : (op == CmpOp.In) = false := by cases op <;> first | rfl | exact absurd rfl h
  have e2 : (op == CmpOp.NotIn) = false := by cases op <;> first | rfl | exact absurd rfl h2
  cases b <;> simp [behindInMarks, e1, e2]
theorem pe_cmpR {op : CmpOp} {r : R2} (ho : OpR X (compareOp op) r) (ha : PE X a ta) (hb : PE X b tb) (hm : behindInMarks op b = false) : PE X (.Compare a [op] [b] pos) (tOp r ta tb) := by
  intro pins s σ H Q I h
  exact wpAny_Compare1 (binT ha hb I h fun v u s2 x y H2 I2 rx ry q => ho pins s2 σ H2 x y v u Q I2 rx ry q) hm
def tTest (t : TE) : TT := fun σ H Q => t σ H fun x H' => ∃ k, x = .bl k ∧ Q k H'
theorem pt_cmpR {op : CmpOp} {r : R2} (ho : OpR X (compareOp op) r) (ha : PE X a ta) (hb : PE X b tb) (hm : behindInMarks op b = false) : PT X (.Compare a [op] [b] pos) (tTest (tOp r ta tb)) := by
  intro pins s σ H Q I h
  refine wpAny_isTrue_Compare1 (thn (ha pins s σ H _ I h) fun v s1 ⟨x, H1, I1, r1, q1⟩ => thn (hb pins s1 σ H1 _ I1 q1) fun u s2 ⟨y, H2, I2, r2, q2⟩ =>
    thn (ho pins s2 σ H2 x y v u _ I2 r1 r2 q2) fun c s3 ⟨z, H3, I3, r3, k, e, q3⟩ => ?_) hm
  subst e
  cases r3
  exact wpAny_truthy_bool ⟨H3, I3, q3⟩
def tChain (r r' : R2) (ta tb tc : TE) : TE := fun σ H Q => ta σ H fun x H1 => tb σ H1 fun y H2 => r x y H2 fun z H3 => ∃ k, z = .bl k ∧
  (if k = true then tc σ H3 fun w' H4 => r' y w' H4 Q else Q (.bl false) H3)
theorem pe_chain {op op' : CmpOp} {r r' : R2} (ho : OpR X (compareOp op) r) (ho' : OpR X (compareOp op') r') (ha : PE X a ta) (hb : PE X b tb) (hc : PE X c tc)
    (hm : lastMarks [op, op'] [b, c] = false := by with_unfolding_all rfl) : PE X (.Compare a [op, op'] [b, c] pos) (tChain r r' ta tb tc) := by
  intro pins s σ H Q I h
  refine Compare_chain (thn (ha pins s σ H _ I h) fun v s1 ⟨x, H1, I1, r1, q1⟩ => chain_link (thn (hb pins s1 σ H1 _ I1 q1) fun u s2 ⟨y, H2, I2, r2, q2⟩ =>
    thn (ho pins s2 σ H2 x y v u _ I2 r1 r2 q2) fun d s3 ⟨z, H3, I3, r3, k, e, q3⟩ => ?_)) hm
  subst e
  cases r3
  refine wpAny_truthy_bool ?_
  cases k with
  | false => exact ite_ff ⟨.bl false, H3, I3, rfl, q3⟩
  | true => exact ite_tt (chain_last (thn (hc pins s3 σ H3 _ I3 q3) fun w' s4 ⟨z', H4, I4, r4, q4⟩ => ho' pins s4 σ H4 y z' u w' Q I4 r2 r4 q4))
def TruV (K : PySem.W.Frag) (x : V) (H : Hp) (k : Bool) : Prop :=
  match x with
  | .non => k = false
  | .bl b => k = b
  | .int i => k = (i != 0)
  | .str y => y.length ≤ sizeLine ∧ k = ((y.length : Int) != 0)
  | .byt y => y.size ≤ sizeLine ∧ k = ((y.size : Int) != 0)
  | .ref p => (∃ xs, SqL K H p xs ∧ k = !xs.isEmpty) ∨ (∃ xs, SqT K H p xs ∧ k = !xs.isEmpty) ∨ ∃ kvs, H p = some (.dK kvs) ∧ k = !kvs.isEmpty
  | _ => False
theorem isEmpty_kv {κ : Type} {kvs : List (κ × V)} {vs : List (κ × Value)} (r : KV kvs vs) : (!vs.isEmpty) = !kvs.isEmpty := by
  cases r <;> rfl
theorem isEmpty_of {xs : List V} {its : List Value} (r : Vals xs its) : (!its.toArray.isEmpty) = !xs.isEmpty := by
  cases r <;> simp
theorem line63 : (sizeLine : Nat) < 2 ^ 63 := by rw [sizeLine_eq]; decide
theorem tru_ok : TruR X (fun x H Q => ∃ k, TruV X.K x H k ∧ Q k H) := by
  intro pins s σ H x v Q I rx h
  obtain ⟨k, e, q⟩ := h
  have hl := line63
  have hs : sizeLine = 16777216 := sizeLine_eq
  cases x with
  | non =>
    cases rx
    have e' : k = false := e
    subst e'
    exact truthy_none ⟨H, I, q⟩
  | bl b =>
    cases rx
    have e' : k = b := e
    subst e'
    exact wpAny_truthy_bool ⟨H, I, q⟩
  | int i =>
    obtain ⟨t, rfl⟩ := rx
    have e' : k = (i != 0) := e
    subst e'
    exact PySem.P.truthy_int ⟨H, I, q⟩
  | str y =>
    obtain ⟨t, rfl⟩ := rx
    obtain ⟨hy, e'⟩ : y.length ≤ sizeLine ∧ k = ((y.length : Int) != 0) := e
    subst e'
    exact PySem.P.truthy_str (by omega) ⟨H, I.tok _, q⟩
  | byt y =>
    obtain ⟨t, rfl⟩ := rx
    obtain ⟨hy, e'⟩ : y.size ≤ sizeLine ∧ k = ((y.size : Int) != 0) := e
    subst e'
    exact PySem.W.truthy_bytes (by omega) ⟨H, I.tok _, q⟩
  | ref p =>
    cases rx
    have e' : (∃ xs, SqL X.K H p xs ∧ k = !xs.isEmpty) ∨ (∃ xs, SqT X.K H p xs ∧ k = !xs.isEmpty) ∨ ∃ kvs, H p = some (.dK kvs) ∧ k = !kvs.isEmpty := e
    rcases e' with ⟨xs, hx, e'⟩ | ⟨xs, hx, e'⟩ | ⟨kvs, hx, e'⟩
    · subst e'
      obtain ⟨its, r, pl, hz⟩ := I.list hx
      have hlen := r.length
      exact wpAny_truthy_list pl.isList (by simp only [List.size_toArray]; omega) ⟨H, I.tok _, by rw [isEmpty_of r]; exact q⟩
    · subst e'
      obtain ⟨its, r, pl, hz⟩ := I.tuple hx
      have hlen := r.length
      exact truthy_tuple pl (by simp only [List.size_toArray]; omega) ⟨H, I.tok _, by rw [isEmpty_of r]; exact q⟩
    · subst e'
      obtain ⟨hz, hS, vs, r, m⟩ : kvs.length ≤ sizeLine ∧ (p == sysModules) = false ∧ ∃ vs, KV kvs vs ∧ s.heap.DictOf (mixKind X.prog X.w) p vs := I.hok p _ hx
      have hlen : kvs.length = vs.length := Paired.length r
      exact wpAny_truthy_dict hS m (by omega) ⟨H, I.tok _, by rw [isEmpty_kv r]; exact q⟩
  | _ => exact (show False from e).elim
theorem pt_truth (ha : PE X a ta) (he : ∀ whole, isTrue a X.env whole = (do let v ← whole; standAt a.pos; holding [v] (truthy v))) :
    PT X a (fun σ H Q => ta σ H fun x H' => ∃ k, TruV X.K x H' k ∧ Q k H') := by
  intro pins s σ H Q I h
  exact isTrue_plain (thn (ha pins s σ H _ I h) fun v s1 ⟨x, H1, I1, r1, q1⟩ => tru_ok pins s1 σ H1 x v Q I1 r1 q1) (he _)
theorem op_add_str : OpR X (binaryOp .Add) (fun x y H Q => ∃ i j, x = .str i ∧ y = .str j ∧ i.length + j.length ≤ sizeLine ∧ Q (.str (i ++ j)) H) := by
  intro pins s σ H x y v u Q I rx ry h
  obtain ⟨i, j, rfl, rfl, hz, q⟩ := h
  obtain ⟨t, rfl⟩ := rx
  obtain ⟨t', rfl⟩ := ry
  exact add_str (fun t' tk => ⟨.str (i ++ j), H, I.tok _, ⟨_, rfl⟩, q⟩) hz
def PlainIxT (b : Expr) : Prop := ∀ o i, subscripted b false o i = operate [o, i] (getItem o i)
theorem pe_item_str (ha : PE X a ta) (hb : PE X b tb) (hs : PlainIxT b) :
    PE X (.Subscript a b pos) (tOp (fun x y H Q => ∃ z i c, x = .str z ∧ y = .int i ∧ 0 ≤ i ∧ i < 2 ^ 63 ∧ i < z.length ∧ z.cps[i.toNat]? = some c ∧ Q (.str ⟨#[c]⟩) H) ta tb) := by
  intro pins s σ H Q I h
  refine Subscript_ (binT ha hb I h fun v u s2 x y H2 I2 rx ry q => ?_)
  obtain ⟨z, i, c, rfl, rfl, h0, h63, h1, hc, q⟩ := q
  obtain ⟨t, rfl⟩ := rx
  obtain ⟨t', rfl⟩ := ry
  have e : seqIndex? i z.length = some i.toNat := PySem.StrLaws.seqIndex_nonneg h0 h1
  exact tail_any (typeIs_str s2 z t) slot_str_getitem.lookup (getItem_str (c := c) (by
    have e1 : decide (i < -(2 ^ 63 : Int)) = false := decide_eq_false (by omega)
    have e2 : decide (i ≥ 2 ^ 63) = false := decide_eq_false (by omega)
    rw [e1, e2] <;> rfl) (by rw [e]; exact hc) ⟨.str ⟨#[c]⟩, H2, I2.tok _, ⟨_, rfl⟩, q⟩) (hs _ _)
theorem vals1 {x : V} {us : List Value} (r : Vals [x] us) : ∃ u, us = [u] ∧ RelV x u := by
  cases r with
  | cons r1 r2 => cases r2; exact ⟨_, rfl, r1⟩
theorem vals2 {x y : V} {us : List Value} (r : Vals [x, y] us) : ∃ u w', us = [u, w'] ∧ RelV x u ∧ RelV y w' := by
  cases r with
  | cons r1 r2 =>
    cases r2 with
    | cons r3 r4 => cases r4; exact ⟨_, _, rfl, r1, r3⟩
theorem call_min2 (hc : X.calm = true) : CallR X (.builtin "min") (fun xs H Q => ∃ i j, xs = [.int i, .int j] ∧ Q (.int (if j < i then j else i)) H) := by
  intro pins s σ H xs us Q I r h
  obtain ⟨i, j, rfl, q⟩ := h
  obtain ⟨u, w', rfl, ⟨t, rfl⟩, ⟨t', rfl⟩⟩ := vals2 r
  refine min_two_ints (I.ok.hd hc) fun h' tk k => ⟨_, H, I.kept k, ?_, q⟩
  by_cases hj : j < i
  · rw [if_pos hj, if_pos hj]; exact ⟨_, rfl⟩
  · rw [if_neg hj, if_neg hj]; exact ⟨_, rfl⟩
theorem call_str_int : CallR X (.type "str") (fun xs H Q => ∃ i, xs = [.int i] ∧ i.natAbs.log2 < 1920 ∧ Q (.str (toString i)) H) := by
  intro pins s σ H xs us Q I r h
  obtain ⟨i, rfl, hz, q⟩ := h
  obtain ⟨u, rfl, t, rfl⟩ := vals1 r
  exact PySem.P.str_of_int hz ⟨.str _, H, I.tok _, ⟨_, rfl⟩, q⟩
end
end L2
namespace L2
open PySem PySem.Spec PyProof.Rows
section
variable {prog : Program} {w : World} {A : Around} {E : Value → Shared → Prop} {s : Shared} {K : PySem.W.Frag} {x dx C f : Addr} {mA : Str → Option Value} {name : Str} {v : Value}
end
section
variable {P : Program} {w : World} {H H' : Hp} {h h' : Heap} {a C dx : Addr} {fs fs' : List (Str × V)}
end
structure Cls (K : PySem.W.Frag) (C : Addr) : Prop where
  pg : PySem.W.plainGet K C Str.empty = true
  hd : PySem.W.hasDictIn K C = true
  po : PySem.W.plainOver K C = true
  sa : PySem.W.findIn K (.ref C) "__setattr__" = some (some (.builtin "object.__setattr__"))
section
variable {X : Cx} {pins : List (Addr × Obj)} {σ : St} {H : Hp} {s : Shared} {a C dx : Addr} {fs : List (Str × V)} {f : Str} {v : V} {A : Around} {E : Value → Shared → Prop}
end
section
variable {X : Cx} {o e value : Expr} {f : Str} {pos pos' tpos : Pos} {ta tv : TE}
end
section
variable {X : Cx} {pins : List (Addr × Obj)} {σ : St} {H : Hp} {s : Shared} {A : Around} {E : Value → Shared → Prop} {Q : Value → Shared → Prop} {c : Value} {b : Bool}
end
end L2
namespace L2
open PySem PySem.Spec PyProof.Rows
structure Room (k : Nat) (A : Around) : Prop where
  hd : A.handled = none
  dp : A.depth + 3 * k + 5 < recursionLimit
  un : A.units + 16 * k + 200 < cLine
theorem Room.mono {j k : Nat} {A : Around} (r : Room k A) (h : j ≤ k) : Room j A := ⟨r.hd, by have := r.dp; omega, by have := r.un; omega⟩
theorem Room.deeper {k : Nat} {A : Around} (r : Room (k + 1) A) (env : Env) : Room k (A.deeper env) :=
  ⟨r.hd, by have := r.dp; show A.depth + 1 + 3 * k + 5 < _; omega, by have := r.un; show A.units + 3 + 16 * k + 200 < _; omega⟩
theorem Room.depth {k : Nat} {A : Around} (r : Room k A) : A.depth < recursionLimit := by have := r.dp; omega
theorem Room.units {k : Nat} {A : Around} (r : Room k A) : A.units + 64 < cLine := by have := r.un; omega
def tNil : TA := fun _ H Q => Q [] H
def tCons (ta : TE) (tr : TA) : TA := fun σ H Q => ta σ H fun x H1 => tr σ H1 fun xs H2 => Q (x :: xs) H2
section
variable {X : Cx} {e : Expr} {es : List Expr} {te : TE} {t : TA} {pos : Pos}
theorem pa_nil : PA X [] tNil := fun _ _ _ _ H Q I h => Calls.spliced_nil ⟨[], H, I, .nil, h⟩
theorem pa_cons (ha : PE X e te) (hr : PA X es t) (hs : starEach (e :: es) X.env = (false, eval e X.env) :: starEach es X.env := by rfl) : PA X (e :: es) (tCons te t) := by
  intro pos pins s σ H Q I h
  rw [hs]
  show wpAny _ _ (spliced ((false, eval e X.env) :: backTo pos (starEach es X.env))) _ _ s
  refine Calls.spliced_cons (thn (ha pins s σ H _ I h) fun u s1 ⟨x, H1, I1, r1, q1⟩ => ?_)
  exact thn (hr pos pins s1 σ H1 _ I1 q1) fun us s2 ⟨xs, H2, I2, r2, q2⟩ => ⟨x :: xs, H2, I2, .cons r1 r2, q2⟩
def tTup (t : TA) : TE := fun σ H Q => t σ H fun xs H1 => xs.length ≤ sizeLine ∧ ∀ p, H1 p = none → Q (.ref p) (upd H1 p (.tup xs))
def tLst (t : TA) : TE := fun σ H Q => t σ H fun xs H1 => xs.length ≤ sizeLine ∧ ∀ p, H1 p = none → Q (.ref p) (upd H1 p (.lst xs))
theorem pe_tup {x1} (h : PA X es t) : PE X (.Tuple es x1 pos) (tTup t) := by
  intro pins s σ H Q I hq
  refine wpAny_Tuple_spliced (thn (h pos pins s σ H _ I hq) fun us s1 ⟨xs, H1, I1, r, z, q⟩ => ⟨by rw [← r.length]; exact z, ?_⟩)
  have hf : H1 s1.heap.objs.size = none := I1.hok.fresh (Nat.le_refl _)
  refine ⟨.ref s1.heap.objs.size, upd H1 s1.heap.objs.size (.tup xs), I1.laid (t' := s1.toks) (fun b u e => Heap.get?_push_of_some _ e) (Nat.le_refl _) ?_, rfl, q _ hf⟩
  exact ⟨z, us, r, IsTupD.new _ _⟩
theorem pe_lst (h : PA X es t) : PE X (.List es pos) (tLst t) := by
  intro pins s σ H Q I hq
  refine wpAny_List_spliced (thn (h pos pins s σ H _ I hq) fun us s1 ⟨xs, H1, I1, r, z, q⟩ => ⟨by rw [← r.length]; exact z, ?_⟩)
  have hf : H1 s1.heap.objs.size = none := I1.hok.fresh (Nat.le_refl _)
  refine ⟨.ref s1.heap.objs.size, upd H1 s1.heap.objs.size (.lst xs), I1.laid (t' := s1.toks) (fun b u e => Heap.get?_push_of_some _ e) (Nat.le_refl _) ?_, rfl, q _ hf⟩
  exact ⟨z, us, 0, r, Heap.get?_push_size _ rfl⟩
end
noncomputable abbrev Sp := List V → Hp → VK → XK → Prop
noncomputable abbrev CXT := List Env → Hp → Shared → XK → Value → Shared → Prop
structure Env0 (P : Program) (w : World) (K : PySem.W.Frag) (mg : Str → Option Value) (base : Heap) (A : Around) (outer : List Env) (s : Shared) (H : Hp) : Prop where
  frames : A.frames = some outer
  mod : Mod K mg base
  bs : ∀ b o, base.get? b = some o → s.heap.get? b = some o ∧ H b = none
  bsz : base.objs.size ≤ s.heap.objs.size
  funs : s.heap.FunFrames base outer
  frf : ∀ b ∈ frs outer, H b = none
  hok : HOk P w H s.heap
  bare : AllBare s.gens
def CE (outer : List Env) (P : Program) (w : World) (H : Hp) (s : Shared) (Q : VK) (u : Value) (s' : Shared) : Prop :=
  ∃ v H', s'.os = s.os ∧ AllBare s'.gens ∧ Un (frs outer) [] H H' s.heap s'.heap ∧ HOk P w H' s'.heap ∧ RelV v u ∧ Q v H'
def CR (CX : CXT) (outer : List Env) (P : Program) (w : World) (H : Hp) (s : Shared) (Q : VK) (E : XK) (r : Result) (s' : Shared) : Prop :=
  match r with
  | .ok (.ret u) => CE outer P w H s Q u s'
  | .ok _ => False
  | .error e => CX outer H s E e s'
structure FnOk (P : Program) (w : World) (K : PySem.W.Frag) (mg : Str → Option Value) (base : Heap) (CX : CXT) (k : Nat) (f : Addr) (fd : FuncData) (ps : List Str) (sp : Sp) : Prop where
  len : ∀ vs H Q E, sp vs H Q E → vs.length = ps.length
  run : ∀ (A : Around) (outer : List Env) (s : Shared) (H : Hp) (args : Args) (us : List Value) (vs : List V) (Q : VK) (E : XK), Room k A → Env0 P w K mg base A outer s H → BindsTo s fd args (ps.zip us) → Vals vs us → sp vs H Q E →
    codeAny (model P w) A (.call (.ref f) args) (CR CX outer P w H s Q E) s
theorem FnOk.imp {P : Program} {w : World} {K : PySem.W.Frag} {mg : Str → Option Value} {base : Heap} {CX : CXT} {k : Nat} {f : Addr} {fd : FuncData} {ps : List Str} {sp sp' : Sp} (F : FnOk P w K mg base CX k f fd ps sp)
    (h : ∀ vs H Q E, sp' vs H Q E → sp vs H Q E) : FnOk P w K mg base CX k f fd ps sp' :=
  ⟨fun vs H Q E q => F.len vs H Q E (h _ _ _ _ q), fun A outer s H args us vs Q E hr he hb hv hs => F.run A outer s H args us vs Q E hr he hb hv (h _ _ _ _ hs)⟩
section
variable {X : Cx} {pins : List (Addr × Obj)} {σ : St} {H : Hp} {s s' : Shared}
theorem Inv.env0 (I : Inv X pins σ H s) : Env0 X.prog X.w X.K X.mg X.base X.A X.stack s H :=
  ⟨I.ok.frames, I.ok.mod, I.bs, Nat.le_trans I.ok.bsz I.sz, I.stack, I.stkFree, I.hok, I.bare⟩
theorem Inv.after {Q : VK} {u : Value} (I : Inv X pins σ H s) (h : CE X.stack X.prog X.w H s Q u s') : EP X pins σ Q u s' := by
  obtain ⟨v, H', os, bare, un, hok, r, q⟩ := h
  obtain ⟨hh, g, d, t, os'⟩ := s'
  obtain rfl : os' = s.os := os
  exact ⟨v, H', I.call (h' := hh) (g' := g) (d' := d) (t' := t) (ch := []) un hok bare (fun b z => absurd z (by simp)), r, q⟩
end
def tCall (sp : Sp) (dvs : List V) (E : XK) (t : TA) : TE := fun σ H Q => t σ H fun vs H1 => sp (vs ++ dvs) H1 Q E
def Binds (K : PySem.W.Frag) (fd : FuncData) (ps : List Str) (ds : List Value) : Prop :=
  ∀ (s : Shared) (us : List Value), K.In s.heap → (us ++ ds).length = ps.length → BindsTo s fd ⟨us, []⟩ (ps.zip (us ++ ds))
theorem Binds.all {K : PySem.W.Frag} {fd : FuncData} {ps : List Str} (h : ∀ us : List Value, us.length = ps.length → bindArgs fd ⟨us, []⟩ = pure (ps.zip us)) : Binds K fd ps [] := fun s us _ hl => by
  rw [List.append_nil] at hl ⊢
  exact .of_eq (h us hl)
def Passes (CX : CXT) (X : Cx) (E : XK) : Prop := ∀ (pins : List (Addr × Obj)) (σ : St) (H : Hp) (s : Shared) (e : Value) (s' : Shared), Inv X pins σ H s → CX X.stack H s E e s' → X.xe e s'
section
variable {X : Cx} {CX : CXT} {k : Nat} {f C : Addr} {fd : FuncData} {ps : List Str} {sp : Sp} {dvs : List V} {ds : List Value} {E : XK} {x m : Str} {p pos apos : Pos} {e o : Expr} {es : List Expr} {ta : TE} {t : TA}
theorem run_fn {pins : List (Addr × Obj)} {σ : St} {H : Hp} {s : Shared} {Q : VK} {us : List Value} {vs : List V} (F : FnOk X.prog X.w X.K X.mg X.base CX k f fd ps sp) (hr : Room k X.A) (hb : Binds X.K fd ps ds) (hd : Vals dvs ds) (hx : Passes CX X E)
    (I : Inv X pins σ H s) (r : Vals vs us) (h : sp (vs ++ dvs) H Q E) : wpAny (model X.prog X.w) X.A (call (.ref f) us) (EP X pins σ Q) X.xe s := by
  have r2 : Vals (vs ++ dvs) (us ++ ds) := r.append hd
  have hl : (us ++ ds).length = ps.length := by rw [← r2.length]; exact F.len _ _ _ _ h
  refine wpAny_call (codeAny_mono (F.run X.A X.stack s H ⟨us, []⟩ (us ++ ds) (vs ++ dvs) Q E hr I.env0 (hb s us I.kIn hl) r2 h) fun r s' hq => ?_)
  cases r with
  | error e => exact hx pins σ H s e s' I hq
  | ok fl =>
    cases fl with
    | ret u => exact I.after hq
    | next => exact False.elim hq
    | brk => exact False.elim hq
    | cont => exact False.elim hq
theorem pe_call (F : FnOk X.prog X.w X.K X.mg X.base CX k f fd ps sp) (hr : Room k X.A) (hg : Gl X x) (hm : X.mg x = some (.ref f)) (hk : PySem.W.keepIn X.K (.ref f) = true) (hb : Binds X.K fd ps ds) (hd : Vals dvs ds) (hx : Passes CX X E)
    (ha : PA X (e :: es) t) (hdb : (x == ("__debug__" : Str)) = false := by decide) (he : starEach (e :: es) X.env = (false, eval e X.env) :: starEach es X.env := by rfl) (hpl : (backTo pos (starEach es X.env)).any (·.1) = false := by rfl) :
    PE X (.Call (.Name x p) (e :: es) [] pos) (tCall sp dvs E t) := by
  intro pins s σ H Q I h
  refine wpAny_Call_Name_kw (ld_glob I hg hm ?_ hdb)
  refine PySem.W.callWith_K (h₀ := X.base) I.ok.mod.kin hk (thn (ha pos pins s σ H _ I h) fun us s1 ⟨vs, H1, I1, r, q⟩ => ⟨I1.kIn, ?_⟩) he hpl
  exact run_fn F hr hb hd hx I1 r q
end
section
variable {X : Cx} {CX : CXT} {k : Nat} {f C : Addr} {fd : FuncData} {ps ks : List Str} {sp : Sp} {E : XK} {x m : Str} {p pos apos kpos : Pos} {e o : Expr} {es : List Expr} {kws : List Keyword} {te ta : TE} {t tk : TA} {nm : Option Str}
variable {g : List Value → List Value → List Value} {gV : List V → List V → List V}
end
structure FnScope (N P : List Str) (sc : Scope) : Prop where
  kind : sc.kind = .function
  co : sc.isCoroutine = false
  gen : sc.isGenerator = false
  nd : N.Nodup
  pre : N.take P.length = P
  par : ∀ x ∈ P, sc.names.lookup x = some .local ∨ sc.names.lookup x = some .cell
  nofree : ∀ y ∈ sc.names, y.2 ≠ .free
theorem bindL_out {kindOf : Str → Option NameKind} {x : Str} : ∀ {binds : List (Str × Value)} {m : Str → Option Value}, (∀ v, (x, v) ∉ binds) → bindL kindOf binds m x = m x
  | [], _, _ => rfl
  | (n, v) :: r, m, h => by
    unfold bindL
    rw [bindL_out fun w hw => h w (List.mem_cons_of_mem _ hw)]
    split
    · have : x ≠ n := by rintro rfl; exact h v List.mem_cons_self
      simp [this]
    · rfl
theorem bindC_out {kindOf : Str → Option NameKind} {x : Str} : ∀ {binds : List (Str × Value)} {m : Str → Option Value}, (∀ v, (x, v) ∉ binds) → bindC kindOf binds m x = m x
  | [], _, _ => rfl
  | (n, v) :: r, m, h => by
    unfold bindC
    rw [bindC_out fun w hw => h w (List.mem_cons_of_mem _ hw)]
    split
    · rfl
    · have : x ≠ n := by rintro rfl; exact h v List.mem_cons_self
      simp [this]
theorem bindL_get {kindOf : Str → Option NameKind} {x : Str} {v : Value} : ∀ {P : List Str} {vs : List Value} {i : Nat} {m : Str → Option Value}, P.Nodup → P[i]? = some x → vs[i]? = some v → kindOf x = some .local →
    bindL kindOf (P.zip vs) m x = some v
  | [], _, _, _, _, h, _, _ => by simp at h
  | _ :: _, [], _, _, _, _, h, _ => by simp at h
  | p :: P, w :: vs, 0, m, nd, h1, h2, hk => by
    simp at h1 h2; subst h1; subst h2
    show bindL kindOf ((p, w) :: P.zip vs) m p = _
    unfold bindL
    rw [bindL_out fun v hv => (List.nodup_cons.mp nd).1 (List.of_mem_zip hv).1, if_pos hk]
    simp
  | p :: P, w :: vs, i + 1, m, nd, h1, h2, hk => by
    show bindL kindOf ((p, w) :: P.zip vs) m x = _
    unfold bindL
    exact bindL_get (i := i) (List.nodup_cons.mp nd).2 (by simpa using h1) (by simpa using h2) hk
theorem bindC_get {kindOf : Str → Option NameKind} {x : Str} {v : Value} : ∀ {P : List Str} {vs : List Value} {i : Nat} {m : Str → Option Value}, P.Nodup → P[i]? = some x → vs[i]? = some v → kindOf x ≠ some .local →
    bindC kindOf (P.zip vs) m x = some v
  | [], _, _, _, _, h, _, _ => by simp at h
  | _ :: _, [], _, _, _, _, h, _ => by simp at h
  | p :: P, w :: vs, 0, m, nd, h1, h2, hk => by
    simp at h1 h2; subst h1; subst h2
    show bindC kindOf ((p, w) :: P.zip vs) m p = _
    unfold bindC
    rw [bindC_out fun v hv => (List.nodup_cons.mp nd).1 (List.of_mem_zip hv).1, if_neg hk]
    simp
  | p :: P, w :: vs, i + 1, m, nd, h1, h2, hk => by
    show bindC kindOf ((p, w) :: P.zip vs) m x = _
    unfold bindC
    exact bindC_get (i := i) (List.nodup_cons.mp nd).2 (by simpa using h1) (by simpa using h2) hk
noncomputable def start (N : List Str) (vs : List V) : St := vs.map some ++ List.replicate (N.length - vs.length) none
def cxOf (CX : CXT) (P : Program) (w : World) (K : PySem.W.Frag) (mg : Str → Option Value) (base : Heap) (N : List Str) (qual : Str) (scope : Scope) (f : Addr) (cd : Value) (A : Around) (outer : List Env) (s : Shared) (H : Hp) (E : XK) : Cx where
  prog := P
  w := w
  K := K
  mg := mg
  base := base
  A := A.deeper (envOfC qual scope s.heap.objs.size f cd)
  N := N
  s₀ := s
  H₀ := H
  env := envOfC qual scope s.heap.objs.size f cd
  outer := outer
  stack := envOfC qual scope s.heap.objs.size f cd :: outer
  ex := []
  calm := true
  fn := fun _ => true
  pn := []
  xe := fun e s' => wpAny (model P w) (A.deeper (envOfC qual scope s.heap.objs.size f cd)) (leaving (envOfC qual scope s.heap.objs.size f cd) e) (fun _ s'' => CX outer H s E e s'') (fun e' s'' => CX outer H s E e' s'') s'
theorem cell_has {sc : Scope} {n : Nat} {x : Str} (h : sc.names.lookup x = some .cell) : ∃ c, (cellsFrom n sc.names []).lookup x = some c := by
  have q := PySem.W.cellsFrom_some sc.names n [] (.inl h)
  exact Option.isSome_iff_exists.mp q
theorem inv_start {CX : CXT} {P : Program} {w : World} {K : PySem.W.Frag} {mg : Str → Option Value} {base : Heap} {N ps : List Str} {qual : Str} {scope : Scope} {f : Addr} {cd : Value} {A : Around} {outer : List Env} {s s1 : Shared} {H : Hp} {E : XK} {us : List Value} {vs : List V}
    (S : FnScope N ps scope) (hd : A.handled = none) (e0 : Env0 P w K mg base A outer s H) (hl : vs.length = ps.length) (r : Vals vs us)
    (x : InCallC s s.heap.objs.size (bindL (envOfC qual scope s.heap.objs.size f cd).kindOf (ps.zip us) fun _ => none) (cellsFrom (s.heap.objs.size + 1) scope.names []) (bindC (envOfC qual scope s.heap.objs.size f cd).kindOf (ps.zip us) fun _ => none) s1) :
    Inv (cxOf CX P w K mg base N qual scope f cd A outer s H E) [] (start N vs) H s1 := by
  have hpl : ps.length ≤ N.length := by have := congrArg List.length S.pre; rw [List.length_take] at this; omega
  obtain ⟨h1, tk, rfl, hk⟩ := x.done
  have noA : ∀ b : Addr, b ∉ (cxOf CX P w K mg base N qual scope f cd A outer s H E).ex := fun b z => absurd (show b ∈ ([] : List Addr) from z) (by simp)
  refine ⟨⟨e0.mod, S.kind, rfl, rfl, Nat.le_refl _, fun y z c h1 h2 => ?_, fun y hy => ?_, fun y c _ h => ?_, fun _ => hd, Around.frames_deeper e0.frames, .inr ⟨rfl, rfl⟩, fun b z => absurd z (noA b), e0.bs, e0.bsz, fun b _ _ => noA b, fun b z => absurd z (noA b), e0.funs, e0.frf⟩,
    rfl, e0.bare, Un.kept hk, ⟨_, x.toInCall.ns, fun i y v h1 h2 h3 => ?_⟩, fun y c h => ⟨_, x.cell y c h⟩, e0.hok.fresh (Nat.le_refl _), fun y c h => ?_, fun p hp => absurd (show p ∈ ([] : List (Addr × Obj)) from hp) (by simp), e0.hok.kept hk, ?_⟩
  · exact name_of_addr x.apart (PySem.mem_of_lookup h1) (PySem.mem_of_lookup h2)
  · have hy : scope.names.lookup y = some .cell ∨ scope.names.lookup y = some .free := hy
    rcases hy with hy | hy
    · exact cell_has hy
    · exact absurd rfl (S.nofree _ (PySem.mem_of_lookup hy))
  · exact Nat.le_of_lt (x.above y c (PySem.mem_of_lookup h))
  · have hi : i < vs.length := by
      unfold start at h2
      by_cases hi : i < vs.length
      · exact hi
      · rw [List.getElem?_append_right (by simpa using hi)] at h2
        rw [List.getElem?_replicate] at h2
        split at h2 <;> cases h2
    have ha : vs[i]? = some v := by
      unfold start at h2
      rw [List.getElem?_append_left (by simpa using hi), List.getElem?_map] at h2
      cases e : vs[i]? with
      | none => rw [e] at h2; cases h2
      | some a => rw [e] at h2; cases h2; rfl
    obtain ⟨u, hu, rv⟩ := r.get ha
    have hp : ps[i]? = some y := by
      rw [← S.pre, List.getElem?_take_of_lt (by omega)]; exact h1
    have ndP : ps.Nodup := by rw [← S.pre]; exact S.nd.sublist (List.take_sublist _ _)
    refine ⟨u, rv, ?_⟩
    rcases S.par y (List.mem_of_getElem? hp) with k | k
    · exact .inl ⟨k, bindL_get ndP hp hu k⟩
    · obtain ⟨c, e⟩ := cell_has (n := s.heap.objs.size + 1) k
      refine .inr ⟨.inl k, c, e, ?_⟩
      have q := x.cell y c e
      rw [bindC_get ndP hp hu (by show scope.names.lookup y ≠ _; rw [k]; decide)] at q
      exact q
  · exact e0.hok.fresh (Nat.le_of_lt (x.above y c (PySem.mem_of_lookup h)))
  · unfold start
    show _ = N.length
    rw [List.length_append, List.length_map, List.length_replicate]
    omega
theorem fn_of {CX : CXT} {P : Program} {w : World} {K : PySem.W.Frag} {mg : Str → Option Value} {base : Heap} {k : Nat} {f : Addr} {name qual : Str} {params : Arguments} {body : List Stmt} {scope : Scope} {dV kV doc pm cdv ct oc : Value} {an od : Option Addr}
    {osl : Array (Option Value)} {N ps : List Str} {sp : Sp} (lk : K.lookup f = some ⟨oc, od, .func (PySem.W.fnOf name qual params body scope dV kV doc pm an cdv ct), osl⟩) (hcd : PySem.W.codeIn K cdv qual = true) (S : FnScope N ps scope)
    (len : ∀ vs H Q E, sp vs H Q E → vs.length = ps.length)
    (hbody : ∀ (A : Around) (outer : List Env) (s : Shared) (H : Hp) (vs : List V) (Q : VK) (E : XK), Room k (A.deeper (envOfC qual scope s.heap.objs.size f cdv)) → sp vs H Q E →
      ∃ t, PSs (cxOf CX P w K mg base N qual scope f cdv A outer s H E) body t ∧ t { nx := fun _ H' => Q .non H', rt := Q } (start N vs) H) :
    FnOk P w K mg base CX (k + 1) f (PySem.W.fnOf name qual params body scope dV kV doc pm an cdv ct) ps sp := by
  refine ⟨len, fun A outer s H args us vs Q E hr e0 hb r hsp => ?_⟩
  have hl := len _ _ _ _ hsp
  have KX : K.In s.heap := e0.mod.kin.keeps fun b o e => (e0.bs b o e).1
  have lim : s.heap.NoLimit := e0.mod.nolimit.keeps fun b o e => (e0.bs b o e).1
  have hkind : ∀ y ∈ ps.zip us, scope.names.lookup y.1 = some .local ∨ (scope.names.lookup y.1 = some .cell ∧ ((cellsFrom (s.heap.objs.size + 1) scope.names []).lookup y.1).isSome = true) := fun ⟨n, v⟩ hy => by
    rcases S.par n (List.of_mem_zip hy).1 with q | q
    · exact .inl q
    · exact .inr ⟨q, PySem.W.cellsFrom_some _ _ _ (.inl q)⟩
  refine codeAny_call_function hr.depth (KX _ _ lk) rfl S.co S.gen rfl (PySem.W.codeRec_of KX hcd) (hb _ _ _ _ ?_)
  refine wpAny_newFunctionEnv_cells S.kind hkind fun env he s1 x => ?_
  subst he
  refine ⟨lim.keeps x.toInCall.keep, codeAny_func ?_⟩
  obtain ⟨t, ht, hq⟩ := hbody A outer s H vs Q E (hr.deeper _) hsp
  have I : Inv (cxOf CX P w K mg base N qual scope f cdv A outer s H E) [] (start N vs) H s1 := inv_start S hr.hd e0 hl r x
  refine wpAny_mono (ht [] s1 (start N vs) H _ I hq) (fun fl s' hs => ?_) fun e s' hs => hs
  have fin : ∀ {σ' : St} {H' : Hp} {v : V} {u : Value}, Inv (cxOf CX P w K mg base N qual scope f cdv A outer s H E) [] σ' H' s' → RelV v u → Q v H' → CE outer P w H s Q u s' :=
    fun {σ' H' v u} J rv q => ⟨v, H', J.os, J.bare, J.base, J.hok, rv, q⟩
  cases fl with
  | ret u =>
    obtain ⟨v, σ', H', J, rv, q⟩ := hs
    exact fin J rv q
  | next =>
    obtain ⟨σ', H', J, q⟩ := hs
    exact fin (v := V.non) (u := Value.none) J rfl q
  | brk =>
    obtain ⟨_, _, _, q⟩ := hs
    exact False.elim q
  | cont =>
    obtain ⟨_, _, _, q⟩ := hs
    exact False.elim q
end L2
namespace L2
open PySem PySem.Spec PyProof.Rows
section
variable {X : Cx} {x : Str} {p pos : Pos} {e : Expr} {es : List Expr} {t : TA} {id T : String} {r : List V → Hp → VK → Prop}
def tCB (r : List V → Hp → VK → Prop) (t : TA) : TE := fun σ H Q => t σ H fun vs H1 => r vs H1 Q
theorem pe_callB (hc : CallR X (.builtin id) r) (hg : Gl X x) (hm : X.mg x = none) (hv : bootBuiltins x = some (.builtin id)) (ha : PA X (e :: es) t) (hn : x ≠ "__name__" := by decide) (hdb : (x == ("__debug__" : Str)) = false := by decide)
    (he : starEach (e :: es) X.env = (false, eval e X.env) :: starEach es X.env := by rfl) (hpl : (backTo pos (starEach es X.env)).any (·.1) = false := by rfl) : PE X (.Call (.Name x p) (e :: es) [] pos) (tCB r t) := by
  intro pins s σ H Q I h
  refine wpAny_Call_Name_kw (ld_blt I hg hm hv ?_ hn hdb)
  exact PyProof.Rows.callWith_builtin1 (thn (ha pos pins s σ H _ I h) fun us s1 ⟨vs, H1, I1, r1, q1⟩ => hc pins s1 σ H1 vs us Q I1 r1 q1) he hpl
theorem pe_callTy (hc : CallR X (.type T) r) (hg : Gl X x) (hm : X.mg x = none) (hv : bootBuiltins x = some (.type T)) (ha : PA X (e :: es) t) (hn : x ≠ "__name__" := by decide) (hdb : (x == ("__debug__" : Str)) = false := by decide)
    (he : starEach (e :: es) X.env = (false, eval e X.env) :: starEach es X.env := by rfl) (hpl : (backTo pos (starEach es X.env)).any (·.1) = false := by rfl) : PE X (.Call (.Name x p) (e :: es) [] pos) (tCB r t) := by
  intro pins s σ H Q I h
  refine wpAny_Call_Name_kw (ld_blt I hg hm hv ?_ hn hdb)
  exact PyProof.Rows.callWith_type1 (thn (ha pos pins s σ H _ I h) fun us s1 ⟨vs, H1, I1, r1, q1⟩ => hc pins s1 σ H1 vs us Q I1 r1 q1) he hpl
end
end L2
namespace HT
open PySem PyProof.Rows
section
open PySem.SeqAt
open PySem.AutoSeq1 (wpAny_loadPart')
open PySem.MeetsSeq PySem.MeetsSeq2 PySem.MeetsSeq3
end
section
variable {prog : Program} {w : World} {A : Around} {E : Value → Shared → Prop} {s : Shared}
theorem cat_tup {t b : Addr} {vs ws : List Value} {Q : Value → Shared → Prop} (ht : IsTup s.heap t vs.toArray) (hb : IsTup s.heap b ws.toArray) (hv : vs ≠ [])
    (h1 : ws = [] → Q (.ref t) s) (h2 : ws ≠ [] → Q (.ref s.heap.objs.size) { s with heap := s.heap.push { cls := .type "tuple", data := .seq (vs ++ ws).toArray } })
    (hsz : vs.length + ws.length ≤ sizeLine) : wpAny (model prog w) A (binaryOp .Add (.ref t) (.ref b)) Q E s := by
  obtain ⟨⟨cls, dd, data, sl⟩, ho, hc, n, hd⟩ := id ht
  obtain ⟨⟨cls2, dd2, data2, sl2⟩, ho2, hc2, n2, hd2⟩ := id hb
  simp only at hc hd hc2 hd2
  subst hc hd hc2 hd2
  have e : vs.toArray ++ ws.toArray = (vs ++ ws).toArray := by simp
  by_cases hw : ws = []
  · exact concat_meets ⟨_, ho, rfl⟩ ⟨_, ho2, rfl⟩ noFill_tuple_add seq_tuple_add PySem.F.slot_tuple_add PySem.F.entry_tuple_add (PySem.F.args_tuple_add_2 _ _)
      (tuple_addW1 t b vs.toArray ws.toArray n n2 dd dd2 sl sl2 (by simpa using hv) (by simp [hw])) ⟨ho, ho2, h1 hw⟩
  · refine concat_meets ⟨_, ho, rfl⟩ ⟨_, ho2, rfl⟩ noFill_tuple_add seq_tuple_add PySem.F.slot_tuple_add PySem.F.entry_tuple_add (PySem.F.args_tuple_add_2 _ _)
      (tuple_addW2 t b vs.toArray ws.toArray n n2 dd dd2 sl sl2 (by simpa using hv) (by simpa using hw) (by rw [List.size_toArray, List.size_toArray]; exact hsz)) ⟨ho, ho2, ?_⟩
    rw [e]
    exact h2 hw
noncomputable def sIx (n d : Nat) : Option Int → Nat
  | none => d
  | some v => if v < 0 then (v + (n : Int)).toNat else min v.toNat n
theorem sIx_nat (n d k : Nat) : sIx n d (some (k : Int)) = min k n := by
  show (if (k : Int) < 0 then ((k : Int) + (n : Int)).toNat else min (k : Int).toNat n) = min k n
  rw [if_neg (by omega), Int.toNat_natCast]
theorem sIx_le (n d : Nat) (hd : d ≤ n) (o : Option Int) : sIx n d o ≤ n := by
  cases o with
  | none => exact hd
  | some v =>
    show (if v < 0 then (v + (n : Int)).toNat else min v.toNat n) ≤ n
    by_cases hv : v < 0
    · rw [if_pos hv]; omega
    · rw [if_neg hv]; exact Nat.min_le_right _ _
theorem clip_eq (v : Int) (n d : Nat) : (if v < 0 then max (v + (n : Int)) 0 else min v (n : Int)) = ((sIx n d (some v) : Nat) : Int) := by
  show (if v < 0 then max (v + (n : Int)) 0 else min v (n : Int)) = (((if v < 0 then (v + (n : Int)).toNat else min v.toNat n) : Nat) : Int)
  by_cases hv : v < 0
  · simp only [if_pos hv]; omega
  · simp only [if_neg hv]; omega
theorem adjust_gen (lo hi : Option Int) (n : Nat) : Builtin.Slice.sliceAdjust lo hi 1 (n : Int) = (((sIx n 0 lo : Nat) : Int), ((sIx n n hi : Nat) : Int)) := by
  have h1 : ¬ ((1 : Int) < 0) := by omega
  unfold Builtin.Slice.sliceAdjust
  simp only [h1, if_false]
  refine Prod.ext ?_ ?_
  · cases lo with
    | none => rfl
    | some v => exact clip_eq v n 0
  · cases hi with
    | none => rfl
    | some v => exact clip_eq v n n
theorem places_gen (i j : Nat) : Builtin.Slice.slicePlaces (i : Int) (j : Int) 1 = j - i := by
  unfold Builtin.Slice.slicePlaces
  have h1 : (1 : Int) > 0 := by omega
  simp only [h1, if_true, Int.ediv_one]
  split <;> omega
theorem slicePart_ {v : Value} {o : Option Int} {Q : Option Int → Shared → Prop} (p : IsPart v o) (h : Q o s) : wpAny (model prog w) A (Builtin.Slice.slicePartIndex v) Q E s := by
  cases p with
  | none => exact slicePart_none h
  | int i t => exact slicePart_int h
theorem sliceApplied_gen {sl : Addr} {vl vu : Value} {lo hi : Option Int} {n : Nat} {Q : Int × Int × Nat → Shared → Prop} (hs : s.heap.IsSliceOf sl vl vu .none) (pl : IsPart vl lo) (pu : IsPart vu hi)
    (h : Q (((sIx n 0 lo : Nat) : Int), 1, sIx n n hi - sIx n 0 lo) s) : wpAny (model prog w) A (Builtin.Slice.sliceApplied (.ref sl) (pure (n : Int))) Q E s := by
  obtain ⟨os, hos, hcs, hds⟩ := id hs
  unfold Builtin.Slice.sliceApplied Builtin.Slice.sliceFields
  refine wpAny_bind (wpAny_bind (wpAny_field hos hds (x := vl) rfl (wpAny_bind (wpAny_field hos hds (x := vu) rfl (wpAny_bind (wpAny_field hos hds (x := .none) rfl (wpAny_pure ?_)))))))
  refine wpAny_bind (slicePart_none ?_)
  show wpAny _ _ (if ((1 : Int) == 0) = true then _ else _) _ _ s
  rw [if_neg (by decide)]
  refine wpAny_bind (slicePart_ pl (wpAny_bind (slicePart_ pu (wpAny_bind (wpAny_pure ?_)))))
  show wpAny _ _ (match Builtin.Slice.sliceAdjust lo hi 1 (n : Int) with | (lo, hi) => pure (lo, (1 : Int), Builtin.Slice.slicePlaces lo hi 1)) _ _ s
  rw [adjust_gen lo hi n]
  show wpAny _ _ (pure (((sIx n 0 lo : Nat) : Int), (1 : Int), Builtin.Slice.slicePlaces ((sIx n 0 lo : Nat) : Int) ((sIx n n hi : Nat) : Int) 1)) _ _ s
  rw [places_gen]
  exact wpAny_pure h
theorem pick_gen (xs : Array Value) (i k : Nat) : ((List.range k).filterMap fun (m : Nat) => xs[((i : Int) + (m : Int) * 1).toNat]?).toArray = ((xs.toList.drop i).take k).toArray := by
  have e : (fun (m : Nat) => xs[((i : Int) + (m : Int) * 1).toNat]?) = fun m => xs[i + m]? := by
    funext m
    have : ((i : Int) + (m : Int) * 1).toNat = i + m := by omega
    rw [this]
  rw [e]
  have := pick_run xs i k
  rw [List.filterMap_map] at this
  have e2 : ((fun x => xs[x]?) ∘ fun x => i + x) = fun m => xs[i + m]? := rfl
  rw [e2] at this
  rw [this]
theorem getItem_tuple_cut {t sl : Addr} {items : Array Value} {vl vu : Value} {lo hi : Option Int} {Q : Value → Shared → Prop} (ht : IsTup s.heap t items) (hs : s.heap.IsSliceOf sl vl vu .none) (pl : IsPart vl lo) (pu : IsPart vu hi)
    (hw : ¬ (sIx items.size 0 lo = 0 ∧ sIx items.size items.size hi = items.size))
    (h : Q (.ref s.heap.objs.size) { s with heap := s.heap.push { cls := .type "tuple", data := .seq ((items.toList.drop (sIx items.size 0 lo)).take (sIx items.size items.size hi - sIx items.size 0 lo)).toArray } })
    (hsz : items.size ≤ sizeLine) : wpAny (model prog w) A (getItem (.ref t) (.ref sl)) Q E s := by
  have htake : sizeOk (.seq ((items.toList.drop (sIx items.size 0 lo)).take (sIx items.size items.size hi - sIx items.size 0 lo)).toArray) := by
    show ((items.toList.drop (sIx items.size 0 lo)).take (sIx items.size items.size hi - sIx items.size 0 lo)).toArray.size ≤ sizeLine
    rw [List.size_toArray, List.length_take, List.length_drop, Array.length_toList]
    omega
  have hj : sIx items.size items.size hi ≤ items.size := sIx_le _ _ (Nat.le_refl _) hi
  obtain ⟨os, hos, hcs, hds⟩ := id hs
  have hTs : s.TypeIs (.ref sl) "slice" := ⟨os, hos, hcs⟩
  unfold getItem
  try with_reducible refine wpAny_holding ?_
  first | refine wpAny_bind (wpAny_pure ?_) | skip
  refine wpAny_bind (wpAny_sequenceKey ht.typeIs (by decide) ?_)
  refine wpAny_bind (wpAny_callSpecial?_slot (name := Str.ofString "__getitem__") ht.typeIs PyProof.Rows.slot_tuple_getitem
    (wpAny_call_entry PyProof.Rows.slot_tuple_getitem ht.typeIs entry_tuple_getitem ?_ (args_tuple_getitem _ _)))
  show wpAny _ _ (Builtin.Tuple.tupleItemsOf (.ref t) >>= _) _ _ s
  refine wpAny_bind (tupleItemsOf_ ht ?_)
  refine wpAny_bind (wpAny_typeOf hTs ?_)
  rw [if_pos (by decide)]
  refine wpAny_bind (sliceApplied_gen hs pl pu ?_)
  have hno : ¬ ((((sIx items.size 0 lo : Nat) : Int) == 0 && (1 : Int) == 1 && (sIx items.size items.size hi - sIx items.size 0 lo) == items.size) = true) := by
    intro q
    rw [Bool.and_eq_true, Bool.and_eq_true] at q
    have q1 : ((sIx items.size 0 lo : Nat) : Int) = 0 := eq_of_beq q.1.1
    have q2 : sIx items.size items.size hi - sIx items.size 0 lo = items.size := eq_of_beq q.2
    exact hw ⟨by omega, by omega⟩
  show wpAny _ _ (if (((sIx items.size 0 lo : Nat) : Int) == 0 && (1 : Int) == 1 && (sIx items.size items.size hi - sIx items.size 0 lo) == items.size) = true then _ else _) _ _ s
  rw [if_neg hno, pick_gen]
  first
    | exact wpAny_bind (m := Builtin.Tuple.tupleExact _) (wpAny_newObj_type (wpAny_pure ⟨_, rfl, wpAny_pure h⟩) htake)
    | exact wpAny_bind (m := Builtin.Tuple.tupleExact _) (wpAny_newObj_type (wpAny_bind (wpAny_pure (wpAny_pure ⟨_, rfl, wpAny_pure h⟩))) htake)
    | exact wpAny_bind (wpAny_bind (m := Builtin.Tuple.tupleExact _) (wpAny_newObj_type (wpAny_pure (wpAny_pure ⟨_, rfl, wpAny_pure h⟩)) htake))
    | exact wpAny_bind (wpAny_bind (m := Builtin.Tuple.tupleExact _) (wpAny_newObj_type (wpAny_pure ⟨_, rfl, wpAny_pure h⟩) htake))
end
end HT
namespace L2
open PySem PySem.Spec PyProof.Rows
noncomputable abbrev TO := St → Hp → (Option Int → Hp → Prop) → Prop
def PO (X : Cx) (e : Option Expr) (t : TO) : Prop :=
  ∀ (pins : List (Addr × Obj)) (s : Shared) (σ : St) (H : Hp) (Q : Option Int → Hp → Prop), Inv X pins σ H s → t σ H Q →
    wpAny (model X.prog X.w) X.A (evalPart e X.env) (fun u s' => ∃ o H', Inv X pins σ H' s' ∧ IsPart u o ∧ Q o H') X.xe s
def tNoPart : TO := fun _ H Q => Q none H
def tPart (t : TE) : TO := fun σ H Q => t σ H fun x H1 => ∃ i, x = .int i ∧ Q (some i) H1
section
variable {X : Cx} {e : Expr} {te : TE} {lo hi : Option Expr} {tl th : TO} {pos p2 : Pos}
theorem po_none : PO X none tNoPart := by
  intro pins s σ H Q I h
  rw [evalPart_none]
  exact wpAny_pure ⟨none, H, I, .none, h⟩
theorem po_some (h : PE X e te) : PO X (some e) (tPart te) := by
  intro pins s σ H Q I hw
  rw [evalPart_some]
  refine thn (h pins s σ H _ I hw) fun u s1 ⟨x, H1, I1, r1, q1⟩ => ?_
  obtain ⟨i, rfl, q⟩ := q1
  obtain ⟨t, rfl⟩ := r1
  exact ⟨some i, H1, I1, .int i t, q⟩
def SlR (X : Cx) (r : V → Option Int → Option Int → Hp → VK → Prop) : Prop :=
  ∀ (pins : List (Addr × Obj)) (s : Shared) (σ : St) (H : Hp) (x : V) (v vl vu : Value) (lo hi : Option Int) (sl : Addr) (Q : VK), Inv X pins σ H s → RelV x v → s.heap.IsSliceOf sl vl vu .none → IsPart vl lo → IsPart vu hi → r x lo hi H Q →
    ∃ T id, typeLookup (.type T) "__getitem__" = pure (some (.builtin id)) ∧ s.TypeIs v T ∧ wpAny (model X.prog X.w) X.A (getItem v (.ref sl)) (EP X pins σ Q) X.xe s
theorem SlR.or {r r' : V → Option Int → Option Int → Hp → VK → Prop} (h : SlR X r) (h' : SlR X r') : SlR X (fun x lo hi H Q => r x lo hi H Q ∨ r' x lo hi H Q) := by
  intro pins s σ H x v vl vu lo hi sl Q I rx hs pl pu q
  rcases q with q | q
  · exact h pins s σ H x v vl vu lo hi sl Q I rx hs pl pu q
  · exact h' pins s σ H x v vl vu lo hi sl Q I rx hs pl pu q
def tSl (r : V → Option Int → Option Int → Hp → VK → Prop) (te : TE) (tl th : TO) : TE := fun σ H Q => te σ H fun x H1 => tl σ H1 fun l H2 => th σ H2 fun u H3 => r x l u H3 Q
theorem pe_slice {r : V → Option Int → Option Int → Hp → VK → Prop} (hr : SlR X r) (he : PE X e te) (hl : PO X lo tl) (hu : PO X hi th) : PE X (.Subscript e (.Slice lo hi none p2) pos) (tSl r te tl th) := by
  intro pins s σ H Q I h
  refine Subscript_ (thn (he pins s σ H _ I h) fun v s1 ⟨x, H1, I1, r1, q1⟩ => ?_)
  refine wpAny_Slice (thn (hl pins s1 σ H1 _ I1 q1) fun vl s2 ⟨l, H2, I2, pl, q2⟩ => thn (hu pins s2 σ H2 _ I2 q2) fun vu s3 ⟨u, H3, I3, pu, q3⟩ => ?_)
  rw [evalPart_none]
  refine wpAny_pure ?_
  have I4 : Inv X pins σ H3 { s3 with heap := s3.heap.push { cls := .type "slice", data := .fields #[vl, vu, .none] } } := I3.kept (t' := s3.toks) fun b ob q => Heap.get?_push_of_some _ q
  obtain ⟨T, id, hT, ht, hg⟩ := hr pins { s3 with heap := s3.heap.push { cls := .type "slice", data := .fields #[vl, vu, .none] } } σ H3 x v vl vu l u s3.heap.objs.size Q I4 r1 (Heap.IsSliceOf.new ..) pl pu q3
  show wpAny (model X.prog X.w) X.A (subscriptTail e (.Slice lo hi none p2) v (.ref s3.heap.objs.size)) (EP X pins σ Q) X.xe { s3 with heap := s3.heap.push { cls := .type "slice", data := .fields #[vl, vu, .none] } }
  exact tail_any (ops := [.ref s3.heap.objs.size, v]) ht hT hg (by with_unfolding_all rfl)
noncomputable def cutV (xs : List V) (lo hi : Option Int) : List V := (xs.drop (HT.sIx xs.length 0 lo)).take (HT.sIx xs.length xs.length hi - HT.sIx xs.length 0 lo)
theorem cutV_length (xs : List V) (lo hi : Option Int) : (cutV xs lo hi).length ≤ xs.length := by
  unfold cutV
  rw [List.length_take, List.length_drop]
  omega
def rSlT (K : PySem.W.Frag) : V → Option Int → Option Int → Hp → VK → Prop := fun x lo hi H Q => ∃ a xs, x = .ref a ∧ SqT K H a xs ∧
  ¬ (HT.sIx xs.length 0 lo = 0 ∧ HT.sIx xs.length xs.length hi = xs.length) ∧ ∀ p, H p = none → Q (.ref p) (upd H p (.tup (cutV xs lo hi)))
theorem sl_tup : SlR X (rSlT X.K) := by
  intro pins s σ H x v vl vu lo hi sl Q I rx hs pl pu h
  obtain ⟨a, xs, rfl, hx, hw, q⟩ := h
  cases rx
  obtain ⟨its, r, ht, hz⟩ := I.tuple hx
  have hlen : its.toArray.size = xs.length := by rw [List.size_toArray]; exact r.length.symm
  refine ⟨"tuple", _, PyProof.Rows.slot_tuple_getitem.lookup, ht.typeIs, ?_⟩
  refine HT.getItem_tuple_cut ht hs pl pu (by rw [hlen]; exact hw) ?_ (by rw [hlen]; exact hz)
  rw [hlen]
  refine ⟨.ref s.heap.objs.size, _, I.laid (t' := s.toks) (o := .tup (cutV xs lo hi)) (fun b ob q => Heap.get?_push_of_some _ q) (Nat.le_refl _) ?_, rfl, q _ (I.hok.fresh (Nat.le_refl _))⟩
  exact ⟨Nat.le_trans (cutV_length xs lo hi) hz, _, (r.drop (HT.sIx xs.length 0 lo)).take (HT.sIx xs.length xs.length hi - HT.sIx xs.length 0 lo), IsTupD.new _ _⟩
noncomputable def rCatT (K : PySem.W.Frag) : R2 := fun x y H Q => ∃ a b xs ys, x = .ref a ∧ y = .ref b ∧ SqT K H a xs ∧ SqT K H b ys ∧ xs ≠ [] ∧ xs.length + ys.length ≤ sizeLine ∧
  (ys = [] → Q (.ref a) H) ∧ (ys ≠ [] → ∀ p, H p = none → Q (.ref p) (upd H p (.tup (xs ++ ys))))
theorem Vals.nil_iff {xs : List V} {us : List Value} (r : Vals xs us) : us = [] ↔ xs = [] := by
  cases r with
  | nil => simp
  | cons _ _ => simp
theorem op_catT : OpR X (binaryOp .Add) (rCatT X.K) := by
  intro pins s σ H x y v u Q I rx ry h
  obtain ⟨a, b, xs, ys, rfl, rfl, ha, hb, hx, hz, q1, q2⟩ := h
  cases rx
  cases ry
  obtain ⟨its, r1, p1, _⟩ := I.tuple ha
  obtain ⟨its2, r2, p2, _⟩ := I.tuple hb
  refine HT.cat_tup p1 p2 (fun z => hx (r1.nil_iff.mp z)) (fun z => ⟨.ref a, H, I, rfl, q1 (r2.nil_iff.mp z)⟩) (fun z => ?_) (by rw [← r1.length, ← r2.length]; exact hz)
  refine ⟨.ref s.heap.objs.size, _, I.laid (t' := s.toks) (o := .tup (xs ++ ys)) (fun b ob q => Heap.get?_push_of_some _ q) (Nat.le_refl _) ?_, rfl, q2 (fun w => z (r2.nil_iff.mpr w)) _ (I.hok.fresh (Nat.le_refl _))⟩
  exact ⟨by rw [List.length_append]; exact hz, _, r1.append r2, IsTupD.new _ _⟩
end
end L2
namespace L2
open PySem PySem.Spec PyProof.Rows
noncomputable def ixN (n : Nat) (i : Int) : Option Nat := if 0 ≤ i then (if i < n then some i.toNat else none) else if -(n : Int) ≤ i then some (i + n).toNat else none
noncomputable def atI {α : Type} (xs : List α) (i : Int) : Option α := (ixN xs.length i).bind fun j => xs[j]?
theorem ixN_seq {n : Nat} {i : Int} {j : Nat} (h : ixN n i = some j) : seqIndex? i n = some j ∧ j < n ∧ -(n : Int) ≤ i ∧ i < n := by
  unfold ixN at h
  by_cases h0 : 0 ≤ i
  · rw [if_pos h0] at h
    by_cases h1 : i < n
    · rw [if_pos h1] at h
      have e : i.toNat = j := Option.some.inj h
      exact ⟨by rw [seqIndex_of h0 h1, e], by omega, by omega, h1⟩
    · rw [if_neg h1] at h; cases h
  · rw [if_neg h0] at h
    by_cases h1 : -(n : Int) ≤ i
    · rw [if_pos h1] at h
      have e : (i + n).toNat = j := Option.some.inj h
      exact ⟨by rw [seqIndex_neg (by omega) h1, e], by omega, h1, by omega⟩
    · rw [if_neg h1] at h; cases h
theorem atI_get {α : Type} {xs : List α} {i : Int} {v : α} (h : atI xs i = some v) : ∃ j, seqIndex? i xs.length = some j ∧ xs[j]? = some v ∧ j < xs.length ∧ -(xs.length : Int) ≤ i ∧ i < xs.length := by
  unfold atI at h
  cases e : ixN xs.length i with
  | none => rw [e] at h; cases h
  | some j =>
    rw [e] at h
    obtain ⟨h1, h2, h3, h4⟩ := ixN_seq e
    exact ⟨j, h1, h, h2, h3, h4⟩
def PlainIx (b : Expr) : Prop := ∀ o i, subscripted b false o i = operate [o, i] (getItem o i)
def IxR (X : Cx) (r : R2) : Prop :=
  ∀ (value slice : Expr) (pins : List (Addr × Obj)) (s : Shared) (σ : St) (H : Hp) (x y : V) (v u : Value) (Q : VK), Inv X pins σ H s → RelV x v → RelV y u → r x y H Q →
    subscripted slice false v u = operate [v, u] (getItem v u) → wpAny (model X.prog X.w) X.A (subscriptTail value slice v u) (EP X pins σ Q) X.xe s
def MtR (X : Cx) (id : String) (r : V → List V → Hp → VK → Prop) : Prop :=
  ∀ (pins : List (Addr × Obj)) (s : Shared) (σ : St) (H : Hp) (x : V) (xs : List V) (v : Value) (us : List Value) (Q : VK), Inv X pins σ H s → RelV x v → Vals xs us → r x xs H Q →
    wpAny (model X.prog X.w) X.A (call (.builtin id) (v :: us)) (EP X pins σ Q) X.xe s
section
variable {X : Cx} {a b : Expr} {ta tb : TE} {pos : Pos}
theorem IxR.or {r r' : R2} (h : IxR X r) (h' : IxR X r') : IxR X (fun x y H Q => r x y H Q ∨ r' x y H Q) := by
  intro value slice pins s σ H x y v u Q I rx ry q hs
  rcases q with q | q
  · exact h value slice pins s σ H x y v u Q I rx ry q hs
  · exact h' value slice pins s σ H x y v u Q I rx ry q hs
theorem pe_ix {r : R2} (hr : IxR X r) (ha : PE X a ta) (hb : PE X b tb) (hs : PlainIx b) : PE X (.Subscript a b pos) (tOp r ta tb) := by
  intro pins s σ H Q I h
  exact Subscript_ (binT ha hb I h fun v u s2 x y H2 I2 rx ry q => hr a b pins s2 σ H2 x y v u Q I2 rx ry q (hs _ _))
noncomputable def rIxL (K : PySem.W.Frag) : R2 := fun x y H Q => ∃ p xs i v, x = .ref p ∧ y = .int i ∧ SqL K H p xs ∧ atI xs i = some v ∧ Q v H
noncomputable def rIxT (K : PySem.W.Frag) : R2 := fun x y H Q => ∃ p xs i v, x = .ref p ∧ y = .int i ∧ SqT K H p xs ∧ atI xs i = some v ∧ Q v H
noncomputable def rIxS : R2 := fun x y H Q => ∃ z i c, x = .str z ∧ y = .int i ∧ z.length ≤ sizeLine ∧ atI z.cps.toList i = some c ∧ Q (.str ⟨#[c]⟩) H
theorem ix_list : IxR X (rIxL X.K) := by
  intro value slice pins s σ H x y v u Q I rx ry h hs
  obtain ⟨p, xs, i, z, rfl, rfl, hq, he, q⟩ := h
  cases rx
  obtain ⟨t, rfl⟩ := ry
  obtain ⟨its, r, pl, hz⟩ := I.list hq
  obtain ⟨j, h1, h2, h3, h4, h5⟩ := atI_get he
  obtain ⟨w, ew, rw'⟩ := r.get h2
  have hl := r.length
  have hn := line63
  have fin : EP X pins σ Q w s := ⟨z, H, I, rw', q⟩
  by_cases h0 : 0 ≤ i
  · have hj : i.toNat = j := by
      rw [seqIndex_of h0 h5] at h1
      exact Option.some.inj h1
    exact item_listR pl.isList h0 (by omega) (by rw [hj]; simpa using ew) fin hs
  · have hj : (i + (its.toArray.size : Int)).toNat = j := by
      rw [seqIndex_neg (by omega) h4] at h1
      rw [List.size_toArray, ← hl]
      exact Option.some.inj h1
    exact subscriptTail_builtinR (x := w) pl.isList.typeIs slot_list_getitem.lookup
      (wpAny_getItem_list_neg (Q := fun r s' => r = w ∧ EP X pins σ Q r s') pl.isList (by omega) (by rw [List.size_toArray] <;> omega) (by omega) (by rw [hj]; simpa using ew) ⟨rfl, fin⟩) hs
theorem ix_tup : IxR X (rIxT X.K) := by
  intro value slice pins s σ H x y v u Q I rx ry h hs
  obtain ⟨p, xs, i, z, rfl, rfl, hq, he, q⟩ := h
  cases rx
  obtain ⟨t, rfl⟩ := ry
  obtain ⟨its, r, pl, hz⟩ := I.tuple hq
  obtain ⟨j, h1, h2, h3, h4, h5⟩ := atI_get he
  obtain ⟨w, ew, rw'⟩ := r.get h2
  have hl := r.length
  have hn := line63
  have fin : EP X pins σ Q w s := ⟨z, H, I, rw', q⟩
  exact subscriptTail_builtinR (x := w) pl.typeIs slot_tuple_getitem.lookup
    (getItem_tuple (j := j) (Q := fun r s' => r = w ∧ EP X pins σ Q r s') pl (by omega) (by omega) (by rw [List.size_toArray, ← hl]; exact h1) (by simpa using ew) ⟨rfl, fin⟩) hs
theorem ix_str : IxR X rIxS := by
  intro value slice pins s σ H x y v u Q I rx ry h hs
  obtain ⟨z, i, c, rfl, rfl, hz, he, q⟩ := h
  obtain ⟨t, rfl⟩ := rx
  obtain ⟨t', rfl⟩ := ry
  obtain ⟨j, h1, h2, h3, h4, h5⟩ := atI_get he
  have hl : z.cps.toList.length = z.length := by simp [Str.length]
  rw [hl] at h1 h4 h5
  have hn := line63
  exact tail_any (typeIs_str s z t) slot_str_getitem.lookup (getItem_str (c := c) (by
    have e1 : decide (i < -(2 ^ 63 : Int)) = false := decide_eq_false (by omega)
    have e2 : decide (i ≥ 2 ^ 63) = false := decide_eq_false (by omega)
    rw [e1, e2, Bool.or_false]) (by rw [h1]; simpa using h2) ⟨.str ⟨#[c]⟩, H, I.tok _, ⟨_, rfl⟩, q⟩) hs
noncomputable def rIx (K : PySem.W.Frag) : R2 := fun x y H Q => rIxL K x y H Q ∨ rIxT K x y H Q ∨ rIxS x y H Q
theorem ix_seq : IxR X (rIx X.K) := ix_list.or (ix_tup.or ix_str)
theorem slice_bounds (lo hi : Option Int) (n : Nat) : (sliceBounds lo hi none n).1 = ((HT.sIx n 0 lo : Nat) : Int) ∧ (sliceBounds lo hi none n).2.1 = ((HT.sIx n n hi : Nat) : Int) ∧ (sliceBounds lo hi none n).2.2 = 1 := by
  refine ⟨?_, ?_, rfl⟩
  · cases lo with
    | none => simp [sliceBounds, HT.sIx]
    | some i =>
      simp only [sliceBounds, HT.sIx, Option.getD_none, show (1 : Int) > 0 by decide, if_true]
      by_cases h : i < 0
      · simp only [h, if_true] <;> omega
      · simp only [h, if_false] <;> omega
  · cases hi with
    | none => simp [sliceBounds, HT.sIx]
    | some i =>
      simp only [sliceBounds, HT.sIx, Option.getD_none, show (1 : Int) > 0 by decide, if_true]
      by_cases h : i < 0
      · simp only [h, if_true] <;> omega
      · simp only [h, if_false] <;> omega
theorem slicePick_cut (its : List Value) (lo hi : Option Int) : slicePick its.toArray lo hi none = ((its.drop (HT.sIx its.length 0 lo)).take (HT.sIx its.length its.length hi - HT.sIx its.length 0 lo)).toArray := by
  obtain ⟨h1, h2, h3⟩ := slice_bounds lo hi its.toArray.size
  unfold slicePick
  rw [h1, h2, h3]
  simp only [sliceRange_one, pick_run, List.size_toArray] <;> rfl
def rSlL (K : PySem.W.Frag) : V → Option Int → Option Int → Hp → VK → Prop := fun x lo hi H Q => ∃ a xs, x = .ref a ∧ SqL K H a xs ∧ ∀ p, H p = none → Q (.ref p) (upd H p (.lst (cutV xs lo hi)))
theorem sl_list : SlR X (rSlL X.K) := by
  intro pins s σ H x v vl vu lo hi sl Q I rx hs pl pu h
  obtain ⟨a, xs, rfl, hx, q⟩ := h
  cases rx
  obtain ⟨its, r, ht, hz⟩ := I.list hx
  have hlen := r.length
  refine ⟨"list", _, slot_list_getitem.lookup, ht.isList.typeIs, ?_⟩
  refine wpAny_getItem_list_slice ht.isList hs pl pu .none (by simp) ?_ (by rw [List.size_toArray] <;> omega)
  rw [slicePick_cut, ← hlen]
  refine ⟨.ref s.heap.objs.size, _, I.laid (t' := s.toks) (o := .lst (cutV xs lo hi)) (fun b ob q => Heap.get?_push_of_some _ q) (Nat.le_refl _) ?_, rfl, q _ (I.hok.fresh (Nat.le_refl _))⟩
  exact ⟨Nat.le_trans (cutV_length xs lo hi) hz, _, 0, (r.drop (HT.sIx xs.length 0 lo)).take (HT.sIx xs.length xs.length hi - HT.sIx xs.length 0 lo), Heap.get?_push_size _ rfl⟩
noncomputable def flatV : V → Bool
  | .non => true
  | .bl _ => true
  | .int _ => true
  | .str _ => true
  | _ => false
noncomputable def eqV : V → V → Bool
  | .non, .non => true
  | .bl a, .bl b => a == b
  | .bl a, .int b => (if a then 1 else 0) == b
  | .int a, .bl b => a == (if b then 1 else 0)
  | .int a, .int b => a == b
  | .str a, .str b => a == b
  | _, _ => false
theorem eqAt_V {A : Around} {s : Shared} {y x : V} {u v : Value} (ry : RelV y u) (rx : RelV x v) (fy : flatV y = true) (fx : flatV x = true) : SeqAt.EqAt A s u v (eqV y x) := by
  cases y with
  | non =>
    cases ry
    cases x with
    | non => cases rx; exact SeqAt.EqAt.same _
    | bl b => cases rx; exact SeqAt.EqAt.none_bool b
    | int b => obtain ⟨t, rfl⟩ := rx; exact SeqAt.EqAt.none_int b t
    | str b => obtain ⟨t, rfl⟩ := rx; exact SeqAt.EqAt.none_str b t
    | _ => exact absurd (show false = true from fx) Bool.false_ne_true
  | bl a =>
    cases ry
    cases x with
    | non => cases rx; exact SeqAt.EqAt.bool_none a
    | bl b => cases rx; exact SeqAt.EqAt.bool_bool a b
    | int b => obtain ⟨t, rfl⟩ := rx; exact SeqAt.EqAt.bool_int a b t
    | str b => obtain ⟨t, rfl⟩ := rx; exact SeqAt.EqAt.bool_str a b t
    | _ => exact absurd (show false = true from fx) Bool.false_ne_true
  | int a =>
    obtain ⟨t', rfl⟩ := ry
    cases x with
    | non => cases rx; exact SeqAt.EqAt.int_none a t'
    | bl b => cases rx; exact SeqAt.EqAt.int_bool a t' b
    | int b => obtain ⟨t, rfl⟩ := rx; exact SeqAt.EqAt.int_int a t' b t
    | str b => obtain ⟨t, rfl⟩ := rx; exact SeqAt.EqAt.int_str a t' b t
    | _ => exact absurd (show false = true from fx) Bool.false_ne_true
  | str a =>
    obtain ⟨t', rfl⟩ := ry
    cases x with
    | non => cases rx; exact SeqAt.EqAt.str_none a t'
    | bl b => cases rx; exact SeqAt.EqAt.str_bool a t' b
    | int b => obtain ⟨t, rfl⟩ := rx; exact SeqAt.EqAt.str_int a t' b t
    | str b => obtain ⟨t, rfl⟩ := rx; exact SeqAt.EqAt.str_str a t' b t
    | _ => exact absurd (show false = true from fx) Bool.false_ne_true
  | _ => exact absurd (show false = true from fy) Bool.false_ne_true
noncomputable def eqU (x : V) (u : Value) : Bool := match u with
  | .none => eqV .non x
  | .bool b => eqV (.bl b) x
  | .int i _ => eqV (.int i) x
  | .str z _ => eqV (.str z) x
  | _ => false
theorem eqU_of {x y : V} {u : Value} (r : RelV y u) (f : flatV y = true) : eqU x u = eqV y x := by
  cases y with
  | non => cases r; rfl
  | bl b => cases r; rfl
  | int i => obtain ⟨t, rfl⟩ := r; rfl
  | str z => obtain ⟨t, rfl⟩ := r; rfl
  | _ => exact absurd (show false = true from f) Bool.false_ne_true
theorem any_eqU {x : V} : ∀ {xs : List V} {us : List Value}, Vals xs us → xs.all flatV = true → us.any (eqU x) = xs.any fun y => eqV y x
  | _, _, .nil, _ => rfl
  | y :: xs, u :: us, .cons r t, f => by
    rw [List.all_cons, Bool.and_eq_true] at f
    rw [List.any_cons, List.any_cons, eqU_of r f.1, any_eqU t f.2]
theorem mem_eqAt {A : Around} {s : Shared} {x : V} {v : Value} (rx : RelV x v) (fx : flatV x = true) : ∀ {xs : List V} {us : List Value}, Vals xs us → xs.all flatV = true → ∀ u ∈ us, SeqAt.EqAt A s u v (eqU x u)
  | _, _, .nil, _ => fun u hu => by cases hu
  | y :: xs, u :: us, .cons r t, f => fun u' hu => by
    rw [List.all_cons, Bool.and_eq_true] at f
    rcases List.mem_cons.mp hu with rfl | hu
    · rw [eqU_of r f.1]; exact eqAt_V r rx f.1 fx
    · exact mem_eqAt rx fx t f.2 u' hu
noncomputable def inV (x : V) (xs : List V) : Bool := xs.any fun y => eqV y x
noncomputable def rIn (K : PySem.W.Frag) (neg : Bool) : R2 := fun x y H Q => ∃ p xs, y = .ref p ∧ (SqL K H p xs ∨ SqT K H p xs) ∧ flatV x = true ∧ xs.all flatV = true ∧ Q (.bl (if neg then !inV x xs else inV x xs)) H
theorem op_in_seq : OpR X (compareOp .In) (rIn X.K false) := by
  intro pins s σ H x y v u Q I rx ry h
  obtain ⟨p, xs, rfl, hq, fx, fs, q⟩ := h
  cases ry
  rcases hq with hq | hq
  · obtain ⟨its, r, pl, hz⟩ := I.list hq
    refine SeqAt.in_listAt (eqU x) pl.isList (fun w hw => mem_eqAt rx fx r fs w (by simpa using hw)) ⟨.bl _, H, I, rfl, ?_⟩
    rw [show its.toArray.any (eqU x) = its.any (eqU x) by simp, any_eqU r fs]
    exact q
  · obtain ⟨its, r, pl, hz⟩ := I.tuple hq
    refine SeqAt.in_tupleAt (eqU x) pl (fun w hw => mem_eqAt rx fx r fs w (by simpa using hw)) ⟨.bl _, H, I, rfl, ?_⟩
    rw [show its.toArray.any (eqU x) = its.any (eqU x) by simp, any_eqU r fs]
    exact q
theorem op_notIn_seq : OpR X (compareOp .NotIn) (rIn X.K true) := by
  intro pins s σ H x y v u Q I rx ry h
  obtain ⟨p, xs, rfl, hq, fx, fs, q⟩ := h
  cases ry
  rcases hq with hq | hq
  · obtain ⟨its, r, pl, hz⟩ := I.list hq
    refine SeqAt.notIn_listAt (eqU x) pl.isList (fun w hw => mem_eqAt rx fx r fs w (by simpa using hw)) ⟨.bl _, H, I, rfl, ?_⟩
    rw [show its.toArray.any (eqU x) = its.any (eqU x) by simp, any_eqU r fs]
    exact q
  · obtain ⟨its, r, pl, hz⟩ := I.tuple hq
    refine SeqAt.notIn_tupleAt (eqU x) pl (fun w hw => mem_eqAt rx fx r fs w (by simpa using hw)) ⟨.bl _, H, I, rfl, ?_⟩
    rw [show its.toArray.any (eqU x) = its.any (eqU x) by simp, any_eqU r fs]
    exact q
theorem call_len_seq : CallR X (.builtin "len") (fun xs H Q => ∃ p ys, xs = [.ref p] ∧ (SqL X.K H p ys ∨ SqT X.K H p ys) ∧ Q (.int ys.length) H) := by
  intro pins s σ H xs us Q I r h
  obtain ⟨p, ys, rfl, hq, q⟩ := h
  obtain ⟨u, rfl, rx⟩ := vals1 r
  cases rx
  have hn := line63
  rcases hq with hq | hq
  · obtain ⟨its, r', pl, hz⟩ := I.list hq
    have hlen := r'.length
    exact Calls.call_len_list pl.isList (by simp only [List.size_toArray] <;> omega) ⟨.int ys.length, H, I.tok _, ⟨s.toks + 1, by rw [List.size_toArray, hlen]⟩, q⟩
  · obtain ⟨its, r', pl, hz⟩ := I.tuple hq
    have hlen := r'.length
    exact len_tuple pl (by simp only [List.size_toArray] <;> omega) ⟨.int ys.length, H, I.tok _, ⟨s.toks + 1, by rw [List.size_toArray, hlen]⟩, q⟩
theorem call_len_str : CallR X (.builtin "len") (fun xs H Q => ∃ z, xs = [.str z] ∧ z.length ≤ sizeLine ∧ Q (.int z.length) H) := by
  intro pins s σ H xs us Q I r h
  obtain ⟨z, rfl, hz, q⟩ := h
  obtain ⟨u, rfl, t, rfl⟩ := vals1 r
  have hn := line63
  exact len_str (by omega) ⟨.int z.length, H, I.tok _, ⟨_, rfl⟩, q⟩
theorem call_tuple_of : CallR X (.type "tuple") (fun xs H Q => ∃ p ys, xs = [.ref p] ∧ ((SqL X.K H p ys ∧ ∀ l, H l = none → Q (.ref l) (upd H l (.tup ys))) ∨ (SqT X.K H p ys ∧ Q (.ref p) H))) := by
  intro pins s σ H xs us Q I r h
  obtain ⟨p, ys, rfl, h⟩ := h
  obtain ⟨u, rfl, rx⟩ := vals1 r
  cases rx
  rcases h with ⟨hq, q⟩ | ⟨hq, q⟩
  · obtain ⟨its, r', pl, hz⟩ := I.list hq
    have hlen := r'.length
    refine call_tuple_list pl.isList (fun h' kp => ?_) (by simp only [List.size_toArray] <;> omega)
    have I1 : Inv X pins σ H { s with heap := h' } := I.kept (t' := s.toks) kp
    have I2 : Inv X pins σ (upd H h'.objs.size (.tup ys)) { s with heap := h'.push { cls := .type "tuple", data := .seq its.toArray } } :=
      I1.laid (t' := s.toks) (fun b o e => Heap.get?_push_of_some _ e) (Nat.le_refl _) (show ObjOk X.prog X.w _ _ _ (.tup ys) from ⟨hz, its, r', IsTupD.new _ _⟩)
    exact ⟨.ref h'.objs.size, _, I2, rfl, q _ (I1.hok.fresh (Nat.le_refl _))⟩
  · obtain ⟨its, r', pl, hz⟩ := I.tuple hq
    exact call_tuple_same pl ⟨.ref p, H, I, rfl, q⟩
def tyV (K : PySem.W.Frag) (T : String) (x : V) (H : Hp) : Prop := match x with
  | .str _ => T = "str"
  | .int _ => T = "int"
  | .ref p => (T = "list" ∧ ∃ xs, SqL K H p xs) ∨ (T = "tuple" ∧ ∃ o, K.lookup p = some o ∧ o.cls = .type "tuple" ∧ o.dict = none) ∨
      (T = "dict" ∧ ((∃ kvs, H p = some (.dK kvs)) ∨ ∃ kvs, H p = some (.dT kvs))) ∨ (T = "set" ∧ ∃ S n, H p = some (.set S n))
  | _ => False
theorem tyV_is {pins : List (Addr × Obj)} {σ : St} {H : Hp} {s : Shared} {T : String} {x : V} {v : Value} (I : Inv X pins σ H s) (r : RelV x v) (ty : tyV X.K T x H) :
    s.TypeIs v T ∧ ∀ a, v = .ref a → ∃ ob, s.heap.get? a = some ob ∧ ob.dict = none := by
  cases x with
  | str z =>
    obtain ⟨t, rfl⟩ := r
    cases (show T = "str" from ty)
    exact ⟨typeIs_str s z t, fun _ e => nomatch e⟩
  | int i =>
    obtain ⟨t, rfl⟩ := r
    cases (show T = "int" from ty)
    exact ⟨typeIs_int s i t, fun _ e => nomatch e⟩
  | ref p =>
    cases r
    rcases ty with ⟨rfl, xs, hq⟩ | ⟨rfl, o, hk, hc, hd⟩ | ⟨rfl, hk⟩ | ⟨rfl, S, n, hk⟩
    · obtain ⟨its, _, pl, _⟩ := I.list hq
      refine ⟨pl.isList.typeIs, fun a e => ?_⟩
      cases e
      obtain ⟨o, n, e, c, hd, _⟩ := pl
      exact ⟨o, e, hd⟩
    · refine ⟨⟨o, I.kIn p o hk, hc⟩, fun a e => ?_⟩
      cases e
      exact ⟨o, I.kIn _ o hk, hd⟩
    · have z : ∃ o, s.heap.get? p = some o ∧ o.ExactDict := by
        rcases hk with ⟨kvs, hk⟩ | ⟨kvs, hk⟩
        · obtain ⟨_, _, _, _, o, _, _, e, ex, _⟩ := I.hok p _ hk
          exact ⟨o, e, ex⟩
        · obtain ⟨_, _, _, _, o, _, _, e, ex, _⟩ := I.hok p _ hk
          exact ⟨o, e, ex⟩
      obtain ⟨o, e, ex⟩ := z
      refine ⟨⟨o, e, ex.1⟩, fun a e2 => ?_⟩
      cases e2
      exact ⟨o, e, ex.2.1⟩
    · obtain ⟨o, _, _, _, e, ex, _⟩ := I.hok p _ hk
      refine ⟨⟨o, e, ex.1⟩, fun a e2 => ?_⟩
      cases e2
      exact ⟨o, e, ex.2.1⟩
  | _ => exact False.elim ty
def tBM (K : PySem.W.Frag) (T : String) (r : V → List V → Hp → VK → Prop) (to : TE) (t : TA) : TE := fun σ H Q => to σ H fun x H1 => tyV K T x H1 ∧ t σ H1 fun xs H2 => r x xs H2 Q
variable {o e : Expr} {es : List Expr} {to : TE} {t : TA} {name : Str} {apos cpos : Pos} {T id : String} {r : V → List V → Hp → VK → Prop}
theorem pe_bm (pa : PlainAttrs T) (slot : Slot T name id) (hty : typeOf (.builtin id) = pure (.type "method_descriptor")) (hm : MtR X id r) (ho : PE X o to) (ha : PA X (e :: es) t)
    (hbase : attributeBase o name X.env (eval o X.env) = eval o X.env := by rfl)
    (hfew : ((backTo cpos (starEach (e :: es) X.env)).all (fun x => !x.1) && (backToKw cpos (keywordEach [] X.env)).all (fun x => x.1.isSome)
      && decide ((e :: es).length + ([] : List Keyword).length + (if ([] : List Keyword).isEmpty then 0 else 1) < 30)) = true := by rfl)
    (hline : (apos.endLine == cpos.line) = true := by rfl) (hs : starEach (e :: es) X.env = (false, eval e X.env) :: starEach es X.env := by rfl) (hplain : (backTo cpos (starEach es X.env)).any (·.1) = false := by rfl) :
    PE X (.Call (.Attribute o name apos) (e :: es) [] cpos) (tBM X.K T r to t) := by
  intro pins s σ H Q I h
  refine wpAny_Call_method_late hbase hfew hline rfl (thn (ho pins s σ H _ I h) fun v s1 ⟨x, H1, I1, r1, ty, q1⟩ => ?_)
  obtain ⟨h1, h2⟩ := tyV_is I1 r1 ty
  refine ⟨T, id, pa, slot, hty, h1, h2, ?_⟩
  have hA := ha cpos pins s1 σ H1 _ I1 q1
  rw [hs] at hA ⊢
  refine Calls.callWith_builtin (by show (false || (backTo cpos (starEach es X.env)).any (·.1)) = false; rw [hplain] <;> rfl) (Calls.evalArgs_plain ?_)
  exact thn hA fun us s2 ⟨vs, H2, I2, r2, q2⟩ => hm pins s2 σ H2 x vs v us Q I2 r1 r2 q2
/- xs.append(e), list.index on a module's tuple .. are MtR facts of 06m -/
end
end L2
namespace L2
open PySem PySem.Spec PyProof.Rows
def MtM (X : Cx) (id : String) (r : V → List V → Hp → VK → Prop) : Prop :=
  ∀ (pins : List (Addr × Obj)) (s : Shared) (σ : St) (H : Hp) (x : V) (xs : List V) (v : Value) (us : List Value) (Q : VK), Inv X pins σ H s → RelV x v → Vals xs us → r x xs H Q →
    wpAny (model X.prog X.w) X.A (call (.builtin id) (v :: us)) (EP X pins σ Q) X.xe s
theorem Vals.one : ∀ {x : V} {us : List Value}, Vals [x] us → ∃ u, us = [u] ∧ RelV x u
  | _, _, .cons r .nil => ⟨_, rfl, r⟩
section
variable {X : Cx} {pins : List (Addr × Obj)} {σ : St} {H : Hp} {s : Shared} {l b : Addr} {xs ys zs : List V}
theorem Inv.lset {its its' : List Value} {n : Nat} {f : Array Value → Array Value} {t' : Nat} (I : Inv X pins σ H s) (hH : H l = some (.lst xs))
    (e : s.heap.get? l = some { cls := .type "list", data := .seq its.toArray n }) (hf : f its.toArray = its'.toArray) (hv : Vals ys its') (hz : ys.length ≤ sizeLine) :
    Inv X pins σ (upd H l (.lst ys)) { s with heap := s.heap.update l (Obj.mapSeq f), toks := t' } := by
  have q := PySem.IsL.update e f
  rw [hf] at q
  refine I.write (x := l) (e := l) (by rw [hH]; exact trivial) (.inl rfl) (fun b' u hb hu => (Heap.get?_update_other s.heap (Obj.mapSeq f) (Ne.symm hb)).trans hu) ⟨_, q⟩ ?_
  exact ⟨hz, its', _, hv, q⟩
theorem Inv.lnew {its : List Value} {t' : Nat} (I : Inv X pins σ H s) (hv : Vals ys its) (hz : ys.length ≤ sizeLine) :
    Inv X pins σ (upd H s.heap.objs.size (.lst ys)) { s with heap := s.heap.push { cls := .type "list", data := .seq its.toArray }, toks := t' } :=
  I.laid (fun _ _ q => Heap.get?_push_of_some _ q) (Nat.le_refl _) ⟨hz, its, 0, hv, Heap.get?_push_size _ rfl⟩
theorem Inv.fresh (I : Inv X pins σ H s) : H s.heap.objs.size = none := I.hok.fresh (Nat.le_refl _)
theorem Inv.lstM (I : Inv X pins σ H s) (hH : H l = some (.lst xs)) : xs.length ≤ sizeLine ∧ ∃ (its : List Value) (n : Nat), Vals xs its ∧ xs.length = its.length ∧ s.heap.get? l = some { cls := .type "list", data := .seq its.toArray n } := by
  obtain ⟨z, its, n, r, e⟩ := I.hok l _ hH
  exact ⟨z, its, n, r, r.length, e⟩
end
section
variable {X : Cx}
def rAppend : V → List V → Hp → VK → Prop := fun x vs H Q => ∃ l xs y, x = .ref l ∧ vs = [y] ∧ H l = some (.lst xs) ∧ xs.length < sizeLine ∧ Q .non (upd H l (.lst (xs ++ [y])))
theorem mt_append : MtM X "list.append" rAppend := by
  intro pins s σ H x vs v us Q I rx rv h
  obtain ⟨l, xs, y, rfl, rfl, hH, hz, q⟩ := h
  cases rx
  obtain ⟨u, rfl, ru⟩ := rv.one
  obtain ⟨z, its, n, r, hl, e⟩ := I.lstM hH
  refine call_meets F.slot_list_append ⟨_, e, rfl⟩ F.entry_list_append (F.args_list_append_2 _ _) (PySem.list_append l its.toArray n u (by rw [List.size_toArray]; omega)) ⟨e, ?_⟩
  refine ⟨.non, _, I.lset (its' := its ++ [u]) hH e (by simp) (r.append (.cons ru .nil)) ?_, rfl, q⟩
  rw [List.length_append, List.length_singleton]
  omega
noncomputable def rCat : R2 := fun x y H Q => ∃ l b xs zs, x = .ref l ∧ y = .ref b ∧ H l = some (.lst xs) ∧ H b = some (.lst zs) ∧ xs.length + zs.length ≤ sizeLine ∧ ∀ p, H p = none → Q (.ref p) (upd H p (.lst (xs ++ zs)))
theorem op_cat : OpR X (binaryOp .Add) rCat := by
  intro pins s σ H x y v u Q I rx ry h
  obtain ⟨l, b, xs, zs, rfl, rfl, hH, hB, hz, q⟩ := h
  cases rx
  cases ry
  obtain ⟨z, its, n, r, hl, e⟩ := I.lstM hH
  obtain ⟨z2, its2, n2, r2, hl2, e2⟩ := I.lstM hB
  refine PySem.P.add_list e e2 ?_ (by rw [List.size_toArray, List.size_toArray]; omega)
  have ea : its.toArray ++ its2.toArray = (its ++ its2).toArray := by simp
  rw [ea]
  exact ⟨.ref _, _, I.lnew (t' := s.toks) (r.append r2) (by rw [List.length_append]; omega), rfl, q _ I.fresh⟩
end
section
variable {prog : Program} {w : World} {A : Around} {E : Value → Shared → Prop} {s : Shared}
end
section
variable {X : Cx}
end
end L2
namespace L2
open PySem PySem.Spec PyProof.Rows
section
variable {κ : Type} [DecidableEq κ]
end
section
variable {P : Program} {w : World} {H : Hp} {h : Heap} {a : Addr}
end
section
variable {X : Cx} {pins : List (Addr × Obj)} {σ : St} {H : Hp} {s : Shared} {a : Addr} {y v : V} {u r : Value} {o : Option V} {A : Around} {E : Value → Shared → Prop}
theorem Inv.big (I : Inv X pins σ H s) : sysModules < s.heap.objs.size := by
  have h : mainGlobals < s.heap.objs.size := (I.mod.glob.keeps I.bk).lt
  exact Nat.lt_trans (by decide) h
end
section
variable {X : Cx} {pins : List (Addr × Obj)} {σ : St} {H : Hp} {s : Shared} {a : Addr} {kvs : List (Key × V)} {k : Key} {u : Value} {A : Around} {E : Value → Shared → Prop}
end
section
variable {X : Cx} {o i e value : Expr} {pos pos' tpos : Pos} {td ty tv : TE}
end
theorem dk_empty {P : Program} {w : World} {H : Hp} (h : Heap) (hb : sysModules < h.objs.size) : ObjOk P w H (h.push { cls := .type "dict", data := .dict #[] }) h.objs.size (.dK []) :=
  ⟨Nat.zero_le _, beq_eq_false_iff_ne.mpr (Ne.symm (Nat.ne_of_lt hb)), [], .nil, Heap.DictOf.new h⟩
def tDNewK : TE := fun _ H Q => ∀ p, H p = none → Q (.ref p) (upd H p (.dK []))
section
variable {X : Cx} {pos : Pos}
theorem pe_dnewK : PE X (.Dict [] [] pos) tDNewK := fun pins s σ H Q I h =>
  wpAny_Dict_empty ⟨.ref s.heap.objs.size, _, I.laid (a := s.heap.objs.size) (o := .dK []) (t' := s.toks) (fun _ _ q => Heap.get?_push_of_some _ q) (Nat.le_refl _) (dk_empty s.heap I.big), rfl, h _ (I.hok.fresh (Nat.le_refl _))⟩
end
section
variable {X : Cx} {pins : List (Addr × Obj)} {σ : St} {H : Hp} {s : Shared} {a : Addr} {y d : V} {u r : Value} {o : Option V} {A : Around} {E : Value → Shared → Prop}
end
section
variable {X : Cx} {o e f : Expr} {apos cpos : Pos} {td ty tx : TE}
end
section
variable {X : Cx} {pins : List (Addr × Obj)} {σ : St} {H : Hp} {s : Shared} {a : Addr} {kvs : List (Key × V)} {A : Around} {E : Value → Shared → Prop}
end
section
variable {X : Cx} {pins : List (Addr × Obj)} {σ : St} {H : Hp} {s : Shared} {a : Addr} {y : V} {u : Value} {A : Around} {E : Value → Shared → Prop}
end
end L2
namespace Att
open PySem PySem.W PySem.Calls PyProof.Rows
theorem ints_of_wellAll {P : Params} {h : Heap} : ∀ (ns : List Int) (vs : List Value), WellAll P h vs (ns.map WData.int) → IntsAre vs ns := by
  intro ns
  induction ns with
  | nil =>
    intro vs w
    rw [List.map_nil] at w
    cases w
    exact .nil
  | cons n ns ih =>
    intro vs w
    rw [List.map_cons] at w
    cases w with
    | cons a b =>
      cases a
      exact .cons _ _ (ih _ b)
theorem script_of {l : OpenLaw} {n : Nat} (hn : l.most = some n) {P : Params} {h : Heap} {args : List WData} {vals : List Value}
    (hpre : l.row.toRowW.claim.pre args = true) (hwl : WellAll P h vals args) :
    ∃ a vs ns, vals = [Value.ref a] ∧ args = [WData.list (ns.map WData.int)] ∧ h.get? a = some { cls := .type "list", data := .seq vs.toArray } ∧ IntsAre vs ns ∧ ns.length ≤ n := by
  have hsh : WShape.hasAll [] args [.list .int] = true := (pre_splitW hpre).1
  have hc : l.pre.holds [] { args := args } = true := (pre_splitW hpre).2
  obtain ⟨d, r, rfl, h1, h2⟩ := hasAllW_cons hsh
  obtain rfl := hasAllW_nil h2
  obtain ⟨xs, rfl, h3⟩ := hasW_list h1
  obtain ⟨ns, rfl⟩ := items_int h3
  have hlen : ns.length ≤ n := by
    unfold OpenLaw.pre at hc
    have h4 : (WTm.not (.lt (.lit (.int (n : Int))) (.len (.arg 0)))).holds [] { args := [.list (ns.map .int)] } = true := by
      have h4 := (holds_andW hc).1
      rw [hn] at h4
      exact h4
    have h5 := condW_of h4 (w_not (w_lt w_lit (w_len_list (w_arg rfl))))
    rw [List.length_map] at h5
    refine Nat.le_of_not_lt fun q => ?_
    have q' : (n : Int) < ((ns.length : Nat) : Int) := by omega
    first
      | (rw [decide_eq_true q'] at h5; exact absurd h5 (by decide))
      | (simp at h5; omega)
  cases hwl with
  | cons w1 w2 =>
    cases w2
    cases w1 with
    | list ho hall => exact ⟨_, _, ns, rfl, rfl, ho, ints_of_wellAll ns _ hall, hlen⟩
theorem post_true (l : OpenLaw) (args : List WData) : l.row.toRowW.claim.post args (.bool true) args = true :=
  postW_of (r := l.row.toRowW) (X := (true == true))
    (show WShape.has [] (.bool true) .bool = true by first | rfl | decide | simp [WShape.has, WShape.arms, WShape.armsAll])
    (show (WTm.eq .res (.lit (.bool true))).value [] { args := args, res := some (.bool true), after := args } = some (.bool (true == true)) from w_eq_bool (w_res rfl) w_lit) rfl
theorem attach_call {l : OpenLaw} {n : Nat} {q : Program} {loose : List Str} {XP : (Str → Option Value) → Heap → Prop} {YP : World → Heap → Prop} {d : DefRec}
    (hn : l.most = some n) (hdf : d.params.defaults = [])
    (call : ∀ (w : World) (s₀ s₁ : Shared) (mg mb : Str → Option Value) (fa : Addr) (o : Obj) (pm cd doc : Value) (a : Addr) (vs : List Value) (ns : List Int),
      Ground q loose [] XP w s₀ mg mb s₁.heap → YP w s₁.heap →
      s₁.heap.get? fa = some o → o.data = .func (docDef d.name d.params d.body d.scope pm cd doc) → s₁.heap.CodeRec cd d.name → mg d.name = some (.ref fa) →
      s₁.heap.get? a = some { cls := .type "list", data := .seq vs.toArray } → IntsAre vs ns → ns.length ≤ n → s₁.gens = #[] →
      codeAny (model l.prog w) callerA (.call (.ref fa) ⟨[.ref a], []⟩) (fun r s' => r = .ok (.ret (.bool true)) ∧ OldK s₁.heap s'.heap ∧ s'.os = s₁.os ∧ AllBare s'.gens) s₁) :
    WalkO q loose XP YP l.row.toRowW d [] (fun f vs => PySem.call f vs) := by
  intro w s₀ s₁ mg mb G Y fa o pm cd doc dV kV ho hd hcd hD hmg hg args vals as hpre hlay hrd hwl hlo
  obtain rfl : dV = .none := Dflts.none hD hdf
  obtain rfl : kV = .none := Dflts.noKw hD
  obtain ⟨a, vs, ns, rfl, rfl, hobj, hints, hlen⟩ := script_of hn hpre hwl
  refine enter_call (codeAny_mono (call w s₀ s₁ mg mb fa o pm cd doc a vs ns G Y ho (fd_plain hd) hcd hmg hobj hints hlen hg) fun r s' hq => ?_)
  obtain ⟨rfl, h2, h3, h4⟩ := hq
  exact ⟨.inl ⟨.bool true, .bool true, [], rfl, fun _ => rfl, .bool true, post_true l _, fun _ => ⟨List.Pairwise.nil, fun _ hm => (nomatch hm)⟩⟩, h2, h3, h4⟩
section
variable {prog : Program} {w : World} {A : Around} {E : Value → Shared → Prop} {s : Shared} {K : Frag}
end
end Att
namespace L2
open PySem PySem.Spec PyProof.Rows
theorem vals_ints : ∀ {vs : List Value} {ns : List Int}, IntsAre vs ns → Vals (ns.map V.int) vs
  | _, _, .nil => .nil
  | _, _, .cons n t h => .cons ⟨t, rfl⟩ (vals_ints h)
def Only (H : Hp) : Prop := ∀ b, H b = none ∨ ∃ o xs, H b = some (.frz o (.lst xs))
theorem law_call {P : Program} {w : World} {K : PySem.W.Frag} {mg mb : Str → Option Value} {CX : CXT} {k : Nat} {fa a : Addr} {fd : FuncData} {x : Str} {sp : Sp} {s₁ : Shared} {vs : List Value} {ns : List Int}
    (KX : K.In s₁.heap) (hns : s₁.heap.Ns mainGlobals mg) (hb : s₁.heap.Ns builtinsNs mb) (hbb : ∀ x : Str, x ≠ "__name__" → mb x = bootBuiltins x) (hlim : s₁.heap.NoLimit) (hg : s₁.gens = #[])
    (ha : s₁.heap.get? a = some { cls := .type "list", data := .seq vs.toArray }) (hi : IntsAre vs ns) (hl : ns.length ≤ sizeLine) (hr : Room k callerA)
    (F : ∀ base : Heap, K.In base → base.Ns mainGlobals mg → FnOk P w K mg base CX k fa fd [x] sp) (hbind : ∀ (s : Shared) (u : Value), BindsTo s fd ⟨[u], []⟩ [(x, u)])
    (hsp : ∀ H : Hp, Only H → SqL K H a (ns.map V.int) → sp [.ref a] H (fun v _ => v = .bl true) fun _ _ _ => False)
    (hCX : ∀ H e s', CX [] H s₁ (fun _ _ _ => False) e s' → False) :
    codeAny (model P w) callerA (.call (.ref fa) ⟨[.ref a], []⟩) (fun r s' => r = .ok (.ret (.bool true)) ∧ OldK s₁.heap s'.heap ∧ s'.os = s₁.os ∧ AllBare s'.gens) s₁ := by
  have rv := vals_ints hi
  have lenV := hi.length
  -- from an abstract heap in which nothing but the script may be tracked
  have core : ∀ H : Hp, Only H → SqL K H a (ns.map V.int) → HOk P w H s₁.heap → (∀ b, H b ≠ none → b = a) → (H a ≠ none → K.lookup a = none) →
      codeAny (model P w) callerA (.call (.ref fa) ⟨[.ref a], []⟩) (fun r s' => r = .ok (.ret (.bool true)) ∧ OldK s₁.heap s'.heap ∧ s'.os = s₁.os ∧ AllBare s'.gens) s₁ := by
    intro H hO hS hok hA hK
    have base_of : ∀ {b : Addr} {o : Obj}, s₁.heap.get? b = some o → H b = none → (hidT s₁.heap H).get? b = some o := fun e n => hidT_get e n
    have noA : ∀ {b : Addr} {o : Obj} {es : Array DictEntry} {ep : Nat}, s₁.heap.get? b = some o → o.data = .dict es ep → H b = none := fun {b o es ep} e d => by
      cases q : H b with
      | none => rfl
      | some u =>
        have e' : b = a := hA b (by rw [q]; simp)
        subst e'
        rw [ha] at e; cases e
        have d' : Data.seq vs.toArray _ = Data.dict es ep := d
        cases d'
    have nsK : ∀ {b : Addr} {m : Str → Option Value}, s₁.heap.Ns b m → (hidT s₁.heap H).Ns b m := fun {b m} ⟨o, es, ep, e, d, r⟩ => ⟨o, es, ep, base_of e (noA e d), d, r⟩
    have hKb : K.In (hidT s₁.heap H) := fun b o e => base_of (KX b o e) (by
      cases q : H b with
      | none => rfl
      | some u =>
        have e' : b = a := hA b (by rw [q]; simp)
        subst e'
        rw [hK (by rw [q]; simp)] at e; cases e)
    have hM : Mod K mg (hidT s₁.heap H) := ⟨hKb, nsK hns, ⟨mb, nsK hb, hbb⟩, let ⟨mc, h1, h2⟩ := hlim; ⟨mc, nsK h1, h2⟩⟩
    have e0 : Env0 P w K mg (hidT s₁.heap H) callerA [] s₁ H := ⟨rfl, hM, fun b o e => of_hidT e, Nat.le_of_eq (hidT_size _ _), trivial, fun b hb => absurd (show b ∈ ([] : List Addr) from hb) (by simp), hok, .of_eq hg⟩
    refine codeAny_mono ((F _ hKb (nsK hns)).run callerA [] s₁ H ⟨[.ref a], []⟩ [.ref a] [.ref a] _ _ hr e0 (hbind s₁ (.ref a)) (.cons rfl .nil) (hsp H hO hS)) fun r s' h => ?_
    cases r with
    | error e => exact (hCX H e s' h).elim
    | ok fl =>
      cases fl with
      | next => exact False.elim h
      | brk => exact False.elim h
      | cont => exact False.elim h
      | ret u =>
        obtain ⟨v, H', os, bare, un, hok', r', q⟩ := h
        have q' : v = .bl true := q
        subst q'
        obtain rfl : u = Value.bool true := r'
        refine ⟨rfl, OldK.of_keep fun b o e => ?_, os, bare⟩
        cases q : H b with
        | none => exact un.keep b o e q (by intro z; exact absurd (show b ∈ ([] : List Addr) from z) (by simp)) (by simp)
        | some u =>
          rcases hO b with z | ⟨ob, xs, z⟩
          · rw [q] at z; cases z
          · have z2 := un.frzs b ob _ z
            obtain ⟨e1, _⟩ := hok b _ z
            obtain ⟨e2, _⟩ := hok' b _ z2
            rw [e] at e1; cases e1
            exact e2
  cases hk : K.lookup a with
  | some o =>
    -- the script is one of the module's own objects
    have e := KX a o hk
    rw [ha] at e
    cases e
    refine core (fun _ => none) (fun _ => .inl rfl) (.inr ⟨_, vs.toArray, _, hk, rfl, rfl, rfl, by rw [List.size_toArray, lenV]; exact hl, by simpa using rv⟩) (fun b u z => by have z' : (none : Option HO) = some u := z; cases z') (fun b z => absurd rfl z) fun z => absurd rfl z
  | none =>
    refine core (fun b => if b = a then some (.frz { cls := .type "list", data := .seq vs.toArray } (.lst (ns.map V.int))) else none) (fun b => ?_) (.inl (.inr ⟨{ cls := .type "list", data := .seq vs.toArray }, if_pos rfl⟩)) (fun b u z => ?_) (fun b z => ?_) fun _ => hk
    · by_cases hb : b = a
      · exact .inr ⟨_, _, if_pos hb⟩
      · exact .inl (if_neg hb)
    · by_cases hb : b = a
      · have z' := (if_pos hb).symm.trans z
        cases z'
        subst hb
        exact ⟨ha, by rw [List.length_map]; exact hl, vs, _, rv, ha⟩
      · have z' := (if_neg hb).symm.trans z
        cases z'
    · by_cases hb : b = a
      · exact hb
      · exact absurd (if_neg hb) z
end L2
namespace L2
open PySem PySem.Spec PyProof.Rows
theorem walk_of {l : PySem.W.OpenLaw} {n k : Nat} {q : Program} {loose : List Str} {XP : (Str → Option Value) → Heap → Prop} {YP : World → Heap → Prop} {d : DefRec} {K : Params → PySem.W.Frag} {CX : World → CXT} {sp : World → Sp} {x : Str}
    (hn : l.most = some n) (hn2 : n ≤ sizeLine) (hdf : d.params.defaults = []) (hr : Room k callerA)
    (hY : ∀ (w : World) (h : Heap), YP w h → (K w.params).In h)
    (F : ∀ (w : World) (mg : Str → Option Value) (fa : Addr) (h : Heap), (K w.params).In h → h.Ns mainGlobals mg → mg d.name = some (.ref fa) →
      ∃ fd : FuncData, (∀ (s : Shared) (u : Value), BindsTo s fd ⟨[u], []⟩ [(x, u)]) ∧
        ∀ base : Heap, (K w.params).In base → base.Ns mainGlobals mg → FnOk l.prog w (K w.params) mg base (CX w) k fa fd [x] (sp w))
    (hsp : ∀ (w : World) (H : Hp) (a : Addr) (ns : List Int), ns.length ≤ n → Only H → SqL (K w.params) H a (ns.map V.int) → sp w [.ref a] H (fun v _ => v = .bl true) fun _ _ _ => False)
    (hCX : ∀ (w : World) (H : Hp) (s : Shared) (e : Value) (s' : Shared), CX w [] H s (fun _ _ _ => False) e s' → False) :
    PySem.W.WalkO q loose XP YP l.row.toRowW d [] (fun f vs => PySem.call f vs) := by
  refine Att.attach_call hn hdf fun w s₀ s₁ mg mb fa o pm cd doc a vs ns G Y ho hd hcd hmg hobj hints hlen hg => ?_
  have KX := hY w _ Y
  obtain ⟨fd, hb, hF⟩ := F w mg fa _ KX G.T.g hmg
  exact law_call KX G.T.g G.T.b G.T.builtins G.T.nolimit hg hobj hints (Nat.le_trans hlen hn2) hr hF hb (fun H hO hS => hsp w H a ns hlen hO hS) fun H e s' => hCX w H s₁ e s'
theorem walk_ofK {l : PySem.W.OpenLaw} {n k : Nat} {q : Program} {loose : List Str} {XP : (Str → Option Value) → Heap → Prop} {YP : World → Heap → Prop} {d : DefRec} {K : Params → PySem.W.Frag} {CX : CXT} {sp : PySem.W.Frag → Sp} {x : Str}
    (hn : l.most = some n) (hn2 : n ≤ sizeLine) (hdf : d.params.defaults = []) (hr : Room k callerA)
    (hY : ∀ (w : World) (h : Heap), YP w h → (K w.params).In h)
    (F : ∀ (w : World) (mg : Str → Option Value) (fa : Addr) (h : Heap), (K w.params).In h → h.Ns mainGlobals mg → mg d.name = some (.ref fa) →
      ∃ fd : FuncData, (∀ (s : Shared) (u : Value), BindsTo s fd ⟨[u], []⟩ [(x, u)]) ∧
        ∀ base : Heap, (K w.params).In base → base.Ns mainGlobals mg → FnOk l.prog w (K w.params) mg base CX k fa fd [x] (sp (K w.params)))
    (hsp : ∀ (K : PySem.W.Frag) (H : Hp) (a : Addr) (ns : List Int), ns.length ≤ n → Only H → SqL K H a (ns.map V.int) → sp K [.ref a] H (fun v _ => v = .bl true) fun _ _ _ => False)
    (hCX : ∀ (H : Hp) (s : Shared) (e : Value) (s' : Shared), CX [] H s (fun _ _ _ => False) e s' → False) :
    PySem.W.WalkO q loose XP YP l.row.toRowW d [] (fun f vs => PySem.call f vs) :=
  walk_of (K := K) (CX := fun _ => CX) (sp := fun w => sp (K w.params)) hn hn2 hdf hr hY F (fun w H a ns h1 h2 h3 => hsp (K w.params) H a ns h1 h2 h3) fun _ H s e s' => hCX H s e s'
end L2
/- THE LAST THEOREM (shape; LID, My.* are yours):
   My.Adr: a structure of the addresses that your layer names (classes, functions); My.Txt K t: a structure (Prop) of the equations over K;
   My.txt_mk : {K} {implicit addresses ..} (e1 : nsIn K mainGlobals "law" = some (some (.ref f))) (e2 : K.lookup f = some ⟨oc, od, .func (fnOf "law" "law" params body scope dV kV doc pm an cdv ct), sl⟩) (e3 : codeIn K cdv "law" = true) .. : ∃ t, My.Txt K t
set_option maxRecDepth 100000 in
set_option maxHeartbeats 0 in
theorem PySem.Challenge.cw_LID_holds : PySem.Challenge.rw_LID.Holds := by
  w_on; o_law; k_head; (case hw => w_witness2)
  k_fill
  refine L2.walk_of (l := PySem.Challenge.rw_LID) (n := 63) (k := 40) (x := "script") (CX := fun w => ..) (sp := fun _ => My.sp_law) rfl (by decide) rfl ⟨rfl, by decide, by decide⟩ (fun w h Y => PySem.W.kIn_of Y) ?F ?S ?C
  case F =>
    intro w mg fa h KX G hmg
    have T : ∃ t, My.Txt (L2.KOf KX) t := by
      dsimp only [L2.KOf]                          -- K must stand as «<heap const> w.params» for k_is
      refine' My.txt_mk ?e1 ?e2 ?e3 ..
      (case e1 => PySem.W.k_is)                    -- in the order: a name -> its address -> its object -> its parts
      (case e2 => PySem.W.k_is)
      ..
    obtain ⟨t, T⟩ := T
    have e0 := hmg.symm.trans (PySem.W.mg_of KX G T.law)
    cases e0                                       -- fa is the law's own address
    exact ⟨_, fun s u => .of_eq rfl, fun base kb nb => My.law_fn T kb nb⟩     -- if «.of_eq rfl» comes too early: refine' ⟨_, ?b, fun base kb nb => My.law_fn T kb nb⟩; exact fun s u => .of_eq rfl
  case S => exact fun w H a ns hl hO hS => ..
  case C => exact ..
(the tactic k_is has no namespace: write k_is) -/
namespace L2
open PySem PySem.Spec PyProof.Rows
noncomputable def defArgs (s : Stmt) : Arguments := match s with
  | .FunctionDef _ a _ _ _ _ _ _ _ _ => a
  | _ => { posonlyargs := [], args := [], vararg := none, kwonlyargs := [], kw_defaults := [], kwarg := none, defaults := [] }
noncomputable def defBody (s : Stmt) : List Stmt := match s with
  | .FunctionDef _ _ b _ _ _ _ _ _ _ => b
  | _ => []
noncomputable def defScope (s : Stmt) : Scope := match s with
  | .FunctionDef _ _ _ _ _ _ sc _ _ _ => sc
  | _ => { kind := .function, names := [], isGenerator := false, isCoroutine := false }
noncomputable abbrev CX0 : CXT := fun _ _ _ _ _ _ => False
abbrev E0 : XK := fun _ _ _ => False
theorem pass0 {X : Cx} : Passes CX0 X E0 := fun _ _ _ _ _ _ _ h => h.elim
structure Fun (K : PySem.W.Frag) (x qual : Str) (st : Stmt) (f : Addr) (fd : FuncData) : Prop where
  ex : ∃ (oc : Value) (od : Option Addr) (kV doc pm : Value) (an : Option Addr) (cdv ct : Value) (osl : Array (Option Value)),
    fd = PySem.W.fnOf x qual (defArgs st) (defBody st) (defScope st) .none kV doc pm an cdv ct ∧ K.lookup f = some ⟨oc, od, .func fd, osl⟩ ∧ PySem.W.codeIn K cdv qual = true
  kp : PySem.W.keepIn K (.ref f) = true
section
variable {P : Program} {w : World} {K : PySem.W.Frag} {mg : Str → Option Value} {base : Heap}
theorem Fun.ok {x qual : Str} {st : Stmt} {f : Addr} {fd : FuncData} {N ps : List Str} {k : Nat} {sp : Sp} (F : Fun K x qual st f fd) (S : FnScope N ps (defScope st)) (len : ∀ vs H Q E, sp vs H Q E → vs.length = ps.length)
    (hbody : ∀ (cdv : Value) (A : Around) (outer : List Env) (s : Shared) (H : Hp) (vs : List V) (Q : VK) (E : XK), Room k (A.deeper (envOfC qual (defScope st) s.heap.objs.size f cdv)) → sp vs H Q E →
      ∃ t, PSs (cxOf CX0 P w K mg base N qual (defScope st) f cdv A outer s H E).nox (defBody st) t ∧ t { nx := fun _ H' => Q .non H', rt := Q } (start N vs) H) : FnOk P w K mg base CX0 (k + 1) f fd ps sp := by
  obtain ⟨oc, od, kV, doc, pm, an, cdv, ct, osl, rfl, lk, hcd⟩ := F.ex
  refine fn_of lk hcd S len fun A outer s H vs Q E hr hsp => ?_
  obtain ⟨t, h, q⟩ := hbody cdv A outer s H vs Q E hr hsp
  exact ⟨t, h.nox, q⟩
theorem Fun.binds {x qual : Str} {st : Stmt} {f : Addr} {fd : FuncData} {ps : List Str} (F : Fun K x qual st f fd)
    (h : ∀ (kV doc pm : Value) (an : Option Addr) (cdv ct : Value) (us : List Value), us.length = ps.length → bindArgs (PySem.W.fnOf x qual (defArgs st) (defBody st) (defScope st) .none kV doc pm an cdv ct) ⟨us, []⟩ = pure (ps.zip us)) : Binds K fd ps [] := by
  obtain ⟨oc, od, kV, doc, pm, an, cdv, ct, osl, rfl, lk, hcd⟩ := F.ex
  exact .all (h kV doc pm an cdv ct)
theorem fun_mk {x qual : Str} {st : Stmt} {f : Addr} {oc : Value} {od an : Option Addr} {osl : Array (Option Value)} {kV doc pm cdv ct : Value} (l : K.lookup f = some ⟨oc, od, .func (PySem.W.fnOf x qual (defArgs st) (defBody st) (defScope st) .none kV doc pm an cdv ct), osl⟩)
    (c : PySem.W.codeIn K cdv qual = true) (k : PySem.W.keepIn K (.ref f) = true) : Fun K x qual st f (PySem.W.fnOf x qual (defArgs st) (defBody st) (defScope st) .none kV doc pm an cdv ct) := ⟨⟨oc, od, kV, doc, pm, an, cdv, ct, osl, rfl, l, c⟩, k⟩
end
section
variable {X : Cx}
end
end L2
namespace HS
open PySem PySem.Spec
def Rises (t : SetTable) : Prop := t.plain = true → t.place.toList.Pairwise (· < ·)
end HS
namespace HS
open PySem PySem.Spec PyProof.Rows
noncomputable def val (e : Int × Value) : Int := match e.2 with | .int n _ => n | _ => 0
def IsE (e : Int × Value) : Prop := ∃ n t, e = (hashInt n, .int n t)
structure TabOk (led : Bool) (es : Array (Int × Value)) (t : SetTable) (xs : List Int) : Prop where
  el : ∀ e ∈ es.toList, IsE e
  pm : (es.toList.map val).Perm xs
  nd : xs.Nodup
  bd : es.size < scanBound
  ft : t.fits es.size = true
  rs : Rises t
  ld : t.led = led
def SetG (led : Bool) (o : Obj) (xs : List Int) : Prop := ∃ es ep t, o.ExactSet ∧ o.data = .set es ep t ∧ TabOk led es t xs
section
variable {prog : Program} {w : World} {A : Around} {E : Value → Shared → Prop} {s : Shared}
noncomputable def plus (xs : List Int) (k : Int) : List Int := if k ∈ xs then xs else xs ++ [k]
theorem store_ok {a : Addr} {o : Obj} {es es' : Array (Int × Value)} {ep : Nat} {t t' : SetTable} {Q : Unit → Shared → Prop} (ho : s.heap.get? a = some o) (hx : o.ExactSet) (hd : o.data = .set es ep t)
    (hb : es'.size < scanBound)
    (h : ∀ h', Heap.SameBut a s.heap h' → h'.get? a = some { o with data := .set es' (ep + 1) t' } → Q () { s with heap := h' }) : wpAny (model prog w) A (storeSet a es' t') Q E s := by
  refine wpAny_storeSet_of ho hd (h _ (Heap.SameBut.update s.heap a _) ?_) (fits_of_scanBound hb)
  have q := Heap.get?_update_self (Obj.putSet es' t') ho (by rw [putSet_of es' t' hd]; rfl)
  rwa [putSet_of es' t' hd] at q
end
end HS
namespace HS
open PySem PySem.Spec PyProof.Rows
section
variable {prog : Program} {w : World} {A : Around} {R : Result → Shared → Prop} {I : Addr} {fp wr : List Addr} {G : Array GenState → Array GenState → Prop} {n : Nat} {P : Nat → Value → Prop} {St : Nat → Shared → Prop}
end
section
variable {prog : Program} {w : World} {A : Around} {E : Value → Shared → Prop} {s : Shared}
end
end HS
namespace HS
open PySem PySem.Spec PyProof.Rows
section
variable {α : Type} {M : Model} {A : Around} {E : Value → Shared → Prop} {s : Shared}
end
end HS
namespace HS
open PySem PySem.Spec PyProof.Rows
section
variable {prog : Program} {w : World} {A : Around} {E : Value → Shared → Prop} {s : Shared}
end
end HS
namespace HS
open PySem PySem.Spec PyProof.Rows
section
variable {prog : Program} {w : World} {A : Around} {E : Value → Shared → Prop} {s : Shared}
end
end HS
namespace HS
open PySem PySem.Spec PyProof.Rows
section
variable {prog : Program} {w : World} {A : Around} {E : Value → Shared → Prop} {s : Shared}
end
variable {prog : Program} {w : World}
end HS
namespace HS
open PySem PySem.Spec PyProof.Rows
section
variable {prog : Program} {w : World} {A : Around} {E : Value → Shared → Prop} {s : Shared}
end
end HS
namespace HS
open PySem PySem.Spec PyProof.Rows
end HS
namespace HS
open PySem PySem.Spec PyProof.Rows
section
variable {prog : Program} {w : World} {A : Around} {E : Value → Shared → Prop} {s : Shared}
end
end HS
namespace HS
open PySem PySem.Spec PyProof.Rows
section
variable {prog : Program} {w : World} {A : Around} {E : Value → Shared → Prop} {s : Shared}
end
end HS
namespace HS
open PySem PySem.Spec PyProof.Rows
section
variable {prog : Program} {w : World} {A : Around} {E : Value → Shared → Prop} {s : Shared}
end
end HS
namespace HS
open PySem PySem.Spec PyProof.Rows
section
variable {prog : Program} {w : World} {A : Around} {E : Value → Shared → Prop} {s : Shared}
end
end HS
namespace HS
open PySem PySem.Spec PyProof.Rows
section
variable {prog : Program} {w : World} {A : Around} {E : Value → Shared → Prop} {h : Heap} {g : Array GenState} {d : Drawn} {t : Nat} {os : OsState} {a : Addr} {its : Array Value} {n : Nat}
end
section
variable {prog : Program} {w : World} {A : Around} {R : Result → Shared → Prop} {I : Addr} {fp wr : List Addr} {n : Nat} {P : Nat → Value → Prop} {St : Nat → Heap → Prop}
structure PairAt (h : Heap) (v key val : Value) : Prop where
  ex : ∃ a o c, v = .ref a ∧ h.get? a = some o ∧ o.cls = .type "tuple" ∧ o.data = .seq #[key, val] c
end
end HS
namespace HS
open PySem PySem.Spec PyProof.Rows
section
variable {prog : Program} {w : World} {A : Around} {E : Value → Shared → Prop} {s : Shared}
end
end HS
namespace HW
open PySem L2
inductive D where
  | non | bl (b : Bool) | int (i : Int) | str (x : Str)
  | tup (xs : List D) | fl (xs : List D) | fd (ks : List Key) (ds : List D)
inductive R where
  | v (d : D) | p (n : Nat) | s (b : Bool) (xs : List Int) | x (c : Str)
inductive Cell where
  | lst (xs : List D) | fz (xs : List D) | dct (kvs : List (Key × D)) | fzd (kvs : List (Key × D))
noncomputable abbrev Store := List Cell
noncomputable abbrev Lo := List (Option R)
noncomputable abbrev FE := Lo → Store → Option (R × Store)
noncomputable abbrev FT := Lo → Store → Option (Bool × Store)
noncomputable abbrev FA := Lo → Store → Option (List R × Store)
inductive Out where
  | nx (ρ : Lo) (μ : Store) | rt (d : R) (μ : Store) | bk (ρ : Lo) (μ : Store) | ct (ρ : Lo) (μ : Store)
noncomputable abbrev FS := Lo → Store → Option Out
def FAt (K : PySem.W.Frag) (H : Hp) (a : Addr) (vs : List V) : Prop := (∃ o, H a = some (.frz o (.lst vs))) ∨ SqL K (fun _ => none) a vs
mutual
def RelD (K : PySem.W.Frag) (H : Hp) : D → V → Prop
  | .non, v => v = .non
  | .bl b, v => v = .bl b
  | .int i, v => v = .int i
  | .str x, v => v = .str x
  | .tup xs, v => ∃ a vs, v = .ref a ∧ SqT K H a vs ∧ RelDs K H xs vs
  | .fl xs, v => ∃ a vs, v = .ref a ∧ FAt K H a vs ∧ RelDs K H xs vs
  | .fd ks ds, v => ∃ a o es, v = .ref a ∧ H a = some (.frz o (.dK es)) ∧ es.map (·.1) = ks ∧ RelDs K H ds (es.map (·.2))
def RelDs (K : PySem.W.Frag) (H : Hp) : List D → List V → Prop
  | [], vs => vs = []
  | x :: xs, vs => ∃ v r, vs = v :: r ∧ RelD K H x v ∧ RelDs K H xs r
end
def RelR (K : PySem.W.Frag) (m : List Addr) (H : Hp) : R → V → Prop
  | .v d, v => RelD K H d v
  | .p n, v => ∃ a, v = .ref a ∧ m[n]? = some a
  | .s b xs, v => ∃ a o, v = .ref a ∧ H a = some (.frz o (.ext fun _ => True)) ∧ HS.SetG b o xs
  | .x c, v => ∃ a vs C, v = .ref a ∧ H a = some (.frz { cls := .ref C, dict := none, data := .fields vs, slots := #[] } (.ext fun _ => True)) ∧ PySem.W.nsIn K mainGlobals c = some (some (.ref C))
def RelRs (K : PySem.W.Frag) (m : List Addr) (H : Hp) : List R → List V → Prop
  | [], vs => vs = []
  | x :: xs, vs => ∃ v r, vs = v :: r ∧ RelR K m H x v ∧ RelRs K m H xs r
def CellR (K : PySem.W.Frag) (H : Hp) : Cell → Addr → Prop
  | .lst xs, a => ∃ vs, H a = some (.lst vs) ∧ RelDs K H xs vs
  | .fz xs, a => ∃ o vs, H a = some (.frz o (.lst vs)) ∧ RelDs K H xs vs
  | .dct kvs, a => ∃ es, H a = some (.dK es) ∧ es.map (·.1) = kvs.map (·.1) ∧ RelDs K H (kvs.map (·.2)) (es.map (·.2))
  | .fzd kvs, a => ∃ o es, H a = some (.frz o (.dK es)) ∧ es.map (·.1) = kvs.map (·.1) ∧ RelDs K H (kvs.map (·.2)) (es.map (·.2))
structure SRel (K : PySem.W.Frag) (m : List Addr) (H : Hp) (μ : Store) : Prop where
  nd : m.Nodup
  len : m.length = μ.length
  cell : ∀ (i : Nat) c a, μ[i]? = some c → m[i]? = some a → CellR K H c a
structure TF (H H' : Hp) : Prop where
  tup : ∀ a xs, H a = some (.tup xs) → H' a = some (.tup xs)
  frz : ∀ a o u, H a = some (.frz o u) → H' a = some (.frz o u)
structure Ext (m : List Addr) (H : Hp) (m' : List Addr) (H' : Hp) : Prop where
  ext : ∃ e, m' = m ++ e ∧ ∀ a ∈ e, H a = none
  tf : TF H H'
  keep : ∀ a o, H a = some o → a ∉ m → H' a = some o
  live : ∀ a, H' a = none → H a = none
def LRel (K : PySem.W.Frag) (m : List Addr) (H : Hp) (ρ : Lo) (σ : St) : Prop :=
  ρ.length = σ.length ∧ ∀ (i : Nat) d, ρ[i]? = some (some d) → ∃ v, σ[i]? = some (some v) ∧ RelR K m H d v
section
variable {K : PySem.W.Frag} {m m' m1 m2 : List Addr} {H H' H1 H2 : Hp} {μ μ' : Store} {ρ : Lo} {σ : St}
theorem TF.refl : TF H H := ⟨fun _ _ h => h, fun _ _ _ h => h⟩
theorem TF.trans (a : TF H H1) (b : TF H1 H2) : TF H H2 := ⟨fun _ _ h => b.tup _ _ (a.tup _ _ h), fun _ _ _ h => b.frz _ _ _ (a.frz _ _ _ h)⟩
theorem TF.of (h : ∀ a o, H a = some o → H' a = some o) : TF H H' := ⟨fun _ _ e => h _ _ e, fun _ _ _ e => h _ _ e⟩
theorem SqT.tf {a vs} (t : TF H H') (h : SqT K H a vs) : SqT K H' a vs := by
  rcases h with (h | ⟨o, h⟩) | h
  · exact .inl (.inl (t.tup _ _ h))
  · exact .inl (.inr ⟨o, t.frz _ _ _ h⟩)
  · exact .inr h
theorem FAt.tf {a vs} (t : TF H H') (h : FAt K H a vs) : FAt K H' a vs := by
  rcases h with ⟨o, h⟩ | h
  · exact .inl ⟨o, t.frz _ _ _ h⟩
  · exact .inr h
theorem FAt.sq {a vs} (h : FAt K H a vs) : SqL K H a vs := by
  rcases h with ⟨o, h⟩ | (h | ⟨_, h⟩) | h
  · exact .inl (.inr ⟨o, h⟩)
  · cases h
  · cases h
  · exact .inr h
mutual
theorem RelD.tf (t : TF H H') : ∀ (d : D) (v : V), RelD K H d v → RelD K H' d v
  | .non, _, h => by simpa only [RelD] using h
  | .bl _, _, h => by simpa only [RelD] using h
  | .int _, _, h => by simpa only [RelD] using h
  | .str _, _, h => by simpa only [RelD] using h
  | .tup xs, v, h => by
    simp only [RelD] at h ⊢
    obtain ⟨a, vs, e, s, r⟩ := h
    exact ⟨a, vs, e, SqT.tf t s, RelDs.tf t xs vs r⟩
  | .fl xs, v, h => by
    simp only [RelD] at h ⊢
    obtain ⟨a, vs, e, s, r⟩ := h
    exact ⟨a, vs, e, s.tf t, RelDs.tf t xs vs r⟩
  | .fd ks ds, v, h => by
    simp only [RelD] at h ⊢
    obtain ⟨a, o, es, e, s, k, r⟩ := h
    exact ⟨a, o, es, e, t.frz _ _ _ s, k, RelDs.tf t ds _ r⟩
theorem RelDs.tf (t : TF H H') : ∀ (ds : List D) (vs : List V), RelDs K H ds vs → RelDs K H' ds vs
  | [], _, h => by simpa only [RelDs] using h
  | d :: ds, vs, h => by
    simp only [RelDs] at h ⊢
    obtain ⟨v, r, e, h1, h2⟩ := h
    exact ⟨v, r, e, RelD.tf t d v h1, RelDs.tf t ds r h2⟩
end
theorem Ext.refl : Ext m H m H := ⟨⟨[], by simp⟩, .refl, fun _ _ h _ => h, fun _ h => h⟩
theorem Ext.trans (x : Ext m H m1 H1) (y : Ext m1 H1 m2 H2) : Ext m H m2 H2 := by
  obtain ⟨e1, rfl, f1⟩ := x.ext
  obtain ⟨e2, rfl, f2⟩ := y.ext
  refine ⟨⟨e1 ++ e2, by simp, fun a ha => ?_⟩, x.tf.trans y.tf, fun a o h n => ?_, fun a h => x.live a (y.live a h)⟩
  · rcases List.mem_append.mp ha with h | h
    · exact f1 a h
    · exact x.live a (f2 a h)
  · refine y.keep a o (x.keep a o h n) fun z => ?_
    rcases List.mem_append.mp z with z | z
    · exact n z
    · rw [f1 a z] at h; cases h
theorem RelR.ext (x : Ext m H m' H') {d : R} {v : V} (h : RelR K m H d v) : RelR K m' H' d v := by
  cases d with
  | v d => exact RelD.tf x.tf d v h
  | p n =>
    obtain ⟨a, e, q⟩ := h
    obtain ⟨e1, rfl, _⟩ := x.ext
    refine ⟨a, e, ?_⟩
    obtain ⟨hl, hq⟩ := List.getElem?_eq_some_iff.mp q
    rw [List.getElem?_append_left hl]; exact q
  | s b xs =>
    obtain ⟨a, o, e, q, r⟩ := h
    exact ⟨a, o, e, x.tf.frz _ _ _ q, r⟩
  | x c =>
    obtain ⟨a, vs, C, e, q, r⟩ := h
    exact ⟨a, vs, C, e, x.tf.frz _ _ _ q, r⟩
theorem LRel.ext (x : Ext m H m' H') (h : LRel K m H ρ σ) : LRel K m' H' ρ σ :=
  ⟨h.1, fun i d e => let ⟨v, q, r⟩ := h.2 i d e; ⟨v, q, r.ext x⟩⟩
theorem CellR.same (s : ∀ a o, H a = some o → H' a = some o) {c : Cell} {a : Addr} (h : CellR K H c a) : CellR K H' c a := by
  cases c with
  | lst xs => obtain ⟨vs, e, r⟩ := h; exact ⟨vs, s _ _ e, RelDs.tf (.of s) _ _ r⟩
  | fz xs => obtain ⟨o, vs, e, r⟩ := h; exact ⟨o, vs, s _ _ e, RelDs.tf (.of s) _ _ r⟩
  | dct kvs => obtain ⟨es, e, k, r⟩ := h; exact ⟨es, s _ _ e, k, RelDs.tf (.of s) _ _ r⟩
  | fzd kvs => obtain ⟨o, es, e, k, r⟩ := h; exact ⟨o, es, s _ _ e, k, RelDs.tf (.of s) _ _ r⟩
theorem CellR.some {c : Cell} {a : Addr} (h : CellR K H c a) : ∃ o, H a = some o := by
  cases c with
  | lst xs => obtain ⟨vs, e, r⟩ := h; exact ⟨_, e⟩
  | fz xs => obtain ⟨o, vs, e, r⟩ := h; exact ⟨_, e⟩
  | dct kvs => obtain ⟨es, e, k, r⟩ := h; exact ⟨_, e⟩
  | fzd kvs => obtain ⟨o, es, e, k, r⟩ := h; exact ⟨_, e⟩
theorem SRel.same (h : SRel K m H μ) (s : ∀ a o, H a = some o → H' a = some o) : SRel K m H' μ :=
  ⟨h.nd, h.len, fun i c a e1 e2 => (h.cell i c a e1 e2).same s⟩
theorem SRel.mem (h : SRel K m H μ) {a : Addr} (ha : a ∈ m) : ∃ o, H a = some o := by
  obtain ⟨i, hi, e⟩ := List.getElem_of_mem ha
  have hi' : i < μ.length := by rw [← h.len]; exact hi
  exact (h.cell i μ[i] a (List.getElem?_eq_getElem hi') (by rw [← e]; exact List.getElem?_eq_getElem hi)).some
theorem SRel.fresh (h : SRel K m H μ) {p : Addr} (hp : H p = none) : p ∉ m := fun z => by
  obtain ⟨o, e⟩ := h.mem z
  rw [hp] at e; cases e
theorem SRel.nil : SRel K [] H [] := ⟨.nil, rfl, fun i c a e => by simp at e⟩
theorem upd_keeps {p : Addr} {o : HO} (hp : H p = none) : ∀ a u, H a = some u → upd H p o a = some u := fun a u e => by
  unfold upd; rw [if_neg (fun z => by rw [z, hp] at e; cases e)]; exact e
theorem upd_live {p : Addr} {o : HO} {a : Addr} (h : upd H p o a = none) : H a = none := by
  unfold upd at h; split at h
  · cases h
  · exact h
theorem upd_at {p : Addr} {o : HO} : upd H p o p = some o := by unfold upd; rw [if_pos rfl]
theorem Ext.new {p : Addr} {o : HO} (hp : H p = none) : Ext m H m (upd H p o) :=
  ⟨⟨[], by simp⟩, .of (upd_keeps hp), fun a u e _ => upd_keeps hp a u e, fun _ h => upd_live h⟩
theorem Ext.newH {p : Addr} {o : HO} (hp : H p = none) : Ext m H (m ++ [p]) (upd H p o) :=
  ⟨⟨[p], rfl, fun a h => by rw [List.mem_singleton.mp h]; exact hp⟩, .of (upd_keeps hp), fun a u e _ => upd_keeps hp a u e, fun _ h => upd_live h⟩
theorem SRel.newH {p : Addr} {o : HO} {c : Cell} (h : SRel K m H μ) (hp : H p = none) (hc : CellR K (upd H p o) c p) : SRel K (m ++ [p]) (upd H p o) (μ ++ [c]) := by
  refine ⟨?_, by simp [h.len], fun i c' a e1 e2 => ?_⟩
  · refine List.nodup_append.mpr ⟨h.nd, by simp, fun a ha b hb => ?_⟩
    rw [List.mem_singleton.mp hb]
    rintro rfl
    exact h.fresh hp ha
  · by_cases hi : i < m.length
    · rw [List.getElem?_append_left hi] at e2
      rw [List.getElem?_append_left (by rw [← h.len]; exact hi)] at e1
      exact (h.cell i c' a e1 e2).same (upd_keeps hp)
    · rw [List.getElem?_append_right (by omega)] at e2
      rw [List.getElem?_append_right (by have := h.len; omega)] at e1
      have hl := h.len
      have : i - m.length = 0 := by
        cases q : i - m.length with
        | zero => rfl
        | succ k => rw [q] at e2; simp at e2
      have e3 : i - μ.length = 0 := by omega
      rw [this] at e2; rw [e3] at e1
      simp at e1 e2
      subst e1 e2
      exact hc
theorem Ext.put {a : Addr} {o o' : HO} (ha : a ∈ m) (e : H a = some o) (ho : ∀ xs, o ≠ .tup xs) (hf : ∀ x u, o ≠ .frz x u) : Ext m H m (upd H a o') := by
  have ne : ∀ b u, H b = some u → u ≠ o → b ≠ a := fun b u q n z => by rw [z, e] at q; exact n (Option.some.inj q).symm
  refine ⟨⟨[], by simp⟩, ⟨fun b xs q => ?_, fun b x u q => ?_⟩, fun b u q n => ?_, fun b h => upd_live h⟩
  · unfold upd; rw [if_neg (ne b _ q fun z => ho xs z.symm)]; exact q
  · unfold upd; rw [if_neg (ne b _ q fun z => hf x u z.symm)]; exact q
  · unfold upd; rw [if_neg (fun z : b = a => n (by rw [z]; exact ha))]; exact q
theorem SRel.put {n : Nat} {a : Addr} {o o' : HO} {c : Cell} (h : SRel K m H μ) (hn : m[n]? = some a) (e : H a = some o) (ho : ∀ xs, o ≠ .tup xs) (hf : ∀ x u, o ≠ .frz x u) (hc : CellR K (upd H a o') c a) : SRel K m (upd H a o') (μ.set n c) := by
  have ha : a ∈ m := List.mem_of_getElem? hn
  have x : Ext m H m (upd H a o') := .put ha e ho hf
  refine ⟨h.nd, by simp [h.len], fun i c' b e1 e2 => ?_⟩
  by_cases hi : i = n
  · subst hi
    rw [hn] at e2; cases e2
    rw [List.getElem?_set_self (by have := (List.getElem?_eq_some_iff.mp hn).1; have := h.len; omega)] at e1
    cases e1
    exact hc
  · rw [List.getElem?_set_ne (Ne.symm hi)] at e1
    have nb : b ≠ a := by
      rintro rfl
      obtain ⟨h1, q1⟩ := List.getElem?_eq_some_iff.mp e2
      obtain ⟨h2, q2⟩ := List.getElem?_eq_some_iff.mp hn
      exact hi ((List.getElem_inj h.nd).mp (q1.trans q2.symm))
    have at' : ∀ u, H b = some u → upd H a o' b = some u := fun u q => by unfold upd; rw [if_neg nb]; exact q
    have z := h.cell i c' b e1 e2
    cases c' with
    | lst xs => obtain ⟨vs, e, r⟩ := z; exact ⟨vs, at' _ e, RelDs.tf x.tf _ _ r⟩
    | fz xs => obtain ⟨o, vs, e, r⟩ := z; exact ⟨o, vs, at' _ e, RelDs.tf x.tf _ _ r⟩
    | dct kvs => obtain ⟨es, e, k, r⟩ := z; exact ⟨es, at' _ e, k, RelDs.tf x.tf _ _ r⟩
    | fzd kvs => obtain ⟨o, es, e, k, r⟩ := z; exact ⟨o, es, at' _ e, k, RelDs.tf x.tf _ _ r⟩
end
def rdE (K : PySem.W.Frag) (f : FE) : TE := fun σ H Q => ∃ ρ μ m d μ', LRel K m H ρ σ ∧ SRel K m H μ ∧ f ρ μ = some (d, μ') ∧
  ∀ v H' m', Ext m H m' H' → SRel K m' H' μ' → RelR K m' H' d v → Q v H'
def rdT (K : PySem.W.Frag) (f : FT) : TT := fun σ H Q => ∃ ρ μ m b μ', LRel K m H ρ σ ∧ SRel K m H μ ∧ f ρ μ = some (b, μ') ∧
  ∀ H' m', Ext m H m' H' → SRel K m' H' μ' → Q b H'
def rdA (K : PySem.W.Frag) (f : FA) : TA := fun σ H Q => ∃ ρ μ m ds μ', LRel K m H ρ σ ∧ SRel K m H μ ∧ f ρ μ = some (ds, μ') ∧
  ∀ vs H' m', Ext m H m' H' → SRel K m' H' μ' → RelRs K m' H' ds vs → Q vs H'
def Ends.of (K : PySem.W.Frag) (m : List Addr) (H : Hp) (D : Ends) : Out → Prop
  | .nx ρ μ => ∀ σ H' m', Ext m H m' H' → SRel K m' H' μ → LRel K m' H' ρ σ → D.nx σ H'
  | .bk ρ μ => ∀ σ H' m', Ext m H m' H' → SRel K m' H' μ → LRel K m' H' ρ σ → D.bk σ H'
  | .ct ρ μ => ∀ σ H' m', Ext m H m' H' → SRel K m' H' μ → LRel K m' H' ρ σ → D.ct σ H'
  | .rt d μ => ∀ v H' m', Ext m H m' H' → SRel K m' H' μ → RelR K m' H' d v → D.rt v H'
def rdS (K : PySem.W.Frag) (f : FS) : TS := fun D σ H => ∃ ρ μ m out, LRel K m H ρ σ ∧ SRel K m H μ ∧ f ρ μ = some out ∧ Ends.of K m H D out
noncomputable def fVar (i : Nat) : FE := fun ρ μ => match ρ[i]? with | some (some d) => some (d, μ) | _ => none
noncomputable def fK (d : D) : FE := fun _ μ => some (.v d, μ)
noncomputable def fOp (g : R → R → Store → Option (R × Store)) (fa fb : FE) : FE := fun ρ μ => (fa ρ μ).bind fun a => (fb ρ a.2).bind fun b => g a.1 b.1 b.2
noncomputable def fUn (g : R → Store → Option (R × Store)) (fa : FE) : FE := fun ρ μ => (fa ρ μ).bind fun a => g a.1 a.2
def GOp (K : PySem.W.Frag) (g : R → R → Store → Option (R × Store)) (r : R2) : Prop :=
  ∀ m H μ x y d μ' v u Q, SRel K m H μ → RelR K m H x v → RelR K m H y u → g x y μ = some (d, μ') → (∀ w H' m', Ext m H m' H' → SRel K m' H' μ' → RelR K m' H' d w → Q w H') → r v u H Q
def GUn (K : PySem.W.Frag) (g : R → Store → Option (R × Store)) (r : V → Hp → VK → Prop) : Prop :=
  ∀ m H μ x d μ' v Q, SRel K m H μ → RelR K m H x v → g x μ = some (d, μ') → (∀ w H' m', Ext m H m' H' → SRel K m' H' μ' → RelR K m' H' d w → Q w H') → r v H Q
def GAr (K : PySem.W.Frag) (g : List R → Store → Option (R × Store)) (r : List V → Hp → VK → Prop) : Prop :=
  ∀ m H μ xs d μ' vs Q, SRel K m H μ → RelRs K m H xs vs → g xs μ = some (d, μ') → (∀ w H' m', Ext m H m' H' → SRel K m' H' μ' → RelR K m' H' d w → Q w H') → r vs H Q
noncomputable def fNil : FA := fun _ μ => some ([], μ)
noncomputable def fCons (fa : FE) (fr : FA) : FA := fun ρ μ => (fa ρ μ).bind fun a => (fr ρ a.2).bind fun r => some (a.1 :: r.1, r.2)
noncomputable def fAr (g : List R → Store → Option (R × Store)) (fa : FA) : FE := fun ρ μ => (fa ρ μ).bind fun a => g a.1 a.2
section
variable {K : PySem.W.Frag} {σ : St} {H : Hp} {Q : VK}
theorem rd_var {i : Nat} (h : rdE K (fVar i) σ H Q) : tVar i σ H Q := by
  obtain ⟨ρ, μ, m, d, μ', hl, hs, e, k⟩ := h
  unfold fVar at e
  split at e
  · rename_i d' q
    cases e
    obtain ⟨v, q1, q2⟩ := hl.2 i _ q
    exact ⟨v, q1, k v H m .refl hs q2⟩
  · cases e
theorem rd_const {d : D} {v : V} (hv : ∀ m H, RelR K m H (.v d) v) (h : rdE K (fK d) σ H Q) : tC v σ H Q := by
  obtain ⟨ρ, μ, m, d', μ', hl, hs, e, k⟩ := h
  cases e
  exact k v H m .refl hs (hv _ _)
theorem rd_op {g r fa fb} (hg : GOp K g r) (h : rdE K (fOp g fa fb) σ H Q) : tOp r (rdE K fa) (rdE K fb) σ H Q := by
  obtain ⟨ρ, μ, m, d, μ', hl, hs, e, k⟩ := h
  obtain ⟨⟨x, μ1⟩, e1, e⟩ := Option.bind_eq_some_iff.mp e
  obtain ⟨⟨y, μ2⟩, e2, e⟩ := Option.bind_eq_some_iff.mp e
  refine ⟨ρ, μ, m, x, μ1, hl, hs, e1, fun v H1 m1 x1 s1 r1 => ?_⟩
  refine ⟨ρ, μ1, m1, y, μ2, hl.ext x1, s1, e2, fun u H2 m2 x2 s2 r2 => ?_⟩
  exact hg m2 H2 μ2 x y d μ' v u Q s2 (r1.ext x2) r2 e fun w H3 m3 x3 s3 r3 => k w H3 m3 ((x1.trans x2).trans x3) s3 r3
theorem rd_un {g r fa} (hg : GUn K g r) (h : rdE K (fUn g fa) σ H Q) : tUn r (rdE K fa) σ H Q := by
  obtain ⟨ρ, μ, m, d, μ', hl, hs, e, k⟩ := h
  obtain ⟨⟨x, μ1⟩, e1, e⟩ := Option.bind_eq_some_iff.mp e
  refine ⟨ρ, μ, m, x, μ1, hl, hs, e1, fun v H1 m1 x1 s1 r1 => ?_⟩
  exact hg m1 H1 μ1 x d μ' v Q s1 r1 e fun w H3 m3 x3 s3 r3 => k w H3 m3 (x1.trans x3) s3 r3
theorem rd_nil {Q : List V → Hp → Prop} (h : rdA K fNil σ H Q) : tNil σ H Q := by
  obtain ⟨ρ, μ, m, ds, μ', hl, hs, e, k⟩ := h
  cases e
  exact k [] H m .refl hs rfl
theorem rd_cons {fa fr} {Q : List V → Hp → Prop} (h : rdA K (fCons fa fr) σ H Q) : tCons (rdE K fa) (rdA K fr) σ H Q := by
  obtain ⟨ρ, μ, m, ds, μ', hl, hs, e, k⟩ := h
  obtain ⟨⟨x, μ1⟩, e1, e⟩ := Option.bind_eq_some_iff.mp e
  obtain ⟨⟨xs, μ2⟩, e2, e⟩ := Option.bind_eq_some_iff.mp e
  cases e
  refine ⟨ρ, μ, m, x, μ1, hl, hs, e1, fun v H1 m1 x1 s1 r1 => ?_⟩
  refine ⟨ρ, μ1, m1, xs, μ2, hl.ext x1, s1, e2, fun vs H2 m2 x2 s2 r2 => ?_⟩
  exact k (v :: vs) H2 m2 (x1.trans x2) s2 ⟨v, vs, rfl, r1.ext x2, r2⟩
theorem rd_ar {g r fa} (hg : GAr K g r) (h : rdE K (fAr g fa) σ H Q) : tCB r (rdA K fa) σ H Q := by
  obtain ⟨ρ, μ, m, d, μ', hl, hs, e, k⟩ := h
  obtain ⟨⟨xs, μ1⟩, e1, e⟩ := Option.bind_eq_some_iff.mp e
  refine ⟨ρ, μ, m, xs, μ1, hl, hs, e1, fun vs H1 m1 x1 s1 r1 => ?_⟩
  exact hg m1 H1 μ1 xs d μ' vs Q s1 r1 e fun w H3 m3 x3 s3 r3 => k w H3 m3 (x1.trans x3) s3 r3
end
noncomputable def fB (fa : FE) : FT := fun ρ μ => (fa ρ μ).bind fun a => match a.1 with | .v (.bl b) => some (b, a.2) | _ => none
noncomputable def truD : R → Store → Option Bool
  | .v .non, _ => some false
  | .v (.bl b), _ => some b
  | .v (.int i), _ => some (i != 0)
  | .v (.str x), _ => if x.length ≤ sizeLine then some ((x.length : Int) != 0) else none
  | .v (.tup xs), _ => some (!xs.isEmpty)
  | .v (.fl xs), _ => some (!xs.isEmpty)
  | .v (.fd _ _), _ => none
  | .s _ _, _ => none
  | .x _, _ => none
  | .p n, μ => match μ[n]? with | some (.lst xs) => some (!xs.isEmpty) | some (.fz xs) => some (!xs.isEmpty) | some (.dct kvs) => some (!kvs.isEmpty) | _ => none
noncomputable def fTru (fa : FE) : FT := fun ρ μ => (fa ρ μ).bind fun a => (truD a.1 a.2).bind fun b => some (b, a.2)
noncomputable def tAndF (t u : FT) : FT := fun ρ μ => (t ρ μ).bind fun c => if c.1 = true then u ρ c.2 else some (false, c.2)
noncomputable def tOrF (t u : FT) : FT := fun ρ μ => (t ρ μ).bind fun c => if c.1 = true then some (true, c.2) else u ρ c.2
noncomputable def tNotF (t : FT) : FT := fun ρ μ => (t ρ μ).bind fun c => some (!c.1, c.2)
noncomputable def fAnd (fa fb : FE) : FE := fun ρ μ => (fa ρ μ).bind fun a => match a.1 with | .v (.bl c) => if c = true then fb ρ a.2 else some (.v (.bl false), a.2) | _ => none
noncomputable def fNot (fa : FE) : FE := fun ρ μ => (fa ρ μ).bind fun a => match a.1 with | .v (.bl c) => some (.v (.bl (!c)), a.2) | _ => none
noncomputable def fIf (t : FT) (fa fb : FE) : FE := fun ρ μ => (t ρ μ).bind fun c => if c.1 = true then fa ρ c.2 else fb ρ c.2
theorem RelDs.length {K : PySem.W.Frag} {H : Hp} : ∀ {ds : List D} {vs : List V}, RelDs K H ds vs → ds.length = vs.length
  | [], _, h => by simp only [RelDs] at h; subst h; rfl
  | _ :: _, _, h => by
    simp only [RelDs] at h
    obtain ⟨v, r, rfl, _, h2⟩ := h
    simp [RelDs.length h2]
theorem RelDs.empty {K : PySem.W.Frag} {H : Hp} {ds : List D} {vs : List V} (h : RelDs K H ds vs) : ds.isEmpty = vs.isEmpty := by
  have := h.length
  cases ds <;> cases vs <;> simp_all
section
variable {K : PySem.W.Frag} {σ : St} {H : Hp} {Q : VK} {B : Bool → Hp → Prop}
theorem rd_B {fa} (h : rdT K (fB fa) σ H B) : tB (rdE K fa) σ H B := by
  obtain ⟨ρ, μ, m, d, μ', hl, hs, e, k⟩ := h
  obtain ⟨⟨x, μ1⟩, e1, e⟩ := Option.bind_eq_some_iff.mp e
  split at e
  · rename_i b q
    cases e
    subst q
    exact ⟨ρ, μ, m, _, μ1, hl, hs, e1, fun v H1 m1 x1 s1 r1 => ⟨_, by simpa only [RelR, RelD] using r1, k H1 m1 x1 s1⟩⟩
  · cases e
theorem rd_Test {fa} (h : rdT K (fB fa) σ H B) : tTest (rdE K fa) σ H B := rd_B h
theorem tru_ok {m : List Addr} {μ : Store} {x : R} {b : Bool} {v : V} (s : SRel K m H μ) (r : RelR K m H x v) (e : truD x μ = some b) : TruV K v H b := by
  cases x with
  | v d =>
    cases d with
    | non => cases e; cases r; rfl
    | bl c => cases e; simp only [RelR, RelD] at r; subst r; rfl
    | int i => cases e; simp only [RelR, RelD] at r; subst r; rfl
    | str x =>
      simp only [RelR, RelD] at r
      subst r
      simp only [truD] at e
      split at e
      · rename_i z; cases e; exact ⟨z, rfl⟩
      · cases e
    | tup xs =>
      cases e
      simp only [RelR, RelD] at r
      obtain ⟨a, vs, rfl, q, r⟩ := r
      exact .inr (.inl ⟨vs, q, by rw [r.empty]⟩)
    | fl xs =>
      cases e
      simp only [RelR, RelD] at r
      obtain ⟨a, vs, rfl, q, r⟩ := r
      exact .inl ⟨vs, q.sq, by rw [r.empty]⟩
    | fd ks ds => cases e
  | s b xs => cases e
  | x _ => cases e
  | p n =>
    obtain ⟨a, rfl, ha⟩ := r
    simp only [truD] at e
    split at e
    · rename_i xs q
      cases e
      obtain ⟨vs, e, r⟩ := s.cell n _ a q ha
      exact .inl ⟨vs, .inl (.inl e), by rw [r.empty]⟩
    · rename_i xs q
      cases e
      obtain ⟨o, vs, e, r⟩ := s.cell n _ a q ha
      exact .inl ⟨vs, .inl (.inr ⟨o, e⟩), by rw [r.empty]⟩
    · rename_i kvs q
      cases e
      obtain ⟨es, e, k, r⟩ := s.cell n _ a q ha
      refine .inr (.inr ⟨es, e, ?_⟩)
      have := congrArg List.length k
      cases es <;> cases kvs <;> simp_all
    · cases e
theorem rd_tru {fa} (h : rdT K (fTru fa) σ H B) : (fun σ H (Q : Bool → Hp → Prop) => rdE K fa σ H fun x H1 => ∃ k, TruV K x H1 k ∧ Q k H1) σ H B := by
  obtain ⟨ρ, μ, m, d, μ', hl, hs, e, k⟩ := h
  obtain ⟨⟨x, μ1⟩, e1, e⟩ := Option.bind_eq_some_iff.mp e
  obtain ⟨b, e2, e⟩ := Option.bind_eq_some_iff.mp e
  cases e
  exact ⟨ρ, μ, m, x, _, hl, hs, e1, fun v H1 m1 x1 s1 r1 => ⟨_, tru_ok s1 r1 e2, k H1 m1 x1 s1⟩⟩
theorem rd_tand {t u} (h : rdT K (tAndF t u) σ H B) : tAnd (rdT K t) (rdT K u) σ H B := by
  obtain ⟨ρ, μ, m, d, μ', hl, hs, e, k⟩ := h
  obtain ⟨⟨c, μ1⟩, e1, e⟩ := Option.bind_eq_some_iff.mp e
  refine ⟨ρ, μ, m, c, μ1, hl, hs, e1, fun H1 m1 x1 s1 => ?_⟩
  cases c with
  | true => exact ⟨ρ, μ1, m1, d, μ', hl.ext x1, s1, e, fun H2 m2 x2 s2 => k H2 m2 (x1.trans x2) s2⟩
  | false => cases e; exact k H1 m1 x1 s1
theorem rd_tor {t u} (h : rdT K (tOrF t u) σ H B) : tOr (rdT K t) (rdT K u) σ H B := by
  obtain ⟨ρ, μ, m, d, μ', hl, hs, e, k⟩ := h
  obtain ⟨⟨c, μ1⟩, e1, e⟩ := Option.bind_eq_some_iff.mp e
  refine ⟨ρ, μ, m, c, μ1, hl, hs, e1, fun H1 m1 x1 s1 => ?_⟩
  cases c with
  | false => exact ⟨ρ, μ1, m1, d, μ', hl.ext x1, s1, e, fun H2 m2 x2 s2 => k H2 m2 (x1.trans x2) s2⟩
  | true => cases e; exact k H1 m1 x1 s1
theorem rd_tnot {t} (h : rdT K (tNotF t) σ H B) : tNot (rdT K t) σ H B := by
  obtain ⟨ρ, μ, m, d, μ', hl, hs, e, k⟩ := h
  obtain ⟨⟨c, μ1⟩, e1, e⟩ := Option.bind_eq_some_iff.mp e
  cases e
  exact ⟨ρ, μ, m, c, μ1, hl, hs, e1, fun H1 m1 x1 s1 => k H1 m1 x1 s1⟩
theorem rd_and {fa fb} (h : rdE K (fAnd fa fb) σ H Q) : tAndV (rdE K fa) (rdE K fb) σ H Q := by
  obtain ⟨ρ, μ, m, d, μ', hl, hs, e, k⟩ := h
  obtain ⟨⟨x, μ1⟩, e1, e⟩ := Option.bind_eq_some_iff.mp e
  split at e
  · rename_i c q
    subst q
    refine ⟨ρ, μ, m, _, μ1, hl, hs, e1, fun v H1 m1 x1 s1 r1 => ⟨c, by simpa only [RelR, RelD] using r1, ?_⟩⟩
    cases c with
    | true => exact ⟨ρ, μ1, m1, d, μ', hl.ext x1, s1, e, fun w H2 m2 x2 s2 r2 => k w H2 m2 (x1.trans x2) s2 r2⟩
    | false => cases e; exact k _ H1 m1 x1 s1 (by simp only [RelR, RelD])
  · cases e
theorem rd_not {fa} (h : rdE K (fNot fa) σ H Q) : tNotV (rdE K fa) σ H Q := by
  obtain ⟨ρ, μ, m, d, μ', hl, hs, e, k⟩ := h
  obtain ⟨⟨x, μ1⟩, e1, e⟩ := Option.bind_eq_some_iff.mp e
  split at e
  · rename_i c q
    cases e
    subst q
    exact ⟨ρ, μ, m, _, μ1, hl, hs, e1, fun v H1 m1 x1 s1 r1 => ⟨c, by simpa only [RelR, RelD] using r1, k _ H1 m1 x1 s1 (by simp only [RelR, RelD])⟩⟩
  · cases e
theorem rd_if {t fa fb} (h : rdE K (fIf t fa fb) σ H Q) : tIf (rdT K t) (rdE K fa) (rdE K fb) σ H Q := by
  obtain ⟨ρ, μ, m, d, μ', hl, hs, e, k⟩ := h
  obtain ⟨⟨c, μ1⟩, e1, e⟩ := Option.bind_eq_some_iff.mp e
  refine ⟨ρ, μ, m, c, μ1, hl, hs, e1, fun H1 m1 x1 s1 => ?_⟩
  cases c with
  | true => exact ⟨ρ, μ1, m1, d, μ', hl.ext x1, s1, e, fun w H2 m2 x2 s2 r2 => k w H2 m2 (x1.trans x2) s2 r2⟩
  | false => exact ⟨ρ, μ1, m1, d, μ', hl.ext x1, s1, e, fun w H2 m2 x2 s2 r2 => k w H2 m2 (x1.trans x2) s2 r2⟩
end
noncomputable def vals : List R → Option (List D)
  | [] => some []
  | .v d :: r => (vals r).bind fun ds => some (d :: ds)
  | .p _ :: _ => none
  | .s _ _ :: _ => none
  | .x _ :: _ => none
theorem vals_rel {K : PySem.W.Frag} {m : List Addr} {H : Hp} : ∀ {rs : List R} {ds : List D} {vs : List V}, vals rs = some ds → RelRs K m H rs vs → RelDs K H ds vs
  | [], _, _, e, h => by cases e; simp only [RelDs]; exact h
  | .v d :: r, _, _, e, ⟨v, vs, rfl, h1, h2⟩ => by
    obtain ⟨ds, e1, e⟩ := Option.bind_eq_some_iff.mp e
    cases e
    simp only [RelDs]
    exact ⟨v, vs, rfl, h1, vals_rel e1 h2⟩
  | .p _ :: _, _, _, e, _ => by cases e
  | .s _ _ :: _, _, _, e, _ => by cases e
  | .x _ :: _, _, _, e, _ => by cases e
noncomputable def fTup (fa : FA) : FE := fun ρ μ => (fa ρ μ).bind fun a => (vals a.1).bind fun ds => if ds.length ≤ sizeLine then some (.v (.tup ds), a.2) else none
noncomputable def fLst (fa : FA) : FE := fun ρ μ => (fa ρ μ).bind fun a => (vals a.1).bind fun ds => if ds.length ≤ sizeLine then some (.p a.2.length, a.2 ++ [.lst ds]) else none
section
variable {K : PySem.W.Frag} {m : List Addr} {σ : St} {H : Hp} {Q : VK} {μ : Store}
theorem new_tup {ds : List D} {vs : List V} {p : Addr} (s : SRel K m H μ) (r : RelDs K H ds vs) (hp : H p = none) : Ext m H m (upd H p (.tup vs)) ∧ SRel K m (upd H p (.tup vs)) μ ∧ RelR K m (upd H p (.tup vs)) (.v (.tup ds)) (.ref p) := by
  refine ⟨.new hp, s.same (upd_keeps hp), ?_⟩
  simp only [RelR, RelD]
  exact ⟨p, vs, rfl, .inl (.inl upd_at), RelDs.tf (.of (upd_keeps hp)) _ _ r⟩
theorem new_lst {ds : List D} {vs : List V} {p : Addr} (s : SRel K m H μ) (r : RelDs K H ds vs) (hp : H p = none) : Ext m H (m ++ [p]) (upd H p (.lst vs)) ∧ SRel K (m ++ [p]) (upd H p (.lst vs)) (μ ++ [.lst ds]) ∧ RelR K (m ++ [p]) (upd H p (.lst vs)) (.p μ.length) (.ref p) := by
  refine ⟨.newH hp, s.newH hp ⟨vs, upd_at, RelDs.tf (.of (upd_keeps hp)) _ _ r⟩, p, rfl, ?_⟩
  rw [← s.len]; simp
theorem rd_tup {fa} (h : rdE K (fTup fa) σ H Q) : tTup (rdA K fa) σ H Q := by
  obtain ⟨ρ, μ, m, d, μ', hl, hs, e, k⟩ := h
  obtain ⟨⟨xs, μ1⟩, e1, e⟩ := Option.bind_eq_some_iff.mp e
  obtain ⟨ds, e2, e⟩ := Option.bind_eq_some_iff.mp e
  split at e
  · rename_i z
    cases e
    refine ⟨ρ, μ, m, xs, _, hl, hs, e1, fun vs H1 m1 x1 s1 r1 => ?_⟩
    have r2 := vals_rel e2 r1
    refine ⟨by rw [← r2.length]; exact z, fun p hp => ?_⟩
    obtain ⟨a, b, c⟩ := new_tup s1 r2 hp
    exact k _ _ _ (x1.trans a) b c
  · cases e
theorem rd_lst {fa} (h : rdE K (fLst fa) σ H Q) : tLst (rdA K fa) σ H Q := by
  obtain ⟨ρ, μ, m, d, μ', hl, hs, e, k⟩ := h
  obtain ⟨⟨xs, μ1⟩, e1, e⟩ := Option.bind_eq_some_iff.mp e
  obtain ⟨ds, e2, e⟩ := Option.bind_eq_some_iff.mp e
  split at e
  · rename_i z
    cases e
    refine ⟨ρ, μ, m, xs, _, hl, hs, e1, fun vs H1 m1 x1 s1 r1 => ?_⟩
    have r2 := vals_rel e2 r1
    refine ⟨by rw [← r2.length]; exact z, fun p hp => ?_⟩
    obtain ⟨a, b, c⟩ := new_lst s1 r2 hp
    exact k _ _ _ (x1.trans a) b c
  · cases e
end
noncomputable def sNext : FS := fun ρ μ => some (.nx ρ μ)
noncomputable def sSeq (a b : FS) : FS := fun ρ μ => (a ρ μ).bind fun o => match o with | .nx ρ' μ' => b ρ' μ' | o => some o
noncomputable def sDrop (f : FE) : FS := fun ρ μ => (f ρ μ).bind fun a => some (.nx ρ a.2)
noncomputable def sRet (f : FE) : FS := fun ρ μ => (f ρ μ).bind fun a => some (.rt a.1 a.2)
noncomputable def sIf (t : FT) (a b : FS) : FS := fun ρ μ => (t ρ μ).bind fun c => if c.1 = true then a ρ c.2 else b ρ c.2
noncomputable def sSet (i : Nat) (f : FE) : FS := fun ρ μ => (f ρ μ).bind fun a => some (.nx (ρ.set i (some a.1)) a.2)
section
variable {K : PySem.W.Frag} {m m' m1 : List Addr} {σ : St} {H H' H1 : Hp} {D : Ends} {μ : Store} {ρ : Lo}
theorem Ends.of_ext {o : Out} (x : Ext m H m1 H1) (h : Ends.of K m H D o) : Ends.of K m1 H1 D o := by
  cases o with
  | nx ρ μ => exact fun σ H' m' y => h σ H' m' (x.trans y)
  | bk ρ μ => exact fun σ H' m' y => h σ H' m' (x.trans y)
  | ct ρ μ => exact fun σ H' m' y => h σ H' m' (x.trans y)
  | rt d μ => exact fun σ H' m' y => h σ H' m' (x.trans y)
theorem LRel.set {d : R} {v : V} (h : LRel K m H ρ σ) (r : RelR K m H d v) (i : Nat) : LRel K m H (ρ.set i (some d)) (σ.set i (some v)) := by
  refine ⟨by simp [h.1], fun j d' e => ?_⟩
  by_cases hj : j = i
  · subst hj
    by_cases hi : j < ρ.length
    · rw [List.getElem?_set_self hi] at e
      cases e
      exact ⟨v, List.getElem?_set_self (by rw [← h.1]; exact hi), r⟩
    · rw [List.getElem?_eq_none (by simp; omega)] at e
      cases e
  · rw [List.getElem?_set_ne (Ne.symm hj)] at e
    obtain ⟨u, q1, q2⟩ := h.2 j d' e
    exact ⟨u, by rw [List.getElem?_set_ne (Ne.symm hj)]; exact q1, q2⟩
theorem rd_next (h : rdS K sNext D σ H) : tNext D σ H := by
  obtain ⟨ρ, μ, m, o, hl, hs, e, k⟩ := h
  cases e
  exact k σ H m .refl hs hl
theorem rd_seq {a b} (h : rdS K (sSeq a b) D σ H) : tSeq (rdS K a) (rdS K b) D σ H := by
  obtain ⟨ρ, μ, m, o, hl, hs, e, k⟩ := h
  obtain ⟨o1, e1, e⟩ := Option.bind_eq_some_iff.mp e
  refine ⟨ρ, μ, m, o1, hl, hs, e1, ?_⟩
  cases o1 with
  | nx ρ1 μ1 => exact fun σ1 H1 m1 x1 s1 l1 => ⟨ρ1, μ1, m1, o, l1, s1, e, Ends.of_ext x1 k⟩
  | bk ρ1 μ1 => cases e; exact k
  | ct ρ1 μ1 => cases e; exact k
  | rt d μ1 => cases e; exact k
theorem rd_drop {f} (h : rdS K (sDrop f) D σ H) : tDrop (rdE K f) D σ H := by
  obtain ⟨ρ, μ, m, o, hl, hs, e, k⟩ := h
  obtain ⟨⟨x, μ1⟩, e1, e⟩ := Option.bind_eq_some_iff.mp e
  cases e
  exact ⟨ρ, μ, m, x, μ1, hl, hs, e1, fun v H1 m1 x1 s1 r1 => k σ H1 m1 x1 s1 (hl.ext x1)⟩
theorem rd_ret {f} (h : rdS K (sRet f) D σ H) : tRet (rdE K f) D σ H := by
  obtain ⟨ρ, μ, m, o, hl, hs, e, k⟩ := h
  obtain ⟨⟨x, μ1⟩, e1, e⟩ := Option.bind_eq_some_iff.mp e
  cases e
  exact ⟨ρ, μ, m, x, μ1, hl, hs, e1, k⟩
theorem rd_ifS {t a b} (h : rdS K (sIf t a b) D σ H) : tIfS (rdT K t) (rdS K a) (rdS K b) D σ H := by
  obtain ⟨ρ, μ, m, o, hl, hs, e, k⟩ := h
  obtain ⟨⟨c, μ1⟩, e1, e⟩ := Option.bind_eq_some_iff.mp e
  refine ⟨ρ, μ, m, c, μ1, hl, hs, e1, fun H1 m1 x1 s1 => ?_⟩
  cases c with
  | true => exact ⟨ρ, μ1, m1, o, hl.ext x1, s1, e, Ends.of_ext x1 k⟩
  | false => exact ⟨ρ, μ1, m1, o, hl.ext x1, s1, e, Ends.of_ext x1 k⟩
theorem rd_set {i f} (h : rdS K (sSet i f) D σ H) : tAsg (rdE K f) (gName i) D σ H := by
  obtain ⟨ρ, μ, m, o, hl, hs, e, k⟩ := h
  obtain ⟨⟨x, μ1⟩, e1, e⟩ := Option.bind_eq_some_iff.mp e
  cases e
  exact ⟨ρ, μ, m, x, μ1, hl, hs, e1, fun v H1 m1 x1 s1 r1 => k _ H1 m1 x1 s1 ((hl.ext x1).set r1 i)⟩
end
noncomputable abbrev FG := R → Lo → Store → Option (Lo × Store)
def rdG (K : PySem.W.Frag) (g : FG) : TG := fun v σ H Q => ∃ ρ μ m d ρ' μ', LRel K m H ρ σ ∧ SRel K m H μ ∧ RelR K m H d v ∧ g d ρ μ = some (ρ', μ') ∧
  ∀ σ' H' m', Ext m H m' H' → SRel K m' H' μ' → LRel K m' H' ρ' σ' → Q σ' H'
noncomputable abbrev FGs := List R → Lo → Store → Option (Lo × Store)
noncomputable def gNm (i : Nat) : FG := fun d ρ μ => some (ρ.set i (some d), μ)
section
variable {K : PySem.W.Frag} {m m' m1 : List Addr} {σ : St} {H H' H1 : Hp} {D : Ends} {μ : Store} {ρ : Lo} {v : V} {Q : St → Hp → Prop}
theorem rd_gNm {i} (h : rdG K (gNm i) v σ H Q) : gName i v σ H Q := by
  obtain ⟨ρ, μ, m, d, ρ', μ', hl, hs, r, e, k⟩ := h
  cases e
  exact k _ H m .refl hs (hl.set r i)
end
def FzOk : HO → Prop
  | .lst _ => True
  | .set _ _ => True
  | .dK _ => True
  | _ => False
def tFz (t : TE) : TE := fun σ H Q => t σ H fun v H1 => Q v H1 ∨ ∃ a u, H1 a = some u ∧ FzOk u ∧ ∀ o, Q v (upd H1 a (.frz o u))
noncomputable def fzD : R → Store → Option (D × Store)
  | .v d, μ => some (d, μ)
  | .s _ _, _ => none
  | .x _, _ => none
  | .p n, μ => match μ[n]? with | some (.lst xs) => some (.fl xs, μ.set n (.fz xs)) | some (.fz xs) => some (.fl xs, μ) | some (.dct kvs) => some (.fd (kvs.map (·.1)) (kvs.map (·.2)), μ.set n (.fzd kvs)) | some (.fzd kvs) => some (.fd (kvs.map (·.1)) (kvs.map (·.2)), μ) | none => none
noncomputable def fFz (f : FE) : FE := fun ρ μ => (f ρ μ).bind fun a => (fzD a.1 a.2).bind fun b => some (.v b.1, b.2)
section
variable {K : PySem.W.Frag} {m : List Addr} {σ : St} {H : Hp} {μ : Store} {Q : VK}
theorem fz_ok {x : R} {d : D} {μ' : Store} {v : V} {B : Hp → Prop} (hs : SRel K m H μ) (r : RelR K m H x v) (e : fzD x μ = some (d, μ'))
    (k : ∀ H', Ext m H m H' → SRel K m H' μ' → RelD K H' d v → B H') : B H ∨ ∃ a u, H a = some u ∧ FzOk u ∧ ∀ o, B (upd H a (.frz o u)) := by
  cases x with
  | v d' => cases e; exact .inl (k H .refl hs r)
  | s b xs => cases e
  | x _ => cases e
  | p n =>
    obtain ⟨a, rfl, ha⟩ := r
    simp only [fzD] at e
    split at e
    · rename_i xs q
      cases e
      obtain ⟨vs, ea, rr⟩ := hs.cell n _ a q ha
      refine .inr ⟨a, _, ea, trivial, fun o => ?_⟩
      have x : Ext m H m (upd H a (.frz o (.lst vs))) := .put (List.mem_of_getElem? ha) ea (by simp) (by simp)
      refine k _ x (hs.put ha ea (by simp) (by simp) ⟨o, vs, upd_at, RelDs.tf x.tf _ _ rr⟩) ?_
      simp only [RelD]
      exact ⟨a, vs, rfl, .inl ⟨o, upd_at⟩, RelDs.tf x.tf _ _ rr⟩
    · rename_i xs q
      cases e
      obtain ⟨o, vs, ea, rr⟩ := hs.cell n _ a q ha
      refine .inl (k H .refl hs ?_)
      simp only [RelD]
      exact ⟨a, vs, rfl, .inl ⟨o, ea⟩, rr⟩
    · rename_i kvs q
      cases e
      obtain ⟨es, ea, ke, rr⟩ := hs.cell n _ a q ha
      refine .inr ⟨a, _, ea, trivial, fun o => ?_⟩
      have x : Ext m H m (upd H a (.frz o (.dK es))) := .put (List.mem_of_getElem? ha) ea (by simp) (by simp)
      refine k _ x (hs.put ha ea (by simp) (by simp) ⟨o, es, upd_at, ke, RelDs.tf x.tf _ _ rr⟩) ?_
      simp only [RelD]
      exact ⟨a, o, es, rfl, upd_at, ke, RelDs.tf x.tf _ _ rr⟩
    · rename_i kvs q
      cases e
      obtain ⟨o, es, ea, ke, rr⟩ := hs.cell n _ a q ha
      refine .inl (k H .refl hs ?_)
      simp only [RelD]
      exact ⟨a, o, es, rfl, ea, ke, rr⟩
    · cases e
theorem rd_fz {f} (h : rdE K (fFz f) σ H Q) : tFz (rdE K f) σ H Q := by
  obtain ⟨ρ, μ, m, d, μ', hl, hs, e, k⟩ := h
  obtain ⟨⟨x, μ1⟩, e1, e⟩ := Option.bind_eq_some_iff.mp e
  obtain ⟨⟨d1, μ2⟩, e2, e⟩ := Option.bind_eq_some_iff.mp e
  cases e
  refine ⟨ρ, μ, m, x, μ1, hl, hs, e1, fun v H1 m1 x1 s1 r1 => ?_⟩
  exact fz_ok (B := fun H' => Q v H') s1 r1 e2 fun H' y s2 r2 => k v H' m1 (x1.trans y) s2 r2
end
noncomputable abbrev FI := Lo → Store → Option (List D × Store)
structure ItOk (K : PySem.W.Frag) (J : It) (xs : List D) (P : Hp → Prop) : Prop where
  st : ∀ H H', TF H H' → P H → P H'
  stop : ∀ i H, P H → xs.length ≤ i → J.stop i H
  go : ∀ (i : Nat) d H, xs[i]? = some d → P H → J.go i H
  yld : ∀ (i : Nat) d H x H', xs[i]? = some d → P H → J.yld i H x H' → H' = H ∧ RelD K H d x
def rdI (K : PySem.W.Frag) (f : FI) : TI := fun σ H R => ∃ ρ μ m xs μ', LRel K m H ρ σ ∧ SRel K m H μ ∧ f ρ μ = some (xs, μ') ∧
  ∀ J P H' m', Ext m H m' H' → SRel K m' H' μ' → ItOk K J xs P → P H' → R J H'
noncomputable def loop (g : FG) (b : FS) : List D → Lo → Store → Option Out
  | [], ρ, μ => some (.nx ρ μ)
  | x :: xs, ρ, μ => (g (.v x) ρ μ).bind fun a => (b a.1 a.2).bind fun o => match o with
    | .nx ρ' μ' => loop g b xs ρ' μ'
    | .ct ρ' μ' => loop g b xs ρ' μ'
    | .bk ρ' μ' => some (.nx ρ' μ')
    | .rt d μ' => some (.rt d μ')
noncomputable def sFor (i : FI) (g : FG) (b : FS) : FS := fun ρ μ => (i ρ μ).bind fun a => loop g b a.1 ρ a.2
section
variable {K : PySem.W.Frag} {m : List Addr} {σ : St} {H : Hp} {μ : Store} {D : Ends}
theorem rd_for {fi g b} (h : rdS K (sFor fi g b) D σ H) : tFor (rdI K fi) (rdG K g) (rdS K b) D σ H := by
  obtain ⟨ρ, μ, m, o, hl, hs, e, k⟩ := h
  obtain ⟨⟨xs, μ1⟩, e1, e⟩ := Option.bind_eq_some_iff.mp e
  refine ⟨ρ, μ, m, xs, μ1, hl, hs, e1, fun J P H1 m1 x1 s1 ok p1 => ?_⟩
  refine ⟨fun i n σ H => n = xs.length - i ∧ i ≤ xs.length ∧ P H ∧ ∃ ρ μ m, LRel K m H ρ σ ∧ SRel K m H μ ∧ loop g b (xs.drop i) ρ μ = some o ∧ Ends.of K m H D o,
    ⟨_, rfl, Nat.zero_le _, p1, ρ, μ1, m1, hl.ext x1, s1, by simpa using e, Ends.of_ext x1 k⟩, ?_⟩
  rintro i n σ H ⟨rfl, hi, p, ρ, μ, m, hl, hs, e, k⟩
  by_cases hlt : i < xs.length
  · have hx : xs[i]? = some xs[i] := List.getElem?_eq_getElem hlt
    rw [List.drop_eq_getElem_cons hlt, loop] at e
    obtain ⟨⟨ρ1, μ1⟩, e1, e⟩ := Option.bind_eq_some_iff.mp e
    obtain ⟨o1, e2, e⟩ := Option.bind_eq_some_iff.mp e
    refine .inr ⟨ok.go i _ H hx p, fun σ H => i + 1 ≤ xs.length ∧ P H ∧ ∃ ρ μ m, LRel K m H ρ σ ∧ SRel K m H μ ∧ loop g b (xs.drop (i + 1)) ρ μ = some o ∧ Ends.of K m H D o,
      fun σ' H' z => ⟨xs.length - (i + 1), by omega, rfl, z⟩, fun x H' y => ?_⟩
    obtain ⟨rfl, rx⟩ := ok.yld i _ H x H' hx p y
    refine ⟨ρ, μ, m, .v xs[i], ρ1, μ1, hl, hs, rx, e1, fun σ1 H1 m1 x1 s1 l1 => ?_⟩
    refine ⟨ρ1, μ1, m1, o1, l1, s1, e2, ?_⟩
    cases o1 with
    | nx ρ2 μ2 => exact fun σ2 H2 m2 x2 s2 l2 => ⟨hlt, ok.st _ _ (x1.trans x2).tf p, ρ2, μ2, m2, l2, s2, e, Ends.of_ext (x1.trans x2) k⟩
    | ct ρ2 μ2 => exact fun σ2 H2 m2 x2 s2 l2 => ⟨hlt, ok.st _ _ (x1.trans x2).tf p, ρ2, μ2, m2, l2, s2, e, Ends.of_ext (x1.trans x2) k⟩
    | bk ρ2 μ2 => cases e; exact fun σ2 H2 m2 x2 s2 l2 => k σ2 H2 m2 (x1.trans x2) s2 l2
    | rt d μ2 => cases e; exact fun v H2 m2 x2 s2 l2 => k v H2 m2 (x1.trans x2) s2 l2
  · have : i = xs.length := by omega
    subst this
    rw [List.drop_length, loop] at e
    cases e
    exact .inl ⟨ok.stop _ H p (Nat.le_refl _), k σ H m .refl hs hl⟩
end
noncomputable def fiSeq (f : FE) : FI := fun ρ μ => (fFz f ρ μ).bind fun a => match a.1 with | .v (.fl xs) => some (xs, a.2) | .v (.tup xs) => some (xs, a.2) | _ => none
def iSeq (K : PySem.W.Frag) (tl : TE) : TI := fun σ H R => tl σ H fun x H1 => ∃ a, x = .ref a ∧ (((∃ xs, SqL K H1 a xs) ∧ R (Itl K a) H1) ∨ ((∃ xs, SqT K H1 a xs) ∧ R (Itt K a) H1))
noncomputable def fiR1 (f : FE) : FI := fun ρ μ => (f ρ μ).bind fun a => match a.1 with | .v (.int j) => if -(2 ^ 62) ≤ j ∧ j < 2 ^ 62 then some ((List.range j.toNat).map fun i => .int (i : Nat), a.2) else none | _ => none
section
variable {K : PySem.W.Frag} {m : List Addr} {σ : St} {H : Hp} {μ : Store} {R : It → Hp → Prop}
theorem RelDs.get : ∀ {ds : List D} {vs : List V} {i : Nat} {d : D}, RelDs K H ds vs → ds[i]? = some d → ∃ v, vs[i]? = some v ∧ RelD K H d v
  | [], _, _, _, _, e => by simp at e
  | x :: xs, vs, 0, d, h, e => by
    simp only [RelDs] at h
    obtain ⟨v, r, rfl, h1, h2⟩ := h
    simp at e; subst e
    exact ⟨v, rfl, h1⟩
  | x :: xs, vs, i + 1, d, h, e => by
    simp only [RelDs] at h
    obtain ⟨v, r, rfl, h1, h2⟩ := h
    obtain ⟨u, q1, q2⟩ := RelDs.get (i := i) h2 (by simpa using e)
    exact ⟨u, by simpa using q1, q2⟩
theorem itl_ok {a vs xs} (r0 : RelDs K H xs vs) : ItOk K (Itl K a) xs (fun H => FAt K H a vs ∧ RelDs K H xs vs) where
  st := fun H H' t ⟨f, r⟩ => ⟨f.tf t, RelDs.tf t _ _ r⟩
  stop := fun i H ⟨f, r⟩ hi => ⟨vs, f.sq, by rw [← r.length]; exact hi⟩
  go := fun i d H e ⟨f, r⟩ => let ⟨v, q, _⟩ := r.get e; ⟨vs, v, f.sq, q⟩
  yld := fun i d H x H' e ⟨f, r⟩ ⟨e1, e2⟩ => by
    obtain ⟨v, q, rv⟩ := r.get e
    have := e2 vs f.sq
    rw [q] at this; cases this
    exact ⟨e1, rv⟩
theorem itt_ok {a vs xs} (r0 : RelDs K H xs vs) : ItOk K (Itt K a) xs (fun H => SqT K H a vs ∧ RelDs K H xs vs) where
  st := fun H H' t ⟨f, r⟩ => ⟨SqT.tf t f, RelDs.tf t _ _ r⟩
  stop := fun i H ⟨f, r⟩ hi => ⟨vs, f, by rw [← r.length]; exact hi⟩
  go := fun i d H e ⟨f, r⟩ => let ⟨v, q, _⟩ := r.get e; ⟨vs, v, f, q⟩
  yld := fun i d H x H' e ⟨f, r⟩ ⟨e1, e2⟩ => by
    obtain ⟨v, q, rv⟩ := r.get e
    have := e2 vs f
    rw [q] at this; cases this
    exact ⟨e1, rv⟩
theorem itr_ok (lo : Int) (n : Nat) : ItOk K (Itr lo n) ((List.range n).map fun k => .int (lo + (k : Nat))) (fun _ => True) where
  st := fun _ _ _ _ => trivial
  stop := fun i H _ hi => by show n ≤ i; simpa using hi
  go := fun i d H e _ => by
    have := (List.getElem?_eq_some_iff.mp e).1
    show i < n; simpa using this
  yld := fun i d H x H' e _ ⟨e1, e2⟩ => by
    have hi := (List.getElem?_eq_some_iff.mp e).1
    have hi' : i < n := by simpa using hi
    refine ⟨e1, ?_⟩
    simp [hi'] at e
    subst e e2
    simp only [RelD]
theorem rd_iSeq {f} (h : rdI K (fiSeq f) σ H R) : iSeq K (tFz (rdE K f)) σ H R := by
  obtain ⟨ρ, μ, m, xs, μ', hl, hs, e, k⟩ := h
  obtain ⟨⟨x, μ1⟩, e1, e⟩ := Option.bind_eq_some_iff.mp e
  refine rd_fz ⟨ρ, μ, m, x, μ1, hl, hs, e1, fun v H1 m1 x1 s1 r1 => ?_⟩
  split at e
  · rename_i ys q
    cases e
    simp only at q
    subst q
    simp only [RelR, RelD] at r1
    obtain ⟨a, vs, rfl, f, r⟩ := r1
    exact ⟨a, rfl, .inl ⟨⟨vs, f.sq⟩, k _ _ H1 m1 x1 s1 (itl_ok r) ⟨f, r⟩⟩⟩
  · rename_i ys q
    cases e
    simp only at q
    subst q
    simp only [RelR, RelD] at r1
    obtain ⟨a, vs, rfl, f, r⟩ := r1
    exact ⟨a, rfl, .inr ⟨⟨vs, f⟩, k _ _ H1 m1 x1 s1 (itt_ok r) ⟨f, r⟩⟩⟩
  · cases e
theorem rd_iR1 {f} (h : rdI K (fiR1 f) σ H R) : iRng1 (rdA K (fCons f fNil)) σ H R := by
  obtain ⟨ρ, μ, m, xs, μ', hl, hs, e, k⟩ := h
  obtain ⟨⟨x, μ1⟩, e1, e⟩ := Option.bind_eq_some_iff.mp e
  refine ⟨ρ, μ, m, [x], μ1, hl, hs, by simp [fCons, fNil, e1], fun vs H1 m1 x1 s1 r1 => ?_⟩
  split at e
  · rename_i j q
    split at e
    · rename_i z
      cases e
      simp only at q
      subst q
      obtain ⟨v, r, rfl, r1, r2⟩ := r1
      have r2 : r = [] := r2
      simp only [RelR, RelD] at r1
      subst r1 r2
      have := itr_ok (K := K) 0 j.toNat
      simp only [Int.zero_add] at this
      exact ⟨j, rfl, z.1, z.2, k _ _ H1 m1 x1 s1 this trivial⟩
    · cases e
  · cases e
end
end HW
namespace HW
open PySem L2
noncomputable abbrev MF := List D → Option D
def Sam (H H' : Hp) : Prop := ∀ a o, H a = some o → H' a = some o
noncomputable def spP (K : PySem.W.Frag) (n : Nat) (f : MF) : Sp := fun vs H Q _ => ∃ ds d, ds.length = n ∧ RelDs K H ds vs ∧ f ds = some d ∧ ∀ v H', Sam H H' → RelD K H' d v → Q v H'
noncomputable def fin : Out → Option D
  | .rt r μ => (fzD r μ).bind fun a => some a.1
  | .nx _ _ => some .non
  | _ => none
noncomputable def runP (k : Nat) (b : FS) : MF := fun ds => (b (ds.map (fun d => some (.v d)) ++ List.replicate (k - ds.length) none) []).bind fin
noncomputable def fCall (f : MF) (n : Nat) (fa : FA) : FE := fun ρ μ => (fa ρ μ).bind fun a => (vals a.1).bind fun ds => if ds.length = n then (f ds).bind fun d => some (.v d, a.2) else none
section
variable {K : PySem.W.Frag} {m : List Addr} {σ : St} {H H' : Hp} {μ : Store} {Q : VK}
theorem Sam.ext (s : Sam H H') : Ext m H m H' := ⟨⟨[], by simp⟩, .of s, fun a o e _ => s a o e, fun a h => by
  cases q : H a with
  | none => rfl
  | some o => rw [s a o q] at h; cases h⟩
theorem rd_call {f n fa} {E : XK} (h : rdE K (fCall f n fa) σ H Q) : tCall (spP K n f) [] E (rdA K fa) σ H Q := by
  obtain ⟨ρ, μ, m, d, μ', hl, hs, e, k⟩ := h
  obtain ⟨⟨xs, μ1⟩, e1, e⟩ := Option.bind_eq_some_iff.mp e
  obtain ⟨ds, e2, e⟩ := Option.bind_eq_some_iff.mp e
  split at e
  · rename_i hn
    obtain ⟨d1, e3, e⟩ := Option.bind_eq_some_iff.mp e
    cases e
    refine ⟨ρ, μ, m, xs, _, hl, hs, e1, fun vs H1 m1 x1 s1 r1 => ?_⟩
    refine ⟨ds, d1, hn, by simpa using vals_rel e2 r1, e3, fun v H2 z r2 => ?_⟩
    exact k v H2 m1 (x1.trans z.ext) (s1.same z) r2
  · cases e
theorem start_rel {N : List Str} {ds : List D} {vs : List V} (r : RelDs K H ds vs) : LRel K [] H (ds.map (fun d => some (.v d)) ++ List.replicate (N.length - ds.length) none) (L2.start N vs) := by
  have hl := r.length
  unfold L2.start
  refine ⟨by simp [hl], fun i d e => ?_⟩
  by_cases hi : i < ds.length
  · rw [List.getElem?_append_left (by simpa using hi), List.getElem?_map] at e
    cases q : ds[i]? with
    | none => rw [q] at e; cases e
    | some d' =>
      rw [q] at e
      cases e
      obtain ⟨v, q1, q2⟩ := r.get q
      exact ⟨v, by rw [List.getElem?_append_left (by simp; omega), List.getElem?_map, q1]; rfl, q2⟩
  · rw [List.getElem?_append_right (by simpa using hi), List.getElem?_replicate] at e
    split at e <;> cases e
def orFz (Q : VK) : VK := fun v H => Q v H ∨ ∃ a u, H a = some u ∧ FzOk u ∧ ∀ o, Q v (upd H a (.frz o u))
theorem Ext.sam (x : Ext [] H m H') : Sam H H' := fun a o e => x.keep a o e (by simp)
theorem run_ok {N : List Str} {b : FS} {ds : List D} {vs : List V} {d : D} {E : XK} (r : RelDs K H ds vs) (e : runP N.length b ds = some d) (k : ∀ v H', Sam H H' → RelD K H' d v → Q v H') :
    rdS K b { nx := fun _ H' => orFz Q .non H', rt := orFz Q } (L2.start N vs) H := by
  obtain ⟨o, e1, e⟩ := Option.bind_eq_some_iff.mp e
  refine ⟨_, [], [], o, start_rel r, .nil, e1, ?_⟩
  cases o with
  | nx ρ μ =>
    cases e
    exact fun σ H' m' x _ _ => .inl (k _ _ x.sam (by simp only [RelD]))
  | bk ρ μ => cases e
  | ct ρ μ => cases e
  | rt q μ =>
    obtain ⟨⟨d1, μ1⟩, e2, e⟩ := Option.bind_eq_some_iff.mp e
    cases e
    intro v H' m' x s r'
    exact fz_ok (B := fun H' => Q v H') s r' e2 fun H2 y s2 r2 => k v H2 (x.trans y).sam r2
end
noncomputable def iOp (C : Int → Int → Bool) (f : Int → Int → D) : R → R → Store → Option (R × Store)
  | .v (.int i), .v (.int j), μ => if C i j = true then some (.v (f i j), μ) else none
  | _, _, _ => none
theorem gI {K : PySem.W.Frag} {C : Int → Int → Bool} {C' : Int → Int → Prop} {f : Int → Int → D} {g : Int → Int → V} (hC : ∀ i j, C i j = true → C' i j) (hg : ∀ H i j, RelD K H (f i j) (g i j)) : GOp K (iOp C f) (rI C' g) := by
  intro m H μ x y d μ' v u Q s rx ry e k
  unfold iOp at e
  split at e
  · rename_i i j
    split at e
    · rename_i z
      cases e
      simp only [RelR, RelD] at rx ry
      subst rx ry
      exact ⟨i, j, rfl, rfl, hC i j z, k _ H m .refl s (hg H i j)⟩
    · cases e
  · cases e
theorem gI0 {K : PySem.W.Frag} {f : Int → Int → D} {g : Int → Int → V} (hg : ∀ H i j, RelD K H (f i j) (g i j)) : GOp K (iOp (fun _ _ => true) f) (rI0 g) := by
  intro m H μ x y d μ' v u Q s rx ry e k
  unfold iOp at e
  split at e
  · rename_i i j
    split at e
    · cases e
      simp only [RelR, RelD] at rx ry
      subst rx ry
      exact ⟨i, j, rfl, rfl, k _ H m .refl s (hg H i j)⟩
    · cases e
  · cases e
noncomputable abbrev subD := iOp (fun _ _ => true) fun i j => .int (i - j)
noncomputable abbrev mulD := iOp (fun i j => decide (-(2 ^ 64) < i ∧ i < 2 ^ 64) || decide (-(2 ^ 64) < j ∧ j < 2 ^ 64)) fun i j => .int (i * j)
noncomputable abbrev divD := iOp (fun _ j => decide (0 < j ∧ j < 1073741824)) fun i j => .int (i / j)
noncomputable abbrev modD := iOp (fun _ j => decide (0 < j)) fun i j => .int (i % j)
noncomputable abbrev powD := iOp (fun i j => decide (0 ≤ j ∧ j ≤ 1000000 ∧ i.natAbs < 2 ^ 64)) fun i j => .int (i ^ j.toNat)
noncomputable abbrev ltD := iOp (fun _ _ => true) fun i j => .bl (decide (i < j))
noncomputable abbrev leD := iOp (fun _ _ => true) fun i j => .bl (decide (i ≤ j))
noncomputable abbrev gtD := iOp (fun _ _ => true) fun i j => .bl (decide (j < i))
noncomputable abbrev geD := iOp (fun _ _ => true) fun i j => .bl (decide (j ≤ i))
noncomputable def negD : R → Store → Option (R × Store)
  | .v (.int i), μ => some (.v (.int (-i)), μ)
  | _, _ => none
section
variable {K : PySem.W.Frag}
theorem rInt {H : Hp} {i : Int} : RelD K H (.int i) (.int i) := by simp only [RelD]
theorem rBl {H : Hp} {i : Bool} : RelD K H (.bl i) (.bl i) := by simp only [RelD]
theorem g_sub : GOp K subD (rI0 fun i j => .int (i - j)) := gI0 fun _ _ _ => rInt
theorem g_mul : GOp K mulD (rI CMul fun i j => .int (i * j)) := gI (fun i j h => by simpa [CMul] using h) fun _ _ _ => rInt
theorem g_div : GOp K divD (rI CDiv fun i j => .int (i / j)) := gI (fun i j h => by simpa [CDiv] using h) fun _ _ _ => rInt
theorem g_mod : GOp K modD (rI (fun _ j => 0 < j) fun i j => .int (i % j)) := gI (fun i j h => by simpa using h) fun _ _ _ => rInt
theorem g_pow : GOp K powD (rI CPow fun i j => .int (i ^ j.toNat)) := gI (fun i j h => by simpa [CPow] using h) fun _ _ _ => rInt
theorem g_lt : GOp K ltD (rI0 fun i j => .bl (decide (i < j))) := gI0 fun _ _ _ => rBl
theorem g_le : GOp K leD (rI0 fun i j => .bl (decide (i ≤ j))) := gI0 fun _ _ _ => rBl
theorem g_gt : GOp K gtD (rI0 fun i j => .bl (decide (j < i))) := gI0 fun _ _ _ => rBl
theorem g_ge : GOp K geD (rI0 fun i j => .bl (decide (j ≤ i))) := gI0 fun _ _ _ => rBl
theorem g_neg : GUn K negD (rU fun i => .int (-i)) := by
  intro m H μ x d μ' v Q s rx e k
  unfold negD at e
  split at e
  · rename_i i
    cases e
    simp only [RelR, RelD] at rx
    subst rx
    exact ⟨i, rfl, k _ H m .refl s (by simp only [RelR, RelD])⟩
  · cases e
end
noncomputable def addD : R → R → Store → Option (R × Store)
  | .v (.int i), .v (.int j), μ => some (.v (.int (i + j)), μ)
  | .v (.str x), .v (.str y), μ => if x.length + y.length ≤ sizeLine then some (.v (.str (x ++ y)), μ) else none
  | .v (.tup xs), .v (.tup ys), μ => if xs ≠ [] ∧ xs.length + ys.length ≤ sizeLine then some (.v (.tup (xs ++ ys)), μ) else none
  | .p a, .p b, μ => match μ[a]?, μ[b]? with | some (.lst xs), some (.lst ys) => if xs.length + ys.length ≤ sizeLine then some (.p μ.length, μ ++ [.lst (xs ++ ys)]) else none | _, _ => none
  | _, _, _ => none
noncomputable def rAddS : R2 := fun x y H Q => ∃ i j, x = .str i ∧ y = .str j ∧ i.length + j.length ≤ sizeLine ∧ Q (.str (i ++ j)) H
noncomputable def rOr (r r' : R2) : R2 := fun x y H Q => r x y H Q ∨ r' x y H Q
noncomputable def rAdd' (K : PySem.W.Frag) : R2 := rOr (rI0 fun i j => .int (i + j)) (rOr rAddS (rOr (rCatT K) rCat))
theorem RelDs.append {K : PySem.W.Frag} {H : Hp} : ∀ {xs ys : List D} {vs ws : List V}, RelDs K H xs vs → RelDs K H ys ws → RelDs K H (xs ++ ys) (vs ++ ws)
  | [], _, _, _, h, h' => by simp only [RelDs] at h; subst h; exact h'
  | x :: xs, _, _, _, h, h' => by
    simp only [RelDs] at h
    obtain ⟨v, r, rfl, h1, h2⟩ := h
    show RelDs K H (x :: (xs ++ _)) _
    simp only [RelDs]
    exact ⟨v, r ++ _, rfl, h1, RelDs.append h2 h'⟩
theorem RelDs.nil_iff {K : PySem.W.Frag} {H : Hp} {xs : List D} {vs : List V} (h : RelDs K H xs vs) : xs = [] ↔ vs = [] := by
  have := h.length
  cases xs <;> cases vs <;> simp_all
theorem g_add {K : PySem.W.Frag} : GOp K addD (rAdd' K) := by
  intro m H μ x y d μ' v u Q s rx ry e k
  unfold addD at e
  split at e
  · cases e
    simp only [RelR, RelD] at rx ry
    subst rx ry
    exact .inl ⟨_, _, rfl, rfl, k _ H m .refl s (by simp only [RelR, RelD])⟩
  · split at e
    · rename_i z
      cases e
      simp only [RelR, RelD] at rx ry
      subst rx ry
      exact .inr (.inl ⟨_, _, rfl, rfl, z, k _ H m .refl s (by simp only [RelR, RelD])⟩)
    · cases e
  · split at e
    · rename_i z
      cases e
      simp only [RelR, RelD] at rx ry
      obtain ⟨a, vs, rfl, qa, ra⟩ := rx
      obtain ⟨b, ws, rfl, qb, rb⟩ := ry
      refine .inr (.inr (.inl ⟨a, b, vs, ws, rfl, rfl, qa, qb, fun h => z.1 (ra.nil_iff.mpr h), by rw [← ra.length, ← rb.length]; exact z.2, fun h => ?_, fun h p hp => ?_⟩))
      · refine k _ H m .refl s ?_
        have := rb.nil_iff.mpr h
        subst this
        simp only [RelR, RelD, List.append_nil]
        exact ⟨a, vs, rfl, qa, ra⟩
      · obtain ⟨x1, x2, x3⟩ := new_tup s (ra.append rb) hp
        exact k _ _ _ x1 x2 x3
    · cases e
  · split at e
    · rename_i xs ys qa qb
      split at e
      · rename_i z
        cases e
        obtain ⟨a', rfl, ha⟩ := rx
        obtain ⟨b', rfl, hb⟩ := ry
        obtain ⟨vs, ea, ra⟩ := s.cell _ _ a' qa ha
        obtain ⟨ws, eb, rb⟩ := s.cell _ _ b' qb hb
        refine .inr (.inr (.inr ⟨a', b', vs, ws, rfl, rfl, ea, eb, by rw [← ra.length, ← rb.length]; exact z, fun p hp => ?_⟩))
        obtain ⟨x1, x2, x3⟩ := new_lst s (ra.append rb) hp
        exact k _ _ _ x1 x2 x3
      · cases e
    · cases e
  · cases e
noncomputable def itemsD : R → Store → Option (List D)
  | .v (.tup xs), _ => some xs
  | .v (.fl xs), _ => some xs
  | .p n, μ => match μ[n]? with | some (.lst xs) => some xs | some (.fz xs) => some xs | _ => none
  | _, _ => none
noncomputable def lstD : R → Store → Option (List D)
  | .v (.fl xs), _ => some xs
  | .p n, μ => match μ[n]? with | some (.lst xs) => some xs | some (.fz xs) => some xs | _ => none
  | _, _ => none
section
variable {K : PySem.W.Frag} {m : List Addr} {H : Hp} {μ : Store}
theorem lst_ok {x : R} {xs : List D} {v : V} (s : SRel K m H μ) (r : RelR K m H x v) (e : lstD x μ = some xs) : ∃ a vs, v = .ref a ∧ SqL K H a vs ∧ RelDs K H xs vs := by
  unfold lstD at e
  split at e
  · cases e
    simp only [RelR, RelD] at r
    obtain ⟨a, vs, rfl, q, r⟩ := r
    exact ⟨a, vs, rfl, q.sq, r⟩
  · obtain ⟨a, rfl, ha⟩ := r
    split at e
    · rename_i q
      cases e
      obtain ⟨vs, e, r⟩ := s.cell _ _ a q ha
      exact ⟨a, vs, rfl, .inl (.inl e), r⟩
    · rename_i q
      cases e
      obtain ⟨o, vs, e, r⟩ := s.cell _ _ a q ha
      exact ⟨a, vs, rfl, .inl (.inr ⟨o, e⟩), r⟩
    · cases e
  · cases e
theorem items_ok {x : R} {xs : List D} {v : V} (s : SRel K m H μ) (r : RelR K m H x v) (e : itemsD x μ = some xs) : ∃ a vs, v = .ref a ∧ (SqL K H a vs ∨ SqT K H a vs) ∧ RelDs K H xs vs := by
  cases x with
  | v d =>
    cases d with
    | tup ys =>
      cases e
      simp only [RelR, RelD] at r
      obtain ⟨a, vs, rfl, q, r⟩ := r
      exact ⟨a, vs, rfl, .inr q, r⟩
    | fl ys => obtain ⟨a, vs, q1, q2, q3⟩ := lst_ok s r (xs := xs) e; exact ⟨a, vs, q1, .inl q2, q3⟩
    | non => cases e
    | bl _ => cases e
    | int _ => cases e
    | str _ => cases e
    | fd _ _ => cases e
  | p n => obtain ⟨a, vs, q1, q2, q3⟩ := lst_ok s r (xs := xs) e; exact ⟨a, vs, q1, .inl q2, q3⟩
  | s _ _ => cases e
  | x _ => cases e
end
noncomputable def ixD : R → R → Store → Option (R × Store)
  | x, .v (.int i), μ => (itemsD x μ).bind fun xs => (atI xs i).bind fun d => some (.v d, μ)
  | _, _, _ => none
noncomputable def lenD : List R → Store → Option (R × Store)
  | [x], μ => (itemsD x μ).bind fun xs => some (.v (.int xs.length), μ)
  | _, _ => none
theorem atI_rel {K : PySem.W.Frag} {H : Hp} {xs : List D} {vs : List V} {i : Int} {d : D} (r : RelDs K H xs vs) (e : atI xs i = some d) : ∃ v, atI vs i = some v ∧ RelD K H d v := by
  obtain ⟨j, e1, e2⟩ := Option.bind_eq_some_iff.mp e
  obtain ⟨v, q1, q2⟩ := r.get e2
  exact ⟨v, by unfold atI; rw [← r.length, e1]; exact q1, q2⟩
theorem g_ix {K : PySem.W.Frag} : GOp K ixD (rIx K) := by
  intro m H μ x y d μ' v u Q s rx ry e k
  unfold ixD at e
  split at e
  · rename_i i
    obtain ⟨xs, e1, e⟩ := Option.bind_eq_some_iff.mp e
    obtain ⟨d1, e2, e⟩ := Option.bind_eq_some_iff.mp e
    cases e
    simp only [RelR, RelD] at ry
    subst ry
    obtain ⟨a, vs, rfl, q, r⟩ := items_ok s rx e1
    obtain ⟨w, q1, q2⟩ := atI_rel r e2
    rcases q with q | q
    · exact .inl ⟨a, vs, i, w, rfl, rfl, q, q1, k _ H m .refl s q2⟩
    · exact .inr (.inl ⟨a, vs, i, w, rfl, rfl, q, q1, k _ H m .refl s q2⟩)
  · cases e
def rLen (K : PySem.W.Frag) : List V → Hp → VK → Prop := fun xs H Q => ∃ p ys, xs = [.ref p] ∧ (SqL K H p ys ∨ SqT K H p ys) ∧ Q (.int ys.length) H
theorem rel1 {K : PySem.W.Frag} {m : List Addr} {H : Hp} {x : R} {vs : List V} (r : RelRs K m H [x] vs) : ∃ v, vs = [v] ∧ RelR K m H x v := by
  obtain ⟨v, r, rfl, h1, h2⟩ := r
  have h2 : r = [] := h2
  subst h2
  exact ⟨v, rfl, h1⟩
theorem g_len {K : PySem.W.Frag} : GAr K lenD (rLen K) := by
  intro m H μ xs d μ' vs Q s r e k
  unfold lenD at e
  split at e
  · rename_i x
    obtain ⟨ys, e1, e⟩ := Option.bind_eq_some_iff.mp e
    cases e
    obtain ⟨v, rfl, r1⟩ := rel1 r
    obtain ⟨a, ws, rfl, q, r⟩ := items_ok s r1 e1
    exact ⟨a, ws, rfl, q, k _ H m .refl s (by simp only [RelR, RelD]; rw [r.length])⟩
  · cases e
noncomputable def tupD : List R → Store → Option (R × Store)
  | [x], μ => (itemsD x μ).bind fun xs => some (.v (.tup xs), μ)
  | _, _ => none
def rTup (K : PySem.W.Frag) : List V → Hp → VK → Prop := fun xs H Q => ∃ p ys, xs = [.ref p] ∧ ((SqL K H p ys ∧ ∀ l, H l = none → Q (.ref l) (upd H l (.tup ys))) ∨ (SqT K H p ys ∧ Q (.ref p) H))
theorem g_tup {K : PySem.W.Frag} : GAr K tupD (rTup K) := by
  intro m H μ xs d μ' vs Q s r e k
  unfold tupD at e
  split at e
  · rename_i x
    obtain ⟨ys, e1, e⟩ := Option.bind_eq_some_iff.mp e
    cases e
    obtain ⟨v, rfl, r1⟩ := rel1 r
    obtain ⟨a, ws, rfl, q, r⟩ := items_ok s r1 e1
    rcases q with q | q
    · refine ⟨a, ws, rfl, .inl ⟨q, fun p hp => ?_⟩⟩
      obtain ⟨x1, x2, x3⟩ := new_tup s r hp
      exact k _ _ _ x1 x2 x3
    · refine ⟨a, ws, rfl, .inr ⟨q, k _ H m .refl s ?_⟩⟩
      simp only [RelR, RelD]
      exact ⟨a, ws, rfl, q, r⟩
  · cases e
noncomputable def appD : R → List R → Store → Option (R × Store)
  | .p n, [.v d], μ => match μ[n]? with | some (.lst xs) => if xs.length < sizeLine then some (.v .non, μ.set n (.lst (xs ++ [d]))) else none | _ => none
  | _, _, _ => none
def GMt (K : PySem.W.Frag) (g : R → List R → Store → Option (R × Store)) (r : V → List V → Hp → VK → Prop) : Prop :=
  ∀ m H μ x xs d μ' v vs Q, SRel K m H μ → RelR K m H x v → RelRs K m H xs vs → g x xs μ = some (d, μ') → (∀ w H' m', Ext m H m' H' → SRel K m' H' μ' → RelR K m' H' d w → Q w H') → r v vs H Q
theorem g_app {K : PySem.W.Frag} : GMt K appD rAppend := by
  intro m H μ x xs d μ' v vs Q s rx rs e k
  unfold appD at e
  split at e
  · split at e
    · rename_i ys q
      split at e
      · rename_i z
        cases e
        obtain ⟨a, rfl, ha⟩ := rx
        obtain ⟨w, rfl, rw'⟩ := rel1 rs
        obtain ⟨ws, ea, ra⟩ := s.cell _ _ a q ha
        have x : Ext m H m (upd H a (.lst (ws ++ [w]))) := .put (List.mem_of_getElem? ha) ea (by simp) (by simp)
        refine ⟨a, ws, w, rfl, rfl, ea, by rw [← ra.length]; exact z, k _ _ m x (s.put ha ea (by simp) (by simp) ⟨_, upd_at, ?_⟩) (by simp only [RelR, RelD])⟩
        refine RelDs.tf x.tf _ _ (ra.append ?_)
        simp only [RelDs]
        exact ⟨w, [], rfl, rw', rfl⟩
      · cases e
    · cases e
  · cases e
noncomputable def compL (g : FG) (c : FT) (f : FE) : List D → Lo → Store → Option (List D × Store)
  | [], _, μ => some ([], μ)
  | x :: xs, ρ, μ => (g (.v x) ρ μ).bind fun a => (c a.1 a.2).bind fun b => if b.1 = true then (f a.1 b.2).bind fun y => match y.1 with
      | .v d => (compL g c f xs a.1 y.2).bind fun r => some (d :: r.1, r.2)
      | _ => none
    else compL g c f xs a.1 b.2
noncomputable def blockLo (k : Nat) (ix : List Nat) (ρ : Lo) : Lo := List.replicate k none ++ ix.map fun i => (ρ[i]?).join
noncomputable def fComp (ix : List Nat) (k : Nat) (i : FI) (g : FG) (c : FT) (f : FE) : FE := fun ρ μ => (i ρ μ).bind fun a => if a.1.length ≤ sizeLine then
  (compL g c f a.1 (blockLo k ix ρ) a.2).bind fun r => some (.p r.2.length, r.2 ++ [.lst r.1]) else none
noncomputable def cYes : FT := fun _ μ => some (true, μ)
end HW
namespace HW
open PySem PySem.Spec PyProof.Rows L2
section
variable {X : Cx}
theorem PE.imp {e : Expr} {t t' : TE} (h : PE X e t) (k : ∀ {σ H Q}, t' σ H Q → t σ H Q) : PE X e t' := fun pins s σ H Q I q => h pins s σ H Q I (k q)
theorem PT.imp {e : Expr} {t t' : TT} (h : PT X e t) (k : ∀ {σ H Q}, t' σ H Q → t σ H Q) : PT X e t' := fun pins s σ H Q I q => h pins s σ H Q I (k q)
theorem PW.imp {e : Expr} {t t' : TT} (h : PW X e t) (k : ∀ {σ H Q}, t' σ H Q → t σ H Q) : PW X e t' := fun wh pins s σ H Q I q => h wh pins s σ H Q I (k q)
theorem PA.imp {e : List Expr} {t t' : TA} (h : PA X e t) (k : ∀ {σ H Q}, t' σ H Q → t σ H Q) : PA X e t' := fun pos pins s σ H Q I q => h pos pins s σ H Q I (k q)
theorem PS.imp {e : Stmt} {t t' : TS} (h : PS X e t) (k : ∀ {D σ H}, t' D σ H → t D σ H) : PS X e t' := fun pins s σ H Q I q => h pins s σ H Q I (k q)
theorem PSs.imp {e : List Stmt} {t t' : TS} (h : PSs X e t) (k : ∀ {D σ H}, t' D σ H → t D σ H) : PSs X e t' := fun pins s σ H Q I q => h pins s σ H Q I (k q)
theorem PI.imp {tg e : Expr} {t t' : TI} (h : PI X tg e t) (k : ∀ {σ H R}, t' σ H R → t σ H R) : PI X tg e t' := fun pins s σ H R I q => h pins s σ H R I (k q)
theorem PG.imp {e : Expr} {t t' : TG} (h : PG X e t) (k : ∀ {v σ H Q}, t' v σ H Q → t v σ H Q) : PG X e t' := fun pins s σ H v u Q I r q => h pins s σ H v u Q I r (k q)
end
section
variable {P : Program} {w : World} {H H0 : Hp} {h h0 : Heap} {a : Addr} {u : HO} {fs ex : List Addr}
theorem FzOk.ne {b : Addr} {v : HO} (e : H a = some u) (hu : FzOk u) (q : H b = some v) (n : ¬ FzOk v) : b ≠ a := fun z => by
  rw [z, e] at q; cases q; exact n hu
theorem HOk.frz (ok : HOk P w H h) (e : H a = some u) (hu : FzOk u) : ∃ o, HOk P w (upd H a (.frz o u)) h := by
  have ho : ∃ o, h.get? a = some o := by
    have z := ok a u e
    cases u with
    | lst xs => obtain ⟨_, _, _, _, q⟩ := z; exact ⟨_, q⟩
    | set S n => obtain ⟨o, _, _, _, q, _⟩ := z; exact ⟨_, q⟩
    | dK kvs => obtain ⟨_, _, _, _, o, _, _, q, _⟩ := z; exact ⟨_, q⟩
    | _ => exact hu.elim
  obtain ⟨o, ho⟩ := ho
  refine ⟨o, fun b v q => ?_⟩
  have own : ∀ c y, H c = some (.own y) → upd H a (.frz o u) c = some (.own y) := fun c y r => by rw [L2.upd_ne (FzOk.ne e hu r fun z => z)]; exact r
  have tup : ∀ c xs, H c = some (.tup xs) → upd H a (.frz o u) c = some (.tup xs) := fun c xs r => by rw [L2.upd_ne (FzOk.ne e hu r fun z => z)]; exact r
  by_cases hb : b = a
  · subst hb
    rw [L2.upd_same] at q
    cases q
    exact ⟨ho, (ok b u e).stay (fun c v _ q => q) (fun c r => own c _ r) tup⟩
  · rw [L2.upd_ne hb] at q
    exact (ok b v q).stay (fun c v _ q => q) (fun c r => own c _ r) tup
theorem Un.frz {o : Obj} (un : Un fs ex H0 H h0 h) (e : H a = some u) (hu : FzOk u) : Un fs ex H0 (upd H a (.frz o u)) h0 h where
  keep := un.keep
  slot := un.slot
  free := fun b ob q n hx => by
    have z := un.free b ob q n hx
    rw [L2.upd_ne (fun y => by rw [y, e] at z; cases z)]; exact z
  there := un.there
  tups := fun b xs q => by rw [L2.upd_ne (FzOk.ne e hu (un.tups b xs q) fun z => z)]; exact un.tups b xs q
  frzs := fun b ob v q => by rw [L2.upd_ne (FzOk.ne e hu (un.frzs b ob v q) fun z => z)]; exact un.frzs b ob v q
  tbls := fun b ps q => by
    obtain ⟨more, r⟩ := un.tbls b ps q
    exact ⟨more, by rw [L2.upd_ne (FzOk.ne e hu r fun z => z)]; exact r⟩
theorem Inv.frz {X : Cx} {pins : List (Addr × Obj)} {σ : L2.St} {s : Shared} (I : Inv X pins σ H s) (e : H a = some u) (hu : FzOk u) : ∃ o, Inv X pins σ (upd H a (.frz o u)) s := by
  obtain ⟨o, ok⟩ := HOk.frz I.hok e hu
  have nn : ∀ b, H b = none → upd H a (.frz o u) b = none := fun b z => by rw [L2.upd_ne (fun y => by rw [y, e] at z; cases z)]; exact z
  refine ⟨o, I.ok, I.os, I.bare, Un.frz I.base e hu, I.loc, I.cell, nn _ I.free, fun x c q => nn _ (I.freeC x c q), fun p hp => ?_, ok, I.len⟩
  obtain ⟨q1, q2, q3⟩ := I.pin p hp
  exact ⟨q1, nn _ q2, q3⟩
end
theorem pe_fz0 {X : Cx} {e : Expr} {t : TE} (h : PE X e t) : PE X e (tFz t) := fun pins s σ H Q I q => by
  refine thn (h pins s σ H _ I q) fun v s1 ⟨x, H1, I1, r1, q1⟩ => ?_
  rcases q1 with q1 | ⟨a, u, e, hu, q1⟩
  · exact ⟨x, H1, I1, r1, q1⟩
  · obtain ⟨o, I2⟩ := Inv.frz I1 e hu
    exact ⟨x, _, I2, r1, q1 o⟩
theorem FnOk.fz {P : Program} {w : World} {K : PySem.W.Frag} {mg : Str → Option Value} {base : Heap} {CX : CXT} {k : Nat} {f : Addr} {fd : FuncData} {ps : List Str} {sp : Sp} (F : FnOk P w K mg base CX k f fd ps sp) :
    FnOk P w K mg base CX k f fd ps (fun vs H Q E => sp vs H (orFz Q) E) := by
  refine ⟨fun vs H Q E h => F.len vs H _ E h, fun A outer s H args us vs Q E hr he hb hv hs => ?_⟩
  refine codeAny_mono (F.run A outer s H args us vs (orFz Q) E hr he hb hv hs) fun r s' hq => ?_
  cases r with
  | error e => exact hq
  | ok fl =>
    cases fl with
    | next => exact hq
    | brk => exact hq
    | cont => exact hq
    | ret u =>
      obtain ⟨v, H', os, bare, un, hok, rv, q⟩ := hq
      rcases q with q | ⟨a, u', e, hu, q⟩
      · exact ⟨v, H', os, bare, un, hok, rv, q⟩
      · obtain ⟨o, ok⟩ := HOk.frz hok e hu
        exact ⟨v, _, os, bare, Un.frz un e hu, ok, rv, q o⟩
theorem Fun.okP {P : Program} {w : World} {K : PySem.W.Frag} {mg : Str → Option Value} {base : Heap} {x qual : Str} {st : Stmt} {f : Addr} {fd : FuncData} {N ps : List Str} {k : Nat} {b : FS} (F : Fun K x qual st f fd) (S : FnScope N ps (defScope st))
    (hbody : ∀ (cdv : Value) (A : Around) (outer : List Env) (s : Shared) (H : Hp) (E : XK), Room k (A.deeper (envOfC qual (defScope st) s.heap.objs.size f cdv)) → PSs (cxOf CX0 P w K mg base N qual (defScope st) f cdv A outer s H E).nox (defBody st) (rdS K b)) :
    FnOk P w K mg base CX0 (k + 1) f fd ps (spP K ps.length (runP N.length b)) := by
  have G : FnOk P w K mg base CX0 (k + 1) f fd ps (fun vs H Q _ => vs.length = ps.length ∧ rdS K b { nx := fun _ H' => Q .non H', rt := Q } (L2.start N vs) H) :=
    L2.Fun.ok F S (fun vs H Q E h => h.1) fun cdv A outer s H vs Q E hr h => ⟨_, hbody cdv A outer s H E hr, h.2⟩
  refine (FnOk.fz G).imp fun vs H Q E ⟨ds, d, hn, r, e, k⟩ => ⟨by rw [← r.length]; exact hn, run_ok (E := E) r e k⟩
theorem pi_seq0 {X : Cx} {tg l : Expr} {tl : TE} (hl : PE X l tl) : PI X tg l (iSeq X.K tl) := by
  intro pins s σ H R I h
  refine thn (hl pins s σ H _ I h) fun v s1 ⟨x, H1, I1, r1, q1⟩ => ?_
  obtain ⟨a, e, q1⟩ := q1
  subst e
  cases r1
  rcases q1 with ⟨⟨xs, hq⟩, q⟩ | ⟨⟨xs, hq⟩, q⟩
  · obtain ⟨its, rv, p, hz⟩ := I1.list hq
    refine wpAny_pyIter_list p.isList ?_
    refine ⟨s1.heap.objs.size, [s1.heap.objs.size], _, _, H1, rfl, I1.kept (t' := s1.toks) fun b o e => Heap.get?_push_of_some _ e, turn_list a _, ⟨_, Heap.get?_push_size _ rfl, rfl, rfl⟩, fun b hb => ?_, q⟩
    have e : b = s1.heap.objs.size := by simpa using hb
    subst e
    exact I1.fpOk (Nat.le_refl _) (I1.hok.fresh (Nat.le_refl _))
  · obtain ⟨its, rv, p, hz⟩ := I1.tuple hq
    refine wpAny_pyIter_tuple (show s1.heap.IsTuple a its.toArray from p) ?_
    refine ⟨s1.heap.objs.size, [s1.heap.objs.size], _, _, H1, rfl, I1.kept (t' := s1.toks) fun b o e => Heap.get?_push_of_some _ e, turn_tuple a _, ⟨_, Heap.get?_push_size _ rfl, rfl, rfl⟩, fun b hb => ?_, q⟩
    have e : b = s1.heap.objs.size := by simpa using hb
    subst e
    exact I1.fpOk (Nat.le_refl _) (I1.hok.fresh (Nat.le_refl _))
end HW
namespace HW
open PySem PySem.Spec PyProof.Rows L2
theorem relabel_lookup {env : Env} : ∀ {names : List (Str × NameKind)} {x : Str},
    (names.map fun (n, k) => if (k == NameKind.free && env.scope.kind == .function && env.kindOf n == some .cell) then (n, NameKind.cell) else (n, k)).lookup x =
      (names.lookup x).map fun k => if (k == NameKind.free && env.scope.kind == .function && env.kindOf x == some .cell) then NameKind.cell else k
  | [], _ => rfl
  | (n, k) :: r, x => by
    have ih := @relabel_lookup env r x
    show List.lookup x ((if (k == NameKind.free && env.scope.kind == .function && env.kindOf n == some .cell) = true then (n, NameKind.cell) else (n, k)) :: _) = _
    cases hx : x == n with
    | true =>
      have : x = n := eq_of_beq hx
      subst this
      simp only [List.lookup_cons, hx, Option.map_some]
      by_cases hc : (k == NameKind.free && env.scope.kind == .function && env.kindOf x == some .cell) = true
      · simp [hc]
      · simp [hc]
    | false =>
      by_cases hc : (k == NameKind.free && env.scope.kind == .function && env.kindOf n == some .cell) = true
      · rw [if_pos hc]; simp only [List.lookup_cons, hx]; exact ih
      · rw [if_neg hc]; simp only [List.lookup_cons, hx]; exact ih
theorem closure_loop {env : Env} : ∀ (names : List (Str × NameKind)) (acc : List (Str × Addr)), (∀ x c, acc.lookup x = some c → env.cells.lookup x = some c) →
    (∀ y ∈ names, y.2 = .free → ∃ c, env.cells.lookup y.1 = some c) →
    ∃ cl : List (Str × Addr), (forIn names acc fun (x : Str × NameKind) (r : List (Str × Addr)) => (if (x.2 == NameKind.free) = true then do let a ← cellOf env x.1; pure (ForInStep.yield ((x.1, a) :: r)) else pure (ForInStep.yield r) : Sem (ForInStep (List (Str × Addr))))) = pure cl ∧
      (∀ x c, cl.lookup x = some c → env.cells.lookup x = some c) ∧ (∀ x c, acc.lookup x = some c → ∃ c', cl.lookup x = some c') ∧ ∀ y ∈ names, y.2 = .free → ∃ c, cl.lookup y.1 = some c
  | [], acc, h1, _ => ⟨acc, rfl, h1, fun x c e => ⟨c, e⟩, fun y hy => by simp at hy⟩
  | (n, k) :: r, acc, h1, h2 => by
    by_cases hk : k = .free
    · subst hk
      obtain ⟨c, hc⟩ := h2 (n, .free) List.mem_cons_self rfl
      have step : ∀ x c', List.lookup x ((n, c) :: acc) = some c' → env.cells.lookup x = some c' := fun x c' e => by
        rw [List.lookup_cons] at e
        cases hx : x == n with
        | true => rw [hx] at e; have : x = n := eq_of_beq hx; subst this; rw [hc]; exact e
        | false => rw [hx] at e; exact h1 x c' e
      obtain ⟨cl, e, p1, p2, p3⟩ := closure_loop r ((n, c) :: acc) step fun y hy => h2 y (List.mem_cons_of_mem _ hy)
      have hn : ∃ c', List.lookup n ((n, c) :: acc) = some c' := ⟨c, by rw [List.lookup_cons]; simp⟩
      refine ⟨cl, ?_, p1, fun x c' e' => ?_, fun y hy hf => ?_⟩
      · rw [List.forIn_cons]
        show ((cellOf env n >>= fun a => pure (ForInStep.yield ((n, a) :: acc))) >>= _) = _
        unfold cellOf
        rw [hc]
        exact e
      · cases hx : x == n with
        | true => have : x = n := eq_of_beq hx; subst this; obtain ⟨c'', q⟩ := hn; exact p2 _ _ q
        | false => exact p2 x c' (by rw [List.lookup_cons, hx]; exact e')
      · rcases List.mem_cons.mp hy with rfl | hy
        · obtain ⟨c'', q⟩ := hn; exact p2 _ _ q
        · exact p3 y hy hf
    · obtain ⟨cl, e, p1, p2, p3⟩ := closure_loop r acc h1 fun y hy => h2 y (List.mem_cons_of_mem _ hy)
      have hb : (k == NameKind.free) = false := by simpa using hk
      refine ⟨cl, ?_, p1, p2, fun y hy hf => ?_⟩
      · rw [List.forIn_cons]
        simp only [hb, Bool.false_eq_true, if_false]
        exact e
      · rcases List.mem_cons.mp hy with rfl | hy
        · exact absurd hf hk
        · exact p3 y hy hf
theorem closure_ok {env : Env} {scope : Scope} (h : ∀ y ∈ scope.names, y.2 = .free → ∃ c, env.cells.lookup y.1 = some c) :
    ∃ cl, closureFor scope env = pure cl ∧ (∀ x c, cl.lookup x = some c → env.cells.lookup x = some c) ∧ ∀ y ∈ scope.names, y.2 = .free → ∃ c, cl.lookup y.1 = some c := by
  obtain ⟨cl, e, p1, _, p3⟩ := closure_loop (env := env) scope.names [] (fun x c e => by simp at e) h
  refine ⟨cl, ?_, p1, p3⟩
  unfold closureFor
  first
    | (show (forIn scope.names [] _ >>= fun r => pure r) = _; rw [e]; rfl)
    | (simp only [bind_pure]; exact e)
structure CompNames (osc scope : Scope) (own : List Str) (caps : List Str) : Prop where
  kind : scope.kind = .function
  cell : ∀ y ∈ scope.names, y.2 ≠ .cell
  loc : ∀ y ∈ scope.names, y.2 = .local → scope.names.lookup y.1 = some .local
  free : ∀ y ∈ scope.names, y.2 = .free → osc.names.lookup y.1 = some .cell ∨ osc.names.lookup y.1 = some .free
  cap : ∀ y ∈ caps, (y, NameKind.free) ∈ scope.names ∧ scope.names.lookup y = some .free
  nd : (own ++ caps).Nodup
def blockCx (X : Cx) (scope : Scope) (cl : List (Str × Addr)) (C : Addr) (s₂ : Shared) (H₂ : Hp) (fp : List Addr) (N : List Str) : Cx :=
  { X with N := N, s₀ := s₂, H₀ := H₂, env := compEnvC scope cl C X.env, outer := X.stack, stack := X.stack, ex := fp, fn := fun _ => false, pn := [], xe := fun _ _ => False }
theorem lookup_mem {names : List (Str × NameKind)} {x : Str} {k : NameKind} (h : names.lookup x = some k) : (x, k) ∈ names := PySem.mem_of_lookup h
theorem block_kind {X : Cx} {scope : Scope} {own caps : List Str} (n : CompNames X.env.scope scope own caps) {cl : List (Str × Addr)} {C : Addr} {x : Str} {k : NameKind} (h : (compEnvC scope cl C X.env).kindOf x = some k) (hk : k = .cell ∨ k = .free) :
    (x, NameKind.free) ∈ scope.names := by
  have h' : (relabel scope X.env).names.lookup x = some k := h
  unfold relabel at h'
  rw [relabel_lookup] at h'
  cases q : scope.names.lookup x with
  | none => rw [q] at h'; cases h'
  | some k0 =>
    rw [q, Option.map_some] at h'
    have m := lookup_mem q
    have h2 := Option.some.inj h'
    by_cases hf : k0 = .free
    · subst hf; exact m
    · exfalso
      have hb : (k0 == NameKind.free) = false := by simpa using hf
      simp only [hb, Bool.false_and, Bool.false_eq_true, if_false] at h2
      rcases hk with hk | hk
      · exact n.cell _ m (h2.trans hk)
      · exact hf (h2.trans hk)
theorem block_free {X : Cx} {scope : Scope} {cl : List (Str × Addr)} {C : Addr} {x : Str} (h : scope.names.lookup x = some .free) :
    (compEnvC scope cl C X.env).kindOf x = some .cell ∨ (compEnvC scope cl C X.env).kindOf x = some .free := by
  show (relabel scope X.env).names.lookup x = some .cell ∨ (relabel scope X.env).names.lookup x = some .free
  unfold relabel
  rw [relabel_lookup, h]
  simp only [Option.map_some]
  split
  · exact .inl rfl
  · exact .inr rfl
theorem block_ok {X : Cx} {pins : List (Addr × Obj)} {σ : L2.St} {H₂ : Hp} {s₂ : Shared} {scope : Scope} {own caps : List Str} {cl : List (Str × Addr)} {C : Addr} {fp : List Addr} (I : Inv X pins σ H₂ s₂) (n : CompNames X.env.scope scope own caps)
    (hcl : ∀ x c, cl.lookup x = some c → X.env.cells.lookup x = some c) (hcl2 : ∀ y ∈ scope.names, y.2 = .free → ∃ c, cl.lookup y.1 = some c) (hC : s₂.heap.objs.size ≤ C) (hfs : ∀ b ∈ fp, b < C) (hf : ∀ b ∈ fp, FpOk X pins H₂ b) :
    (blockCx X scope cl C s₂ H₂ fp (own ++ caps)).Ok := by
  refine ⟨I.ok.mod, n.kind, I.ok.glob, I.ok.blt, hC, fun x y c h1 h2 => I.ok.inj x y c (hcl x c h1) (hcl y c h2), fun x hx => ?_, fun x c h _ => ?_, I.ok.hd, I.ok.frames, .inl rfl, fun b hb => ⟨Nat.ne_of_lt (hfs b hb), fun x c e => (hf b hb).2.2.2.2.1 x c (hcl x c e)⟩,
    I.bs, Nat.le_trans I.ok.bsz I.sz, fun b o e hb => ?_, fun b hb z => ?_, I.stack, I.stkFree⟩
  · rcases hx with hx | hx
    · obtain ⟨c, e⟩ := hcl2 _ (block_kind n hx (.inl rfl)) rfl; exact ⟨c, e⟩
    · obtain ⟨c, e⟩ := hcl2 _ (block_kind n hx (.inr rfl)) rfl; exact ⟨c, e⟩
  · exact absurd h (by simp [blockCx])
  · rcases (hf b hb).2.2.2.1 with z | z
    · exact I.ok.noex b o e z
    · exact absurd (Nat.lt_of_lt_of_le (Nat.lt_of_lt_of_le (Heap.lt_size e) I.ok.bsz) z) (Nat.lt_irrefl _)
  · rcases List.mem_cons.mp (I.stkSub b z) with e | e
    · exact (hf b hb).2.1 e
    · exact (hf b hb).2.2.1 e
noncomputable def blockSt (own : L2.St) (ix : List Nat) (σ : L2.St) : L2.St := own ++ ix.map fun i => (σ[i]?).join
theorem block_start {X : Cx} {pins : List (Addr × Obj)} {σ : L2.St} {H₂ : Hp} {s₂ : Shared} {scope : Scope} {own caps : List Str} {ix : List Nat} {cl : List (Str × Addr)} {C : Addr} {fp : List Addr} {h₁ : Heap} {tk : Nat} (I : Inv X pins σ H₂ s₂) (n : CompNames X.env.scope scope own caps)
    (hcl : ∀ x c, cl.lookup x = some c → X.env.cells.lookup x = some c) (hcl2 : ∀ y ∈ scope.names, y.2 = .free → ∃ c, cl.lookup y.1 = some c) (hC : s₂.heap.objs.size ≤ C) (hfs : ∀ b ∈ fp, b < C) (hf : ∀ b ∈ fp, FpOk X pins H₂ b)
    (hix : ix.length = caps.length) (hix2 : ∀ (j i : Nat) y, ix[j]? = some i → caps[j]? = some y → X.N[i]? = some y)
    (old : ∀ b o, s₂.heap.get? b = some o → h₁.get? b = some o) {m : Str → Option Value} (hns : h₁.Ns C m) :
    Inv (blockCx X scope cl C s₂ H₂ fp (own ++ caps)) [] (blockSt (own.map fun _ => none) ix σ) H₂ { s₂ with heap := h₁, toks := tk } := by
  refine ⟨block_ok I n hcl hcl2 hC hfs hf, rfl, I.bare, Un.kept old, ⟨m, hns, fun i x v e1 e2 hv => ?_⟩, fun x c e => ?_, I.hok.fresh hC, fun x c e => I.freeC x c (hcl x c e), fun p hp => ?_, I.hok.kept old, ?_⟩
  · have e1 : (own ++ caps)[i]? = some x := e1
    unfold blockSt at e2
    by_cases hi : i < own.length
    · rw [List.getElem?_append_left (by simpa using hi), List.getElem?_map] at e2
      cases q : own[i]? with
      | none => rw [q] at e2; cases e2
      | some y => rw [q] at e2; cases e2
    · rw [List.getElem?_append_right (by simpa using hi)] at e2
      rw [List.getElem?_append_right (by omega)] at e1
      simp only [List.length_map] at e2
      generalize i - own.length = j at e1 e2
      rw [List.getElem?_map] at e2
      cases q : ix[j]? with
      | none => rw [q] at e2; cases e2
      | some i' =>
        rw [q] at e2
        have e3 : (σ[i']?).join = some v := Option.some.inj e2
        have e4 : σ[i']? = some (some v) := by
          cases z : σ[i']? with
          | none => rw [z] at e3; cases e3
          | some w' => rw [z] at e3; cases w' with
            | none => cases e3
            | some _ => cases e3; rfl
        have hN := hix2 j i' x q e1
        obtain ⟨mm, hl⟩ := n.cap x (List.mem_of_getElem? e1)
        have hk : X.env.kindOf x = some .cell ∨ X.env.kindOf x = some .free := n.free _ mm rfl
        obtain ⟨m0, hn0, hl0⟩ := I.loc
        have vis : Vis X.env.scope x := by
          rcases hk with hk | hk
          · exact .inr (.inl hk)
          · exact .inr (.inr hk)
        obtain ⟨u, r, l⟩ := hl0 i' x v hN e4 vis
        refine ⟨u, r, .inr ⟨block_free hl, ?_⟩⟩
        obtain ⟨c, hc⟩ := hcl2 _ mm rfl
        rcases l with ⟨l, _⟩ | ⟨_, c', hc', z⟩
        · exfalso
          rcases hk with hk | hk <;> rw [hk] at l <;> cases l
        · have := hcl x c hc
          rw [hc'] at this; cases this
          obtain ⟨o, ho, hd⟩ := z
          exact ⟨_, hc, o, old _ _ ho, hd⟩
  · obtain ⟨v, o, ho, hd⟩ := I.cell x c (hcl x c e)
    exact ⟨v, o, old _ _ ho, hd⟩
  · exact absurd (show p ∈ ([] : List (Addr × Obj)) from hp) (by simp)
  · show (blockSt _ ix σ).length = (own ++ caps).length
    unfold blockSt
    simp [hix]
def PIfs (X : Cx) (ifs : List Expr) (t : TT) : Prop :=
  ∀ (pins : List (Addr × Obj)) (s : Shared) (σ : L2.St) (H : Hp) (Q : Bool → Hp → Prop), Inv X pins σ H s → t σ H Q →
    wpAny (model X.prog X.w) X.A (forIn ifs true fun c r => if r = true then do let ok ← isTrue c X.env (eval c X.env); pure (ForInStep.yield ok) else pure (ForInStep.yield r)) (TP X pins σ Q) X.xe s
def tYes : TT := fun _ H Q => Q true H
theorem pifs_nil {X : Cx} : PIfs X [] tYes := fun pins s σ H Q I h => wpAny_tests_nil ⟨H, I, h⟩
theorem pifs_one {X : Cx} {c : Expr} {t : TT} (h : PT X c t) : PIfs X [c] t := fun pins s σ H Q I q => wpAny_tests_one (h pins s σ H Q I q)
theorem compLoop_go {prog : Program} {w : World} {A : Around} {R : Result → Shared → Prop} {s : Shared} {elt target iter : Expr} {ifs : List Expr} {scope : Scope} {pos : Pos} {it acc : Value} {env : Env} (I : Nat → Shared → Prop)
    (turn : ∀ n s, I n s → wpAny (model prog w) A (pyNext it) (fun r s₁ => match r with
      | none => R (.ok .next) s₁
      | some v => wpAny (model prog w) A (letOwnedTupleGo target it v) (fun _ s₁' => wpAny (model prog w) A (assign target env v) (fun _ s₂ =>
          wpAny (model prog w) A (forIn ifs true fun c r => if r = true then do let ok ← isTrue c env (eval c env); pure (ForInStep.yield ok) else pure (ForInStep.yield r)) (fun ok s₃ =>
            if ok = true then wpAny (model prog w) A (eval elt env) (fun x s₄ =>
              wpAny (model prog w) A (call (.builtin "list.append") [acc, x]) (fun _ s₅ => ∃ m, m < n ∧ I m s₅) (fun _ _ => False) s₄) (fun _ _ => False) s₃
            else ∃ m, m < n ∧ I m s₃) (fun _ _ => False) s₂) (fun _ _ => False) s₁') (fun _ _ => False) s₁) (fun _ _ => False) s)
    (n : Nat) (h : I n s) : codeAny (model prog w) A (.compLoop (.ListComp elt [⟨target, iter, ifs, 0⟩] scope pos) 0 it acc env) R s := by
  refine codeAny_loop rfl I (fun n s hI => ?_) n h
  show wpAny _ A ((compTurn (.ListComp elt [⟨target, iter, ifs, 0⟩] scope pos) 0 it acc env).onRaise (fun x => do noteFrame x env; theTreesLotGoes x)) _ _ s
  refine wpAny_noted ?_
  rw [compTurn_list]
  refine wpAny_bind (wpAny_standAt (wpAny_bind (wpAny_mono (turn n s hI) (fun r s₁ h₁ => ?_) fun _ _ h' => h'.elim)))
  cases r with
  | none => exact wpAny_pure h₁
  | some v =>
    refine wpAny_bind (wpAny_mono h₁ (fun _ s₁' h₁' => ?_) fun _ _ h' => h'.elim)
    refine wpAny_bind (wpAny_mono h₁' (fun _ s₂ h₂ => wpAny_bind (wpAny_mono h₂ (fun ok s₃ h₃ => ?_) fun _ _ h' => h'.elim)) fun _ _ h' => h'.elim)
    cases ok with
    | false => exact wpAny_pure ⟨rfl, h₃⟩
    | true =>
      exact wpAny_bind (wpAny_bind (wpAny_mono h₃ (fun x s₄ h₄ => wpAny_bind (wpAny_mono h₄ (fun _ s₅ h₅ => wpAny_pure (wpAny_pure ⟨rfl, h₅⟩)) fun _ _ h' => h'.elim)) fun _ _ h' => h'.elim))
theorem Inv.adopt {X : Cx} {pins : List (Addr × Obj)} {σ : L2.St} {H : Hp} {s : Shared} {a : Addr} {o : HO} (I : Inv X pins σ H s) (f : FpOk X pins H a) (hs : X.s₀.heap.objs.size ≤ a) (new : ObjOk X.prog X.w (upd H a o) s.heap a o) : Inv X pins σ (upd H a o) s := by
  obtain ⟨f0, f1, f2, f3, f4, f5⟩ := f
  have ne : ∀ b u, H b = some u → b ≠ a := fun b u e z => by rw [z, f0] at e; cases e
  refine ⟨I.ok, I.os, I.bare, ⟨I.base.keep, I.base.slot, fun b ob q n hx' => ?_, I.base.there, fun b xs q => ?_, fun b ob u q => ?_, fun b ps q => ?_⟩, I.loc, I.cell, ?_, fun x c q => ?_, fun p hp => ?_, fun b u q => ?_, I.len⟩
  · rw [L2.upd_ne (Nat.ne_of_lt (Nat.lt_of_lt_of_le (Heap.lt_size q) hs))]; exact I.base.free b ob q n hx'
  · rw [L2.upd_ne (ne _ _ (I.base.tups b xs q))]; exact I.base.tups b xs q
  · rw [L2.upd_ne (ne _ _ (I.base.frzs b ob u q))]; exact I.base.frzs b ob u q
  · obtain ⟨more, r⟩ := I.base.tbls b ps q
    exact ⟨more, by rw [L2.upd_ne (ne _ _ r)]; exact r⟩
  · rw [L2.upd_ne (Ne.symm f1)]; exact I.free
  · rw [L2.upd_ne (f4 x c q)]; exact I.freeC x c q
  · obtain ⟨q1, q2, q3⟩ := I.pin p hp
    exact ⟨q1, by rw [L2.upd_ne (f5 p hp)]; exact q2, q3⟩
  · by_cases hb : b = a
    · subst hb; rw [L2.upd_same] at q; cases q; exact new
    · rw [L2.upd_ne hb] at q
      exact (I.hok b u q).stay (fun c v _ q => q) (fun c r => by rw [L2.upd_ne (ne _ _ r)]; exact r) fun c xs r => by rw [L2.upd_ne (ne _ _ r)]; exact r
def tComp (ix : List Nat) (own : List Str) (wi : TI) (g : TG) (tc : TT) (te : TE) : TE := fun σ H Q => wi σ H fun J H1 =>
  ∃ W : Nat → Nat → List V → L2.St → Hp → Prop, (∃ n, W 0 n [] (blockSt (own.map fun _ => none) ix σ) H1) ∧ ∀ i n ys τ H, W i n ys τ H →
    (J.stop i H ∧ ∀ p, H p = none → Q (.ref p) (upd H p (.lst ys))) ∨
    (J.go i H ∧ ys.length < sizeLine ∧ ∀ x H', J.yld i H x H' → g x τ H' fun τ2 H2 => tc τ2 H2 fun b H3 => if b = true then te τ2 H3 fun y H4 => ∃ n', n' < n ∧ W (i + 1) n' (ys ++ [y]) τ2 H4 else ∃ n', n' < n ∧ W (i + 1) n' ys τ2 H3)
theorem block_run {X : Cx} {pins : List (Addr × Obj)} {σ : L2.St} {s₂ : Shared} {H₂ : Hp} {E : Value → Shared → Prop} {elt tg iter : Expr} {ifs : List Expr} {scope : Scope} {pos : Pos} {own caps : List Str} {ix : List Nat} {g : TG} {tc : TT} {te : TE} {Q : VK} {cl : List (Str × Addr)}
    {it : Addr} {fp : List Addr} {tn : Nat → Heap → Prop} {J : It} {RR : Value → Addr → Result → Shared → Prop}
    (hc : X.calm = true) (I : Inv X pins σ H₂ s₂) (T : Turn X.prog X.w X.K tg J fp it tn) (st : tn 0 s₂.heap) (hf : ∀ b ∈ fp, FpOk X pins H₂ b) (n : CompNames X.env.scope scope own caps)
    (hcl : ∀ x c, cl.lookup x = some c → X.env.cells.lookup x = some c) (hcl2 : ∀ y ∈ scope.names, y.2 = .free → ∃ c, cl.lookup y.1 = some c)
    (hix : ix.length = caps.length) (hix2 : ∀ (j i : Nat) y, ix[j]? = some i → caps[j]? = some y → X.N[i]? = some y)
    (hg : ∀ C, PG (blockCx X scope cl C s₂ H₂ fp (own ++ caps)) tg g) (ht : ∀ C, PIfs (blockCx X scope cl C s₂ H₂ fp (own ++ caps)) ifs tc) (he : ∀ C, PE (blockCx X scope cl C s₂ H₂ fp (own ++ caps)) elt te)
    (W : Nat → Nat → List V → L2.St → Hp → Prop) (hW0 : ∃ n, W 0 n [] (blockSt (own.map fun _ => none) ix σ) H₂)
    (hW : ∀ i n ys τ H, W i n ys τ H → (J.stop i H ∧ ∀ p, H p = none → Q (.ref p) (upd H p (.lst ys))) ∨
      (J.go i H ∧ ys.length < sizeLine ∧ ∀ x H', J.yld i H x H' → g x τ H' fun τ2 H2 => tc τ2 H2 fun b H3 => if b = true then te τ2 H3 fun y H4 => ∃ n', n' < n ∧ W (i + 1) n' (ys ++ [y]) τ2 H4 else ∃ n', n' < n ∧ W (i + 1) n' ys τ2 H3))
    (hRR : ∀ (D C : Addr) (s' : Shared) m H' ys, s'.heap.Ns C m → Inv X pins σ (upd H' D (.lst ys)) s' → FpOk X pins (upd H' D (.lst ys)) C → Q (.ref D) (upd H' D (.lst ys)) → RR (.ref D) C (.ok .next) s') :
    wpAny (model X.prog X.w) X.A (newList []) (fun acc s₃ => wpAny (model X.prog X.w) X.A (newFunctionEnv scope X.env.globals cl [] X.env.qual none .none (some X.env)) (fun cenv s₄ =>
      codeAny (model X.prog X.w) X.A (.compStart (.ListComp elt [⟨tg, iter, ifs, 0⟩] scope pos) 0 (.ref it) acc { cenv with scope := relabel scope X.env }) (RR acc cenv.locals) s₄) E s₃) E s₂ := by
  refine wpAny_newObj_type (wpAny_newFunctionEnv n.cell (by intro y hy; simp at hy) (fun h₁ hns₁ hsb₁ => ?_) n.kind)
  dsimp only at hns₁ hsb₁ ⊢
  generalize hH2 : s₂.heap.push { cls := .type "list", dict := none, data := .seq ([] : List Value).toArray } = H2 at hns₁ hsb₁ ⊢
  have hC : H2.objs.size = s₂.heap.objs.size + 1 := by rw [← hH2, Heap.size_push]
  have below : ∀ b, b < s₂.heap.objs.size → b ≠ H2.objs.size ∧ b ≠ s₂.heap.objs.size := fun b hb => ⟨by rw [hC]; exact Nat.ne_of_lt (Nat.lt_succ_of_lt hb), Nat.ne_of_lt hb⟩
  have hDC : s₂.heap.objs.size ≠ H2.objs.size := by rw [hC]; exact Nat.ne_of_lt (Nat.lt_succ_self _)
  have old : ∀ b o, s₂.heap.get? b = some o → h₁.get? b = some o := fun b o e => hsb₁.extBut b o (below b (Heap.lt_size e)).1 (Heap.get?_push_of_some _ (hH2 ▸ Heap.get?_push_of_some _ e))
  have hacc : h₁.get? s₂.heap.objs.size = some { cls := .type "list", data := .seq ([] : List Value).toArray } := hsb₁.extBut _ _ hDC (Heap.get?_push_of_some _ (hH2 ▸ Heap.get?_push_size _ rfl))
  have fplt : ∀ b ∈ fp, b < s₂.heap.objs.size := fun b hb => by obtain ⟨o, e, _⟩ := T.obj _ _ st b hb; exact Heap.lt_size e
  have hCle : s₂.heap.objs.size ≤ H2.objs.size := by rw [hC]; exact Nat.le_succ _
  have hfC : ∀ b ∈ fp, b < H2.objs.size := fun b hb => Nat.lt_of_lt_of_le (fplt b hb) hCle
  have st₁ : tn 0 h₁ := T.keep 0 _ _ st fun b _ o e => old b o e
  have I₀ := block_start (tk := s₂.toks + ([] : List (Str × Value)).length) I n hcl hcl2 hCle hfC hf hix hix2 old hns₁
  clear hns₁ hsb₁
  -- the list's own place
  have cellD : ∀ x c, cl.lookup x = some c → c < s₂.heap.objs.size := fun x c e => by
    obtain ⟨v, o, q, _⟩ := I.cell x c (hcl x c e); exact Heap.lt_size q
  have stkD : ∀ b ∈ frs X.stack, b < s₂.heap.objs.size := fun b hb => by
    rcases List.mem_cons.mp (I.stkSub b hb) with e | e
    · rw [e]; exact I.lt
    · obtain ⟨_, o, q, _⟩ := I.funs.mem e; exact Heap.lt_size q
  have fpok : ∀ {ps : List (Addr × Obj)} {H : Hp}, (∀ b ∈ fp, H b = none) → (∀ p ∈ ps, p.1 ∉ fp) → ∀ b ∈ fp, FpOk (blockCx X scope cl H2.objs.size s₂ H₂ fp (own ++ caps)) ps H b := fun {ps H} hn hp b hb =>
    ⟨hn b hb, Nat.ne_of_lt (hfC b hb), fun z => by
      rcases List.mem_cons.mp (I.stkSub b z) with e | e
      · exact (hf b hb).2.1 e
      · exact (hf b hb).2.2.1 e, .inl hb, fun x c e => (hf b hb).2.2.2.2.1 x c (hcl x c e), fun p hp' z => hp p (by simpa [blockCx] using hp') (z ▸ hb)⟩
  have Dfp : s₂.heap.objs.size ∉ fp := fun z => Nat.lt_irrefl _ (fplt _ z)
  have pinD : ∀ {H : Hp} {h : Heap} {its : List Value} {k : Nat}, H s₂.heap.objs.size = none → h.get? s₂.heap.objs.size = some { cls := .type "list", data := .seq its.toArray k } →
      ∀ p ∈ [((s₂.heap.objs.size, { cls := .type "list", data := .seq its.toArray k }) : Addr × Obj)], h.get? p.1 = some p.2 ∧ H p.1 = none ∧ p.1 ≠ H2.objs.size ∧ p.1 ∉ frs X.stack ∧ ∀ v, p.2.data ≠ .cell v := fun {H h its k} hn e p hp => by
    rw [List.mem_singleton.mp hp]
    exact ⟨e, hn, hDC, fun z => Nat.lt_irrefl _ (stkD _ z), fun v z => by cases z⟩
  have loop : ∀ s₃ : Shared, s₃ = { s₂ with heap := h₁, toks := s₂.toks + ([] : List (Str × Value)).length } →
      codeAny (model X.prog X.w) X.A (.compLoop (.ListComp elt [⟨tg, iter, ifs, 0⟩] scope pos) 0 (.ref it) (.ref s₂.heap.objs.size) (compEnvC scope cl H2.objs.size X.env)) (RR (.ref s₂.heap.objs.size) H2.objs.size) s₃ := by
    rintro s₃ rfl
    obtain ⟨n0, hW0⟩ := hW0
    refine compLoop_go (fun n s' => ∃ i ys its k τ H, Inv (blockCx X scope cl H2.objs.size s₂ H₂ fp (own ++ caps)) [(s₂.heap.objs.size, { cls := .type "list", data := .seq its.toArray k })] τ H s' ∧ tn i s'.heap ∧ (∀ b ∈ fp, H b = none) ∧ Vals ys its ∧ ys.length ≤ sizeLine ∧ W i n ys τ H) ?_ n0
      ⟨0, [], [], 0, _, H₂, I₀.pins_of (pinD (I.hok.fresh (Nat.le_refl _)) hacc), st₁, fun b hb => (hf b hb).1, .nil, Nat.zero_le _, hW0⟩
    rintro n s3 ⟨i, ys, its, k, τ, H, I3, st3, fr3, rv, hz, w3⟩
    have hD3 := I3.pin _ (List.mem_append_right _ List.mem_cons_self)
    have pfp : ∀ p ∈ [((s₂.heap.objs.size, { cls := .type "list", data := .seq its.toArray k }) : Addr × Obj)], p.1 ∉ fp := fun p hp => by rw [List.mem_singleton.mp hp]; exact Dfp
    rcases hW i n ys τ H w3 with ⟨stop, q⟩ | ⟨go, hlt, step⟩
    · refine thn (T.done (blockCx X scope cl H2.objs.size s₂ H₂ fp (own ++ caps)) rfl rfl rfl hc i _ s3 τ H (fun _ _ => False) I3 (fpok fr3 pfp) st3 stop) fun r s4 ⟨hr, I4⟩ => ?_
      subst hr
      have hD4 := I4.pin _ (List.mem_append_right _ List.mem_cons_self)
      obtain ⟨m, hm, _⟩ := id I4.loc
      have IX : Inv X pins σ H s4 := I.call' (ch := fp) I4.os I4.base I4.hok I4.bare fun b hb => ⟨(hf b hb).2.2.2.1, (hf b hb).2.1, (hf b hb).2.2.2.2⟩
      have fD : FpOk X pins H s₂.heap.objs.size := I.fpOk (Nat.le_refl _) hD4.2.1
      have IY := Inv.adopt (o := .lst ys) IX fD I.sz ⟨hz, its, k, rv, hD4.1⟩
      exact hRR _ _ s4 m H ys hm IY (I.fpOk hCle (by rw [L2.upd_ne (Ne.symm hDC)]; exact I4.free)) (q _ hD4.2.1)
    · refine thn (T.item (blockCx X scope cl H2.objs.size s₂ H₂ fp (own ++ caps)) rfl rfl rfl hc i _ s3 τ H (fun _ _ => False) I3 (fpok fr3 pfp) st3 go) fun r s4 ⟨u, hr, h4⟩ => ?_
      subst hr
      refine thn h4 fun _ s5 ⟨x, H5, I5, r5, y5, st5, fr5⟩ => ?_
      have I5' := I5.pinned (fpok fr5 pfp) (T.obj _ _ st5)
      refine thn (hg _ _ s5 τ H5 x u _ I5' r5 (step x H5 y5)) fun _ s6 ⟨σ6, H6, I6, q6⟩ => ?_
      refine thn (ht _ _ s6 σ6 H6 _ I6 q6) fun ok s7 ⟨H7, I7, q7⟩ => ?_
      have memD : ∀ p ∈ pinsAt fp s5.heap, p.1 ≠ s₂.heap.objs.size := fun p hp z => Dfp (z ▸ (of_pinsAt hp).1)
      cases ok with
      | true =>
        refine thn (he _ _ s7 σ6 H7 _ I7 q7) fun u8 s8 ⟨y, H8, I8, r8, n', hn', w8⟩ => ?_
        have hD8 := I8.pin (s₂.heap.objs.size, _) (List.mem_append_right _ (List.mem_append_left _ List.mem_cons_self))
        refine append_at (hsz := by rw [List.size_toArray, ← rv.length]; exact hz) hD8.1 fun h9 sb hD9 => ?_
        have I8' : Inv (blockCx X scope cl H2.objs.size s₂ H₂ fp (own ++ caps)) (pinsAt fp s5.heap) σ6 H8 s8 := I8.pins_of fun p hp => I8.pin p (List.mem_append_right _ (List.mem_append_right _ hp))
        have I9 : Inv (blockCx X scope cl H2.objs.size s₂ H₂ fp (own ++ caps)) (pinsAt fp s5.heap) σ6 H8 { s8 with heap := h9 } := I8'.turned (t' := s8.toks) (it := s₂.heap.objs.size) (fun b o hb e => sb.extBut b o hb e) hD8.2.1 hDC (.inr (Nat.le_refl _))
          (fun x c e => Nat.ne_of_lt (cellD x c e)) fun p hp => memD p (by simpa [blockCx] using hp)
        have e9 : (its.toArray.push u8) = (its ++ [u8]).toArray := by simp
        rw [e9] at hD9
        refine ⟨n', hn', i + 1, ys ++ [y], its ++ [u8], k + 1, σ6, H8, I9.pins_of (pinD hD8.2.1 hD9), T.keep _ _ _ st5 fun b hb o e => (I9.pin (b, o) (List.mem_append_right _ (mem_pinsAt hb e))).1, fun b hb => ?_, rv.append (.cons r8 .nil), by rw [List.length_append]; exact hlt, w8⟩
        obtain ⟨o, e, d⟩ := T.obj _ _ st5 b hb
        exact (I9.pin (b, o) (List.mem_append_right _ (mem_pinsAt hb e))).2.1
      | false =>
        obtain ⟨n', hn', w8⟩ := q7
        have hD7 := I7.pin (s₂.heap.objs.size, _) (List.mem_append_right _ (List.mem_append_left _ List.mem_cons_self))
        refine ⟨n', hn', i + 1, ys, its, k, σ6, H7, I7.pins_of (pinD hD7.2.1 hD7.1), T.keep _ _ _ st5 fun b hb o e => (I7.pin (b, o) (List.mem_append_right _ (List.mem_append_right _ (mem_pinsAt hb e)))).1, fun b hb => ?_, rv, hz, w8⟩
        obtain ⟨o, e, d⟩ := T.obj _ _ st5 b hb
        exact (I7.pin (b, o) (List.mem_append_right _ (List.mem_append_right _ (mem_pinsAt hb e)))).2.1
  exact codeAny_compStart_list (loop _ rfl) (T.self _ 0 _ _ _ st₁ (loop _ rfl))
theorem pe_comp0 {X : Cx} {elt tg iter : Expr} {ifs : List Expr} {scope : Scope} {pos : Pos} {own caps : List Str} {ix : List Nat} {wi : TI} {g : TG} {tc : TT} {te : TE} (hc : X.calm = true) (n : CompNames X.env.scope scope own caps)
    (hix : ix.length = caps.length) (hix2 : ∀ (j i : Nat) y, ix[j]? = some i → caps[j]? = some y → X.N[i]? = some y) (hi : PI X tg iter wi)
    (hb : ∀ cl C s₂ H₂ fp, PG (blockCx X scope cl C s₂ H₂ fp (own ++ caps)) tg g ∧ PIfs (blockCx X scope cl C s₂ H₂ fp (own ++ caps)) ifs tc ∧ PE (blockCx X scope cl C s₂ H₂ fp (own ++ caps)) elt te)
    (hs : ∀ x, foldedSetIterable iter X.env x = pure x := by intro _; rfl) : PE X (.ListComp elt [⟨tg, iter, ifs, 0⟩] scope pos) (tComp ix own wi g tc te) := by
  intro pins s σ H Q I h
  obtain ⟨cl, hclos, hcl, hcl2⟩ := closure_ok (env := X.env) (scope := scope) fun y hy hf => I.ok.has y.1 (n.free y hy hf)
  rw [eval_ListComp]
  refine wpAny_comprehension_free (use := none) rfl hs hclos n.kind n.loc (thn (hi pins s σ H _ I h) fun v s1 h1 => thn h1 fun itv s2 h2 => ?_)
  obtain ⟨it, fp, tn, J, H2, e, I2, T, st2, f2, W, w0, turn⟩ := h2
  subst e
  refine block_run (RR := fun acc C => compPost (model X.prog X.w) X.A X.xe none (EP X pins σ Q) acc C) hc I2 T st2 f2 n hcl hcl2 hix hix2 (fun C => (hb cl C s2 H2 fp).1) (fun C => (hb cl C s2 H2 fp).2.1) (fun C => (hb cl C s2 H2 fp).2.2) W w0 turn ?_
  intro D C s' m H' ys hm IY fC q
  refine ⟨m, hm, fun h' sb => ⟨.ref D, _, IY.turned (t' := s'.toks) (it := C) (fun b o hb e => sb.extBut b o hb e) fC.1 fC.2.1 fC.2.2.2.1 fC.2.2.2.2.1 fC.2.2.2.2.2, rfl, q⟩⟩
theorem ps_comp0 {X : Cx} {elt tg iter : Expr} {ifs : List Expr} {scope : Scope} {pos spos py : Pos} {own caps : List Str} {ix : List Nat} {wi : TI} {g : TG} {tc : TT} {te : TE} {i : Nat} {y : Str} (hc : X.calm = true) (n : CompNames X.env.scope scope own caps)
    (hN : X.N.Nodup) (hy : X.N[i]? = some y) (hyl : Loc X.env.scope y)
    (hix : ix.length = caps.length) (hix2 : ∀ (j i : Nat) y, ix[j]? = some i → caps[j]? = some y → X.N[i]? = some y) (hi : PI X tg iter wi)
    (hb : ∀ cl C s₂ H₂ fp, PG (blockCx X scope cl C s₂ H₂ fp (own ++ caps)) tg g ∧ PIfs (blockCx X scope cl C s₂ H₂ fp (own ++ caps)) ifs tc ∧ PE (blockCx X scope cl C s₂ H₂ fp (own ++ caps)) elt te)
    (hsw : swapsWith (.ListComp elt [⟨tg, iter, ifs, 0⟩] scope pos) (some (.Name y py)) spos.line X.env = pure true)
    (hs : ∀ x, foldedSetIterable iter X.env x = pure x := by intro _; rfl) (hf : X.fn y = true ∨ X.env.scope.names.lookup y = some .local := by first | exact .inl rfl | exact .inr rfl | assumption) :
    PS X (.Assign [.Name y py] (.ListComp elt [⟨tg, iter, ifs, 0⟩] scope pos) spos) (tAsg (tComp ix own wi g tc te) (gName i)) := by
  intro pins s σ H Z I h
  obtain ⟨cl, hclos, hcl, hcl2⟩ := closure_ok (env := X.env) (scope := scope) fun y hy hf => I.ok.has y.1 (n.free y hy hf)
  rw [exec_Assign_Name_used _ _ _ _ hsw]
  refine wpAny_bind (wpAny_standAt (wpAny_bind ?_))
  show wpAny _ X.A (do let _ ← comprehension (.ListComp elt [⟨tg, iter, ifs, 0⟩] scope pos) scope X.env _ (newList []) false (eval iter X.env) (some (assign (.Name y py) X.env))) _ _ s
  refine wpAny_bind (wpAny_mono (wpAny_comprehension_free (use := some (assign (.Name y py) X.env)) (Q := fun _ s' => SP X pins Z .next s') rfl hs hclos n.kind n.loc (thn (hi pins s σ H _ I h) fun v s1 h1 => thn h1 fun itv s2 h2 => ?_)) (fun _ s' hq => wpAny_pure (wpAny_pure hq)) fun _ _ e => e)
  obtain ⟨it, fp, tn, J, H2, e, I2, T, st2, f2, W, w0, turn⟩ := h2
  subst e
  refine block_run (Q := fun x H1 => gName i x σ H1 Z.nx) (RR := fun acc C => compPost (model X.prog X.w) X.A X.xe (some (assign (.Name y py) X.env)) (fun _ s' => SP X pins Z .next s') acc C) hc I2 T st2 f2 n hcl hcl2 hix hix2 (fun C => (hb cl C s2 H2 fp).1) (fun C => (hb cl C s2 H2 fp).2.1) (fun C => (hb cl C s2 H2 fp).2.2) W w0 turn ?_
  intro D C s' m H' ys hm IY fC q
  show wpAny _ X.A (assign (.Name y py) X.env (.ref D)) _ _ _
  refine wpAny_assign_Name (store_ok2 (v := .ref D) IY hN hy hyl rfl (fun s'' IZ ⟨a, sa, ha⟩ => ?_) hf)
  have nC : C ≠ a := by
    rcases ha with ha | ha
    · rw [ha]; exact fC.2.1
    · exact Ne.symm (fC.2.2.2.2.1 _ _ ha)
  refine ⟨m, hm.sameBut sa nC, fun h' sb => ⟨_, _, IZ.turned (t' := s''.toks) (it := C) (fun b o hb e => sb.extBut b o hb e) fC.1 fC.2.1 fC.2.2.2.1 fC.2.2.2.2.1 fC.2.2.2.2.2, q⟩⟩
section
variable {K : PySem.W.Frag} {m : List Addr} {σ : L2.St} {H : Hp} {Q : VK} {μ : Store}
theorem rd_yes {B : Bool → Hp → Prop} (h : rdT K cYes σ H B) : tYes σ H B := by
  obtain ⟨ρ, μ, m, d, μ', hl, hs, e, k⟩ := h
  cases e
  exact k H m .refl hs
theorem block_rel {ρ : Lo} {k : Nat} {ix : List Nat} {own : List Str} (hk : own.length = k) (h : LRel K m H ρ σ) : LRel K m H (blockLo k ix ρ) (blockSt (own.map fun _ => none) ix σ) := by
  subst hk
  unfold blockLo blockSt
  refine ⟨by simp, fun i d e => ?_⟩
  by_cases hi : i < own.length
  · rw [List.getElem?_append_left (by simpa using hi), List.getElem?_replicate] at e
    split at e <;> cases e
  · rw [List.getElem?_append_right (by simpa using hi)] at e
    rw [List.getElem?_append_right (by simpa using hi)]
    simp only [List.length_replicate, List.length_map] at e ⊢
    generalize i - own.length = j at e ⊢
    rw [List.getElem?_map] at e ⊢
    cases q : ix[j]? with
    | none => rw [q] at e; cases e
    | some i' =>
      rw [q] at e
      have e3 : (ρ[i']?).join = some d := Option.some.inj e
      have e4 : ρ[i']? = some (some d) := by
        cases z : ρ[i']? with
        | none => rw [z] at e3; cases e3
        | some w' => rw [z] at e3; cases w' with
          | none => cases e3
          | some _ => cases e3; rfl
      obtain ⟨v, q1, q2⟩ := h.2 i' d e4
      exact ⟨v, by simp [q1], q2⟩
theorem rd_comp {ix : List Nat} {k : Nat} {own : List Str} {fi : FI} {g : FG} {c : FT} {f : FE} (hk : own.length = k) (h : rdE K (fComp ix k fi g c f) σ H Q) : tComp ix own (rdI K fi) (rdG K g) (rdT K c) (rdE K f) σ H Q := by
  obtain ⟨ρ, μ, m, d, μ', hl, hs, e, kk⟩ := h
  obtain ⟨⟨xs, μ1⟩, e1, e⟩ := Option.bind_eq_some_iff.mp e
  split at e
  · rename_i hz
    obtain ⟨⟨r, μr⟩, e2, e⟩ := Option.bind_eq_some_iff.mp e
    cases e
    refine ⟨ρ, μ, m, xs, μ1, hl, hs, e1, fun J P H1 m1 x1 s1 ok p1 => ?_⟩
    refine ⟨fun i n ys τ H => n = xs.length - i ∧ i ≤ xs.length ∧ ys.length ≤ i ∧ P H ∧ ∃ ρ μ m ds r' , LRel K m H ρ τ ∧ SRel K m H μ ∧ RelDs K H ds ys ∧ compL g c f (xs.drop i) ρ μ = some (r', μr) ∧ r = ds ++ r' ∧
      ∀ v H' m', Ext m H m' H' → SRel K m' H' (μr ++ [.lst r]) → RelR K m' H' (.p μr.length) v → Q v H',
      ⟨_, rfl, Nat.zero_le _, Nat.le_refl _, p1, _, μ1, m1, [], r, block_rel hk (hl.ext x1), s1, by simp only [RelDs], by simpa using e2, rfl, fun v H' m' x2 s2 r2 => kk v H' m' (x1.trans x2) s2 r2⟩, ?_⟩
    rintro i n ys τ H ⟨rfl, hi, hy, p, ρ, μ, m, ds, r', hl, hs, rs, e, er, kk⟩
    by_cases hlt : i < xs.length
    · have hx : xs[i]? = some xs[i] := List.getElem?_eq_getElem hlt
      rw [List.drop_eq_getElem_cons hlt, compL] at e
      obtain ⟨⟨ρ1, μ2⟩, q1, e⟩ := Option.bind_eq_some_iff.mp e
      obtain ⟨⟨b, μ3⟩, q2, e⟩ := Option.bind_eq_some_iff.mp e
      refine .inr ⟨ok.go i _ H hx p, Nat.lt_of_le_of_lt hy (Nat.lt_of_lt_of_le hlt hz), fun x H' y => ?_⟩
      obtain ⟨rfl, rx⟩ := ok.yld i _ H x H' hx p y
      refine ⟨ρ, μ, m, .v xs[i], ρ1, μ2, hl, hs, rx, q1, fun σ1 H1 m1 x1 s1 l1 => ?_⟩
      refine ⟨ρ1, μ2, m1, b, μ3, l1, s1, q2, fun H2 m2 x2 s2 => ?_⟩
      cases b with
      | true =>
        simp only [if_true] at e ⊢
        obtain ⟨⟨y', μ4⟩, q3, e⟩ := Option.bind_eq_some_iff.mp e
        refine ⟨ρ1, μ3, m2, y', μ4, l1.ext x2, s2, q3, fun w H3 m3 x3 s3 r3 => ?_⟩
        cases y' with
        | p _ => cases e
        | s _ _ => cases e
        | x _ => cases e
        | v d1 =>
          obtain ⟨⟨r1, μ5⟩, q4, e⟩ := Option.bind_eq_some_iff.mp e
          cases e
          have x4 := (x1.trans x2).trans x3
          refine ⟨_, (by omega : xs.length - (i + 1) < xs.length - i), rfl, hlt, by rw [List.length_append]; exact Nat.succ_le_succ hy, ok.st _ _ x4.tf p, ρ1, μ4, m3, ds ++ [d1], r1, l1.ext (x2.trans x3), s3,
            (RelDs.tf x4.tf _ _ rs).append (by simp only [RelDs]; exact ⟨w, [], rfl, r3, rfl⟩), q4, by rw [er, List.append_assoc]; rfl, fun v H' m' x5 s5 r5 => kk v H' m' (x4.trans x5) s5 r5⟩
      | false =>
        simp only [Bool.false_eq_true, if_false] at e ⊢
        have x4 := x1.trans x2
        exact ⟨_, (by omega : xs.length - (i + 1) < xs.length - i), rfl, hlt, Nat.le_succ_of_le hy, ok.st _ _ x4.tf p, ρ1, μ3, m2, ds, r', l1.ext x2, s2, RelDs.tf x4.tf _ _ rs, e, er, fun v H' m' x5 s5 r5 => kk v H' m' (x4.trans x5) s5 r5⟩
    · have : i = xs.length := by omega
      subst this
      rw [List.drop_length, compL] at e
      cases e
      refine .inl ⟨ok.stop _ H p (Nat.le_refl _), fun p hp => ?_⟩
      obtain ⟨a1, a2, a3⟩ := new_lst hs rs hp
      rw [List.append_nil] at er
      subst er
      exact kk _ _ _ a1 a2 a3
  · cases e
end
end HW
namespace HW
open PySem PySem.Spec PyProof.Rows L2
mutual
noncomputable def toPy : D → PyData
  | .non => .none
  | .bl b => .bool b
  | .int i => .int i
  | .str x => .str x
  | .tup xs => .tuple (toPys xs)
  | .fl xs => .list (toPys xs)
  | .fd _ _ => .none
noncomputable def toPys : List D → List PyData
  | [] => []
  | x :: xs => toPy x :: toPys xs
end
mutual
noncomputable def okD : Nat → D → Bool
  | _, .non => true
  | _, .bl _ => true
  | _, .int _ => true
  | _, .str x => PyData.strOk x
  | _, .fd _ _ => false
  | 0, .tup _ => false
  | 0, .fl _ => false
  | n + 1, .tup xs => okDs n xs
  | n + 1, .fl xs => okDs n xs
noncomputable def okDs : Nat → List D → Bool
  | _, [] => true
  | n, x :: xs => okD n x && okDs n xs
end
mutual
noncomputable def eqD : D → D → Bool
  | .non, .non => true
  | .bl a, .bl b => a == b
  | .bl a, .int j => (if a then 1 else 0) == j
  | .int i, .bl b => i == (if b then 1 else 0)
  | .int i, .int j => i == j
  | .str x, .str y => x == y
  | .tup xs, .tup ys => eqDs xs ys
  | .fl xs, .fl ys => eqDs xs ys
  | .fd _ _, .fd _ _ => true
  | .fd _ _, .non => true
  | .non, .fd _ _ => true
  | _, _ => false
noncomputable def eqDs : List D → List D → Bool
  | [], [] => true
  | x :: xs, y :: ys => eqD x y && eqDs xs ys
  | _, _ => false
end
mutual
theorem eqD_py : ∀ a b : D, PyData.eqv (toPy a) (toPy b) = eqD a b
  | .non, b => by cases b <;> simp [toPy, PyData.eqv, eqD]
  | .bl _, b => by cases b <;> simp [toPy, PyData.eqv, eqD]
  | .int _, b => by cases b <;> simp [toPy, PyData.eqv, eqD]
  | .str _, b => by cases b <;> simp [toPy, PyData.eqv, eqD]
  | .tup xs, b => by
    cases b with
    | tup ys => simp only [toPy, PyData.eqv, eqD]; exact eqDs_py xs ys
    | _ => simp [toPy, PyData.eqv, eqD]
  | .fl xs, b => by
    cases b with
    | fl ys => simp only [toPy, PyData.eqv, eqD]; exact eqDs_py xs ys
    | _ => simp [toPy, PyData.eqv, eqD]
  | .fd _ _, b => by cases b <;> simp [toPy, PyData.eqv, eqD]
theorem eqDs_py : ∀ a b : List D, PyData.eqvAll (toPys a) (toPys b) = eqDs a b
  | [], b => by cases b <;> simp [toPys, PyData.eqvAll, eqDs]
  | x :: xs, b => by
    cases b with
    | nil => simp [toPys, PyData.eqvAll, eqDs]
    | cons y ys => simp only [toPys, PyData.eqvAll, eqDs, eqD_py x y, eqDs_py xs ys]
end
mutual
theorem okD_py : ∀ (n : Nat) (d : D), okD n d = true → (toPy d).canLay0 = true ∧ (toPy d).depth ≤ n
  | _, .non, _ => by simp [toPy, PyData.canLay0, PyData.depth]
  | _, .bl _, _ => by simp [toPy, PyData.canLay0, PyData.depth]
  | _, .int _, _ => by simp [toPy, PyData.canLay0, PyData.depth]
  | n, .str x, h => by
    have h : PyData.strOk x = true := by cases n <;> simpa [okD] using h
    simp [toPy, PyData.canLay0, PyData.depth, h]
  | n, .fd _ _, h => by cases n <;> simp [okD] at h
  | 0, .tup _, h => by simp [okD] at h
  | 0, .fl _, h => by simp [okD] at h
  | n + 1, .tup xs, h => by
    obtain ⟨a, b⟩ := okDs_py n xs (by simpa [okD] using h)
    simp only [toPy, PyData.canLay0, PyData.depth]
    exact ⟨a, by omega⟩
  | n + 1, .fl xs, h => by
    obtain ⟨a, b⟩ := okDs_py n xs (by simpa [okD] using h)
    simp only [toPy, PyData.canLay0, PyData.depth]
    exact ⟨a, by omega⟩
theorem okDs_py : ∀ (n : Nat) (ds : List D), okDs n ds = true → PyData.canLayAll0 (toPys ds) = true ∧ PyData.depthAll (toPys ds) ≤ n
  | _, [], _ => by simp [toPys, PyData.canLayAll0, PyData.depthAll]
  | n, x :: xs, h => by
    have h' : okD n x = true ∧ okDs n xs = true := by cases n <;> simpa [okDs] using h
    obtain ⟨a1, b1⟩ := okD_py n x h'.1
    obtain ⟨a2, b2⟩ := okDs_py n xs h'.2
    simp only [toPys, PyData.canLayAll0, PyData.depthAll, a1, a2, Bool.and_self, true_and]
    omega
end
theorem shaped_of {d : D} (h : okD 60 d = true) : SeqAt.shaped (toPy d) = true := by
  obtain ⟨a, b⟩ := okD_py 60 d h
  unfold SeqAt.shaped
  rw [a, Bool.true_and]
  exact decide_eq_true (by omega)
section
variable {X : Cx} {pins : List (Addr × Obj)} {σ : L2.St} {H : Hp} {s : Shared}
mutual
theorem reads_of (I : Inv X pins σ H s) : ∀ (k : Nat) (d : D) (v : V) (u : Value), okD k d = true → RelD X.K H d v → RelV v u → ∃ as, Reads s.heap u (toPy d) as
  | _, .non, v, u, _, h, r => by simp only [RelD] at h; subst h; cases r; exact ⟨_, .none⟩
  | _, .bl b, v, u, _, h, r => by simp only [RelD] at h; subst h; cases r; exact ⟨_, .bool b⟩
  | _, .int i, v, u, _, h, r => by simp only [RelD] at h; subst h; obtain ⟨t, rfl⟩ := r; exact ⟨_, .int i t⟩
  | _, .str x, v, u, _, h, r => by simp only [RelD] at h; subst h; obtain ⟨t, rfl⟩ := r; exact ⟨_, .str x t⟩
  | _, .fd _ _, v, u, hk, h, r => by simp [okD] at hk
  | 0, .tup xs, v, u, hk, h, r => by simp [okD] at hk
  | 0, .fl xs, v, u, hk, h, r => by simp [okD] at hk
  | k + 1, .tup xs, v, u, hk, h, r => by
    simp only [RelD] at h
    obtain ⟨a, vs, rfl, q, h⟩ := h
    cases r
    obtain ⟨its, rv, ⟨o, e, c, n, hd⟩, _⟩ := I.tuple q
    obtain ⟨as, ra⟩ := readss_of I k xs vs its (by simpa [okD] using hk) h rv
    exact ⟨_, .tuple e c hd (by simpa using ra)⟩
  | k + 1, .fl xs, v, u, hk, h, r => by
    simp only [RelD] at h
    obtain ⟨a, vs, rfl, q, h⟩ := h
    cases r
    obtain ⟨its, rv, ⟨o, n, e, c, _, hd⟩, _⟩ := I.list q.sq
    obtain ⟨as, ra⟩ := readss_of I k xs vs its (by simpa [okD] using hk) h rv
    exact ⟨_, .list e c hd (by simpa using ra)⟩
theorem readss_of (I : Inv X pins σ H s) : ∀ (k : Nat) (ds : List D) (vs : List V) (us : List Value), okDs k ds = true → RelDs X.K H ds vs → Vals vs us → ∃ as, ReadsAll s.heap us (toPys ds) as
  | _, [], vs, us, _, h, r => by simp only [RelDs] at h; subst h; cases r; exact ⟨_, .nil⟩
  | k, d :: ds, vs, us, hk, h, r => by
    have hk : okD k d = true ∧ okDs k ds = true := by cases k <;> simpa [okDs] using hk
    simp only [RelDs] at h
    obtain ⟨v, vr, rfl, h1, h2⟩ := h
    cases r with
    | cons r1 r2 =>
      obtain ⟨as, q1⟩ := reads_of I k d v _ hk.1 h1 r1
      obtain ⟨bs, q2⟩ := readss_of I k ds vr _ hk.2 h2 r2
      exact ⟨_, .cons q1 q2⟩
end
end
noncomputable def viewD : R → Store → Option D
  | .v d, _ => some d
  | .p n, μ => match μ[n]? with | some (.lst xs) => some (.fl xs) | some (.fz xs) => some (.fl xs) | _ => none
  | _, _ => none
noncomputable def eqR (neg : Bool) : R → R → Store → Option (R × Store) := fun x y μ => (viewD x μ).bind fun a => (viewD y μ).bind fun b => if (okD 60 a && okD 60 b) = true then some (.v (.bl (if neg then !eqD a b else eqD a b)), μ) else none
noncomputable def rEqD (K : PySem.W.Frag) (neg : Bool) : R2 := fun v u H Q => ∃ m μ x y d, SRel K m H μ ∧ RelR K m H x v ∧ RelR K m H y u ∧ eqR neg x y μ = some (.v (.bl d), μ) ∧ Q (.bl d) H
theorem g_eq {K : PySem.W.Frag} {neg : Bool} : GOp K (eqR neg) (rEqD K neg) := by
  intro m H μ x y d μ' v u Q s rx ry e k
  have e0 := e
  unfold eqR at e
  obtain ⟨a, e1, e⟩ := Option.bind_eq_some_iff.mp e
  obtain ⟨b, e2, e⟩ := Option.bind_eq_some_iff.mp e
  split at e
  · cases e
    exact ⟨m, μ, x, y, _, s, rx, ry, e0, k _ H m .refl s (by simp only [RelR, RelD])⟩
  · cases e
theorem view_reads {X : Cx} {pins : List (Addr × Obj)} {σ : L2.St} {H : Hp} {s : Shared} {m : List Addr} {μ : Store} {x : R} {d : D} {v : V} {u : Value} (I : Inv X pins σ H s) (S : SRel X.K m H μ) (r : RelR X.K m H x v) (ru : RelV v u) (e : viewD x μ = some d) (hk : okD 60 d = true) : ∃ as, Reads s.heap u (toPy d) as := by
  cases x with
  | v d' => cases e; exact reads_of I 60 _ _ _ hk r ru
  | s _ _ => cases e
  | x _ => cases e
  | p n =>
    have hl : ∃ xs, d = .fl xs ∧ lstD (.p n) μ = some xs := by
      simp only [viewD] at e
      split at e
      · rename_i xs q; cases e; exact ⟨xs, rfl, by simp [lstD, q]⟩
      · rename_i xs q; cases e; exact ⟨xs, rfl, by simp [lstD, q]⟩
      · cases e
    obtain ⟨xs, rfl, e2⟩ := hl
    obtain ⟨a, vs, rfl, q, rr⟩ := lst_ok S r e2
    cases ru
    obtain ⟨its, rv, ⟨o, n', e, c, _, hd⟩, _⟩ := I.list q
    obtain ⟨as, ra⟩ := readss_of I 59 xs vs its (by simpa [okD] using hk) rr rv
    exact ⟨_, .list e c hd (by simpa using ra)⟩
theorem op_eqD {X : Cx} (hu : X.A.units + 64 < cLine) : OpR X (compareOp .Eq) (rEqD X.K false) := by
  intro pins s σ H v u v' u' Q I rv ru q
  obtain ⟨m, μ, x, y, d, S, rx, ry, e, q⟩ := q
  unfold eqR at e
  obtain ⟨a, e1, e⟩ := Option.bind_eq_some_iff.mp e
  obtain ⟨b, e2, e⟩ := Option.bind_eq_some_iff.mp e
  split at e
  · rename_i z
    rw [Bool.and_eq_true] at z
    cases e
    obtain ⟨as, r1⟩ := view_reads I S rx rv e1 z.1
    obtain ⟨bs, r2⟩ := view_reads I S ry ru e2 z.2
    exact eq_dataH r1 r2 (shaped_of z.1) (shaped_of z.2) hu ⟨_, H, I, by rw [eqD_py]; rfl, q⟩
  · cases e
theorem op_neD {X : Cx} (hu : X.A.units + 64 < cLine) : OpR X (compareOp .NotEq) (rEqD X.K true) := by
  intro pins s σ H v u v' u' Q I rv ru q
  obtain ⟨m, μ, x, y, d, S, rx, ry, e, q⟩ := q
  unfold eqR at e
  obtain ⟨a, e1, e⟩ := Option.bind_eq_some_iff.mp e
  obtain ⟨b, e2, e⟩ := Option.bind_eq_some_iff.mp e
  split at e
  · rename_i z
    rw [Bool.and_eq_true] at z
    cases e
    obtain ⟨as, r1⟩ := view_reads I S rx rv e1 z.1
    obtain ⟨bs, r2⟩ := view_reads I S ry ru e2 z.2
    exact ne_dataH r1 r2 (shaped_of z.1) (shaped_of z.2) hu ⟨_, H, I, by rw [eqD_py]; rfl, q⟩
  · cases e
noncomputable def isK (neg : Bool) (c : D) : R → Store → Option (R × Store) := fun x μ => match c, x with
  | .non, .v .non => some (.v (.bl (!neg)), μ)
  | .bl b, .v (.bl a) => some (.v (.bl (if neg then !(a == b) else a == b)), μ)
  | _, _ => some (.v (.bl neg), μ)
noncomputable def rIsK (neg : Bool) (c : V) : R2 := fun x y H Q => y = c ∧ Q (.bl (if neg then !decide (x = c) else decide (x = c))) H
section
variable {X : Cx}
theorem op_isNon : OpR X (compareOp .Is) (rIsK false .non) := op_isN
theorem op_isNotNon : OpR X (compareOp .IsNot) (rIsK true .non) := op_notN
end
theorem isK_ok {K : PySem.W.Frag} {m : List Addr} {H : Hp} {neg : Bool} {c : D} {cv v : V} {x d : R} {μ μ' : Store} (hc : (c = .non ∧ cv = .non) ∨ ∃ b, c = .bl b ∧ cv = .bl b) (r : RelR K m H x v) (e : isK neg c x μ = some (d, μ')) :
    μ' = μ ∧ d = .v (.bl (if neg then !decide (v = cv) else decide (v = cv))) := by
  have nn : ∀ d0, d0 ≠ .non → RelD K H d0 v → v ≠ .non := fun d0 h1 h2 z => by
    subst z
    cases d0 <;> simp only [RelD] at h2 <;> first | exact h1 rfl | (obtain ⟨_, _, _, h, _⟩ := h2; cases h; done) | (obtain ⟨_, _, h, _⟩ := h2; cases h; done) | cases h2
  have nb : ∀ d0 b, (∀ a, d0 ≠ .bl a) → RelD K H d0 v → v ≠ .bl b := fun d0 b h1 h2 z => by
    subst z
    cases d0 <;> simp only [RelD] at h2 <;> first | exact h1 _ rfl | (obtain ⟨_, _, _, h, _⟩ := h2; cases h; done) | (obtain ⟨_, _, h, _⟩ := h2; cases h; done) | cases h2
  have np : ∀ n, RelR K m H (.p n) v → v ≠ .non ∧ ∀ b, v ≠ .bl b := fun n ⟨a, e, _⟩ => ⟨fun z => (by rw [e] at z; cases z), fun b z => (by rw [e] at z; cases z)⟩
  have ns : ∀ b' n, RelR K m H (.s b' n) v → v ≠ .non ∧ ∀ b, v ≠ .bl b := fun b' n ⟨a, _, e, _⟩ => ⟨fun z => (by rw [e] at z; cases z), fun b z => (by rw [e] at z; cases z)⟩
  have nx : ∀ c, RelR K m H (.x c) v → v ≠ .non ∧ ∀ b, v ≠ .bl b := fun c ⟨a, _, _, e, _⟩ => ⟨fun z => (by rw [e] at z; cases z), fun b z => (by rw [e] at z; cases z)⟩
  rcases hc with ⟨rfl, rfl⟩ | ⟨b, rfl, rfl⟩
  · cases x with
    | v d0 =>
      by_cases h0 : d0 = .non
      · subst h0
        have r : v = .non := by simpa only [RelR, RelD] using r
        subst r
        cases e
        cases neg <;> simp
      · have := nn d0 h0 r
        cases d0 <;> first | exact absurd rfl h0 | (cases e; cases neg <;> simp [this])
    | p n => have := (np n r).1; cases e; cases neg <;> simp [this]
    | s b' n => have := (ns b' n r).1; cases e; cases neg <;> simp [this]
    | x c => have := (nx c r).1; cases e; cases neg <;> simp [this]
  · cases x with
    | v d0 =>
      by_cases h0 : ∃ a, d0 = .bl a
      · obtain ⟨a, rfl⟩ := h0
        have r : v = .bl a := by simpa only [RelR, RelD] using r
        subst r
        cases e
        cases neg <;> cases a <;> cases b <;> simp
      · have := nb d0 b (fun a z => h0 ⟨a, z⟩) r
        cases d0 <;> first | exact absurd ⟨_, rfl⟩ h0 | (cases e; cases neg <;> simp [this])
    | p n => have := (np n r).2 b; cases e; cases neg <;> simp [this]
    | s b' n => have := (ns b' n r).2 b; cases e; cases neg <;> simp [this]
    | x c => have := (nx c r).2 b; cases e; cases neg <;> simp [this]
theorem rd_is {K : PySem.W.Frag} {σ : L2.St} {H : Hp} {Q : VK} {fa : FE} {neg : Bool} {c : D} {cv : V} (hc : (c = .non ∧ cv = .non) ∨ ∃ b, c = .bl b ∧ cv = .bl b) (h : rdE K (fUn (isK neg c) fa) σ H Q) : tOp (rIsK neg cv) (rdE K fa) (tC cv) σ H Q := by
  obtain ⟨ρ, μ, m, d, μ', hl, hs, e, k⟩ := h
  obtain ⟨⟨x, μ1⟩, e1, e⟩ := Option.bind_eq_some_iff.mp e
  refine ⟨ρ, μ, m, x, μ1, hl, hs, e1, fun v H1 m1 x1 s1 r1 => ⟨rfl, ?_⟩⟩
  obtain ⟨rfl, rfl⟩ := isK_ok hc r1 e
  exact k _ H1 m1 x1 s1 (by simp only [RelR, RelD])
noncomputable def tyD : R → Store → Option String
  | .v .non, _ => some "NoneType"
  | .v (.bl _), _ => some "bool"
  | .v (.int _), _ => some "int"
  | .v (.str _), _ => some "str"
  | .v (.tup _), _ => some "tuple"
  | .v (.fl _), _ => some "list"
  | .v (.fd _ _), _ => some "dict"
  | .p n, μ => match μ[n]? with | some (.lst _) => some "list" | some (.fz _) => some "list" | some (.dct _) => some "dict" | _ => none
  | .s _ _, _ => none
  | .x _, _ => none
noncomputable def isiD (T : String) : R → Store → Option (R × Store) := fun x μ => (tyD x μ).bind fun t => some (.v (.bl (t == T || (t == "bool" && T == "int"))), μ)
def Kinds (K : PySem.W.Frag) (T : String) : Prop := ∀ t ∈ ["NoneType", "bool", "int", "str", "tuple", "list", "dict"], PySem.W.kitOne K (.type t) (.type T) = some (t == T || (t == "bool" && T == "int"))
def rIsi (K : PySem.W.Frag) (T : String) : List V → Hp → VK → Prop := fun vs H Q => ∃ m μ x v d, vs = [v, .ty T] ∧ SRel K m H μ ∧ RelR K m H x v ∧ isiD T x μ = some (.v (.bl d), μ) ∧ Q (.bl d) H
theorem call_isi {X : Cx} {T : String} (hT : Kinds X.K T) : CallR X (.builtin "isinstance") (rIsi X.K T) := by
  intro pins s σ H vs us Q I rv q
  obtain ⟨m, μ, x, v, d, rfl, S, rx, e, q⟩ := q
  obtain ⟨t, e1, e⟩ := Option.bind_eq_some_iff.mp e
  cases e
  cases rv with
  | cons r1 rr =>
    cases rr with
    | cons r2 rr =>
      cases rr
      cases r2
      have fin : ∀ tk, EP X pins σ Q (.bool (t == T || (t == "bool" && T == "int"))) { s with toks := tk } := fun tk => ⟨.bl _, H, I.tok tk, rfl, q⟩
      cases x with
      | v d0 =>
        cases d0 with
        | non => cases e1; have r : v = .non := by simpa only [RelR, RelD] using rx
                 subst r; cases r1; exact PySem.W.kia_one PySem.W.kitx_none I.kIn True.intro (hT _ (by simp)) (fun z => nomatch z) fin
        | bl b => cases e1; have r : v = .bl b := by simpa only [RelR, RelD] using rx
                  subst r; cases r1; exact PySem.W.kia_one PySem.W.kitx_bool I.kIn True.intro (hT _ (by simp)) (fun z => nomatch z) fin
        | int i => cases e1; have r : v = .int i := by simpa only [RelR, RelD] using rx
                   subst r; obtain ⟨t, rfl⟩ := r1; exact PySem.W.kia_one PySem.W.kitx_int I.kIn True.intro (hT _ (by simp)) (fun z => nomatch z) fin
        | str i => cases e1; have r : v = .str i := by simpa only [RelR, RelD] using rx
                   subst r; obtain ⟨t, rfl⟩ := r1; exact PySem.W.kia_one PySem.W.kitx_str I.kIn True.intro (hT _ (by simp)) (fun z => nomatch z) fin
        | tup xs =>
          cases e1
          simp only [RelR, RelD] at rx
          obtain ⟨a, ws, rfl, q', _⟩ := rx
          cases r1
          obtain ⟨its, _, ⟨o, h1, h2, _⟩, _⟩ := I.tuple q'
          exact PySem.W.kia_one PySem.W.kitx_tuple I.kIn ⟨o, h1, h2⟩ (hT _ (by simp)) (fun z => nomatch z) fin
        | fl xs =>
          cases e1
          simp only [RelR, RelD] at rx
          obtain ⟨a, ws, rfl, q', _⟩ := rx
          cases r1
          obtain ⟨its, _, ⟨o, n, h1, h2, _⟩, _⟩ := I.list q'.sq
          exact PySem.W.kia_one PySem.W.kitx_list I.kIn ⟨o, h1, h2⟩ (hT _ (by simp)) (fun z => nomatch z) fin
        | fd ks ds =>
          cases e1
          simp only [RelR, RelD] at rx
          obtain ⟨a, o', es, rfl, q', _⟩ := rx
          cases r1
          obtain ⟨_, _, _, vs, _, p⟩ := (show ObjOk X.prog X.w H s.heap a (.frz o' (.dK es)) from I.hok a _ q')
          obtain ⟨o, es', ep, h1, h2, _⟩ := p
          exact PySem.W.kia_one PySem.W.kitx_dict I.kIn ⟨o, h1, h2.1⟩ (hT _ (by simp)) (fun z => nomatch z) fin
      | s _ _ => cases e1
      | x _ => cases e1
      | p n =>
        obtain ⟨a, rfl, ha⟩ := rx
        cases r1
        simp only [tyD] at e1
        split at e1
        · rename_i xs z
          cases e1
          obtain ⟨ws, q', _⟩ := S.cell n _ a z ha
          obtain ⟨its, _, ⟨o, n, h1, h2, _⟩, _⟩ := I.list (.inl (.inl q'))
          exact PySem.W.kia_one PySem.W.kitx_list I.kIn ⟨o, h1, h2⟩ (hT _ (by simp)) (fun z => nomatch z) fin
        · rename_i xs z
          cases e1
          obtain ⟨o', ws, q', _⟩ := S.cell n _ a z ha
          obtain ⟨its, _, ⟨o, n, h1, h2, _⟩, _⟩ := I.list (.inl (.inr ⟨o', q'⟩))
          exact PySem.W.kia_one PySem.W.kitx_list I.kIn ⟨o, h1, h2⟩ (hT _ (by simp)) (fun z => nomatch z) fin
        · rename_i kvs z
          cases e1
          obtain ⟨es, q', _⟩ := S.cell n _ a z ha
          obtain ⟨_, _, vs, _, p⟩ := (show ObjOk X.prog X.w H s.heap a (.dK es) from I.hok a _ q')
          obtain ⟨o, es', ep, h1, h2, _⟩ := p
          exact PySem.W.kia_one PySem.W.kitx_dict I.kIn ⟨o, h1, h2.1⟩ (hT _ (by simp)) (fun z => nomatch z) fin
        · cases e1
theorem rd_isi {K : PySem.W.Frag} {σ : L2.St} {H : Hp} {Q : VK} {fa : FE} {T : String} (h : rdE K (fUn (isiD T) fa) σ H Q) : tCB (rIsi K T) (tCons (rdE K fa) (tCons (tC (.ty T)) tNil)) σ H Q := by
  obtain ⟨ρ, μ, m, d, μ', hl, hs, e, k⟩ := h
  obtain ⟨⟨x, μ1⟩, e1, e⟩ := Option.bind_eq_some_iff.mp e
  have e0 := e
  obtain ⟨t, e2, e⟩ := Option.bind_eq_some_iff.mp e
  cases e
  exact ⟨ρ, μ, m, x, _, hl, hs, e1, fun v H1 m1 x1 s1 r1 => ⟨m1, _, x, v, _, rfl, s1, r1, e0, k _ H1 m1 x1 s1 (by simp only [RelR, RelD])⟩⟩
noncomputable def boolsD : List D → Option (List Bool)
  | [] => some []
  | .bl b :: r => (boolsD r).bind fun bs => some (b :: bs)
  | _ :: _ => none
noncomputable def allD (any : Bool) : List R → Store → Option (R × Store)
  | [x], μ => (lstD x μ).bind fun xs => (boolsD xs).bind fun bs => some (.v (.bl (if any then bs.any id else bs.all id)), μ)
  | _, _ => none
def rAll (K : PySem.W.Frag) (any : Bool) : List V → Hp → VK → Prop := fun vs H Q => ∃ (a : Addr) (bs : List Bool), vs = [.ref a] ∧ SqL K H a (bs.map V.bl) ∧ Q (.bl (if any then bs.any id else bs.all id)) H
theorem bools_rel {K : PySem.W.Frag} {H : Hp} : ∀ {ds : List D} {bs : List Bool} {vs : List V}, boolsD ds = some bs → RelDs K H ds vs → vs = bs.map V.bl
  | [], _, _, e, h => by cases e; simp only [RelDs] at h; exact h
  | .bl b :: r, _, _, e, h => by
    obtain ⟨bs, e1, e⟩ := Option.bind_eq_some_iff.mp e
    cases e
    simp only [RelDs] at h
    obtain ⟨v, vr, rfl, h1, h2⟩ := h
    simp only [RelD] at h1
    subst h1
    rw [bools_rel e1 h2]; rfl
  | .non :: _, _, _, e, _ => by cases e
  | .int _ :: _, _, _, e, _ => by cases e
  | .str _ :: _, _, _, e, _ => by cases e
  | .tup _ :: _, _, _, e, _ => by cases e
  | .fl _ :: _, _, _, e, _ => by cases e
  | .fd _ _ :: _, _, _, e, _ => by cases e
theorem g_all {K : PySem.W.Frag} {any : Bool} : GAr K (allD any) (rAll K any) := by
  intro m H μ xs d μ' vs Q s r e k
  unfold allD at e
  split at e
  · rename_i x
    obtain ⟨ys, e1, e⟩ := Option.bind_eq_some_iff.mp e
    obtain ⟨bs, e2, e⟩ := Option.bind_eq_some_iff.mp e
    cases e
    obtain ⟨v, rfl, r1⟩ := rel1 r
    obtain ⟨a, ws, rfl, q, r2⟩ := lst_ok s r1 e1
    rw [bools_rel e2 r2] at q
    exact ⟨a, bs, rfl, q, k _ H m .refl s (by simp only [RelR, RelD])⟩
  · cases e
theorem bools_at {bs : List Bool} {its : List Value} (r : Vals (bs.map V.bl) its) : ∀ (i : Nat) v, its.toArray[i]? = some v → v = .bool (bs.getD i false) ∧ i < bs.length := fun i v e => by
  have e : its[i]? = some v := by simpa using e
  have hi : i < its.length := (List.getElem?_eq_some_iff.mp e).1
  have hl := r.length
  rw [List.length_map] at hl
  have hb : i < bs.length := by omega
  obtain ⟨u, q1, q2⟩ := Vals.get (i := i) (x := .bl bs[i]) r (by simp [hb])
  rw [e] at q1
  cases q1
  cases q2
  simp [hb]
theorem range_all {bs : List Bool} : ((List.range bs.length).all fun i => bs.getD i false) = bs.all id := by
  rw [Bool.eq_iff_iff, List.all_eq_true, List.all_eq_true]
  constructor
  · intro h x hx
    obtain ⟨i, hi, rfl⟩ := List.getElem_of_mem hx
    have := h i (List.mem_range.mpr hi)
    simpa [hi] using this
  · intro h i hi
    have hi := List.mem_range.mp hi
    have := h bs[i] (List.getElem_mem hi)
    simpa [hi] using this
theorem call_allB {X : Cx} (hc : X.calm = true) : CallR X (.builtin "all") (rAll X.K false) := by
  intro pins s σ H vs us Q I rv q
  obtain ⟨a, bs, rfl, q', q⟩ := q
  cases rv with
  | cons r1 rr =>
    cases rr
    cases r1
    obtain ⟨its, rv, p, hz⟩ := I.list q'
    have hlt : a < s.heap.objs.size := by obtain ⟨o, n, e, _⟩ := p; exact Heap.lt_size e
    refine call_all_walk (wpAny_pyIter_list p.isList ?_)
    refine ⟨_, _, _, _, _, _, fun i => bs.getD i false, rfl, Walks.list (A := X.A.in1) (show X.A.in1.handled = none from I.ok.hd hc) s.heap.objs.size a (Nat.ne_of_lt hlt) its.toArray, ⟨⟨_, Heap.get?_push_size _ rfl, rfl, rfl⟩, p.isList.push _⟩, fun i v s' Q' E' hv hq => ?_, fun h' tk hk => ?_⟩
    · rw [(bools_at rv i v hv).1]
      exact wpAny_truthy_bool hq
    · have hl : its.toArray.size = bs.length := by have := rv.length; rw [List.length_map] at this; simp [this]
      rw [hl, range_all]
      refine ⟨.bl _, H, I.kept (t' := tk) fun b o e => hk b o ?_ (Heap.get?_push_of_some _ e), rfl, q⟩
      intro z
      rw [List.mem_singleton.mp z] at e
      exact absurd (Heap.lt_size e) (Nat.lt_irrefl _)
end HW
namespace HW
open PySem PySem.Spec PyProof.Rows L2 HS
theorem vals_ints : ∀ {ns : List Int} {its : List Value}, Vals (ns.map V.int) its → IntsAre its ns
  | [], its, h => by cases h; exact .nil
  | n :: ns, its, h => by
    cases h with
    | cons r t => obtain ⟨tk, rfl⟩ := r; exact .cons n tk (vals_ints t)
noncomputable abbrev heldSet (o : Obj) : HO := .frz o (.ext fun _ => True)
noncomputable def minD : List R → Store → Option (R × Store)
  | [.v (.int i), .v (.int j)], μ => some (.v (.int (if j < i then j else i)), μ)
  | _, _ => none
theorem rel2 {K : PySem.W.Frag} {m : List Addr} {H : Hp} {x y : R} {vs : List V} (r : RelRs K m H [x, y] vs) : ∃ v w, vs = [v, w] ∧ RelR K m H x v ∧ RelR K m H y w := by
  obtain ⟨v, r, rfl, h1, h2⟩ := r
  obtain ⟨w, r, rfl, h2, h3⟩ := h2
  have h3 : r = [] := h3
  subst h3
  exact ⟨v, w, rfl, h1, h2⟩
theorem g_min {K : PySem.W.Frag} : GAr K minD (fun xs H Q => ∃ i j, xs = [.int i, .int j] ∧ Q (.int (if j < i then j else i)) H) := by
  intro m H μ xs d μ' vs Q s r e k
  unfold minD at e
  split at e
  · cases e
    obtain ⟨v, w, rfl, r1, r2⟩ := rel2 r
    simp only [RelR, RelD] at r1 r2
    subst r1; subst r2
    exact ⟨_, _, rfl, k _ H m .refl s (by simp only [RelR, RelD])⟩
  · cases e
end HW
namespace HW
open PySem PySem.Spec PyProof.Rows L2 HS
end HW
namespace HW
open PySem PySem.Spec PyProof.Rows L2 HS
noncomputable def putKD (kvs : List (Key × D)) (k : Key) (v : D) : List (Key × D) := if (kvs.any fun kv => decide (kv.1 = k)) = true then kvs.map (fun kv => if kv.1 = k then (kv.1, v) else kv) else kvs ++ [(k, v)]
end HW
namespace HW
open PySem PySem.Spec PyProof.Rows L2
mutual
noncomputable def flatD : D → Bool
  | .tup xs => flatDs xs
  | .fl _ => false
  | .fd _ _ => false
  | _ => true
noncomputable def flatDs : List D → Bool
  | [] => true
  | x :: xs => flatD x && flatDs xs
end
section
variable {P : Program} {w : World} {H H0 : Hp} {h h0 : Heap} {a : Addr} {u : HO} {o : Obj} {fs ex : List Addr}
end
section
variable {K : PySem.W.Frag} {H H1 H2 H' : Hp}
end
section
variable {K : PySem.W.Frag} {m : List Addr} {σ : L2.St} {H H0 : Hp} {μ : Store} {Q : VK}
end
end HW
namespace HW
open PySem PySem.Spec PyProof.Rows L2
noncomputable def rAdd0 (K : PySem.W.Frag) : R2 := fun x y H Q => ∃ a b ys, x = .ref a ∧ y = .ref b ∧ SqT K H a [] ∧ SqT K H b ys ∧ ys.length ≤ sizeLine ∧ Q (.ref b) H
theorem op_add0 {X : Cx} : OpR X (binaryOp .Add) (rAdd0 X.K) := by
  intro pins s σ H x y v u Q I rx ry h
  obtain ⟨a, b, ys, rfl, rfl, ha, hb, hz, q⟩ := h
  cases rx
  cases ry
  obtain ⟨its, r1, p1, _⟩ := I.tuple ha
  obtain ⟨its2, r2, p2, _⟩ := I.tuple hb
  cases r1
  obtain ⟨⟨cls, dd, data, sl⟩, ho, hc, n, hd⟩ := id p1
  obtain ⟨⟨cls2, dd2, data2, sl2⟩, ho2, hc2, n2, hd2⟩ := id p2
  simp only at hc hd hc2 hd2
  subst hc hd hc2 hd2
  exact concat_meets ⟨_, ho, rfl⟩ ⟨_, ho2, rfl⟩ noFill_tuple_add seq_tuple_add PySem.F.slot_tuple_add PySem.F.entry_tuple_add (PySem.F.args_tuple_add_2 _ _)
    (tuple_addW0 a b #[] its2.toArray n n2 dd dd2 sl sl2 (by simp)) ⟨ho, ho2, ⟨.ref b, H, I, rfl, q⟩⟩
noncomputable def addQ : R → R → Store → Option (R × Store)
  | .v (.tup []), .v (.tup ys), μ => if ys.length ≤ sizeLine then some (.v (.tup ys), μ) else none
  | x, y, μ => addD x y μ
theorem g_addQ {K : PySem.W.Frag} : GOp K addQ (fun x y H Q => rAdd' K x y H Q ∨ rAdd0 K x y H Q) := by
  intro m H μ x y d μ' v u Q s rx ry e k
  unfold addQ at e
  split at e
  · split at e
    · rename_i z
      cases e
      have ry' := ry
      simp only [RelR, RelD] at rx ry
      obtain ⟨a, vs, rfl, qa, ra⟩ := rx
      obtain ⟨b, ws, rfl, qb, rb⟩ := ry
      have ra : vs = [] := by simpa only [RelDs] using ra
      subst ra
      exact .inr ⟨a, b, ws, rfl, rfl, qa, qb, by rw [← rb.length]; exact z, k _ H m .refl s ry'⟩
    · cases e
  · exact .inl (g_add m H μ _ _ d μ' v u Q s rx ry e k)
noncomputable def strD : List R → Store → Option (R × Store)
  | [.v (.int i)], μ => if i.natAbs.log2 < 1920 then some (.v (.str (toString i)), μ) else none
  | _, _ => none
theorem g_str {K : PySem.W.Frag} : GAr K strD (fun xs H Q => ∃ i, xs = [.int i] ∧ i.natAbs.log2 < 1920 ∧ Q (.str (toString i)) H) := by
  intro m H μ xs d μ' vs Q s r e k
  unfold strD at e
  split at e
  · split at e
    · rename_i z
      cases e
      obtain ⟨v, rfl, r1⟩ := rel1 r
      simp only [RelR, RelD] at r1
      subst r1
      exact ⟨_, rfl, z, k _ H m .refl s (by simp only [RelR, RelD])⟩
    · cases e
  · cases e
noncomputable def keyOf : R → Option Key
  | .v (.int i) => some (.inl i)
  | .v (.str x) => some (.inr x)
  | _ => none
noncomputable def putC (o i : R) (dv : D) (μ : Store) : Option Store := match o with
  | .p n => match μ[n]? with
    | some (.lst xs) => (match i with | .v (.int k) => (ixN xs.length k).bind fun j => some (μ.set n (.lst (xs.set j dv))) | _ => none)
    | some (.dct kvs) => if kvs.length < sizeLine then (keyOf i).bind fun k => some (μ.set n (.dct (putKD kvs k dv))) else none
    | _ => none
  | _ => none
noncomputable def gSub (fo fi : FE) : FG := fun d ρ μ => match d with | .v dv => (fo ρ μ).bind fun o => (fi ρ o.2).bind fun i => (putC o.1 i.1 dv i.2).bind fun μ' => some (ρ, μ') | _ => none
end HW
namespace HW
open PySem PySem.Spec PyProof.Rows L2
noncomputable def bestOf (lt : Int → Int → Bool) (ns : List Int) : Int := ns.getD (argBest (fun i j => lt (ns.getD i 0) (ns.getD j 0)) (ns.length - 1)) 0
end HW
namespace HS
open PySem PySem.Spec PyProof.Rows L2
section
variable {prog : Program} {w : World} {A : Around} {E : Value → Shared → Prop} {s : Shared}
end
end HS
namespace HW
open PySem PySem.Spec PyProof.Rows L2 HS
section
variable {K : PySem.W.Frag} {σ : L2.St}
end
end HW
namespace HW
open PySem PySem.Spec PyProof.Rows L2
def ConstR (K : PySem.W.Frag) (mg : Str → Option Value) (x : Str) (d : D) : Prop := ∃ u v, mg x = some u ∧ RelV v u ∧ ∀ H, RelD K H d v
def CRel (K : PySem.W.Frag) (d : D) (v : V) (u : Value) : Prop := RelV v u ∧ ∀ H, RelD K H d v
def CRels (K : PySem.W.Frag) (ds : List D) (vs : List V) (us : List Value) : Prop := Vals vs us ∧ ∀ H, RelDs K H ds vs
theorem crs_nil {K : PySem.W.Frag} : CRels K [] [] [] := ⟨.nil, fun _ => rfl⟩
theorem crs_cons {K : PySem.W.Frag} {d : D} {v : V} {u : Value} {ds : List D} {vs : List V} {us : List Value} (h : CRel K d v u) (h' : CRels K ds vs us) : CRels K (d :: ds) (v :: vs) (u :: us) :=
  ⟨.cons h.1 h'.1, fun H => by simp only [RelDs]; exact ⟨_, _, rfl, h.2 H, h'.2 H⟩⟩
theorem cr_bl {K : PySem.W.Frag} {b : Bool} : CRel K (.bl b) (.bl b) (.bool b) := ⟨rfl, fun H => by simp only [RelD]⟩
theorem cr_int {K : PySem.W.Frag} {i : Int} {t : Tok} : CRel K (.int i) (.int i) (.int i t) := ⟨⟨t, rfl⟩, fun H => by simp only [RelD]⟩
theorem cr_str {K : PySem.W.Frag} {x : Str} {t : Tok} : CRel K (.str x) (.str x) (.str x t) := ⟨⟨t, rfl⟩, fun H => by simp only [RelD]⟩
theorem cr_tup {K : PySem.W.Frag} {a : Addr} {us : List Value} {n : Nat} {sl : Array (Option Value)} {ds : List D} {vs : List V} (h : K.lookup a = some ⟨.type "tuple", none, .seq us.toArray n, sl⟩) (hz : us.length ≤ sizeLine) (r : CRels K ds vs us) : CRel K (.tup ds) (.ref a) (.ref a) :=
  ⟨rfl, fun H => by simp only [RelD]; exact ⟨a, vs, rfl, .inr ⟨_, us.toArray, n, h, rfl, rfl, rfl, by simpa using hz, by simpa using r.1⟩, r.2 H⟩⟩
theorem const_of {K : PySem.W.Frag} {mg : Str → Option Value} {x : Str} {u : Value} {d : D} {v : V} (hm : mg x = some u) (r : CRel K d v u) : ConstR K mg x d := ⟨u, v, hm, r.1, r.2⟩
end HW
namespace HW
open PySem PySem.Spec PyProof.Rows L2
noncomputable def entD : List D → Option (List (Option Int))
  | [] => some []
  | .non :: r => (entD r).bind fun os => some (none :: os)
  | .int i :: r => (entD r).bind fun os => some (some i :: os)
  | _ => none
noncomputable def inN (neg : Bool) : R → R → Store → Option (R × Store)
  | .v .non, y, μ => (itemsD y μ).bind fun ds => (entD ds).bind fun os => some (.v (.bl (if neg then !os.contains none else os.contains none)), μ)
  | _, _, _ => none
theorem ent_rel {K : PySem.W.Frag} {H : Hp} : ∀ {ds : List D} {os : List (Option Int)} {vs : List V}, entD ds = some os → RelDs K H ds vs → vs.all flatV = true ∧ inV .non vs = os.contains none
  | [], os, vs, e, r => by
    cases e
    simp only [RelDs] at r
    subst r
    exact ⟨rfl, rfl⟩
  | d :: ds, os, vs, e, r => by
    simp only [RelDs] at r
    obtain ⟨v, r', rfl, r1, r2⟩ := r
    cases d with
    | non =>
      obtain ⟨os', e1, e⟩ := Option.bind_eq_some_iff.mp e
      cases e
      obtain ⟨h1, h2⟩ := ent_rel e1 r2
      simp only [RelD] at r1
      subst r1
      refine ⟨by rw [List.all_cons, h1]; rfl, ?_⟩
      unfold inV
      simp [eqV]
    | int i =>
      obtain ⟨os', e1, e⟩ := Option.bind_eq_some_iff.mp e
      cases e
      obtain ⟨h1, h2⟩ := ent_rel e1 r2
      simp only [RelD] at r1
      subst r1
      refine ⟨by rw [List.all_cons, h1]; rfl, ?_⟩
      unfold inV at h2 ⊢
      rw [List.any_cons, h2]
      simp [eqV]
    | bl _ => cases e
    | str _ => cases e
    | tup _ => cases e
    | fl _ => cases e
    | fd _ _ => cases e
theorem g_inN {K : PySem.W.Frag} {neg : Bool} : GOp K (inN neg) (rIn K neg) := by
  intro m H μ x y d μ' v u Q s rx ry e k
  unfold inN at e
  split at e
  · obtain ⟨ds, e0, e⟩ := Option.bind_eq_some_iff.mp e
    obtain ⟨os, e1, e⟩ := Option.bind_eq_some_iff.mp e
    cases e
    simp only [RelR, RelD] at rx
    subst rx
    obtain ⟨a, ws, rfl, q, rr⟩ := items_ok s ry e0
    obtain ⟨h1, h2⟩ := ent_rel e1 rr
    refine ⟨a, ws, rfl, q, rfl, h1, k _ H m .refl s ?_⟩
    simp only [RelR, RelD, h2]
  · cases e
end HW
namespace HW
open PySem PySem.Spec PyProof.Rows L2
end HW
namespace HS
open PySem PySem.Spec PyProof.Rows
section
variable {prog : Program} {w : World} {A : Around} {E : Value → Shared → Prop} {h : Heap} {g : Array GenState} {d : Drawn} {t : Nat} {os : OsState} {a : Addr} {its : Array Value} {n : Nat} {sl : Array (Option Value)}
end
section
variable {prog : Program} {w : World} {A : Around} {E : Value → Shared → Prop} {s : Shared}
end
end HS
namespace HW
open PySem PySem.Spec PyProof.Rows L2 HS
end HW
namespace HS
open PySem PySem.Spec PyProof.Rows
section
variable {prog : Program} {w : World} {A : Around} {E : Value → Shared → Prop} {s : Shared}
end
end HS
namespace HW
open PySem PySem.Spec PyProof.Rows L2 HS
end HW
namespace HX
open PySem
def Kp (G : Addr → Prop) (S : List Addr) (h h' : Heap) : Prop := ∀ b o, G b → h.get? b = some o → (b ∉ S → h'.get? b = some o) ∧ ∃ sl, h'.get? b = some { o with slots := sl }
noncomputable abbrev eO (C : Value) (vs : Array Value) : Obj := { cls := C, dict := none, data := .fields vs, slots := #[] }
structure Fl (G : Addr → Prop) (h : Heap) (e : Addr) (C fl : Value) : Prop where
  is : ∃ vs T ts c, ¬ G e ∧ ¬ G T ∧ T ≠ e ∧ h.get? e = some (eO C vs) ∧ vs[1]? = some (.ref T) ∧ h.get? T = some (eO c ts) ∧ ts[3]? = some fl
  all : ∀ b, G b → ∃ o, h.get? b = some o
theorem Kp.refl {G S h} : Kp G S h h := fun b o _ q => ⟨fun _ => q, o.slots, q⟩
theorem Kp.trans {G S h h1 h2} (a : Kp G S h h1) (b : Kp G S h1 h2) : Kp G S h h2 := fun c o g q => by
  obtain ⟨a1, sl, a2⟩ := a c o g q
  refine ⟨fun z => (b c o g (a1 z)).1 z, ?_⟩
  obtain ⟨_, sl', b2⟩ := b c _ g a2
  exact ⟨sl', b2⟩
theorem Kp.mono {G S S' h h'} (a : Kp G S h h') (hs : ∀ b ∈ S, b ∈ S') : Kp G S' h h' := fun b o g q => ⟨fun z => (a b o g q).1 fun y => z (hs b y), (a b o g q).2⟩
theorem Kp.but {G : Addr → Prop} {S h h'} {a : Addr} (n : ¬ G a) (k : Heap.SameBut a h h') : Kp G S h h' := fun b o g q => by
  have e : h'.get? b = some o := (k.2 b fun z => n (z ▸ g)).trans q
  exact ⟨fun _ => e, o.slots, e⟩
theorem Kp.keeps {G : Addr → Prop} {S h h'} (k : ∀ b o, h.get? b = some o → h'.get? b = some o) : Kp G S h h' := fun b o g q => ⟨fun _ => k b o q, o.slots, k b o q⟩
theorem Kp.slots {G : Addr → Prop} {S h h'} (k : Heap.SlotsOnly S h h') : Kp G S h h' := fun b o g q => ⟨fun z => (k.2.1 b z).trans q, k.2.2 b o q⟩
theorem Kp.alive {G : Addr → Prop} {S h h'} (k : Kp G S h h') (a : ∀ b, G b → ∃ o, h.get? b = some o) : ∀ b, G b → ∃ o, h'.get? b = some o := fun b g => by
  obtain ⟨o, q⟩ := a b g
  obtain ⟨sl, z⟩ := (k b o g q).2
  exact ⟨_, z⟩
theorem Kp.funs {G : Addr → Prop} {S h h' base} {l : List Env} (k : Kp G S h h') (g : ∀ b ∈ l.filterMap (·.frame), G b) (f : h.FunFrames base l) : h'.FunFrames base l := by
  induction l with
  | nil => trivial
  | cons env r ih =>
    obtain ⟨h1, ⟨L, o, h2, h3, h4, h5⟩, h6⟩ := f
    obtain ⟨_, sl, z⟩ := k L o (g L (by rw [List.filterMap_cons, h2]; exact List.mem_cons_self)) h4
    exact ⟨h1, ⟨L, _, h2, h3, z, h5⟩, ih (fun b hb => g b (by rw [List.filterMap_cons, h2]; exact List.mem_cons_of_mem _ hb)) h6⟩
section
variable {prog : Program} {w : World} {A : Around} {E : Value → Shared → Prop} {s : Shared} {G : Addr → Prop} {e : Addr} {C fl : Value} {Q : Unit → Shared → Prop}
theorem fl_none (x : Fl G s.heap e C fl) (hQ : ∀ h', Fl G h' e C .none → Kp G [] s.heap h' → Q () { s with heap := h' }) : wpAny (model prog w) A (setFlight (.ref e) none) Q E s := by
  obtain ⟨vs, T, ts, c, n1, n2, ne, he, h1, hT, h3⟩ := x.is
  unfold setFlight
  refine wpAny_bind (wpAny_field he rfl h1 ?_)
  rw [if_pos (by simp)]
  refine wpAny_setField_rec hT (Array.getElem?_eq_some_iff.mp h3).1 fun h' hT' k => ?_
  have kp : Kp G [] s.heap h' := .but n2 k
  exact hQ h' ⟨⟨vs, T, _, c, n1, n2, ne, (k.2 e ne.symm).trans he, h1, hT', by simp [(Array.getElem?_eq_some_iff.mp h3).1]⟩, kp.alive x.all⟩ kp
theorem fl_entry {base : Heap} {env : Env} {outer : List Env} {L : Addr} {vs : Array Value} {head : Value} {b : Bool} (hfr : A.frames = some (env :: outer)) (hl : s.heap.FunFrames base (env :: outer)) (hf : env.frame = some L)
    (he : s.heap.get? e = some (eO C vs)) (hz : 1 < vs.size) (ng : ¬ G e) (al : ∀ b, G b → ∃ o, s.heap.get? b = some o)
    (hQ : ∀ h', Fl G h' e C (rawInt L) → Kp G ((env :: outer).filterMap (·.frame)) s.heap h' → Q () { s with heap := h' }) :
    wpAny (model prog w) A (do let x ← frameOf env; let pl ← entryPlaceOf L b; let y ← EntryCells.newEntry head x .none (rawInt L) .none pl; setField (.ref e) 1 y) Q E s := by
  have nf : e ∉ (env :: outer).filterMap (·.frame) := fun hm => by
    obtain ⟨_, o, q, n⟩ := hl.mem hm
    rw [he] at q; cases q; exact n vs rfl
  refine wpAny_bind (wpAny_frameOf_fun hfr hl hf fun h1 k1 => wpAny_bind (wpAny_entryPlaceOf fun pl hp => ?_))
  unfold EntryCells.newEntry; unfold newFields
  refine wpAny_bind (wpAny_newObj_type ?_ (hp.sizeOk5 _ _ _ _ _))
  have he1 : h1.get? e = some (eO C vs) := (k1.2.1 e nf).trans he
  have neT : h1.objs.size ≠ e := Nat.ne_of_gt (Heap.lt_size he1)
  have ngT : ¬ G h1.objs.size := fun g => by
    obtain ⟨o, q⟩ := al _ g
    have q2 := Heap.lt_size q
    rw [k1.1] at q2
    exact absurd q2 (Nat.lt_irrefl _)
  refine wpAny_setField_rec (s := { s with heap := h1.push _ }) (Heap.get?_push_of_some _ he1) hz fun h2 he2 k2 => ?_
  have kp : Kp G ((env :: outer).filterMap (·.frame)) s.heap h2 := ((Kp.slots k1).trans (.keeps fun b o q => Heap.get?_push_of_some _ q)).trans (.but ng k2)
  refine hQ h2 ⟨⟨_, h1.objs.size, _, _, ng, ngT, neT, he2, by simp [hz], (k2.2 _ neT).trans (Heap.get?_push_size h1 rfl), ?_⟩, kp.alive al⟩ kp
  simp
theorem fl_first {base : Heap} {env : Env} {outer : List Env} {L : Addr} {vs : Array Value} (hfr : A.frames = some (env :: outer)) (hl : s.heap.FunFrames base (env :: outer)) (hf : env.frame = some L)
    (he : s.heap.get? e = some (eO C vs)) (h1 : vs[1]? = some .none) (ng : ¬ G e) (al : ∀ b, G b → ∃ o, s.heap.get? b = some o)
    (hQ : ∀ h', Fl G h' e C (rawInt L) → Kp G ((env :: outer).filterMap (·.frame)) s.heap h' → Q () { s with heap := h' }) : wpAny (model prog w) A (noteFrame (.ref e) env) Q E s := by
  unfold noteFrame
  simp only [hf]
  refine wpAny_bind (wpAny_field he rfl h1 ?_)
  rw [if_neg (by decide)]
  exact fl_entry hfr hl hf he (Array.getElem?_eq_some_iff.mp h1).1 ng al hQ
theorem fl_next {base : Heap} {env : Env} {outer : List Env} {L : Addr} (hfr : A.frames = some (env :: outer)) (hl : s.heap.FunFrames base (env :: outer)) (hf : env.frame = some L) (gf : ∀ b ∈ (env :: outer).filterMap (·.frame), G b)
    (x : Fl G s.heap e C .none)
    (hQ : ∀ h', Fl G h' e C (rawInt L) → Kp G ((env :: outer).filterMap (·.frame)) s.heap h' → Q () { s with heap := h' }) : wpAny (model prog w) A (noteFrame (.ref e) env) Q E s := by
  obtain ⟨vs, T, ts, c, n1, n2, ne, he, h1, hT, h3⟩ := x.is
  unfold noteFrame
  simp only [hf]
  refine wpAny_bind (wpAny_field he rfl h1 ?_)
  rw [if_pos (by simp)]
  refine wpAny_bind (wpAny_field hT rfl h3 ?_)
  rw [if_neg (by simp [rawInt])]
  refine wpAny_bind (wpAny_setField_rec hT (Array.getElem?_eq_some_iff.mp h3).1 fun h' hT' k => ?_)
  have kp : Kp G ((env :: outer).filterMap (·.frame)) s.heap h' := .but n2 k
  refine fl_entry (s := { s with heap := h' }) hfr (kp.funs gf hl) hf ((k.2 e ne.symm).trans he) (Array.getElem?_eq_some_iff.mp h1).1 n1 (kp.alive x.all) fun h2 f2 k2 => hQ h2 f2 (kp.trans k2)
theorem fl_leaves {base : Heap} {env : Env} {outer : List Env} {L : Addr} (hfr : A.frames = some (env :: outer)) (hl : s.heap.FunFrames base (env :: outer)) (hf : env.frame = some L) (gf : ∀ b ∈ (env :: outer).filterMap (·.frame), G b)
    (x : Fl G s.heap e C .none) (hQ : ∀ h', Fl G h' e C .none → Kp G ((env :: outer).filterMap (·.frame)) s.heap h' → Q () { s with heap := h' }) : wpAny (model prog w) A (leaving env (.ref e)) Q E s := by
  unfold leaving
  exact wpAny_bind (fl_next hfr hl hf gf x fun h1 f1 k1 => fl_none f1 fun h2 f2 k2 => hQ h2 f2 (k1.trans (k2.mono fun _ z => nomatch z)))
theorem fl_begins {base : Heap} {env : Env} {outer : List Env} {L : Addr} {vs : Array Value} (hfr : A.frames = some (env :: outer)) (hl : s.heap.FunFrames base (env :: outer)) (hf : env.frame = some L)
    (he : s.heap.get? e = some (eO C vs)) (h1 : vs[1]? = some .none) (ng : ¬ G e) (al : ∀ b, G b → ∃ o, s.heap.get? b = some o)
    (hQ : ∀ h', Fl G h' e C .none → Kp G ((env :: outer).filterMap (·.frame)) s.heap h' → Q () { s with heap := h' }) : wpAny (model prog w) A (leaving env (.ref e)) Q E s := by
  unfold leaving
  exact wpAny_bind (fl_first hfr hl hf he h1 ng al fun h1 f1 k1 => fl_none f1 fun h2 f2 k2 => hQ h2 f2 (k1.trans (k2.mono fun _ z => nomatch z)))
end
end HX
namespace HW
open PySem PySem.Spec PyProof.Rows L2
abbrev clsAt (K : PySem.W.Frag) (c : Str) (C : Addr) : Prop := PySem.W.nsIn K mainGlobals c = some (some (.ref C))
noncomputable def CX1 (P : Program) (w : World) (base : Heap) : CXT := fun outer H s E e s' => ∃ ea C G H', e = .ref ea ∧ s'.os = s.os ∧ AllBare s'.gens ∧ Un (frs outer) [] H H' s.heap s'.heap ∧ HOk P w H' s'.heap ∧
  HX.Fl G s'.heap ea (.ref C) .none ∧ (∀ b o, s.heap.get? b = some o → G b) ∧ (∀ b u, H' b = some u → G b) ∧ s'.heap.FunFrames base outer ∧ (∀ b ∈ frs outer, H' b = none) ∧ E (.ref C) none H'
section
variable {P : Program} {w : World} {H H0 H1 : Hp} {h h0 h1 h2 : Heap} {a : Addr} {o : HO} {fs fs' S : List Addr} {G : Addr → Prop}
theorem obj_at (x : ObjOk P w H h a o) : ∃ ob, h.get? a = some ob := by
  cases o with
  | lst xs => obtain ⟨_, _, _, _, e⟩ := x; exact ⟨_, e⟩
  | tup xs => obtain ⟨_, _, _, ⟨_, e, _⟩, _⟩ := x; exact ⟨_, e⟩
  | dK kvs => obtain ⟨_, _, _, _, o, _, _, e, _⟩ := x; exact ⟨_, e⟩
  | dT kvs => obtain ⟨_, _, _, _, o, _, _, e, _⟩ := x; exact ⟨_, e⟩
  | set S n => obtain ⟨o, _, _, _, e, _⟩ := x; exact ⟨_, e⟩
  | ins C dx fs => obtain ⟨_, _, _, e, _⟩ := x; exact ⟨_, e⟩
  | own y => obtain ⟨_, e⟩ := x; exact ⟨_, e⟩
  | xd fs => obtain ⟨_, ⟨_, _, _, e, _⟩, _⟩ := x; exact ⟨_, e⟩
  | rng lo hi => obtain ⟨_, _, _, e⟩ := x; exact ⟨_, e⟩
  | frz ob u => obtain ⟨e, _⟩ := x; exact ⟨_, e⟩
  | tbl ps => exact ⟨_, show h.get? a = some _ from x⟩
  | met f y => exact ⟨_, show h.get? a = some _ from x⟩
  | ext φ => obtain ⟨_, ⟨_, e⟩, _⟩ := x; exact ⟨_, e⟩
theorem un_kp (u : Un fs [] H0 H h0 h) (k : HX.Kp G S h h2) (hs : ∀ b ∈ S, b ∈ fs ∨ h0.get? b = none) (hg : ∀ b o, h0.get? b = some o → G b) : Un fs [] H0 H h0 h2 where
  keep := fun b o q n nb nx => (k b o (hg b o q) (u.keep b o q n nb nx)).1 fun z => (hs b z).elim nb fun y => by rw [q] at y; cases y
  slot := fun b o q n nb nx => by
    obtain ⟨sl, e⟩ := u.slot b o q n nb nx
    obtain ⟨sl', e'⟩ := (k b _ (hg b o q) e).2
    exact ⟨sl', e'⟩
  free := u.free
  there := fun b o q nx => by
    obtain ⟨o', e⟩ := u.there b o q nx
    obtain ⟨sl', e'⟩ := (k b _ (hg b o q) e).2
    exact ⟨_, e'⟩
  tups := u.tups
  frzs := u.frzs
  tbls := u.tbls
theorem hok_kp (x : HOk P w H h) (k : HX.Kp G S h h2) (hg : ∀ b u, H b = some u → G b ∧ b ∉ S) : HOk P w H h2 := fun a o e =>
  (x a o e).stay (fun b u hb q => by
    have : ∃ v, H b = some v := by
      rcases hb with rfl | hb
      · exact ⟨_, e⟩
      · exact ⟨_, hb⟩
    obtain ⟨v, hv⟩ := this
    exact (k b u (hg b v hv).1 q).1 (hg b v hv).2) (fun _ q => q) fun _ _ q => q
theorem un_on (u : Un fs [] H0 H h0 h) (v : Un fs' [] H H1 h h1) (hs : ∀ b ∈ fs', b ∈ fs ∨ h0.get? b = none) : Un fs [] H0 H1 h0 h1 where
  keep := fun b o q n nb nx => v.keep b o (u.keep b o q n nb nx) (u.free b o q n nx) (fun z => (hs b z).elim nb fun y => by rw [q] at y; cases y) nx
  slot := fun b o q n nb nx => by
    obtain ⟨sl, e⟩ := u.slot b o q n nb nx
    obtain ⟨sl', e'⟩ := v.any e (u.free b o q n nx) nx
    exact ⟨sl', e'⟩
  free := fun b o q n nx => by
    obtain ⟨o', e⟩ := u.there b o q nx
    exact v.free b o' e (u.free b o q n nx) nx
  there := fun b o q nx => by
    obtain ⟨o', e⟩ := u.there b o q nx
    exact v.there b o' e nx
  tups := fun b xs q => v.tups b xs (u.tups b xs q)
  frzs := fun b ob xs q => v.frzs b ob xs (u.frzs b ob xs q)
  tbls := fun b ps q => by
    obtain ⟨m1, e1⟩ := u.tbls b ps q
    obtain ⟨m2, e2⟩ := v.tbls b _ e1
    exact ⟨m1 ++ m2, by rw [e2, Array.append_assoc]⟩
end
section
variable {P : Program} {w : World} {K : PySem.W.Frag} {mg : Str → Option Value} {base : Heap} {N : List Str} {qual : Str} {scope : Scope} {f : Addr} {cd : Value} {A : Around} {outer : List Env} {s0 : Shared} {H0 : Hp} {E : XK}
theorem stk_mem {b : Addr} (hb : b ∈ frs (envOfC qual scope s0.heap.objs.size f cd :: outer)) : b ∈ frs outer ∨ s0.heap.get? b = none := by
  have : b = s0.heap.objs.size ∨ b ∈ frs outer := by
    unfold frs at hb
    rw [List.filterMap_cons, show (envOfC qual scope s0.heap.objs.size f cd).frame = some s0.heap.objs.size from rfl] at hb
    exact List.mem_cons.mp hb
  rcases this with rfl | h
  · exact .inr (Heap.get?_none_of_le (Nat.le_refl _))
  · exact .inl h
theorem frs_sub {b : Addr} {env : Env} (hb : b ∈ frs outer) : b ∈ frs (env :: outer) := by
  unfold frs at hb ⊢
  rw [List.filterMap_cons]
  split
  · exact hb
  · exact List.mem_cons_of_mem _ hb
theorem xe_made {pins : List (Addr × Obj)} {σ : L2.St} {H : Hp} {s : Shared} {h' : Heap} {e C : Addr} {args : List Value} (I : Inv (cxOf (CX1 P w base) P w K mg base N qual scope f cd A outer s0 H0 E) pins σ H s)
    (hm : Heap.MadeExcOf s.heap h' e (.ref C) args) (hE : E (.ref C) none H) : (cxOf (CX1 P w base) P w K mg base N qual scope f cd A outer s0 H0 E).xe (.ref e) { s with heap := h' } := by
  obtain ⟨t, he, ht, _⟩ := hm.there
  have gf : ∀ b ∈ frs (envOfC qual scope s0.heap.objs.size f cd :: outer), ∃ o, s.heap.get? b = some o := fun b hb => let ⟨_, o, q, _⟩ := I.stack.mem hb; ⟨o, q⟩
  have kp0 : HX.Kp (fun b => ∃ o, s.heap.get? b = some o) (frs (envOfC qual scope s0.heap.objs.size f cd :: outer)) s.heap h' := .keeps hm.keeps
  refine HX.fl_begins (s := { s with heap := h' }) (G := fun b => ∃ o, s.heap.get? b = some o) (base := base) I.ok.frames (kp0.funs gf I.stack) rfl he rfl (fun ⟨o, q⟩ => by rw [hm.new] at q; cases q)
    (fun b ⟨o, q⟩ => ⟨o, hm.keeps b o q⟩) fun h2 f2 k2 => ?_
  have kp := kp0.trans k2
  have nf : ∀ b u, H b = some u → (∃ o, s.heap.get? b = some o) ∧ b ∉ frs (envOfC qual scope s0.heap.objs.size f cd :: outer) := fun b u q => ⟨obj_at (I.hok b u q), fun z => by rw [I.stkFree b z] at q; cases q⟩
  have g0 : ∀ b o, s0.heap.get? b = some o → ∃ o', s.heap.get? b = some o' := fun b o q => I.base.there b o q (by simp [cxOf])
  exact ⟨e, C, _, H, rfl, I.os, I.bare, un_kp (show Un (frs outer) [] H0 H s0.heap s.heap from I.base) kp (fun b hb => stk_mem hb) g0, hok_kp I.hok kp nf, f2, g0, fun b u q => (nf b u q).1, (kp.funs gf I.stack).2.2, fun b hb => I.stkFree b (frs_sub hb), hE⟩
theorem pass1 : Passes (CX1 P w base) (cxOf (CX1 P w base) P w K mg base N qual scope f cd A outer s0 H0 E) E := by
  intro pins σ H s e s' I h
  obtain ⟨ea, C, G, H', rfl, os, bare, un, hok, fl, g1, g2, ff, fn, hE⟩ := h
  have gf : ∀ b ∈ frs (envOfC qual scope s0.heap.objs.size f cd :: outer), G b := fun b hb => let ⟨_, o, q, _⟩ := I.stack.mem hb; g1 b o q
  refine HX.fl_leaves (base := base) I.ok.frames ff rfl gf fl fun h2 f2 k2 => ?_
  have g0 : ∀ b o, s0.heap.get? b = some o → G b := fun b o q => by
    obtain ⟨o', q'⟩ := I.base.there b o q (by simp [cxOf])
    exact g1 b o' q'
  have u0 : Un (frs outer) [] H0 H s0.heap s.heap := I.base
  have u1 : Un (frs outer) [] H0 H' s0.heap s'.heap := un_on u0 un fun b hb => stk_mem hb
  exact ⟨ea, C, G, H', rfl, os.trans I.os, bare, un_kp u1 k2 (fun b hb => stk_mem hb) g0, hok_kp hok k2 (fun b u q => ⟨g2 b u q, fun z => by rw [fn b z] at q; cases q⟩), f2, g0, g2, (k2.funs gf ff).2.2, fun b hb => fn b (frs_sub hb), hE⟩
end
noncomputable abbrev XB := Lo → Store → Option (Str × Store)
def xData (K : PySem.W.Frag) (E : XK) (x : XB) (σ : L2.St) (H : Hp) : Prop := ∃ ρ μ m c μ', LRel K m H ρ σ ∧ SRel K m H μ ∧ x ρ μ = some (c, μ') ∧ ∀ C H' m', clsAt K c C → Ext m H m' H' → SRel K m' H' μ' → E (.ref C) none H'
def PX (X : Cx) (E : XK) (sts : List Stmt) (x : XB) : Prop := ∀ pins s σ H, Inv X pins σ H s → xData X.K E x σ H → wpAny (model X.prog X.w) X.A (execs sts X.env) (fun _ _ => False) X.xe s
def PX1 (X : Cx) (E : XK) (st : Stmt) (x : XB) : Prop := ∀ pins s σ H, Inv X pins σ H s → xData X.K E x σ H → wpAny (model X.prog X.w) X.A (exec st X.env) (fun _ _ => False) X.xe s
def Cau (X : Cx) (pins : List (Addr × Obj)) (σ : L2.St) (E : XK) (e : Value) (s' : Shared) : Prop := ∃ H1 s1, Inv X pins σ H1 s1 ∧ CX1 X.prog X.w X.base X.stack H1 s1 E e s'
def PXe (X : Cx) (e : Expr) (x : XB) : Prop := ∀ pins s σ H E, Inv X pins σ H s → xData X.K E x σ H → wpAny (model X.prog X.w) X.A (eval e X.env) (fun _ _ => False) (Cau X pins σ E) s
def PXc (X : Cx) (st : Stmt) (x : XB) : Prop := ∀ pins s σ H E, Inv X pins σ H s → xData X.K E x σ H → wpAny (model X.prog X.w) X.A (exec st X.env) (fun _ _ => False) (Cau X pins σ E) s
noncomputable def xNo : XB := fun _ _ => none
noncomputable def xThen (a : FS) (x : XB) : XB := fun ρ μ => (a ρ μ).bind fun o => match o with | .nx ρ' μ' => x ρ' μ' | _ => none
noncomputable def xOr (x y : XB) : XB := fun ρ μ => match x ρ μ with | some r => some r | none => y ρ μ
noncomputable def xIf (t : FT) (x y : XB) : XB := fun ρ μ => (t ρ μ).bind fun c => if c.1 = true then x ρ c.2 else y ρ c.2
noncomputable def xCall (xf : List D → Option Str) (n : Nat) (fa : FA) : XB := fun ρ μ => (fa ρ μ).bind fun a => (vals a.1).bind fun ds => if ds.length = n then (xf ds).bind fun c => some (c, a.2) else none
noncomputable def runX (k : Nat) (x : XB) : List D → Option Str := fun ds => (x (ds.map (fun d => some (.v d)) ++ List.replicate (k - ds.length) none) []).bind fun r => some r.1
noncomputable def spE (K : PySem.W.Frag) (n : Nat) (xf : List D → Option Str) : Sp := fun vs H _ E => ∃ ds c, ds.length = n ∧ RelDs K H ds vs ∧ xf ds = some c ∧ ∀ C H', clsAt K c C → Sam H H' → E (.ref C) none H'
def KeptX (P : Program) (w : World) (K : PySem.W.Frag) (mg : Str → Option Value) (base : Heap) (k : Nat) (x : Str) (ps : List Str) (xf : List D → Option Str) : Prop :=
  ∃ f fd, FnOk P w K mg base (CX1 P w base) k f fd ps (spE K ps.length xf) ∧ PySem.W.keepIn K (.ref f) = true ∧ Binds K fd ps [] ∧ mg x = some (.ref f)
end HW
namespace HW
open PySem PySem.Spec PyProof.Rows L2
noncomputable abbrev bmV : List Value := [.type "ValueError", .type "Exception", .type "BaseException", .type "object"]
structure OwnX (K : PySem.W.Frag) (C : Addr) : Prop where
  ex : ∃ nm q N bs bm hdct sn sub ab col dd k0 k1 k2 k3 k5, K.lookup C = some (excClassObj nm q C N bs bm hdct sn sub ab col dd k0 k1 k2 k3 k5 "ValueError.__new__") ∧ PySem.W.tailIn K bmV bm = true ∧ PySem.W.nsOkIn K N = true ∧ PySem.W.nsIn K N "__init__" = some none
noncomputable def mroHas (K : PySem.W.Frag) (C CH : Addr) : Bool := match K.lookup C with | some ⟨_, _, .cls cd, _⟩ => cd.mro.contains (.ref CH) | _ => false
structure ClsX (K : PySem.W.Frag) (D : Addr) : Prop where
  dc : PySem.W.hasDictIn K D = true
  ga : PySem.W.findIn K (.ref D) "__getattribute__" = some (some (.builtin "BaseException.__getattribute__"))
  gn : PySem.W.findIn K (.ref D) "__getattr__" = some none
  fi : PySem.W.findIn K (.ref D) "__class__" = some (some (.builtin "object.__class__"))
  mr : PySem.W.mroIn K D (.type "object") = some true
  mb : PySem.W.mroIn K D (.type "BaseException") = some true
  gt : PySem.W.specialIn K (.builtin "object.__class__") "__get__" = some (some (.builtin "getset_descriptor.__get__"))
  tk : PySem.W.takesIn K (.builtin "object.__class__") = some true
noncomputable def xRaise (c : Str) (ok : Lo → Bool) : XB := fun ρ μ => if ok ρ = true then some (c, μ) else none
theorem px_raise0 {X : Cx} {E : XK} {c : Str} {C : Addr} {arg : Expr} {ta : TE} {ok : Lo → Bool} {np cpos pos : Pos} (hc : X.calm = true) (hm : X.mg c = some (.ref C)) (hk : clsAt X.K c C) (O : OwnX X.K C) (hg : Gl X c) (ha : PE X arg ta)
    (hok : ∀ {ρ μ m σ H}, LRel X.K m H ρ σ → SRel X.K m H μ → ok ρ = true → ta σ H fun x H' => [x].length = 1 ∧ H' = H)
    (hX : ∀ {pins σ H s h' e args}, Inv X pins σ H s → Heap.MadeExcOf s.heap h' e (.ref C) args → E (.ref C) none H → X.xe (.ref e) { s with heap := h' })
    (hd : (c == ("__debug__" : Str)) = false) (he : starEach [arg] X.env = (false, eval arg X.env) :: starEach [] X.env) : PX1 X E (.Raise (some (.Call (.Name c np) [arg] [] cpos)) none pos) (xRaise c ok) := by
  intro pins s σ H I ⟨ρ, μ, m, c', μ', hl, hs, e, k⟩
  unfold xRaise at e
  split at e
  · rename_i ho
    cases e
    obtain ⟨nm, q, N, bs, bm, hdct, sn, sub, ab, col, dd, k0, k1, k2, k3, k5, lk, tl, no, ni⟩ := O.ex
    have KB : X.K.In X.base := I.ok.mod.kin
    have T := PySem.W.tail_of_in KB tl
    refine wpAny_Raise_call_subT (C := C) (nm := nm) (q := q) (N := N) (bs := bs) (bm := bm) (hdct := hdct) (sn := sn) (sub := sub) (ab := ab) (col := col) (dd := dd) (k0 := k0) (k1 := k1) (k2 := k2) (k3 := k3) (k5 := k5)
      F.excBase_ValueError (mN := X.base.nsMap N) (T.hasType F.excBase_ValueError.hasBase) (I.ok.hd hc) (by rw [he]; rfl) (PySem.W.nsMap_none_of_in KB no ni) (ld_glob I hg hm ⟨rfl, ?_⟩ hd)
    have hp := pa_cons ha pa_nil he cpos pins s σ H (fun vs H' => vs.length = 1 ∧ H' = H) I
    rw [he] at hp ⊢
    refine Calls.evalArgs_plain (wpAny_mono (hp (hok hl hs ho)) (fun vs s2 ⟨ws, H2, I2, r, q1, q2⟩ => ?_) fun _ _ y => y)
    subst q2
    refine ⟨rfl, ?_, I2.bk _ _ (KB _ _ lk), (Heap.Ns.of_isNs (PySem.W.isNs_of_in KB no)).keeps I2.bk, T.keeps I2.bk, fun h' e hm' => hX I2 hm' (k C H2 m hk .refl hs)⟩
    show vs.length ≤ sizeLine
    rw [← r.length, q1]; decide
  · cases e
def tFs (a : Str) (i : Nat) : TE := fun σ H Q => ∃ y, σ[i]? = some (some (.str y)) ∧ a.length + (reprText y).length ≤ sizeLine ∧ (reprText y).length ≤ sizeLine ∧ a.length ≤ sizeLine ∧ ∀ z, Q (.str z) H
theorem pe_fs {X : Cx} {a : Str} {i : Nat} {x : Str} {j : Nat} {p1 p2 p3 pos : Pos} (hx : PE X (.Name x p2) (tVar i)) : PE X (.JoinedStr [.Constant (.str a) j p1, .FormattedValue (.Name x p2) 114 none p3] pos) (tFs a i) := by
  intro pins s σ H Q I ⟨y, hy, z1, z2, z3, q⟩
  refine JoinedStr_many (joinParts_cons ?_)
  refine thn (pe_str (X := X) pins s σ H (fun v H' => v = .str a ∧ H' = H) I ⟨rfl, rfl⟩) fun v s1 ⟨v', H1, I1, r1, e1, e2⟩ => ?_
  subst e1 e2
  obtain ⟨t1, rfl⟩ := r1
  have z0 : (Str.empty ++ a).length ≤ sizeLine := by rw [strLen_append]; exact Nat.le_trans (by show 0 + a.length ≤ a.length; omega) z3
  refine ⟨z0, joinParts_cons (wpAny_FormattedValue_repr ?_)⟩
  refine thn (hx pins s1 σ H1 (fun v H' => v = .str y ∧ H' = H1) I1 ⟨_, hy, rfl, rfl⟩) fun v s2 ⟨v', H2, I2, r2, e1, e2⟩ => ?_
  subst e1 e2
  obtain ⟨t2, rfl⟩ := r2
  refine wpAny_pyReprObj_str (formatField_str (fun t' tk => ?_) z2) z2
  have z4 : (Str.empty ++ a ++ reprText y).length ≤ sizeLine := by rw [strLen_append, strLen_append]; exact Nat.le_trans (by show 0 + a.length + (reprText y).length ≤ a.length + (reprText y).length; omega) z1
  refine ⟨z4, joinParts_nil ?_ z4⟩
  exact ⟨.str _, H2, I2.tok _, ⟨_, rfl⟩, q _⟩
noncomputable def okFs (a : Str) (i : Nat) : Lo → Bool := fun ρ => match ρ[i]? with | some (some (.v (.str y))) => decide (a.length + (reprText y).length ≤ sizeLine) | _ => false
theorem okFs_ok {K : PySem.W.Frag} {a : Str} {i : Nat} {ρ : Lo} {μ : Store} {m : List Addr} {σ : L2.St} {H : Hp} (hl : LRel K m H ρ σ) (hs : SRel K m H μ) (h : okFs a i ρ = true) : tFs a i σ H fun x H' => [x].length = 1 ∧ H' = H := by
  unfold okFs at h
  split at h
  · rename_i y q
    obtain ⟨v, q1, q2⟩ := hl.2 i _ q
    simp only [RelR, RelD] at q2
    subst q2
    have z := of_decide_eq_true h
    exact ⟨y, q1, z, by omega, by omega, fun z => ⟨rfl, rfl⟩⟩
  · cases h
noncomputable def isiX (tbl : Str → Option Bool) : R → Store → Option (R × Store)
  | .x c, μ => (tbl c).bind fun b => some (.v (.bl b), μ)
  | _, _ => none
theorem class_exc {K : PySem.W.Frag} {prog : Program} {w : World} {A : Around} {E : Value → Shared → Prop} {Q : Option Value → Shared → Prop} {s : Shared} {x D : Addr} {ox : Obj} (O : ClsX K D) (X : K.In s.heap) (I : PySem.W.InstAt s.heap x ox D none) (k : Q (some (.ref D)) { s with toks := s.toks + 1 }) :
    wpAny (model prog w) A (getAttr? (.ref x) "__class__") Q E s := by
  obtain ⟨h, g, d, t, os⟩ := s
  have L0 := I.type (M := model prog w)
  have LG := PySem.W.looks_findIn (M := model prog w) X O.ga
  have LA := PySem.W.looks_findIn (M := model prog w) X O.gn
  have LC := PySem.W.looks_findIn (M := model prog w) X O.fi
  have LB := PySem.W.looks_mroIn (M := model prog w) X O.mb
  have f3 := F.attr_ValueError.ga.bind (.ref x)
  unfold getAttr?; unfold getAttrBy?; unfold getAttrBy
  refine wpAny_bind (wpAny_mkText (wpAny_bind (wpAny_attempt (wpAny_holding (wpAny_bind (L0.at (wpAny_bind (LG.at ?_))))))))
  show wpAny _ _ (if (onTheHeap (.ref D) && (Value.builtin "BaseException.__getattribute__" == Value.builtin "object.__getattribute__")) = true then _ else _) _ _ _
  rw [if_neg (show ¬ (onTheHeap (.ref D) && (Value.builtin "BaseException.__getattribute__" == Value.builtin "object.__getattribute__")) = true by rw [show (Value.builtin "BaseException.__getattribute__" == Value.builtin "object.__getattribute__") = false by decide +kernel]; simp)]
  unfold getAttrByItsOwn; unfold hookBefore; rw [if_pos (show onTheHeap (.ref D) = true from rfl)]
  refine wpAny_bind (LA.at ?_)
  repeat (any_goals (first | assumption | wp_step))
  refine codeAny_call_builtin F.attr_ValueError.ga.plain F.entry_bexc_ga ?_
  have hk : builtinKind "BaseException.__getattribute__" = some .slot := (by decide +kernel)
  have hp : splitId "BaseException.__getattribute__" = some ("BaseException", "__getattribute__") := (by decide +kernel)
  have ha := F.args_bexc_ga (.ref x) (.str "__class__" t)
  have LI : PySem.W.Looks (model prog w) h (isInstance (.ref x) (.type "BaseException")) true := L0.andThen LB
  obtain ⟨cd, hcd, _⟩ := PySem.W.any_some O.dc
  have hf : PySem.W.findObj K D none "__class__" = some (.bind (.builtin "getset_descriptor.__get__") (.builtin "object.__class__")) := by
    unfold PySem.W.findObj
    rw [hcd, Option.bind_some, O.fi, Option.bind_some]; simp [O.gt, O.tk]
  have LF := PySem.W.looks_find (M := model prog w) X I hf
  have hx := I.at_
  have hc := I.cls
  simp only [checkBuiltinCall, hk, hp]
  refine wpAny_bind (LI.at ?_)
  repeat (any_goals (first | assumption | (with_reducible refine wpAny_loadPart_at hx ?_; rw [hc]) | with_reducible refine wpAny_bind (LF.at ?_) | wp_step))
  exact PySem.W.class_get (s := ⟨h, g, d, t + 1, os⟩) X I O.mr (wpAny_pure (PySem.W.handed_on rfl (wpAny_pure k)))
theorem kitx_exc {K : PySem.W.Frag} {x D : Addr} {vs : Array Value} (O : ClsX K D) : PySem.W.KitX K (.ref x) (.ref D) (fun h => h.get? x = some (HX.eO (.ref D) vs)) := by
  have inst : ∀ h : Heap, h.get? x = some (HX.eO (.ref D) vs) → PySem.W.InstAt h x (HX.eO (.ref D) vs) D none := fun h e => ⟨e, rfl, rfl, trivial⟩
  obtain ⟨cd, hcd, _⟩ := PySem.W.any_some O.dc
  refine ⟨fun M h X e => (inst h e).type, fun M h X e => ?_, fun h tp dd its n sl X htp => ?_, fun {prog w A E Q s} X e k => ?_⟩
  · unfold PySem.W.clsIn at hcd
    split at hcd
    · rename_i ho
      intro A' Q' E' s' kk q
      unfold isType loadHead; exact wpAny_bind (wpAny_loadPart (kk _ _ (X _ _ ho)) (wpAny_pure q))
    · cases hcd
  · refine Bool.eq_false_iff.mpr fun q => ?_
    have ee : D = tp := Value.ref.inj (beq_iff_eq.mp q)
    subst ee
    unfold PySem.W.clsIn at hcd
    split at hcd
    · rename_i ho
      have z := (X _ _ ho).symm.trans htp; cases z
    · cases hcd
  · exact class_exc O X (inst _ e) k
def rIsx (K : PySem.W.Frag) (tbl : Str → Option Bool) (v : V) : List V → Hp → VK → Prop := fun vs H Q => ∃ m c b x, vs = [x, v] ∧ RelR K m H (.x c) x ∧ tbl c = some b ∧ Q (.bl b) H
def rIsxt (K : PySem.W.Frag) (tbl : Str → Option Bool) (ws : List V) : List V → Hp → VK → Prop := fun vs H Q => ∃ m c b x p, vs = [x, .ref p] ∧ SqT K H p ws ∧ RelR K m H (.x c) x ∧ tbl c = some b ∧ Q (.bl b) H
theorem call_isx {X : Cx} {tbl : Str → Option Bool} {v : V} {u : Value} (hv : RelV v u) (hu : ∀ u', RelV v u' → u' = u) (hO : ∀ c C b, tbl c = some b → clsAt X.K c C → ClsX X.K C ∧ PySem.W.kitOne X.K (.ref C) u = some b) : CallR X (.builtin "isinstance") (rIsx X.K tbl v) := by
  intro pins s σ H vs us Q I rv q
  obtain ⟨m, c, b, x, rfl, rx, e, q⟩ := q
  obtain ⟨a, ws, C, rfl, hH, hc⟩ := rx
  cases rv with
  | cons r1 rr =>
    cases rr with
    | cons r2 rr =>
      cases rr
      cases r1
      have := hu _ r2
      subst this
      obtain ⟨O, kt⟩ := hO c C b e hc
      exact PySem.W.kia_one (kitx_exc O) I.kIn (I.hok a _ hH).1 kt (fun z => nomatch z) fun tk => ⟨.bl b, H, I.tok tk, rfl, q⟩
theorem call_isxt {X : Cx} {tbl : Str → Option Bool} {ws : List V} {us' : List Value} (hu : ∀ us, Vals ws us → us = us') (hO : ∀ c C b, tbl c = some b → clsAt X.K c C → ClsX X.K C ∧ PySem.W.kitAny X.K (.ref C) us' = some b) : CallR X (.builtin "isinstance") (rIsxt X.K tbl ws) := by
  intro pins s σ H vs us Q I rv q
  obtain ⟨m, c, b, x, p, rfl, hT, rx, e, q⟩ := q
  obtain ⟨a, vs', C, rfl, hH, hc⟩ := rx
  cases rv with
  | cons r1 rr =>
    cases rr with
    | cons r2 rr =>
      cases rr
      cases r1
      cases r2
      obtain ⟨O, kt⟩ := hO c C b e hc
      obtain ⟨its, ri, ⟨⟨o, h1, h2, n, h3⟩, h4⟩, _⟩ := I.tupleD hT
      have := hu _ ri
      subst this
      have ho : o = ⟨.type "tuple", none, .seq its.toArray n, o.slots⟩ := by
        have h5 := h4 o h1
        obtain ⟨oc, od, oda, osl⟩ := o
        simp only at h2 h3 h5
        subst h2 h3 h5
        rfl
      rw [ho] at h1
      exact PySem.W.kia_tup (kitx_exc O) I.kIn (I.hok a _ hH).1 h1 kt (fun z => nomatch z) fun tk => ⟨.bl b, H, I.tok tk, rfl, q⟩
noncomputable def tCs : List V → TA
  | [] => tNil
  | v :: r => tCons (tC v) (tCs r)
theorem tCs_ok {σ : L2.St} {H : Hp} : ∀ {vs : List V} {Q : List V → Hp → Prop}, Q vs H → tCs vs σ H Q
  | [], _, h => h
  | v :: r, Q, h => tCs_ok (vs := r) (Q := fun xs H2 => Q (v :: xs) H2) h
section
variable {K : PySem.W.Frag} {σ : L2.St} {H : Hp} {Q : VK} {fa : FE} {tbl : Str → Option Bool}
theorem rd_isx {v : V} (h : rdE K (fUn (isiX tbl) fa) σ H Q) : tCB (rIsx K tbl v) (tCons (rdE K fa) (tCons (tC v) tNil)) σ H Q := by
  obtain ⟨ρ, μ, m, d, μ', hl, hs, e, k⟩ := h
  obtain ⟨⟨x, μ1⟩, e1, e⟩ := Option.bind_eq_some_iff.mp e
  cases x with
  | x c =>
    obtain ⟨b, e2, e⟩ := Option.bind_eq_some_iff.mp e
    cases e
    exact ⟨ρ, μ, m, .x c, _, hl, hs, e1, fun v' H1 m1 x1 s1 r1 => ⟨m1, c, b, v', rfl, r1, e2, k _ H1 m1 x1 s1 (by simp only [RelR, RelD])⟩⟩
  | v _ => cases e
  | p _ => cases e
  | s _ _ => cases e
theorem rd_isxt {ws : List V} (hw : ws.length ≤ sizeLine) (h : rdE K (fUn (isiX tbl) fa) σ H Q) : tCB (rIsxt K tbl ws) (tCons (rdE K fa) (tCons (tTup (tCs ws)) tNil)) σ H Q := by
  obtain ⟨ρ, μ, m, d, μ', hl, hs, e, k⟩ := h
  obtain ⟨⟨x, μ1⟩, e1, e⟩ := Option.bind_eq_some_iff.mp e
  cases x with
  | x c =>
    obtain ⟨b, e2, e⟩ := Option.bind_eq_some_iff.mp e
    cases e
    refine ⟨ρ, μ, m, .x c, _, hl, hs, e1, fun v' H1 m1 x1 s1 r1 => ?_⟩
    refine tCs_ok ⟨hw, fun p hp => ?_⟩
    have x2 : Ext m1 H1 m1 (upd H1 p (.tup ws)) := .new hp
    exact ⟨m1, c, b, v', p, rfl, .inl (.inl upd_at), r1.ext x2, e2, k _ _ m1 (x1.trans x2) (s1.same (upd_keeps hp)) (by simp only [RelR, RelD])⟩
  | v _ => cases e
  | p _ => cases e
  | s _ _ => cases e
end
end HW
namespace HW
open PySem PySem.Spec PyProof.Rows L2
noncomputable abbrev inh (X : Cx) (ea : Addr) : Cx := { X with A := X.A.mark (some (.ref ea)), calm := false, xe := fun _ _ => False }
section
variable {X : Cx} {pins : List (Addr × Obj)} {σ : L2.St} {H : Hp} {s : Shared} {ea : Addr}
theorem Inv.inh (I : Inv X pins σ H s) (ea : Addr) : Inv (HW.inh X ea) pins σ H s :=
  ⟨⟨I.ok.mod, I.ok.kind, I.ok.glob, I.ok.blt, I.ok.above, I.ok.inj, I.ok.has, I.ok.cab, (fun z => nomatch z), I.ok.frames, I.ok.stk, I.ok.exf, I.ok.bs, I.ok.bsz, I.ok.noex, I.ok.exfs, I.ok.funs, I.ok.frf⟩, I.os, I.bare, I.base, I.loc, I.cell, I.free, I.freeC, I.pin, I.hok, I.len⟩
theorem Inv.outh (ok : X.Ok) (I : Inv (HW.inh X ea) pins σ H s) : Inv X pins σ H s := ⟨ok, I.os, I.bare, I.base, I.loc, I.cell, I.free, I.freeC, I.pin, I.hok, I.len⟩
theorem Inv.held {oe : Obj} (I : Inv X pins σ H s) (he : s.heap.get? ea = some oe) (n : H ea = none) (n0 : X.s₀.heap.get? ea = none) (nl : X.env.locals ≠ ea) (nc : ∀ x c, X.env.cells.lookup x = some c → c ≠ ea) (np : ∀ p ∈ X.pn ++ pins, p.1 ≠ ea) :
    Inv X pins σ (upd H ea (heldSet oe)) s := by
  have ne : ∀ {b u}, H b = some u → b ≠ ea := fun {b u} q z => by rw [z, n] at q; cases q
  refine ⟨I.ok, I.os, I.bare, ⟨I.base.keep, I.base.slot, fun b o q nn nx => ?_, I.base.there, fun b xs q => ?_, fun b o u q => ?_, fun b ps q => ?_⟩, I.loc, I.cell, ?_, fun x c q => ?_, fun p hp => ?_, fun b u q => ?_, I.len⟩
  · rw [L2.upd_ne (fun z => by rw [z, n0] at q; cases q)]; exact I.base.free b o q nn nx
  · have z := I.base.tups b xs q; rw [L2.upd_ne (ne z)]; exact z
  · have z := I.base.frzs b o u q; rw [L2.upd_ne (ne z)]; exact z
  · obtain ⟨more, z⟩ := I.base.tbls b ps q; exact ⟨more, by rw [L2.upd_ne (ne z)]; exact z⟩
  · rw [L2.upd_ne nl]; exact I.free
  · rw [L2.upd_ne (nc x c q)]; exact I.freeC x c q
  · obtain ⟨a1, a2, a3⟩ := I.pin p hp
    exact ⟨a1, by rw [L2.upd_ne (np p hp)]; exact a2, a3⟩
  · by_cases hb : b = ea
    · subst hb
      rw [L2.upd_same] at q
      cases q
      exact ⟨he, trivial, ⟨oe, he⟩, fun _ _ _ _ => trivial⟩
    · rw [L2.upd_ne hb] at q
      exact (I.hok b u q).stay (fun c v _ r => r) (fun c r => by rw [L2.upd_ne (ne r)]; exact r) fun c xs r => by rw [L2.upd_ne (ne r)]; exact r
theorem Inv.del {i t : Nat} {n : Str} {m : Str → Option Value} {v : Option Value} {h' : Heap} (I : Inv X pins σ H s) (hN : X.N.Nodup) (hi : X.N[i]? = some n)
    (hm : ∀ (j : Nat) (x : Str) (v : V), X.N[j]? = some x → σ[j]? = some (some v) → Vis X.env.scope x → ∃ u, RelV v u ∧ Look X.env s.heap m x u)
    (hn : h'.Ns X.env.locals fun x => if x = n then v else m x) (hs : Heap.SameBut X.env.locals s.heap h') : Inv X pins (σ.set i none) H { s with heap := h', toks := t } := by
  have neL : ∀ b o, X.s₀.heap.get? b = some o → b ≠ X.env.locals := fun b o e => Nat.ne_of_lt (Nat.lt_of_lt_of_le (Heap.lt_size e) I.ok.above)
  refine ⟨I.ok, I.os, I.bare, ⟨fun b o e nn hb hx => (hs.2 b (neL b o e)).trans (I.base.keep b o e nn hb hx), fun b o e nn hb hx => ?_, I.base.free, fun b o e hx => ?_, I.base.tups, I.base.frzs, I.base.tbls⟩, ⟨_, hn, fun j y v' e1 e2 e3 => ?_⟩, fun y c e => ?_, I.free, I.freeC, fun p hp => ?_, fun b u e => ?_, by simpa using I.len⟩
  · obtain ⟨sl, e1⟩ := I.base.slot b o e nn hb hx
    exact ⟨sl, (hs.2 b (neL b o e)).trans e1⟩
  · obtain ⟨o', e1⟩ := I.base.there b o e hx
    exact ⟨o', (hs.2 b (neL b o e)).trans e1⟩
  · have hj : j ≠ i := by
      rintro rfl
      by_cases hl : j < σ.length
      · rw [List.getElem?_set_self hl] at e2; cases e2
      · rw [List.getElem?_eq_none (by simp; omega)] at e2; cases e2
    rw [List.getElem?_set_ne (Ne.symm hj)] at e2
    obtain ⟨u, r, q⟩ := hm j y v' e1 e2 e3
    refine ⟨u, r, ?_⟩
    rcases q with ⟨k, e⟩ | ⟨k, c, e, z⟩
    · have : y ≠ n := fun z => hj (nodup_ix hN e1 (z ▸ hi))
      exact .inl ⟨k, by simp [this, e]⟩
    · exact .inr ⟨k, c, e, z.sameBut hs (I.cne y c e)⟩
  · obtain ⟨w', z⟩ := I.cell y c e
    exact ⟨w', z.sameBut hs (I.cne y c e)⟩
  · obtain ⟨e, n, ne, nf, d⟩ := I.pin p hp
    exact ⟨(hs.2 p.1 ne).trans e, n, ne, nf, d⟩
  · refine (I.hok b u e).stay (fun c v hc q => (hs.2 c fun z => ?_).trans q) (fun _ q => q) fun _ _ q => q
    have : H c ≠ none := by
      rcases hc with rfl | hc
      · rw [e]; simp
      · rw [hc]; simp
    exact this (z ▸ I.free)
theorem unbind_ok {M : Model} {A : Around} {E : Value → Shared → Prop} {i : Nat} {n : Str} {pos : Pos} {Q : Unit → Shared → Prop} (I : Inv X pins σ H s) (hN : X.N.Nodup) (hi : X.N[i]? = some n) (hl : X.env.scope.names.lookup n = some .local)
    (h : ∀ s', Inv X pins (σ.set i none) H s' → Q () s') : wpAny M A (do bindName X.env n .none; unbindBehindTheSuite X.env n pos) Q E s := by
  refine wpAny_bind (wpAny_bindName (store_ok (v := .non) (u := .none) I hN hi (.inl hl) rfl (fun s1 I1 => ?_) (.inr hl)))
  have hcls : (X.env.scope.kind == .class || (X.env.scope.kind == .module && X.env.locals != X.env.globals)) = false := by rw [I.ok.kind]; rfl
  have hk : X.env.kindOf n = some .local := hl
  have hiσ : i < σ.length := by rw [I.len]; exact (List.getElem?_eq_some_iff.mp hi).1
  obtain ⟨m, hn, hm⟩ := id I1.loc
  have hs : (m n).isSome = true := by
    obtain ⟨u, _, q⟩ := hm i n .non hi (by rw [List.getElem?_set_self hiσ]) (.inl hl)
    rcases q with ⟨_, e⟩ | ⟨k, _⟩
    · rw [e]; rfl
    · rw [hk] at k; rcases k with k | k <;> cases k
  unfold unbindBehindTheSuite
  refine wpAny_onRaise ?_
  unfold unbindName
  refine wpAny_bind (wpAny_point (wpAny_bind ?_))
  unfold deleteName
  simp only [hk, hcls]
  rw [if_neg (by decide)]
  refine wpAny_bind (wpAny_nsDel_keeps hn fun h2 v hn2 hs2 => ?_)
  rw [hs]
  have I2 := Inv.del (t := s1.toks) I1 hN hi hm hn2 hs2
  rw [List.set_set] at I2
  first
    | exact wpAny_pure (wpAny_point (h _ I2))
    | (simp only [Bool.not_true, Bool.false_eq_true, if_false, if_true]; exact wpAny_pure (wpAny_point (h _ I2)))
end
theorem exc_match {M : Model} {A : Around} {E : Value → Shared → Prop} {K : PySem.W.Frag} {s : Shared} {e C CH : Addr} {vs : Array Value} {Q : Bool → Shared → Prop} (X : K.In s.heap) (O : OwnX K C) (OH : OwnX K CH) (he : s.heap.get? e = some (HX.eO (.ref C) vs)) (hin : mroHas K C CH = true) (hq : Q true s) :
    wpAny M A (excMatches (.ref e) (.ref CH)) Q E s := by
  obtain ⟨nm, q, N, bs, bm, hdct, sn, sub, ab, col, dd, k0, k1, k2, k3, k5, lk, tl, no, ni⟩ := O.ex
  obtain ⟨nm', q', N', bs', bm', hdct', sn', sub', ab', col', dd', k0', k1', k2', k3', k5', lk', tl', no', ni'⟩ := OH.ex
  have hC := X _ _ lk
  have hH := X _ _ lk'
  have hb : (Value.ref CH :: bm').contains (.type "BaseException") = true := by rw [List.contains_cons, (PySem.W.tail_of_in X tl').hasType F.excBase_ValueError.hasBase, Bool.or_true]
  have hm : (Value.ref C :: bm).contains (.ref CH) = true := by
    unfold mroHas at hin
    rw [lk] at hin
    exact hin
  have f := tc_notTuple
  obtain ⟨h, g, d, t, os⟩ := s
  unfold excMatches
  repeat (first | with_reducible refine wpAny_loadPart_at he ?_ | with_reducible refine wpAny_loadPart_at hH ?_ | with_reducible refine wpAny_loadPart_at hC ?_ | (with_reducible refine wpAny_isSubtype_exc hH ?_; rw [hb]) | (with_reducible refine wpAny_isSubtype_exc hC ?_; rw [hm]) | wp_step)
  exact hq
noncomputable def unTry (i : Nat) : Out → Option Out
  | .nx ρ2 μ2 => some (.nx (ρ2.set i none) μ2)
  | _ => none
noncomputable def sTry (cs : List Str) (xb : XB) (nb : FS) (i : Nat) (hb : FS) : FS := fun ρ μ => match xb ρ μ with
  | some (c, μ1) => if cs.contains c = true then (hb (ρ.set i (some (.x c))) μ1).bind (unTry i) else none
  | none => nb ρ μ
theorem LRel.del {K : PySem.W.Frag} {m : List Addr} {H : Hp} {ρ : Lo} {σ : L2.St} (h : LRel K m H ρ σ) (i : Nat) : LRel K m H (ρ.set i none) (σ.set i none) := by
  refine ⟨by simp [h.1], fun j d e => ?_⟩
  by_cases hj : j = i
  · subst hj
    by_cases hi : j < ρ.length
    · rw [List.getElem?_set_self hi] at e; cases e
    · rw [List.getElem?_eq_none (by simp; omega)] at e; cases e
  · rw [List.getElem?_set_ne (Ne.symm hj)] at e ⊢
    exact h.2 j d e
theorem s_try0 {X : Cx} {st : Stmt} {cx n : Str} {CH : Addr} {np hpos pos : Pos} {b₀ : Stmt} {suite : List Stmt} {xb : XB} {nb hb : FS} {i : Nat} {cs : List Str} (hst : X.stack = X.env :: X.outer) (hfr : X.env.frame = some X.env.locals) (hex : X.ex = [])
    (hn : PS X.nox st (rdS X.K nb)) (hx : PXc X st xb) (hg : Gl X cx) (hm : X.mg cx = some (.ref CH)) (OH : OwnX X.K CH)
    (hO : ∀ c C, cs.contains c = true → clsAt X.K c C → OwnX X.K C ∧ mroHas X.K C CH = true) (hN : X.N.Nodup) (hi : X.N[i]? = some n) (hl : X.env.scope.names.lookup n = some .local)
    (hs : ∀ ea, PSs (inh X ea) (b₀ :: suite) (rdS X.K hb)) (hd : (cx == ("__debug__" : Str)) = false := by decide) :
    PS X (.Try [st] [.ExceptHandler (some (.Name cx np)) (some n) (b₀ :: suite) hpos] [] [] pos) (rdS X.K (sTry cs xb nb i hb)) := by
  intro pins s σ H D I ⟨ρ, μ, m, o, lr, sr, e, k⟩
  refine wpAny_Try_except ?_
  unfold sTry at e
  split at e
  · rename_i c μ1 ex
    split at e
    case isFalse => cases e
    rename_i hcs
    obtain ⟨o1, e1, e⟩ := Option.bind_eq_some_iff.mp e
    cases o1 with
    | bk ρ1 μ2 => cases e
    | ct ρ1 μ2 => cases e
    | rt d μ2 => cases e
    | nx ρ2 μ2 =>
      cases e
      let E' : XK := fun u _ H' => (∃ C, u = .ref C ∧ clsAt X.K c C) ∧ ∃ m', Ext m H m' H' ∧ SRel X.K m' H' μ1
      have hd' : xData X.K E' xb σ H := ⟨ρ, μ, m, c, μ1, lr, sr, ex, fun C H' m' q y z => ⟨⟨C, rfl, q⟩, m', y, z⟩⟩
      refine wpAny_execs_cons (wpAny_mono (hx pins s σ H E' I hd') (fun _ _ z => z.elim) fun e' s1 ⟨H1, s2, I1, hcx⟩ => ?_)
      obtain ⟨ea, C, G, H', rfl, os, bare, un, hok, fl, g1, g2, ff, fn, ⟨C', eC, hC⟩, m', x', s'⟩ := hcx
      cases eC
      rw [hst] at un ff fn
      have gf : ∀ b ∈ frs (X.env :: X.outer), G b := fun b hb => by
        have q := I1.stack; rw [hst] at q
        obtain ⟨_, o, q, _⟩ := q.mem hb; exact g1 b o q
      have fr : X.A.frames = some (X.env :: X.outer) := by rw [← hst]; exact I.ok.frames
      refine HX.fl_next (base := X.base) fr ff hfr gf fl fun h2 f2 k2 => HX.fl_none f2 fun h3 f3 k3 => ?_
      have k3' := k2.trans (k3.mono fun b z => nomatch z)
      obtain ⟨OC, mC⟩ := hO c C hcs hC
      have inv : ∀ h4, HX.Kp G (frs (X.env :: X.outer)) s1.heap h4 → Inv X pins σ H' { s1 with heap := h4 } := fun h4 kp =>
        I1.call' (s' := { s1 with heap := h4 }) (ch := []) os (by rw [hst]; exact un_kp un kp (fun b hb => .inl hb) g1) (hok_kp hok kp fun b u q => ⟨g2 b u q, fun z => by rw [fn b z] at q; cases q⟩) bare (fun b z => nomatch z)
      have I3 := inv h3 k3'
      refine wpAny_handleBy_cons (codeAny_handlers_test (ld_glob (Inv.inh I3 ea) hg hm ?_ hd)) (by intro q; cases q)
      obtain ⟨vs, T, ts, cc, n1, n2, ne, he3, _⟩ := f3.is
      refine exc_match (s := { s1 with heap := h3 }) I3.kIn OC OH he3 mC (codeAny_handlers_suite_as ?_)
      refine HX.fl_none (s := { s1 with heap := h3 }) f3 fun h4 f4 k4 => ?_
      have I4 := inv h4 (k3'.trans (k4.mono fun b z => nomatch z))
      obtain ⟨vs4, T4, ts4, cc4, n14, n24, ne4, he4, _⟩ := f4.is
      have nn : H' ea = none := by
        cases q : H' ea with
        | none => rfl
        | some u => exact absurd (g2 ea u q) n14
      have n0 : s2.heap.get? ea = none := by
        cases q : s2.heap.get? ea with
        | none => rfl
        | some u => exact absurd (g1 ea u q) n14
      have n00 : X.s₀.heap.get? ea = none := by
        cases q : X.s₀.heap.get? ea with
        | none => rfl
        | some u => obtain ⟨o', z⟩ := I1.base.there ea u q (by rw [hex]; simp); rw [n0] at z; cases z
      have nl : X.env.locals ≠ ea := fun z => by
        obtain ⟨mm, ⟨o, _, _, ho, _⟩, _⟩ := I1.loc
        rw [z, n0] at ho; cases ho
      have nc : ∀ x c, X.env.cells.lookup x = some c → c ≠ ea := fun x c q z => by
        obtain ⟨v, o, ho, _⟩ := I1.cell x c q
        rw [z, n0] at ho; cases ho
      have np' : ∀ p ∈ X.pn ++ pins, p.1 ≠ ea := fun p hp z => by
        have q := (I1.pin p hp).1
        rw [z, n0] at q; cases q
      have I5 := Inv.held I4 he4 nn n00 nl nc np'
      have x5 : Ext m' H' m' (upd H' ea (heldSet (HX.eO (.ref C) vs4))) := .new nn
      have s5 : SRel X.K m' (upd H' ea (heldSet (HX.eO (.ref C) vs4))) μ1 := s'.same (upd_keeps nn)
      have r5 : RelR X.K m' (upd H' ea (heldSet (HX.eO (.ref C) vs4))) (.x c) (.ref ea) := ⟨ea, vs4, C, rfl, upd_at, hC⟩
      have l5 := (lr.ext (x'.trans x5)).set r5 i
      refine store_ok I5 hN hi (.inl hl) (show RelV (.ref ea) (.ref ea) from rfl) (fun s6 I6 => ?_) (.inr hl)
      let D' : Ends := { nx := fun σ2 H2 => ∃ m2, Ext m H m2 H2 ∧ SRel X.K m2 H2 μ2 ∧ LRel X.K m2 H2 ρ2 σ2, rt := fun _ _ => False }
      have hd6 : rdS X.K hb D' (σ.set i (some (.ref ea))) (upd H' ea (heldSet (HX.eO (.ref C) vs4))) := ⟨_, μ1, m', _, l5, s5, e1, fun σ2 H2 m2 y z l => ⟨m2, (x'.trans x5).trans y, z, l⟩⟩
      refine wpAny_mono (hs ea pins s6 _ _ D' (Inv.inh I6 ea) hd6) (fun f s7 q => ?_) fun _ _ z => z.elim
      cases f with
      | ret v => obtain ⟨_, _, _, _, _, z⟩ := q; exact z.elim
      | brk => obtain ⟨_, _, _, z⟩ := q; exact z.elim
      | cont => obtain ⟨_, _, _, z⟩ := q; exact z.elim
      | next =>
        obtain ⟨σ7, H7, I7, m7, x7, s7', l7⟩ := q
        exact unbind_ok (Inv.outh I.ok I7) hN hi hl fun s8 I8 => ⟨_, H7, I8, k _ H7 m7 x7 s7' (LRel.del l7 i)⟩
  · refine wpAny_execs_cons (wpAny_mono (hn pins s σ H D (I.wish _) ⟨ρ, μ, m, o, lr, sr, e, k⟩) (fun f s1 q => ?_) fun _ _ z => z.elim)
    have q := SP.unwish q
    cases f with
    | next => exact wpAny_execs_nil (wpAny_execs_nil q)
    | ret v => exact q
    | brk => exact q
    | cont => exact q
end HW
namespace HW
open PySem L2
structure ExC (K : PySem.W.Frag) (mg : Str → Option Value) (c : Str) (C : Addr) : Prop where
  at_ : clsAt K c C
  mg : mg c = some (.ref C)
  own : OwnX K C
  cls : ClsX K C
noncomputable def tbL (l : List (Str × Bool)) : Str → Option Bool := fun c => l.lookup c
section
variable {K : PySem.W.Frag} {mg : Str → Option Value} {a : Str} {q CH : Addr} {b : Bool} {l : List (Str × Bool)} {cs : List Str} {u : Value} {us : List Value}
theorem clsAt.fn {c : Str} {C C' : Addr} (h : clsAt K c C) (h' : clsAt K c C') : C = C' := by
  have := h.symm.trans h'
  cases this; rfl
theorem isx_nil : ∀ c C b, tbL [] c = some b → clsAt K c C → ClsX K C ∧ PySem.W.kitOne K (.ref C) u = some b := fun _ _ _ e => by cases e
theorem isx_cons (e : ExC K mg a q) (k : PySem.W.kitOne K (.ref q) u = some b) (h : ∀ c C b, tbL l c = some b → clsAt K c C → ClsX K C ∧ PySem.W.kitOne K (.ref C) u = some b) :
    ∀ c C b', tbL ((a, b) :: l) c = some b' → clsAt K c C → ClsX K C ∧ PySem.W.kitOne K (.ref C) u = some b' := fun c C b' z hc => by
  unfold tbL at z
  rw [List.lookup_cons] at z
  split at z
  · rename_i q'
    cases z
    have := beq_iff_eq.mp q'
    subst this
    have := hc.fn e.at_
    subst this
    exact ⟨e.cls, k⟩
  · exact h c C b' z hc
theorem isxt_nil : ∀ c C b, tbL [] c = some b → clsAt K c C → ClsX K C ∧ PySem.W.kitAny K (.ref C) us = some b := fun _ _ _ e => by cases e
theorem isxt_cons (e : ExC K mg a q) (k : PySem.W.kitAny K (.ref q) us = some b) (h : ∀ c C b, tbL l c = some b → clsAt K c C → ClsX K C ∧ PySem.W.kitAny K (.ref C) us = some b) :
    ∀ c C b', tbL ((a, b) :: l) c = some b' → clsAt K c C → ClsX K C ∧ PySem.W.kitAny K (.ref C) us = some b' := fun c C b' z hc => by
  unfold tbL at z
  rw [List.lookup_cons] at z
  split at z
  · rename_i q'
    cases z
    have := beq_iff_eq.mp q'
    subst this
    have := hc.fn e.at_
    subst this
    exact ⟨e.cls, k⟩
  · exact h c C b' z hc
theorem try_nil : ∀ c C, ([] : List Str).contains c = true → clsAt K c C → OwnX K C ∧ mroHas K C CH = true := fun _ _ e => by cases e
theorem try_cons (e : ExC K mg a q) (k : mroHas K q CH = true) (h : ∀ c C, cs.contains c = true → clsAt K c C → OwnX K C ∧ mroHas K C CH = true) :
    ∀ c C, (a :: cs).contains c = true → clsAt K c C → OwnX K C ∧ mroHas K C CH = true := fun c C z hc => by
  rw [List.contains_cons, Bool.or_eq_true] at z
  rcases z with z | z
  · have := beq_iff_eq.mp z
    subst this
    have := hc.fn e.at_
    subst this
    exact ⟨e.own, k⟩
  · exact h c C z hc
theorem vals_refs : ∀ (qs : List Addr) (us : List Value), Vals (qs.map V.ref) us → us = qs.map Value.ref
  | [], _, h => by cases h; rfl
  | q :: qs, _, h => by
    cases h with
    | cons r t => rw [vals_refs qs _ t]; cases r; rfl
end
end HW
namespace HX
open PySem
section
variable {prog : Program} {w : World} {A : Around} {E : Value → Shared → Prop} {s : Shared} {G : Addr → Prop} {e L : Addr} {C fl : Value} {Q : Unit → Shared → Prop} {env : Env}
theorem fl_here (hf : env.frame = some L) (x : Fl G s.heap e C (rawInt L)) (hQ : Q () s) : wpAny (model prog w) A (noteFrame (.ref e) env) Q E s := by
  obtain ⟨vs, T, ts, c, n1, n2, ne, he, h1, hT, h3⟩ := x.is
  unfold noteFrame
  simp only [hf]
  refine wpAny_bind (wpAny_field he rfl h1 ?_)
  rw [if_pos (by simp)]
  refine wpAny_bind (wpAny_field hT rfl h3 ?_)
  rw [if_pos (by simp)]
  exact wpAny_pure hQ
theorem fl_note {base : Heap} {outer : List Env} (hfr : A.frames = some (env :: outer)) (hl : s.heap.FunFrames base (env :: outer)) (hf : env.frame = some L) (gf : ∀ b ∈ (env :: outer).filterMap (·.frame), G b)
    (x : Fl G s.heap e C fl)
    (hQ : ∀ h', Fl G h' e C (rawInt L) → Kp G ((env :: outer).filterMap (·.frame)) s.heap h' → Q () { s with heap := h' }) : wpAny (model prog w) A (noteFrame (.ref e) env) Q E s := by
  by_cases hfl : fl = rawInt L
  · subst hfl
    exact fl_here hf x (hQ s.heap x .refl)
  obtain ⟨vs, T, ts, c, n1, n2, ne, he, h1, hT, h3⟩ := x.is
  unfold noteFrame
  simp only [hf]
  refine wpAny_bind (wpAny_field he rfl h1 ?_)
  rw [if_pos (by simp)]
  refine wpAny_bind (wpAny_field hT rfl h3 ?_)
  rw [if_neg (by simpa using hfl)]
  refine wpAny_bind (wpAny_setField_rec hT (Array.getElem?_eq_some_iff.mp h3).1 fun h' hT' k => ?_)
  have kp : Kp G ((env :: outer).filterMap (·.frame)) s.heap h' := .but n2 k
  refine fl_entry (s := { s with heap := h' }) hfr (kp.funs gf hl) hf ((k.2 e ne.symm).trans he) (Array.getElem?_eq_some_iff.mp h1).1 n1 (kp.alive x.all) fun h2 f2 k2 => hQ h2 f2 (kp.trans k2)
theorem fl_leavesA {base : Heap} {outer : List Env} (hfr : A.frames = some (env :: outer)) (hl : s.heap.FunFrames base (env :: outer)) (hf : env.frame = some L) (gf : ∀ b ∈ (env :: outer).filterMap (·.frame), G b)
    (x : Fl G s.heap e C fl) (hQ : ∀ h', Fl G h' e C .none → Kp G ((env :: outer).filterMap (·.frame)) s.heap h' → Q () { s with heap := h' }) : wpAny (model prog w) A (leaving env (.ref e)) Q E s := by
  unfold leaving
  exact wpAny_bind (fl_note hfr hl hf gf x fun h1 f1 k1 => fl_none f1 fun h2 f2 k2 => hQ h2 f2 (k1.trans (k2.mono fun _ z => nomatch z)))
theorem fl_set {fo : Option Addr} (x : Fl G s.heap e C fl) (hQ : ∀ h', Fl G h' e C (fo.elim .none fun f => rawInt f) → Kp G [] s.heap h' → Q () { s with heap := h' }) : wpAny (model prog w) A (setFlight (.ref e) fo) Q E s := by
  obtain ⟨vs, T, ts, c, n1, n2, ne, he, h1, hT, h3⟩ := x.is
  unfold setFlight
  refine wpAny_bind (wpAny_field he rfl h1 ?_)
  rw [if_pos (by simp)]
  refine wpAny_setField_rec hT (Array.getElem?_eq_some_iff.mp h3).1 fun h' hT' k => ?_
  have kp : Kp G [] s.heap h' := .but n2 k
  exact hQ h' ⟨⟨vs, T, _, c, n1, n2, ne, (k.2 e ne.symm).trans he, h1, hT', by simp [(Array.getElem?_eq_some_iff.mp h3).1]⟩, kp.alive x.all⟩ kp
theorem fl_passOn {α : Type} {R : α → Shared → Prop} {what : String} (x : Fl G s.heap e C fl) (hQ : ∀ h' fl', Fl G h' e C fl' → Kp G [] s.heap h' → E (.ref e) { s with heap := h' }) : wpAny (model prog w) A (passOn what (.ref e) env : Sem α) R E s := by
  obtain ⟨vs, T, ts, c, n1, n2, ne, he, h1, hT, h3⟩ := id x.is
  unfold passOn
  refine wpAny_bind (wpAny_field he rfl h1 ?_)
  rw [if_neg (by simp)]
  exact wpAny_bind (fl_set x fun h' f k => wpAny_throw (hQ h' _ f k))
end
end HX
namespace HW
open PySem PySem.Spec PyProof.Rows L2
theorem un_onX {fs fs' ex : List Addr} {H0 H H1 : Hp} {h0 h h1 : Heap} (u : Un fs [] H0 H h0 h) (v : Un fs' ex H H1 h h1) (hs : ∀ b ∈ fs', b ∈ fs ∨ h0.get? b = none) (hx : ∀ b ∈ ex, h0.get? b = none) : Un fs [] H0 H1 h0 h1 := by
  have nx : ∀ b o, h0.get? b = some o → b ∉ ex := fun b o q z => by rw [hx b z] at q; cases q
  exact {
    keep := fun b o q n nb _ => v.keep b o (u.keep b o q n nb (by simp)) (u.free b o q n (by simp)) (fun z => (hs b z).elim nb fun y => by rw [q] at y; cases y) (nx b o q)
    slot := fun b o q n nb _ => by
      obtain ⟨sl, e⟩ := u.slot b o q n nb (by simp)
      obtain ⟨sl', e'⟩ := v.any e (u.free b o q n (by simp)) (nx b o q)
      exact ⟨sl', e'⟩
    free := fun b o q n _ => by
      obtain ⟨o', e⟩ := u.there b o q (by simp)
      exact v.free b o' e (u.free b o q n (by simp)) (nx b o q)
    there := fun b o q _ => by
      obtain ⟨o', e⟩ := u.there b o q (by simp)
      exact v.there b o' e (nx b o q)
    tups := fun b xs q => v.tups b xs (u.tups b xs q)
    frzs := fun b ob xs q => v.frzs b ob xs (u.frzs b ob xs q)
    tbls := fun b ps q => by
      obtain ⟨m1, e1⟩ := u.tbls b ps q
      obtain ⟨m2, e2⟩ := v.tbls b _ e1
      exact ⟨m1 ++ m2, by rw [e2, Array.append_assoc]⟩ }
theorem un_kpX {fs S ex : List Addr} {H0 H : Hp} {h0 h h2 : Heap} {G : Addr → Prop} (u : Un fs [] H0 H h0 h) (k : HX.Kp G S h h2) (hs : ∀ b ∈ S, b ∈ fs) (hg : ∀ b o, h0.get? b = some o → b ∉ ex → G b) : Un fs ex H0 H h0 h2 where
  keep := fun b o q n nb nx => (k b o (hg b o q nx) (u.keep b o q n nb (by simp))).1 fun z => nb (hs b z)
  slot := fun b o q n nb nx => by
    obtain ⟨sl, e⟩ := u.slot b o q n nb (by simp)
    obtain ⟨sl', e'⟩ := (k b _ (hg b o q nx) e).2
    exact ⟨sl', e'⟩
  free := fun b o q n _ => u.free b o q n (by simp)
  there := fun b o q nx => by
    obtain ⟨o', e⟩ := u.there b o q (by simp)
    obtain ⟨sl', e'⟩ := (k b _ (hg b o q nx) e).2
    exact ⟨_, e'⟩
  tups := u.tups
  frzs := u.frzs
  tbls := u.tbls
def Caf (X : Cx) (pins : List (Addr × Obj)) (σ : L2.St) (E : XK) (e : Value) (s' : Shared) : Prop := ∃ H s ea C fl G H' ex, Inv X pins σ H s ∧ (∀ b ∈ ex, X.s₀.heap.get? b = none ∧ b ∉ frs X.stack) ∧ e = .ref ea ∧ s'.os = s.os ∧ AllBare s'.gens ∧
  Un (frs X.stack) ex H H' s.heap s'.heap ∧ HOk X.prog X.w H' s'.heap ∧ HX.Fl G s'.heap ea (.ref C) fl ∧ (∀ b o, s.heap.get? b = some o → b ∉ ex → G b) ∧ (∀ b u, H' b = some u → G b) ∧ s'.heap.FunFrames X.base X.stack ∧ (∀ b ∈ frs X.stack, H' b = none) ∧ E (.ref C) none H'
def PXf (X : Cx) (e : Expr) (x : XB) : Prop := ∀ pins s σ H E, Inv X pins σ H s → xData X.K E x σ H → wpAny (model X.prog X.w) X.A (eval e X.env) (fun _ _ => False) (Caf X pins σ E) s
def PassesF (X : Cx) (E : XK) : Prop := ∀ pins σ e s', Caf X pins σ E e s' → X.xe e s'
section
variable {P : Program} {w : World} {K : PySem.W.Frag} {mg : Str → Option Value} {base : Heap} {N : List Str} {qual : Str} {scope : Scope} {f : Addr} {cd : Value} {A : Around} {outer : List Env} {s0 : Shared} {H0 : Hp} {E : XK}
theorem passF : PassesF (cxOf (CX1 P w base) P w K mg base N qual scope f cd A outer s0 H0 E) E := by
  intro pins σ e s' h
  obtain ⟨H, s, ea, C, fl, G, H', ex, I, hx, rfl, os, bare, un, hok, fly, g1, g2, ff, fn, hE⟩ := h
  have gf : ∀ b ∈ frs (envOfC qual scope s0.heap.objs.size f cd :: outer), G b := fun b hb => let ⟨_, o, q, _⟩ := I.stack.mem hb; g1 b o q fun z => (hx b z).2 hb
  refine HX.fl_leavesA (base := base) I.ok.frames ff rfl gf fly fun h2 f2 k2 => ?_
  have g0 : ∀ b o, s0.heap.get? b = some o → G b := fun b o q => by
    obtain ⟨o', q'⟩ := I.base.there b o q (by simp [cxOf])
    exact g1 b o' q' fun z => by rw [show s0.heap.get? b = none from (hx b z).1] at q; cases q
  have u0 : Un (frs outer) [] H0 H s0.heap s.heap := I.base
  have u1 : Un (frs outer) [] H0 H' s0.heap s'.heap := un_onX u0 un (fun b hb => stk_mem hb) fun b hb => (hx b hb).1
  exact ⟨ea, C, G, H', rfl, os.trans I.os, bare, un_kp u1 k2 (fun b hb => stk_mem hb) g0, hok_kp hok k2 (fun b u q => ⟨g2 b u q, fun z => by rw [fn b z] at q; cases q⟩), f2, g0, g2, (k2.funs gf ff).2.2, fun b hb => fn b (frs_sub hb), hE⟩
end
theorem compLoop_goX {prog : Program} {w : World} {A : Around} {R : Result → Shared → Prop} {s : Shared} {elt target iter : Expr} {ifs : List Expr} {scope : Scope} {pos : Pos} {it acc : Value} {env : Env} (I : Nat → Shared → Prop)
    (turn : ∀ n s, I n s → wpAny (model prog w) A (pyNext it) (fun r s₁ => ∃ v, r = some v ∧
      wpAny (model prog w) A (letOwnedTupleGo target it v) (fun _ s₁' => wpAny (model prog w) A (assign target env v) (fun _ s₂ =>
          wpAny (model prog w) A (forIn ifs true fun c r => if r = true then do let ok ← isTrue c env (eval c env); pure (ForInStep.yield ok) else pure (ForInStep.yield r)) (fun ok s₃ =>
            if ok = true then wpAny (model prog w) A (eval elt env) (fun x s₄ =>
              wpAny (model prog w) A (call (.builtin "list.append") [acc, x]) (fun _ s₅ => ∃ m, m < n ∧ I m s₅) (fun _ _ => False) s₄) (notedBy (model prog w) A env fun x s' => R (.error x) s') s₃
            else ∃ m, m < n ∧ I m s₃) (fun _ _ => False) s₂) (fun _ _ => False) s₁') (fun _ _ => False) s₁) (fun _ _ => False) s)
    (n : Nat) (h : I n s) : codeAny (model prog w) A (.compLoop (.ListComp elt [⟨target, iter, ifs, 0⟩] scope pos) 0 it acc env) R s := by
  refine codeAny_loop rfl I (fun n s hI => ?_) n h
  show wpAny _ A ((compTurn (.ListComp elt [⟨target, iter, ifs, 0⟩] scope pos) 0 it acc env).onRaise (fun x => do noteFrame x env; theTreesLotGoes x)) _ _ s
  refine wpAny_noted ?_
  rw [compTurn_list]
  refine wpAny_bind (wpAny_standAt (wpAny_bind (wpAny_mono (turn n s hI) (fun r s₁ h₁ => ?_) fun _ _ h' => h'.elim)))
  obtain ⟨v, rfl, h₁⟩ := h₁
  refine wpAny_bind (wpAny_mono h₁ (fun _ s₁' h₁' => ?_) fun _ _ h' => h'.elim)
  refine wpAny_bind (wpAny_mono h₁' (fun _ s₂ h₂ => wpAny_bind (wpAny_mono h₂ (fun ok s₃ h₃ => ?_) fun _ _ h' => h'.elim)) fun _ _ h' => h'.elim)
  cases ok with
  | false => exact wpAny_pure ⟨rfl, h₃⟩
  | true =>
    exact wpAny_bind (wpAny_bind (wpAny_mono h₃ (fun x s₄ h₄ => wpAny_bind (wpAny_mono h₄ (fun _ s₅ h₅ => wpAny_pure (wpAny_pure ⟨rfl, h₅⟩)) fun _ _ h' => h'.elim)) fun _ _ h' => h'))
def tCompX (K : PySem.W.Frag) (E : XK) (ix : List Nat) (own : List Str) (wi : TI) (g : TG) (tc : TT) (te : TE) (xb : XB) : L2.St → Hp → Prop := fun σ H => wi σ H fun J H1 =>
  ∃ W : Nat → Nat → List V → L2.St → Hp → Prop, (∃ n, W 0 n [] (blockSt (own.map fun _ => none) ix σ) H1) ∧ ∀ i n ys τ H, W i n ys τ H →
    (J.go i H ∧ ys.length < sizeLine ∧ ∀ x H', J.yld i H x H' → g x τ H' fun τ2 H2 => tc τ2 H2 fun b H3 => if b = true then xData K E xb τ2 H3 ∨ te τ2 H3 fun y H4 => ∃ n', n' < n ∧ W (i + 1) n' (ys ++ [y]) τ2 H4 else ∃ n', n' < n ∧ W (i + 1) n' ys τ2 H3)
theorem block_runX {X : Cx} {pins : List (Addr × Obj)} {σ : L2.St} {s₂ : Shared} {H₂ : Hp} {E : XK} {elt tg iter : Expr} {ifs : List Expr} {scope : Scope} {pos : Pos} {own caps : List Str} {ix : List Nat} {g : TG} {tc : TT} {te : TE} {xb : XB} {cl : List (Str × Addr)}
    {it : Addr} {fp : List Addr} {tn : Nat → Heap → Prop} {J : It} {Q : Value → Shared → Prop} {L : Addr} {outer : List Env} (hst : X.stack = X.env :: outer) (hL : X.env.frame = some L)
    (hc : X.calm = true) (I : Inv X pins σ H₂ s₂) (T : Turn X.prog X.w X.K tg J fp it tn) (st : tn 0 s₂.heap) (hf : ∀ b ∈ fp, FpOk X pins H₂ b) (n : CompNames X.env.scope scope own caps)
    (hcl : ∀ x c, cl.lookup x = some c → X.env.cells.lookup x = some c) (hcl2 : ∀ y ∈ scope.names, y.2 = .free → ∃ c, cl.lookup y.1 = some c)
    (hix : ix.length = caps.length) (hix2 : ∀ (j i : Nat) y, ix[j]? = some i → caps[j]? = some y → X.N[i]? = some y)
    (hg : ∀ C, PG (blockCx X scope cl C s₂ H₂ fp (own ++ caps)) tg g) (ht : ∀ C, PIfs (blockCx X scope cl C s₂ H₂ fp (own ++ caps)) ifs tc) (he : ∀ C, PE (blockCx X scope cl C s₂ H₂ fp (own ++ caps)) elt te) (hx : ∀ C, PXe (blockCx X scope cl C s₂ H₂ fp (own ++ caps)) elt xb)
    (W : Nat → Nat → List V → L2.St → Hp → Prop) (hW0 : ∃ n, W 0 n [] (blockSt (own.map fun _ => none) ix σ) H₂)
    (hW : ∀ i n ys τ H, W i n ys τ H →
      (J.go i H ∧ ys.length < sizeLine ∧ ∀ x H', J.yld i H x H' → g x τ H' fun τ2 H2 => tc τ2 H2 fun b H3 => if b = true then xData X.K E xb τ2 H3 ∨ te τ2 H3 fun y H4 => ∃ n', n' < n ∧ W (i + 1) n' (ys ++ [y]) τ2 H4 else ∃ n', n' < n ∧ W (i + 1) n' ys τ2 H3)) :
    wpAny (model X.prog X.w) X.A (newList []) (fun acc s₃ => wpAny (model X.prog X.w) X.A (newFunctionEnv scope X.env.globals cl [] X.env.qual none .none (some X.env)) (fun cenv s₄ =>
      codeAny (model X.prog X.w) X.A (.compStart (.ListComp elt [⟨tg, iter, ifs, 0⟩] scope pos) 0 (.ref it) acc { cenv with scope := relabel scope X.env }) (compPost (model X.prog X.w) X.A (Caf X pins σ E) none Q acc cenv.locals) s₄) (Caf X pins σ E) s₃) (Caf X pins σ E) s₂ := by
  refine wpAny_newObj_type (wpAny_newFunctionEnv n.cell (by intro y hy; simp at hy) (fun h₁ hns₁ hsb₁ => ?_) n.kind)
  dsimp only at hns₁ hsb₁ ⊢
  generalize hH2 : s₂.heap.push { cls := .type "list", dict := none, data := .seq ([] : List Value).toArray } = H2 at hns₁ hsb₁ ⊢
  have hC : H2.objs.size = s₂.heap.objs.size + 1 := by rw [← hH2, Heap.size_push]
  have below : ∀ b, b < s₂.heap.objs.size → b ≠ H2.objs.size ∧ b ≠ s₂.heap.objs.size := fun b hb => ⟨by rw [hC]; exact Nat.ne_of_lt (Nat.lt_succ_of_lt hb), Nat.ne_of_lt hb⟩
  have hDC : s₂.heap.objs.size ≠ H2.objs.size := by rw [hC]; exact Nat.ne_of_lt (Nat.lt_succ_self _)
  have old : ∀ b o, s₂.heap.get? b = some o → h₁.get? b = some o := fun b o e => hsb₁.extBut b o (below b (Heap.lt_size e)).1 (Heap.get?_push_of_some _ (hH2 ▸ Heap.get?_push_of_some _ e))
  have hacc : h₁.get? s₂.heap.objs.size = some { cls := .type "list", data := .seq ([] : List Value).toArray } := hsb₁.extBut _ _ hDC (Heap.get?_push_of_some _ (hH2 ▸ Heap.get?_push_size _ rfl))
  have fplt : ∀ b ∈ fp, b < s₂.heap.objs.size := fun b hb => by obtain ⟨o, e, _⟩ := T.obj _ _ st b hb; exact Heap.lt_size e
  have hCle : s₂.heap.objs.size ≤ H2.objs.size := by rw [hC]; exact Nat.le_succ _
  have hfC : ∀ b ∈ fp, b < H2.objs.size := fun b hb => Nat.lt_of_lt_of_le (fplt b hb) hCle
  have st₁ : tn 0 h₁ := T.keep 0 _ _ st fun b _ o e => old b o e
  have I₀ := block_start (tk := s₂.toks + ([] : List (Str × Value)).length) I n hcl hcl2 hCle hfC hf hix hix2 old hns₁
  clear hns₁ hsb₁
  have cellD : ∀ x c, cl.lookup x = some c → c < s₂.heap.objs.size := fun x c e => by
    obtain ⟨v, o, q, _⟩ := I.cell x c (hcl x c e); exact Heap.lt_size q
  have stkD : ∀ b ∈ frs X.stack, b < s₂.heap.objs.size := fun b hb => by
    rcases List.mem_cons.mp (I.stkSub b hb) with e | e
    · rw [e]; exact I.lt
    · obtain ⟨_, o, q, _⟩ := I.funs.mem e; exact Heap.lt_size q
  have fpok : ∀ {ps : List (Addr × Obj)} {H : Hp}, (∀ b ∈ fp, H b = none) → (∀ p ∈ ps, p.1 ∉ fp) → ∀ b ∈ fp, FpOk (blockCx X scope cl H2.objs.size s₂ H₂ fp (own ++ caps)) ps H b := fun {ps H} hn hp b hb =>
    ⟨hn b hb, Nat.ne_of_lt (hfC b hb), fun z => by
      rcases List.mem_cons.mp (I.stkSub b z) with e | e
      · exact (hf b hb).2.1 e
      · exact (hf b hb).2.2.1 e, .inl hb, fun x c e => (hf b hb).2.2.2.2.1 x c (hcl x c e), fun p hp' z => hp p (by simpa [blockCx] using hp') (z ▸ hb)⟩
  have Dfp : s₂.heap.objs.size ∉ fp := fun z => Nat.lt_irrefl _ (fplt _ z)
  have pinD : ∀ {H : Hp} {h : Heap} {its : List Value} {k : Nat}, H s₂.heap.objs.size = none → h.get? s₂.heap.objs.size = some { cls := .type "list", data := .seq its.toArray k } →
      ∀ p ∈ [((s₂.heap.objs.size, { cls := .type "list", data := .seq its.toArray k }) : Addr × Obj)], h.get? p.1 = some p.2 ∧ H p.1 = none ∧ p.1 ≠ H2.objs.size ∧ p.1 ∉ frs X.stack ∧ ∀ v, p.2.data ≠ .cell v := fun {H h its k} hn e p hp => by
    rw [List.mem_singleton.mp hp]
    exact ⟨e, hn, hDC, fun z => Nat.lt_irrefl _ (stkD _ z), fun v z => by cases z⟩
  have loop : ∀ s₃ : Shared, s₃ = { s₂ with heap := h₁, toks := s₂.toks + ([] : List (Str × Value)).length } →
      codeAny (model X.prog X.w) X.A (.compLoop (.ListComp elt [⟨tg, iter, ifs, 0⟩] scope pos) 0 (.ref it) (.ref s₂.heap.objs.size) (compEnvC scope cl H2.objs.size X.env)) (compPost (model X.prog X.w) X.A (Caf X pins σ E) none Q (.ref s₂.heap.objs.size) H2.objs.size) s₃ := by
    rintro s₃ rfl
    obtain ⟨n0, hW0⟩ := hW0
    refine compLoop_goX (fun n s' => ∃ i ys its k τ H, Inv (blockCx X scope cl H2.objs.size s₂ H₂ fp (own ++ caps)) [(s₂.heap.objs.size, { cls := .type "list", data := .seq its.toArray k })] τ H s' ∧ tn i s'.heap ∧ (∀ b ∈ fp, H b = none) ∧ Vals ys its ∧ ys.length ≤ sizeLine ∧ W i n ys τ H) ?_ n0
      ⟨0, [], [], 0, _, H₂, I₀.pins_of (pinD (I.hok.fresh (Nat.le_refl _)) hacc), st₁, fun b hb => (hf b hb).1, .nil, Nat.zero_le _, hW0⟩
    rintro n s3 ⟨i, ys, its, k, τ, H, I3, st3, fr3, rv, hz, w3⟩
    have hD3 := I3.pin _ (List.mem_append_right _ List.mem_cons_self)
    have pfp : ∀ p ∈ [((s₂.heap.objs.size, { cls := .type "list", data := .seq its.toArray k }) : Addr × Obj)], p.1 ∉ fp := fun p hp => by rw [List.mem_singleton.mp hp]; exact Dfp
    obtain ⟨go, hlt, step⟩ := hW i n ys τ H w3
    refine thn (T.item (blockCx X scope cl H2.objs.size s₂ H₂ fp (own ++ caps)) rfl rfl rfl hc i _ s3 τ H (fun _ _ => False) I3 (fpok fr3 pfp) st3 go) fun r s4 ⟨u, hr, h4⟩ => ⟨u, hr, ?_⟩
    refine thn h4 fun _ s5 ⟨x, H5, I5, r5, y5, st5, fr5⟩ => ?_
    have I5' := I5.pinned (fpok fr5 pfp) (T.obj _ _ st5)
    refine thn (hg _ _ s5 τ H5 x u _ I5' r5 (step x H5 y5)) fun _ s6 ⟨σ6, H6, I6, q6⟩ => ?_
    refine thn (ht _ _ s6 σ6 H6 _ I6 q6) fun ok s7 ⟨H7, I7, q7⟩ => ?_
    have memD : ∀ p ∈ pinsAt fp s5.heap, p.1 ≠ s₂.heap.objs.size := fun p hp z => Dfp (z ▸ (of_pinsAt hp).1)
    cases ok with
    | true =>
      rcases q7 with q7 | q7
      · -- it raises here
        refine wpAny_mono (hx _ _ s7 σ6 H7 E I7 q7) (fun _ _ z => z.elim) fun e s8 ⟨H9, s9, I9, ea, C, G, H', ee, os, bare, un, hok, fl, g1, g2, ff, fn, hE⟩ => ?_
        subst ee
        have IX : Inv X pins σ H9 s9 := I.call' (ch := fp) I9.os I9.base I9.hok I9.bare fun b hb => ⟨(hf b hb).2.2.2.1, (hf b hb).2.1, (hf b hb).2.2.2.2⟩
        obtain ⟨m, hm, _⟩ := id I9.loc
        have freeC : H9 H2.objs.size = none := I9.free
        have nC : H2.objs.size ∉ frs X.stack := fun z => Nat.lt_irrefl _ (Nat.lt_of_lt_of_le (stkD _ z) hCle)
        have un : Un (frs X.stack) [] H9 H' s9.heap s8.heap := un
        have ff : s8.heap.FunFrames X.base X.stack := ff
        have gf : ∀ b ∈ frs X.stack, G b := fun b hb => let ⟨_, o, q, _⟩ := IX.stack.mem hb; g1 b o q
        obtain ⟨oC, es, ep, hoC, d1, d2, d3⟩ := id hm
        have hm8 : s8.heap.get? H2.objs.size = some oC := un.keep _ oC hoC freeC nC (by simp)
        have frC : H' H2.objs.size = none := un.free _ oC hoC freeC (by simp)
        have hfr : X.A.frames = some (X.env :: outer) := by rw [← hst]; exact IX.ok.frames
        show wpAny (model X.prog X.w) X.A (noteFrame (.ref ea) X.env) _ _ s8
        have ff' := ff
        rw [hst] at ff'
        refine HX.fl_note (base := X.base) hfr ff' hL (by rw [hst] at gf; exact gf) fl fun h2 f2 k2 => ?_
        have k2 : HX.Kp G (frs X.stack) s8.heap h2 := by rw [hst]; exact k2
        have nf : ∀ b u, H' b = some u → G b ∧ b ∉ frs X.stack := fun b u q => ⟨g2 b u q, fun z => by rw [fn b z] at q; cases q⟩
        refine ⟨m, ⟨oC, es, ep, (k2 _ oC (g1 _ oC hoC) hm8).1 nC, d1, d2, d3⟩, fun h3 sb cenv hcenv => ?_⟩
        -- all but the block's own names
        have k3 : HX.Kp (fun b => G b ∧ b ≠ H2.objs.size) (frs X.stack) s8.heap h3 := fun b o g q => by
          obtain ⟨a1, sl, a2⟩ := k2 b o g.1 q
          exact ⟨fun z => (sb.2 b g.2).trans (a1 z), sl, (sb.2 b g.2).trans a2⟩
        have f3 : HX.Fl (fun b => G b ∧ b ≠ H2.objs.size) h3 ea (.ref C) (rawInt L) := by
          obtain ⟨vs, Tb, ts, c, n1, n2, ne, he, e1, hT, e3⟩ := f2.is
          have ne1 : ea ≠ H2.objs.size := fun z => n1 (z ▸ g1 _ oC hoC)
          have ne2 : Tb ≠ H2.objs.size := fun z => n2 (z ▸ g1 _ oC hoC)
          exact ⟨⟨vs, Tb, ts, c, fun z => n1 z.1, fun z => n2 z.1, ne, (sb.2 _ ne1).trans he, e1, (sb.2 _ ne2).trans hT, e3⟩, fun b g => by
            obtain ⟨o, q⟩ := f2.all b g.1
            exact ⟨o, (sb.2 b g.2).trans q⟩⟩
        refine HX.fl_passOn f3 fun h4 fl4 f4 k4 => ?_
        have k5 : HX.Kp (fun b => G b ∧ b ≠ H2.objs.size) (frs X.stack) s8.heap h4 := k3.trans (k4.mono fun _ z => nomatch z)
        have s0C : X.s₀.heap.get? H2.objs.size = none := Heap.get?_none_of_le (Nat.le_trans I.sz hCle)
        refine ⟨H9, s9, ea, C, fl4, _, H', [H2.objs.size], IX, fun b hb => ?_, rfl, os, bare, un_kpX un k5 (fun b z => z) (fun b o q nx => ⟨g1 b o q, fun z => nx (by simp [z])⟩), hok_kp hok k5 (fun b u q => ⟨⟨(nf b u q).1, fun z => by rw [z, frC] at q; cases q⟩, (nf b u q).2⟩), f4, fun b o q nx => ⟨g1 b o q, fun z => nx (by simp [z])⟩, fun b u q => ⟨(nf b u q).1, fun z => by rw [z, frC] at q; cases q⟩, ?_, fn, hE⟩
        · rw [List.mem_singleton.mp hb]; exact ⟨s0C, nC⟩
        · exact k5.funs (fun b hb => ⟨gf b hb, fun z => nC (z ▸ hb)⟩) ff
      · refine wpAny_mono (he _ _ s7 σ6 H7 _ I7 q7) (fun u8 s8 ⟨y, H8, I8, r8, n', hn', w8⟩ => ?_) fun _ _ z => z.elim
        have hD8 := I8.pin (s₂.heap.objs.size, _) (List.mem_append_right _ (List.mem_append_left _ List.mem_cons_self))
        refine append_at (hsz := by rw [List.size_toArray, ← rv.length]; exact hz) hD8.1 fun h9 sb hD9 => ?_
        have I8' : Inv (blockCx X scope cl H2.objs.size s₂ H₂ fp (own ++ caps)) (pinsAt fp s5.heap) σ6 H8 s8 := I8.pins_of fun p hp => I8.pin p (List.mem_append_right _ (List.mem_append_right _ hp))
        have I9 : Inv (blockCx X scope cl H2.objs.size s₂ H₂ fp (own ++ caps)) (pinsAt fp s5.heap) σ6 H8 { s8 with heap := h9 } := I8'.turned (t' := s8.toks) (it := s₂.heap.objs.size) (fun b o hb e => sb.extBut b o hb e) hD8.2.1 hDC (.inr (Nat.le_refl _))
          (fun x c e => Nat.ne_of_lt (cellD x c e)) fun p hp => memD p (by simpa [blockCx] using hp)
        have e9 : (its.toArray.push u8) = (its ++ [u8]).toArray := by simp
        rw [e9] at hD9
        refine ⟨n', hn', i + 1, ys ++ [y], its ++ [u8], k + 1, σ6, H8, I9.pins_of (pinD hD8.2.1 hD9), T.keep _ _ _ st5 fun b hb o e => (I9.pin (b, o) (List.mem_append_right _ (mem_pinsAt hb e))).1, fun b hb => ?_, rv.append (.cons r8 .nil), by rw [List.length_append]; exact hlt, w8⟩
        obtain ⟨o, e, d⟩ := T.obj _ _ st5 b hb
        exact (I9.pin (b, o) (List.mem_append_right _ (mem_pinsAt hb e))).2.1
    | false =>
      obtain ⟨n', hn', w8⟩ := q7
      have hD7 := I7.pin (s₂.heap.objs.size, _) (List.mem_append_right _ (List.mem_append_left _ List.mem_cons_self))
      refine ⟨n', hn', i + 1, ys, its, k, σ6, H7, I7.pins_of (pinD hD7.2.1 hD7.1), T.keep _ _ _ st5 fun b hb o e => (I7.pin (b, o) (List.mem_append_right _ (List.mem_append_right _ (mem_pinsAt hb e)))).1, fun b hb => ?_, rv, hz, w8⟩
      obtain ⟨o, e, d⟩ := T.obj _ _ st5 b hb
      exact (I7.pin (b, o) (List.mem_append_right _ (List.mem_append_right _ (mem_pinsAt hb e)))).2.1
  exact codeAny_compStart_list (loop _ rfl) (T.self _ 0 _ _ _ st₁ (loop _ rfl))
theorem pxf_comp0 {X : Cx} {elt tg iter : Expr} {ifs : List Expr} {scope : Scope} {pos : Pos} {own caps : List Str} {ix : List Nat} {wi : TI} {g : TG} {tc : TT} {te : TE} {xb x : XB} {L : Addr} {outer : List Env} (hst : X.stack = X.env :: outer) (hL : X.env.frame = some L) (hc : X.calm = true) (n : CompNames X.env.scope scope own caps)
    (hix : ix.length = caps.length) (hix2 : ∀ (j i : Nat) y, ix[j]? = some i → caps[j]? = some y → X.N[i]? = some y) (hi : ∀ xe, PI (X.wish xe) tg iter wi)
    (hb : ∀ cl C s₂ H₂ fp, PG (blockCx X scope cl C s₂ H₂ fp (own ++ caps)) tg g ∧ PIfs (blockCx X scope cl C s₂ H₂ fp (own ++ caps)) ifs tc ∧ PE (blockCx X scope cl C s₂ H₂ fp (own ++ caps)) elt te ∧ PXe (blockCx X scope cl C s₂ H₂ fp (own ++ caps)) elt xb)
    (hr : ∀ {E σ H}, xData X.K E x σ H → tCompX X.K E ix own wi g tc te xb σ H)
    (hs : ∀ x, foldedSetIterable iter X.env x = pure x := by intro _; rfl) : PXf X (.ListComp elt [⟨tg, iter, ifs, 0⟩] scope pos) x := by
  intro pins s σ H E I d
  have h := hr d
  obtain ⟨cl, hclos, hcl, hcl2⟩ := closure_ok (env := X.env) (scope := scope) fun y hy hf => I.ok.has y.1 (n.free y hy hf)
  rw [eval_ListComp]
  refine wpAny_comprehension_free (use := none) rfl hs hclos n.kind n.loc (thn (hi (Caf X pins σ E) pins s σ H _ (I.wish _) h) fun v s1 h1 => thn h1 fun itv s2 h2 => ?_)
  obtain ⟨it, fp, tn, J, H2, e, I2, T, st2, f2, W, w0, turn⟩ := h2
  subst e
  exact block_runX (Q := fun _ _ => False) hst hL hc I2.unwish T st2 f2 n hcl hcl2 hix hix2 (fun C => (hb cl C s2 H2 fp).1) (fun C => (hb cl C s2 H2 fp).2.1) (fun C => (hb cl C s2 H2 fp).2.2.1) (fun C => (hb cl C s2 H2 fp).2.2.2) W w0 turn
noncomputable def compX (g : FG) (c : FT) (f : FE) (xb : XB) : List D → Lo → Store → Option (Str × Store)
  | [], _, _ => none
  | x :: xs, ρ, μ => (g (.v x) ρ μ).bind fun a => (c a.1 a.2).bind fun b => if b.1 = true then (match xb a.1 b.2 with
      | some r => some r
      | none => (f a.1 b.2).bind fun y => match y.1 with
        | .v _ => compX g c f xb xs a.1 y.2
        | _ => none)
    else compX g c f xb xs a.1 b.2
noncomputable def xComp (ix : List Nat) (k : Nat) (i : FI) (g : FG) (c : FT) (f : FE) (xb : XB) : XB := fun ρ μ => (i ρ μ).bind fun a => if a.1.length ≤ sizeLine then compX g c f xb a.1 (blockLo k ix ρ) a.2 else none
theorem rd_compX {K : PySem.W.Frag} {σ : L2.St} {H : Hp} {E : XK} {ix : List Nat} {k : Nat} {own : List Str} {fi : FI} {g : FG} {c : FT} {f : FE} {xb : XB} (hk : own.length = k) (h : xData K E (xComp ix k fi g c f xb) σ H) : tCompX K E ix own (rdI K fi) (rdG K g) (rdT K c) (rdE K f) xb σ H := by
  obtain ⟨ρ, μ, m, cs, μ', hl, hs, e, kk⟩ := h
  obtain ⟨⟨xs, μ1⟩, e1, e⟩ := Option.bind_eq_some_iff.mp e
  split at e
  · rename_i hz
    refine ⟨ρ, μ, m, xs, μ1, hl, hs, e1, fun J P H1 m1 x1 s1 ok p1 => ?_⟩
    refine ⟨fun i n ys τ H => n = xs.length - i ∧ i ≤ xs.length ∧ ys.length ≤ i ∧ P H ∧ ∃ ρ μ m, LRel K m H ρ τ ∧ SRel K m H μ ∧ compX g c f xb (xs.drop i) ρ μ = some (cs, μ') ∧
      ∀ C H' m', clsAt K cs C → Ext m H m' H' → SRel K m' H' μ' → E (.ref C) none H',
      ⟨_, rfl, Nat.zero_le _, Nat.le_refl _, p1, _, μ1, m1, block_rel hk (hl.ext x1), s1, by simpa using e, fun C H' m' q x2 s2 => kk C H' m' q (x1.trans x2) s2⟩, ?_⟩
    rintro i n ys τ H ⟨rfl, hi, hy, p, ρ, μ, m, hl, hs, e, kk⟩
    by_cases hlt : i < xs.length
    · have hx : xs[i]? = some xs[i] := List.getElem?_eq_getElem hlt
      rw [List.drop_eq_getElem_cons hlt, compX] at e
      obtain ⟨⟨ρ1, μ2⟩, q1, e⟩ := Option.bind_eq_some_iff.mp e
      obtain ⟨⟨b, μ3⟩, q2, e⟩ := Option.bind_eq_some_iff.mp e
      refine ⟨ok.go i _ H hx p, Nat.lt_of_le_of_lt hy (Nat.lt_of_lt_of_le hlt hz), fun x H' y => ?_⟩
      obtain ⟨rfl, rx⟩ := ok.yld i _ H x H' hx p y
      refine ⟨ρ, μ, m, .v xs[i], ρ1, μ2, hl, hs, rx, q1, fun σ1 H1 m1 x1 s1 l1 => ?_⟩
      refine ⟨ρ1, μ2, m1, b, μ3, l1, s1, q2, fun H2 m2 x2 s2 => ?_⟩
      cases b with
      | true =>
        simp only [if_true] at e ⊢
        split at e
        · rename_i r qr
          cases e
          exact .inl ⟨ρ1, μ3, m2, cs, μ', l1.ext x2, s2, qr, fun C H' m' q x5 s5 => kk C H' m' q ((x1.trans x2).trans x5) s5⟩
        · refine .inr ?_
          obtain ⟨⟨y', μ4⟩, q3, e⟩ := Option.bind_eq_some_iff.mp e
          refine ⟨ρ1, μ3, m2, y', μ4, l1.ext x2, s2, q3, fun w H3 m3 x3 s3 r3 => ?_⟩
          cases y' with
          | p _ => cases e
          | s _ _ => cases e
          | x _ => cases e
          | v d1 =>
            have x4 := (x1.trans x2).trans x3
            exact ⟨_, (by omega : xs.length - (i + 1) < xs.length - i), rfl, hlt, by rw [List.length_append]; exact Nat.succ_le_succ hy, ok.st _ _ x4.tf p, ρ1, μ4, m3, l1.ext (x2.trans x3), s3, e, fun C H' m' q x5 s5 => kk C H' m' q (x4.trans x5) s5⟩
      | false =>
        simp only [Bool.false_eq_true, if_false] at e ⊢
        have x4 := x1.trans x2
        exact ⟨_, (by omega : xs.length - (i + 1) < xs.length - i), rfl, hlt, Nat.le_succ_of_le hy, ok.st _ _ x4.tf p, ρ1, μ3, m2, l1.ext x2, s2, e, fun C H' m' q x5 s5 => kk C H' m' q (x4.trans x5) s5⟩
    · have : i = xs.length := by omega
      subst this
      rw [List.drop_length, compX] at e
      cases e
  · cases e
theorem pxf_callTy {X : Cx} {x : Str} {T : String} {e : Expr} {p pos : Pos} {xb : XB} (h : PXf X e xb) (hg : Gl X x) (hm : X.mg x = none) (hv : bootBuiltins x = some (.type T)) (hn : x ≠ "__name__") (hdb : (x == ("__debug__" : Str)) = false)
    (he : starEach [e] X.env = (false, eval e X.env) :: starEach [] X.env) (hpl : (backTo pos (starEach [] X.env)).any (·.1) = false) : PXf X (.Call (.Name x p) [e] [] pos) xb := by
  intro pins s σ H E I d
  refine wpAny_Call_Name_kw (ld_blt I hg hm hv ?_ hn hdb)
  refine PyProof.Rows.callWith_type1 ?_ he hpl
  rw [he]
  show wpAny _ _ (spliced ((false, eval e X.env) :: backTo pos (starEach [] X.env))) _ _ s
  exact Calls.spliced_cons (wpAny_mono (h pins s σ H E I d) (fun _ _ z => z.elim) fun _ _ z => z)
theorem px_setF {X : Cx} {E : XK} {e : Expr} {pos : Pos} {x : XB} {y : Str} {pos' : Pos} (he : PXf X e x) (p : PassesF X E) (hs : swapsWith e (some (.Name y pos')) pos.line X.env = pure false) : PX1 X E (.Assign [.Name y pos'] e pos) x := fun pins s σ H I d =>
  wpAny_Assign_Name (wpAny_mono (he pins s σ H E I d) (fun _ _ z => z.elim) fun e s' z => p pins σ e s' z) hs
theorem pxe_if {X : Cx} {c a b : Expr} {pos : Pos} {t : FT} {x y : XB} (hc : ∀ xe, PT (X.wish xe) c (rdT X.K t)) (ha : PXe X a x) (hb : PXe X b y) : PXe X (.IfExp c a b pos) (xIf t x y) := by
  intro pins s σ H E I ⟨ρ, μ, m, d, μ', hl, hs, e, k⟩
  obtain ⟨⟨bb, μ1⟩, e1, e⟩ := Option.bind_eq_some_iff.mp e
  refine wpAny_IfExp (thn (hc (Cau X pins σ E) pins s σ H (fun b' H' => b' = bb ∧ ∃ m', Ext m H m' H' ∧ SRel X.K m' H' μ1) (I.wish _) ⟨ρ, μ, m, bb, μ1, hl, hs, e1, fun H' m' x1 s1 => ⟨rfl, m', x1, s1⟩⟩) fun b' s1 ⟨H1, I1, hbb, m1, x1, s1'⟩ => ?_)
  subst hbb
  cases b' with
  | true => exact ha pins s1 σ H1 E I1.unwish ⟨ρ, μ1, m1, d, μ', hl.ext x1, s1', e, fun C H' m' q y z => k C H' m' q (x1.trans y) z⟩
  | false => exact hb pins s1 σ H1 E I1.unwish ⟨ρ, μ1, m1, d, μ', hl.ext x1, s1', e, fun C H' m' q y z => k C H' m' q (x1.trans y) z⟩
theorem pxe_no {X : Cx} {e : Expr} : PXe X e xNo := fun pins s σ H E I ⟨ρ, μ, m, c, μ', _, _, e, _⟩ => by cases e
end HW
namespace HW
open PySem PySem.Spec PyProof.Rows L2
def PJ (X : Cx) (e : Expr) (ok : Lo → Bool) : Prop := ∀ (ρ : Lo) (m : List Addr) (pins : List (Addr × Obj)) (s : Shared) (σ : L2.St) (H : Hp), Inv X pins σ H s → LRel X.K m H ρ σ → ok ρ = true →
  wpAny (model X.prog X.w) X.A (eval e X.env) (fun v s1 => ∃ y t, v = .str y t ∧ y.length ≤ 1048576 ∧ Inv X pins σ H s1) X.xe s
inductive PJs (X : Cx) : List Expr → (Lo → Bool) → Prop
  | nil : PJs X [] (fun _ => true)
  | cons {e es p q} : PJ X e p → PJs X es q → PJs X (e :: es) (fun ρ => p ρ && q ρ)
section
variable {X : Cx} {a x : Str} {i j : Nat} {p1 p2 p3 pos : Pos}
theorem pj_str (h : a.length ≤ 1048576) : PJ X (.Constant (.str a) j p1) (fun _ => true) := fun ρ m pins s σ H I hl ho =>
  thn (pe_str (X := X) pins s σ H (fun v H' => v = .str a ∧ H' = H) I ⟨rfl, rfl⟩) fun v s1 ⟨v', H1, I1, r1, e1, e2⟩ => by
    subst e1 e2
    obtain ⟨t1, rfl⟩ := r1
    exact ⟨a, t1, rfl, h, I1⟩
noncomputable def okIn (i : Nat) : Lo → Bool := fun ρ => match ρ[i]? with | some (some (.v (.int k))) => decide (k.natAbs.log2 < 1920) | _ => false
theorem pj_int (hx : PE X (.Name x p2) (tVar i)) : PJ X (.FormattedValue (.Name x p2) (-1) none p3) (okIn i) := fun ρ m pins s σ H I hl ho => by
  unfold okIn at ho
  split at ho
  · rename_i k q
    obtain ⟨v, q1, q2⟩ := hl.2 i _ q
    simp only [RelR, RelD] at q2
    subst q2
    have z := of_decide_eq_true ho
    refine wpAny_FormattedValue_plain ?_
    refine thn (hx pins s σ H (fun v H' => v = .int k ∧ H' = H) I ⟨_, q1, rfl, rfl⟩) fun v s2 ⟨v', H2, I2, r2, e1, e2⟩ => ?_
    subst e1 e2
    obtain ⟨t2, rfl⟩ := r2
    refine formatField_int_small z ⟨_, _, rfl, ?_, I2.tok _⟩
    have e := int_text_length_le (k := 1920) (by decide) z
    rw [PySem.ofString_length]
    omega
  · cases ho
theorem join_all {ok : Lo → Bool} {es : List Expr} (h : PJs X es ok) : ∀ (ρ : Lo) (m : List Addr) (pins : List (Addr × Obj)) (s : Shared) (σ : L2.St) (H : Hp) (out : Str), Inv X pins σ H s → LRel X.K m H ρ σ → ok ρ = true → out.length + es.length * 1048576 ≤ sizeLine →
    wpAny (model X.prog X.w) X.A (joinParts out (evalEach es X.env)) (fun v s1 => ∃ y t, v = .str y t ∧ Inv X pins σ H s1) X.xe s := by
  induction h with
  | nil =>
    intro ρ m pins s σ H out I hl ho hz
    exact joinParts_nilE (joinParts_nil ⟨_, _, rfl, I.tok _⟩ (by simpa using hz))
  | @cons e0 es0 p0 q0 h1 h2 ih =>
    intro ρ m pins s σ H out I hl ho hz
    simp only [Bool.and_eq_true] at ho
    rw [List.length_cons, Nat.succ_mul] at hz
    refine joinParts_consE (joinParts_cons (thn (h1 ρ m pins s σ H I hl ho.1) fun v s1 ⟨y, t, e, hy, I1⟩ => ?_))
    subst e
    have hz1 : (out ++ y).length + es0.length * 1048576 ≤ sizeLine := by rw [strLen_append]; omega
    exact ⟨Nat.le_trans (Nat.le_add_right _ _) hz1, ih ρ m pins s1 σ H _ I1 hl ho.2 hz1⟩
def tJ (K : PySem.W.Frag) (ok : Lo → Bool) : TE := fun σ H Q => (∃ ρ m, LRel K m H ρ σ ∧ ok ρ = true) ∧ ∀ z, Q (.str z) H
theorem pe_joined {ok : Lo → Bool} {v₁ v₂ : Expr} {rest : List Expr} (h : PJs X (v₁ :: v₂ :: rest) ok) (hn : (v₁ :: v₂ :: rest).length ≤ 14) : PE X (.JoinedStr (v₁ :: v₂ :: rest) pos) (tJ X.K ok) := by
  intro pins s σ H Q I ⟨⟨ρ, m, hl, ho⟩, q⟩
  refine JoinedStr_many ?_
  have hz : Str.empty.length + (v₁ :: v₂ :: rest).length * 1048576 ≤ sizeLine := by
    have e : Str.empty.length = 0 := rfl
    have e2 : sizeLine = 16777216 := by decide
    omega
  have := join_all h ρ m pins s σ H Str.empty I hl ho hz
  exact thn this fun v s1 ⟨y, t, e, I1⟩ => ⟨.str y, H, I1, by subst e; exact ⟨_, rfl⟩, q y⟩
theorem tJ_ok {K : PySem.W.Frag} {ok : Lo → Bool} {ρ : Lo} {μ : Store} {m : List Addr} {σ : L2.St} {H : Hp} (hl : LRel K m H ρ σ) (hs : SRel K m H μ) (h : ok ρ = true) : tJ K ok σ H fun x H' => [x].length = 1 ∧ H' = H := ⟨⟨ρ, m, hl, h⟩, fun _ => ⟨rfl, rfl⟩⟩
end
end HW
namespace HW
open PySem PySem.Spec PyProof.Rows L2
def rSlS : V → Option Int → Option Int → Hp → VK → Prop := fun x lo hi H Q => ∃ z, x = .str z ∧ z.length ≤ sizeLine ∧ Q (.str (Txt.slice z lo hi)) H
theorem sl_str {X : Cx} : SlR X rSlS := by
  intro pins s σ H x v vl vu lo hi sl Q I rx hs pl pu h
  obtain ⟨z, rfl, hz, q⟩ := h
  obtain ⟨t, rfl⟩ := rx
  refine ⟨"str", _, PySem.F.slot_str_getitem.lookup, typeIs_str _ _ _, ?_⟩
  have fin : ∀ (l u : Option (Int × Tok)), lo = l.map (·.1) → hi = u.map (·.1) → s.heap.IsSlice sl l u none → wpAny (model X.prog X.w) X.A (getItem (.str z t) (.ref sl)) (EP X pins σ Q) X.xe s := fun l u e1 e2 hS => by
    subst e1 e2
    refine wpAny_getItem_str_slice (l := l) (u := u) (st := none) hS rfl ?_
    exact post_val_or_str ⟨Nat.le_trans (Txt.slice_le z _ _) hz, fun t' k => ⟨.str _, H, I.tok k, ⟨_, rfl⟩, q⟩⟩
  cases pl with
  | none =>
    cases pu with
    | none => exact fin none none rfl rfl hs
    | int j tj => exact fin none (some (j, tj)) rfl rfl hs
  | int i ti =>
    cases pu with
    | none => exact fin (some (i, ti)) none rfl rfl hs
    | int j tj => exact fin (some (i, ti)) (some (j, tj)) rfl rfl hs
noncomputable def Its (x : Str) : It := ⟨fun i _ => i < x.cps.size, fun i H v H' => H' = H ∧ ∃ c, x.cps[i]? = some c ∧ v = .str ⟨#[c]⟩, fun i _ => x.cps.size ≤ i⟩
theorem turn_str {P : Program} {w : World} {K : PySem.W.Frag} {tg : Expr} {T : String} (hT : T = "str_ascii_iterator" ∨ T = "str_iterator") (x : Str) (t : Tok) (it : Addr) : Turn P w K tg (Its x) [it] it (fun i h => h.IsStrIter it T x t i) where
  mem := by simp
  obj := fun i h st b hb => by
    have e : b = it := by simpa using hb
    subst e
    obtain ⟨o, e, c, d⟩ := st
    exact ⟨o, e, fun v z => by rw [d] at z; cases z⟩
  keep := fun i h h' st k => let ⟨o, e, r⟩ := st; ⟨o, k it (by simp) o e, r⟩
  item := by
    intro X hP hw hK hc i pins s σ H E I hf st hg
    subst hP hw hK
    obtain ⟨f0, f1, f2, f3, f4, f5⟩ := hf it (by simp)
    have W : Walks X.prog X.w X.A it [it] [it] x.cps.size (SignAt x) (fun i h => h.IsStrIter it T x t i) := by
      rcases hT with rfl | rfl
      · exact Walks.strAscii (I.ok.hd hc) it x t
      · exact Walks.strWide (I.ok.hd hc) it x t
    refine W.item i s _ _ hg st fun v h' tk hv st' kk => ?_
    obtain ⟨c, u, hx, rfl⟩ := hv
    have I1 : Inv X pins σ H { s with heap := h', toks := tk } := I.turned (fun b o hb e => kk b o (by simpa using hb) e) f0 f1 f3 f4 f5
    obtain ⟨o, e, c1, d⟩ := id st'
    exact ⟨_, rfl, go_of (s := { s with heap := h', toks := tk }) e c1 d (by rcases hT with rfl | rfl <;> decide) ⟨.str ⟨#[c]⟩, H, I1, ⟨u, rfl⟩, ⟨rfl, c, hx, rfl⟩, st', fun b hb => (hf b hb).1⟩⟩
  done := by
    intro X hP hw hK hc i pins s σ H E I hf st hg
    subst hP hw hK
    obtain ⟨f0, f1, f2, f3, f4, f5⟩ := hf it (by simp)
    have hx : x.cps[i]? = none := Array.getElem?_eq_none hg
    rcases hT with rfl | rfl
    · exact wpAny_pyNext_ascii_end (I.ok.hd hc) st hx fun h' eb => ⟨rfl, I.turned (t' := s.toks) (fun b o hb e => eb b o hb e) f0 f1 f3 f4 f5⟩
    · exact wpAny_pyNext_wide_end (I.ok.hd hc) st hx fun h' eb => ⟨rfl, I.turned (t' := s.toks) (fun b o hb e => eb b o hb e) f0 f1 f3 f4 f5⟩
  self := fun _ _ _ _ _ st h => by
    rcases hT with rfl | rfl
    · exact wpAny_pyIter_striter_ascii st h
    · exact wpAny_pyIter_striter_wide st h
def iStr (tl : TE) : TI := fun σ H R => tl σ H fun x H1 => ∃ z, x = .str z ∧ R (Its z) H1
theorem pi_str {X : Cx} {tg l : Expr} {tl : TE} (hl : PE X l tl) : PI X tg l (iStr tl) := by
  intro pins s σ H R I h
  refine thn (hl pins s σ H _ I h) fun v s1 ⟨x, H1, I1, r1, q1⟩ => ?_
  obtain ⟨z, rfl, q⟩ := q1
  obtain ⟨t, rfl⟩ := r1
  have fin : ∀ T, (T = "str_ascii_iterator" ∨ T = "str_iterator") → PIE X pins σ tg R (.ref s1.heap.objs.size) { s1 with heap := s1.heap.push { cls := .type T, data := .fields #[.str z t, .int 0 0] } } := fun T hT => by
    refine ⟨s1.heap.objs.size, [s1.heap.objs.size], _, _, H1, rfl, I1.kept (t' := s1.toks) fun b o e => Heap.get?_push_of_some _ e, turn_str hT z t _, ⟨_, Heap.get?_push_size _ rfl, rfl, rfl⟩, fun b hb => ?_, q⟩
    have e : b = s1.heap.objs.size := by simpa using hb
    subst e
    exact I1.fpOk (Nat.le_refl _) (I1.hok.fresh (Nat.le_refl _))
  cases ha : z.cps.all (· < 128)
  · exact wpAny_pyIter_wide ha (fin _ (.inr rfl))
  · exact wpAny_pyIter_ascii ha (fin _ (.inl rfl))
noncomputable def signs (x : Str) : List D := x.cps.toList.map fun c => D.str ⟨#[c]⟩
noncomputable def fiStr (f : FE) : FI := fun ρ μ => (f ρ μ).bind fun a => match a.1 with | .v (.str x) => some (signs x, a.2) | _ => none
theorem its_ok {K : PySem.W.Frag} (x : Str) : ItOk K (Its x) (signs x) (fun _ => True) where
  st := fun _ _ _ _ => trivial
  stop := fun i H _ hi => by show x.cps.size ≤ i; simpa [signs] using hi
  go := fun i d H e _ => by
    have := (List.getElem?_eq_some_iff.mp e).1
    show i < x.cps.size; simpa [signs] using this
  yld := fun i d H v H' e _ ⟨e1, c, hc, e2⟩ => by
    refine ⟨e1, ?_⟩
    unfold signs at e
    rw [List.getElem?_map] at e
    have hc' : x.cps.toList[i]? = some c := by simpa using hc
    rw [hc'] at e
    cases e
    rw [e2]; simp only [RelD]
section
variable {K : PySem.W.Frag} {σ : L2.St} {H : Hp} {Q : VK} {RR : It → Hp → Prop}
theorem rd_iStr {f} (h : rdI K (fiStr f) σ H RR) : iStr (rdE K f) σ H RR := by
  obtain ⟨ρ, μ, m, xs, μ', hl, hs, e, k⟩ := h
  obtain ⟨⟨x, μ1⟩, e1, e⟩ := Option.bind_eq_some_iff.mp e
  split at e
  · rename_i z q
    cases e
    simp only at q
    subst q
    refine ⟨ρ, μ, m, _, _, hl, hs, e1, fun v H1 m1 x1 s1 r1 => ?_⟩
    simp only [RelR, RelD] at r1
    exact ⟨z, r1, k _ _ H1 m1 x1 s1 (its_ok z) trivial⟩
  · cases e
noncomputable def slS (x : R) (lo hi : Option Int) (μ : Store) : Option (R × Store) := match x with
  | .v (.str z) => if z.length ≤ sizeLine then some (.v (.str (Txt.slice z lo hi)), μ) else none
  | _ => none
noncomputable def ixS : R → R → Store → Option (R × Store)
  | .v (.str z), .v (.int i), μ => if 0 ≤ i ∧ i < 2 ^ 63 ∧ i < z.length then (z.cps[i.toNat]?).bind fun c => some (.v (.str ⟨#[c]⟩), μ) else none
  | _, _, _ => none
theorem g_ixS : GOp K ixS (fun x y H Q => ∃ z i c, x = .str z ∧ y = .int i ∧ 0 ≤ i ∧ i < 2 ^ 63 ∧ i < z.length ∧ z.cps[i.toNat]? = some c ∧ Q (.str ⟨#[c]⟩) H) := by
  intro m H μ x y d μ' v u Q s rx ry e k
  unfold ixS at e
  split at e
  · rename_i z i
    split at e
    · rename_i c
      obtain ⟨c', e1, e⟩ := Option.bind_eq_some_iff.mp e
      cases e
      simp only [RelR, RelD] at rx ry
      subst rx ry
      exact ⟨z, i, c', rfl, rfl, c.1, c.2.1, c.2.2, e1, k _ H m .refl s (by simp only [RelR, RelD])⟩
    · cases e
  · cases e
noncomputable def lenS : List R → Store → Option (R × Store)
  | [.v (.str z)], μ => if z.length ≤ sizeLine then some (.v (.int z.length), μ) else none
  | _, _ => none
theorem g_lenS : GAr K lenS (fun xs H Q => ∃ z, xs = [.str z] ∧ z.length ≤ sizeLine ∧ Q (.int z.length) H) := by
  intro m H μ xs d μ' vs Q s r e k
  unfold lenS at e
  split at e
  · rename_i z
    split at e
    · rename_i hz
      cases e
      obtain ⟨v, rfl, r1⟩ := rel1 r
      simp only [RelR, RelD] at r1
      subst r1
      exact ⟨z, rfl, hz, k _ H m .refl s (by simp only [RelR, RelD])⟩
    · cases e
  · cases e
noncomputable def intS : List R → Store → Option (R × Store)
  | [.v (.str z)], μ => if z.length ≤ 640 then (PySem.intText? z).bind fun n => some (.v (.int n), μ) else none
  | _, _ => none
def rIntS : List V → Hp → VK → Prop := fun xs H Q => ∃ z n, xs = [.str z] ∧ z.length ≤ 640 ∧ PySem.intText? z = some n ∧ Q (.int n) H
theorem call_intS {X : Cx} : CallR X (.type "int") rIntS := by
  intro pins s σ H vs us Q I r h
  obtain ⟨z, n, rfl, hz, hn, q⟩ := h
  obtain ⟨u, rfl, rx⟩ := vals1 r
  obtain ⟨t, rfl⟩ := rx
  exact PySem.W.KIN.call_text hn hz ⟨.int n, H, I.tok _, ⟨_, rfl⟩, q⟩
theorem g_intS : GAr K intS rIntS := by
  intro m H μ xs d μ' vs Q s r e k
  unfold intS at e
  split at e
  · rename_i z
    split at e
    · rename_i hz
      obtain ⟨n, e1, e⟩ := Option.bind_eq_some_iff.mp e
      cases e
      obtain ⟨v, rfl, r1⟩ := rel1 r
      simp only [RelR, RelD] at r1
      subst r1
      exact ⟨z, n, rfl, hz, e1, k _ H m .refl s (by simp only [RelR, RelD])⟩
    · cases e
  · cases e
noncomputable def inS (neg : Bool) : R → R → Store → Option (R × Store)
  | .v (.str i), .v (.str j), μ => some (.v (.bl (if neg then !(!(Builtin.Str.occurrences j i 0 j.length 1).isEmpty) else !(Builtin.Str.occurrences j i 0 j.length 1).isEmpty)), μ)
  | _, _, _ => none
theorem g_inS : GOp K (inS false) (fun x y H Q => ∃ i j, x = .str i ∧ y = .str j ∧ Q (.bl (!(Builtin.Str.occurrences j i 0 j.length 1).isEmpty)) H) := by
  intro m H μ x y d μ' v u Q s rx ry e k
  unfold inS at e
  split at e
  · rename_i i j
    cases e
    simp only [RelR, RelD] at rx ry
    subst rx ry
    exact ⟨i, j, rfl, rfl, k _ H m .refl s (by simp only [RelR, RelD, Bool.false_eq_true, if_false])⟩
  · cases e
theorem g_ninS : GOp K (inS true) (fun x y H Q => ∃ i j, x = .str i ∧ y = .str j ∧ Q (.bl (!(!(Builtin.Str.occurrences j i 0 j.length 1).isEmpty))) H) := by
  intro m H μ x y d μ' v u Q s rx ry e k
  unfold inS at e
  split at e
  · rename_i i j
    cases e
    simp only [RelR, RelD] at rx ry
    subst rx ry
    exact ⟨i, j, rfl, rfl, k _ H m .refl s (by simp only [RelR, RelD, if_true])⟩
  · cases e
noncomputable def swD : R → R → Store → Option (R × Store)
  | .v (.str a), .v (.str b), μ => some (.v (.bl (decide (0 + b.length ≤ a.length) && Builtin.Str.subAt a b 0)), μ)
  | _, _, _ => none
noncomputable abbrev fSw (fa fb : FE) : FE := fOp swD fa fb
def rSw : V → List V → Hp → VK → Prop := fun x ys H Q => ∃ a b, x = .str a ∧ ys = [.str b] ∧ Q (.bl (decide (0 + b.length ≤ a.length) && Builtin.Str.subAt a b 0)) H
theorem mt_sw {X : Cx} : MtR X "str.startswith" rSw := by
  intro pins s σ H x xs v us Q I rx rv h
  obtain ⟨a, b, rfl, rfl, q⟩ := h
  obtain ⟨t, rfl⟩ := rx
  obtain ⟨u, rfl, ru⟩ := vals1 rv
  obtain ⟨t', rfl⟩ := ru
  exact call_gives PySem.F.slot_str_startswith (typeIs_str _ _ _) PySem.F.entry_str_startswith (PySem.F.args_str_startswith_2 _ _) (gives_str_startswith a b t t') ⟨.bl _, H, I, rfl, q⟩
theorem rd_sw {fa fb} (h : rdE K (fSw fa fb) σ H Q) : tBM K "str" rSw (rdE K fa) (tCons (rdE K fb) tNil) σ H Q := by
  obtain ⟨ρ, μ, m, d, μ', hl, hs, e, k⟩ := h
  obtain ⟨⟨x, μ1⟩, e1, e⟩ := Option.bind_eq_some_iff.mp e
  obtain ⟨⟨y, μ2⟩, e2, e⟩ := Option.bind_eq_some_iff.mp e
  unfold swD at e
  split at e
  · rename_i a b q1 q2
    simp only at q1 q2
    subst q1 q2
    cases e
    refine ⟨ρ, μ, m, _, μ1, hl, hs, e1, fun v H1 m1 x1 s1 r1 => ?_⟩
    simp only [RelR, RelD] at r1
    subst r1
    refine ⟨rfl, ρ, μ1, m1, _, _, hl.ext x1, s1, e2, fun u H2 m2 x2 s2 r2 => ?_⟩
    simp only [RelR, RelD] at r2
    subst r2
    exact ⟨a, b, rfl, rfl, k _ H2 m2 (x1.trans x2) s2 (by simp only [RelR, RelD])⟩
  · cases e
noncomputable def fCh (g g' : R → R → Store → Option (R × Store)) (fa fb fc : FE) : FE := fun ρ μ => (fa ρ μ).bind fun a => (fb ρ a.2).bind fun b => (g a.1 b.1 b.2).bind fun z => match z.1 with
  | .v (.bl k) => if k = true then (fc ρ z.2).bind fun c => g' b.1 c.1 c.2 else some (.v (.bl false), z.2)
  | _ => none
theorem rd_ch {g g' r r' fa fb fc} (hg : GOp K g r) (hg' : GOp K g' r') (h : rdE K (fCh g g' fa fb fc) σ H Q) : tChain r r' (rdE K fa) (rdE K fb) (rdE K fc) σ H Q := by
  obtain ⟨ρ, μ, m, d, μ', hl, hs, e, k⟩ := h
  obtain ⟨⟨x, μ1⟩, e1, e⟩ := Option.bind_eq_some_iff.mp e
  obtain ⟨⟨y, μ2⟩, e2, e⟩ := Option.bind_eq_some_iff.mp e
  obtain ⟨⟨z, μ3⟩, e3, e⟩ := Option.bind_eq_some_iff.mp e
  split at e
  · rename_i b q
    simp only at q
    subst q
    refine ⟨ρ, μ, m, x, μ1, hl, hs, e1, fun v H1 m1 x1 s1 r1 => ?_⟩
    refine ⟨ρ, μ1, m1, y, μ2, hl.ext x1, s1, e2, fun u H2 m2 x2 s2 r2 => ?_⟩
    refine hg m2 H2 μ2 x y _ μ3 v u _ s2 (r1.ext x2) r2 e3 fun w H3 m3 x3 s3 r3 => ?_
    simp only [RelR, RelD] at r3
    refine ⟨b, r3, ?_⟩
    cases b with
    | true =>
      rw [if_pos rfl] at e ⊢
      obtain ⟨⟨c, μ4⟩, e4, e⟩ := Option.bind_eq_some_iff.mp e
      refine ⟨ρ, μ3, m3, c, μ4, hl.ext ((x1.trans x2).trans x3), s3, e4, fun w' H4 m4 x4 s4 r4 => ?_⟩
      exact hg' m4 H4 μ4 y c d μ' u w' Q s4 ((r2.ext x3).ext x4) r4 e fun w5 H5 m5 x5 s5 r5 => k w5 H5 m5 ((((x1.trans x2).trans x3).trans x4).trans x5) s5 r5
    | false =>
      rw [if_neg Bool.false_ne_true] at e ⊢
      cases e
      exact k _ H3 m3 ((x1.trans x2).trans x3) s3 (by simp only [RelR, RelD])
  · cases e
end
end HW
namespace HW
open PySem PySem.Spec PyProof.Rows L2
theorem texts_vals : ∀ {its : List Value} {ts : List Str}, Vals (ts.map V.str) its → ∃ l : List (Str × Tok), its = strValues l ∧ l.map (·.1) = ts
  | its, [], r => by
    have := r.length
    cases its with
    | nil => exact ⟨[], rfl, rfl⟩
    | cons a b => simp at this
  | its, x :: ts, r => by
    cases r with
    | cons r1 r2 =>
      obtain ⟨l, e1, e2⟩ := texts_vals r2
      obtain ⟨t, rfl⟩ := r1
      exact ⟨(x, t) :: l, by rw [e1]; rfl, by rw [List.map_cons, e2]⟩
theorem vals_texts : ∀ (l : List (Str × Tok)), Vals ((l.map (·.1)).map V.str) (strValues l)
  | [] => .nil
  | (x, t) :: l => .cons ⟨t, rfl⟩ (vals_texts l)
def rJoin (K : PySem.W.Frag) : V → List V → Hp → VK → Prop := fun x ys H Q => ∃ a p ts, x = .str a ∧ ys = [.ref p] ∧ SqL K H p (ts.map V.str) ∧ JoinOk a ts = true ∧ Q (.str (Txt.join a ts)) H
theorem mt_join {X : Cx} : MtR X "str.join" (rJoin X.K) := by
  intro pins s σ H x xs v us Q I rx rv h
  obtain ⟨a, p, ts, rfl, rfl, hq, hok, q⟩ := h
  obtain ⟨t, rfl⟩ := rx
  obtain ⟨u, rfl, ru⟩ := vals1 rv
  cases ru
  obtain ⟨its, r', pl, hz⟩ := I.list hq
  obtain ⟨l, rfl, e2⟩ := texts_vals r'
  exact SC.join pl.isList e2 hok fun t' k => ⟨.str _, H, I.tok k, ⟨_, rfl⟩, q⟩
def rSplit : V → List V → Hp → VK → Prop := fun x ys H Q => ∃ a b, x = .str a ∧ ys = [.str b] ∧ (b.length == 0) = false ∧ a.length < 4000 ∧ ∀ p, H p = none → Q (.ref p) (upd H p (.lst ((Txt.split a b).map V.str)))
theorem parts_few (a b : Str) (hb : (b.length == 0) = false) : (Builtin.Str.partsBetween a (Builtin.Str.occurrences a b 0 a.length (a.length + 1)) b.length).length ≤ a.length + 2 := by
  have := PySem.StrLaws.occ_length_le a b 0 a.length (a.length + 1)
  have e : ∀ cuts : List Nat, (Builtin.Str.partsBetween a cuts b.length).length = cuts.length + 1 := fun cuts => by simp [Builtin.Str.partsBetween]
  rw [e]
  omega
theorem split_few (a b : Str) (hb : (b.length == 0) = false) : (Txt.split a b).length ≤ a.length + 2 := by
  unfold Txt.split
  split
  · simp
  · split
    · simp
    · exact parts_few a b hb
theorem mt_split {X : Cx} : MtR X "str.split" rSplit := by
  intro pins s σ H x xs v us Q I rx rv h
  obtain ⟨a, b, rfl, rfl, hb, hz, q⟩ := h
  obtain ⟨t, rfl⟩ := rx
  obtain ⟨u, rfl, ru⟩ := vals1 rv
  obtain ⟨t', rfl⟩ := ru
  have h4 : (4000 + 2 : Nat) ≤ sizeLine := by decide
  have hp := parts_few a b hb
  have hs := split_few a b hb
  cases h1 : (decide (a.length < b.length) || decide (Builtin.Str.strKind a < Builtin.Str.strKind b))
  · cases hf : (Builtin.Str.occurrences a b 0 a.length (a.length + 1)).isEmpty
    · refine call_meets PySem.F.slot_str_split (typeIs_str _ _ _) PySem.F.entry_str_split (PySem.F.args_str_split_2 _ _) (meets_str_split_sep a b t t' h1 hb hf (by omega) (by omega)) ?_
      have e : Txt.split a b = Builtin.Str.partsBetween a (Builtin.Str.occurrences a b 0 a.length (a.length + 1)) b.length := by
        unfold Txt.split; rw [h1, hf]; rfl
      rw [e] at q hs
      rw [strsFrom_eq]
      have hv := vals_texts (numbered s.toks (Builtin.Str.partsBetween a (Builtin.Str.occurrences a b 0 a.length (a.length + 1)) b.length))
      rw [numbered_texts] at hv
      exact ⟨.ref s.heap.objs.size, _, I.lnew hv (by rw [List.length_map]; omega), rfl, q _ I.fresh⟩
    · have e : Txt.split a b = [a] := by unfold Txt.split; rw [h1, hf]; rfl
      rw [e] at q
      exact call_meets PySem.F.slot_str_split (typeIs_str _ _ _) PySem.F.entry_str_split (PySem.F.args_str_split_2 _ _) (meets_str_split_not_found a b t t' h1 hb hf)
        ⟨.ref s.heap.objs.size, _, I.lnew (its := [.str a t]) (t' := s.toks) (vals_texts [(a, t)]) (show 1 ≤ sizeLine by decide), rfl, q _ I.fresh⟩
  · have e : Txt.split a b = [a] := by unfold Txt.split; rw [h1]; rfl
    rw [e] at q
    exact call_meets PySem.F.slot_str_split (typeIs_str _ _ _) PySem.F.entry_str_split (PySem.F.args_str_split_2 _ _) (meets_str_split_cannot_occur a b t t' h1)
      ⟨.ref s.heap.objs.size, _, I.lnew (its := [.str a t]) (t' := s.toks) (vals_texts [(a, t)]) (show 1 ≤ sizeLine by decide), rfl, q _ I.fresh⟩
structure GSm (K : PySem.W.Frag) (g : R → R → Store → Option (R × Store)) (r : V → List V → Hp → VK → Prop) : Prop where
  str : ∀ {x y μ z}, g x y μ = some z → ∃ a, x = .v (.str a)
  go : ∀ {m H μ x y d μ' v u} {Q : VK}, SRel K m H μ → RelR K m H x v → RelR K m H y u → g x y μ = some (d, μ') → (∀ w H' m', Ext m H m' H' → SRel K m' H' μ' → RelR K m' H' d w → Q w H') → r v [u] H Q
section
variable {K : PySem.W.Frag} {σ : L2.St} {H : Hp} {Q : VK}
theorem rd_bmS {g r fa fb} (hg : GSm K g r) (h : rdE K (fOp g fa fb) σ H Q) : tBM K "str" r (rdE K fa) (tCons (rdE K fb) tNil) σ H Q := by
  obtain ⟨ρ, μ, m, d, μ', hl, hs, e, k⟩ := h
  obtain ⟨⟨x, μ1⟩, e1, e⟩ := Option.bind_eq_some_iff.mp e
  obtain ⟨⟨y, μ2⟩, e2, e⟩ := Option.bind_eq_some_iff.mp e
  obtain ⟨a, hx⟩ := hg.str e
  simp only at hx
  subst hx
  refine ⟨ρ, μ, m, _, μ1, hl, hs, e1, fun v H1 m1 x1 s1 r1 => ?_⟩
  have r1' := r1
  simp only [RelR, RelD] at r1'
  subst r1'
  refine ⟨rfl, ρ, μ1, m1, _, _, hl.ext x1, s1, e2, fun u H2 m2 x2 s2 r2 => ?_⟩
  exact hg.go s2 (r1.ext x2) r2 e fun w H3 m3 x3 s3 r3 => k w H3 m3 ((x1.trans x2).trans x3) s3 r3
noncomputable def textsD : List D → Option (List Str)
  | [] => some []
  | .str x :: r => (textsD r).bind fun l => some (x :: l)
  | _ => none
theorem texts_rel : ∀ {ds : List D} {ts : List Str} {vs : List V}, textsD ds = some ts → RelDs K H ds vs → vs = ts.map V.str
  | [], ts, vs, e, r => by
    cases e
    simp only [RelDs] at r
    exact r
  | d :: ds, ts, vs, e, r => by
    cases d with
    | str x =>
      obtain ⟨l, e1, e2⟩ := Option.bind_eq_some_iff.mp e
      cases e2
      simp only [RelDs] at r
      obtain ⟨v, r', rfl, h1, h2⟩ := r
      simp only [RelD] at h1
      rw [h1, texts_rel e1 h2]
      rfl
    | non => cases e
    | bl _ => cases e
    | int _ => cases e
    | tup _ => cases e
    | fl _ => cases e
    | fd _ _ => cases e
noncomputable def joinD : R → R → Store → Option (R × Store)
  | .v (.str a), y, μ => (lstD y μ).bind fun ds => (textsD ds).bind fun ts => if JoinOk a ts = true then some (.v (.str (Txt.join a ts)), μ) else none
  | _, _, _ => none
theorem g_join : GSm K joinD (rJoin K) where
  str := fun {x y μ z} e => by
    unfold joinD at e
    split at e
    · exact ⟨_, rfl⟩
    · cases e
  go := fun {m H μ x y d μ' v u Q} s rx ry e k => by
    unfold joinD at e
    split at e
    · rename_i a
      obtain ⟨ds, e1, e⟩ := Option.bind_eq_some_iff.mp e
      obtain ⟨ts, e2, e⟩ := Option.bind_eq_some_iff.mp e
      split at e
      · rename_i hok
        cases e
        simp only [RelR, RelD] at rx
        subst rx
        obtain ⟨p, vs, rfl, q, rr⟩ := lst_ok s ry e1
        rw [texts_rel e2 rr] at q
        exact ⟨a, p, ts, rfl, rfl, q, hok, k _ H m .refl s (by simp only [RelR, RelD])⟩
      · cases e
    · cases e
noncomputable def splD : R → R → Store → Option (R × Store)
  | .v (.str a), .v (.str b), μ => if (b.length == 0) = false ∧ a.length < 4000 then some (.p μ.length, μ ++ [.lst ((Txt.split a b).map D.str)]) else none
  | _, _, _ => none
theorem rel_texts : ∀ {ts : List Str}, RelDs K H (ts.map D.str) (ts.map V.str)
  | [] => by simp only [List.map_nil, RelDs]
  | t :: ts => by simp only [List.map_cons, RelDs]; exact ⟨_, _, rfl, by simp only [RelD], rel_texts⟩
theorem g_spl : GSm K splD rSplit where
  str := fun {x y μ z} e => by
    unfold splD at e
    split at e
    · exact ⟨_, rfl⟩
    · cases e
  go := fun {m H μ x y d μ' v u Q} s rx ry e k => by
    unfold splD at e
    split at e
    · rename_i a b
      split at e
      · rename_i hc
        cases e
        simp only [RelR, RelD] at rx ry
        subst rx ry
        refine ⟨a, b, rfl, rfl, hc.1, hc.2, fun p hp => ?_⟩
        obtain ⟨x1, x2, x3⟩ := new_lst s (rel_texts (K := K) (H := H) (ts := Txt.split a b)) hp
        exact k _ _ _ x1 x2 x3
      · cases e
    · cases e
noncomputable def inW (neg : Bool) : R → R → Store → Option (R × Store)
  | .v (.str a), y, μ => (itemsD y μ).bind fun ds => (textsD ds).bind fun ts => some (.v (.bl (if neg then !(ts.any (· == a)) else ts.any (· == a))), μ)
  | _, _, _ => none
theorem inV_texts {a : Str} : ∀ {ts : List Str}, inV (.str a) (ts.map V.str) = ts.any (· == a)
  | [] => rfl
  | t :: ts => by
    have ih := inV_texts (a := a) (ts := ts)
    unfold inV at ih ⊢
    rw [List.map_cons, List.any_cons, ih, List.any_cons]
    rfl
theorem flat_texts : ∀ {ts : List Str}, (ts.map V.str).all flatV = true
  | [] => rfl
  | t :: ts => by rw [List.map_cons, List.all_cons, flat_texts]; rfl
theorem g_inW {neg : Bool} : GOp K (inW neg) (rIn K neg) := by
  intro m H μ x y d μ' v u Q s rx ry e k
  unfold inW at e
  split at e
  · obtain ⟨ds, e0, e⟩ := Option.bind_eq_some_iff.mp e
    obtain ⟨ts, e1, e⟩ := Option.bind_eq_some_iff.mp e
    cases e
    simp only [RelR, RelD] at rx
    subst rx
    obtain ⟨a, ws, rfl, q, rr⟩ := items_ok s ry e0
    rw [texts_rel e1 rr] at q
    refine ⟨a, ts.map V.str, rfl, q, rfl, flat_texts, k _ H m .refl s ?_⟩
    simp only [RelR, RelD, inV_texts]
  · cases e
end
end HW
namespace HW
open PySem PySem.Spec PyProof.Rows L2
noncomputable def isStar : Expr → Bool
  | .Starred .. => true
  | _ => false
theorem star_cons {e : Expr} {es : List Expr} {env : Env} (h : isStar e = false) : starEach (e :: es) env = (false, eval e env) :: starEach es env := by
  cases e <;> first | rfl | (simp [isStar] at h)
theorem star_any {env : Env} {pos : Pos} : ∀ {es : List Expr}, es.any isStar = false → (backTo pos (starEach es env)).any (·.1) = false
  | [], _ => rfl
  | e :: es, h => by
    rw [List.any_cons, Bool.or_eq_false_iff] at h
    rw [star_cons h.1]
    have ih := star_any (env := env) (pos := pos) h.2
    unfold backTo at ih ⊢
    rw [List.map_cons, List.any_cons, ih]
    rfl
theorem getItem_tuple_whole {prog : Program} {w : World} {A : Around} {E : Value → Shared → Prop} {s : Shared} {t sl : Addr} {items : Array Value} {vl vu : Value} {lo hi : Option Int} {Q : Value → Shared → Prop} (ht : IsTup s.heap t items) (hs : s.heap.IsSliceOf sl vl vu .none) (pl : IsPart vl lo) (pu : IsPart vu hi)
    (hw : HT.sIx items.size 0 lo = 0 ∧ HT.sIx items.size items.size hi = items.size)
    (h : Q (.ref t) s) : wpAny (model prog w) A (getItem (.ref t) (.ref sl)) Q E s := by
  obtain ⟨os, hos, hcs, hds⟩ := id hs
  have hTs : s.TypeIs (.ref sl) "slice" := ⟨os, hos, hcs⟩
  unfold getItem
  try with_reducible refine wpAny_holding ?_
  first | refine wpAny_bind (wpAny_pure ?_) | skip
  refine wpAny_bind (wpAny_sequenceKey ht.typeIs (by decide) ?_)
  refine wpAny_bind (wpAny_callSpecial?_slot (name := Str.ofString "__getitem__") ht.typeIs PyProof.Rows.slot_tuple_getitem
    (wpAny_call_entry PyProof.Rows.slot_tuple_getitem ht.typeIs entry_tuple_getitem ?_ (args_tuple_getitem _ _)))
  show wpAny _ _ (Builtin.Tuple.tupleItemsOf (.ref t) >>= _) _ _ s
  refine wpAny_bind (tupleItemsOf_ ht ?_)
  refine wpAny_bind (wpAny_typeOf hTs ?_)
  rw [if_pos (by decide)]
  refine wpAny_bind (HT.sliceApplied_gen hs pl pu ?_)
  have hyes : ((((HT.sIx items.size 0 lo : Nat) : Int) == 0 && (1 : Int) == 1 && (HT.sIx items.size items.size hi - HT.sIx items.size 0 lo) == items.size) = true) := by
    rw [hw.1, hw.2]; simp
  show wpAny _ _ (if (((HT.sIx items.size 0 lo : Nat) : Int) == 0 && (1 : Int) == 1 && (HT.sIx items.size items.size hi - HT.sIx items.size 0 lo) == items.size) = true then _ else _) _ _ s
  rw [if_pos hyes]
  refine wpAny_bind (m := Builtin.Tuple.tupleIsExact (.ref t)) (wpAny_bind (wpAny_typeOf ht.typeIs (wpAny_pure ?_)))
  rw [if_pos (by decide)]
  refine wpAny_bind (wpAny_rule ?_)
  first
    | exact wpAny_pure ⟨_, rfl, wpAny_pure h⟩
    | exact wpAny_bind (wpAny_pure (wpAny_pure ⟨_, rfl, wpAny_pure h⟩))
    | exact wpAny_bind (wpAny_pure ⟨_, rfl, wpAny_pure h⟩)
noncomputable def cutD (xs : List D) (lo hi : Option Int) : List D := (xs.drop (HT.sIx xs.length 0 lo)).take (HT.sIx xs.length xs.length hi - HT.sIx xs.length 0 lo)
def rSl (K : PySem.W.Frag) : V → Option Int → Option Int → Hp → VK → Prop := fun x lo hi H Q => rSlL K x lo hi H Q ∨ rSlT K x lo hi H Q ∨
  ∃ a xs, x = .ref a ∧ SqT K H a xs ∧ (HT.sIx xs.length 0 lo = 0 ∧ HT.sIx xs.length xs.length hi = xs.length) ∧ Q (.ref a) H
theorem sl_whole {X : Cx} : SlR X (fun x lo hi H Q => ∃ a xs, x = .ref a ∧ SqT X.K H a xs ∧ (HT.sIx xs.length 0 lo = 0 ∧ HT.sIx xs.length xs.length hi = xs.length) ∧ Q (.ref a) H) := by
  intro pins s σ H x v vl vu lo hi sl Q I rx hs pl pu h
  obtain ⟨a, xs, rfl, hx, hw, q⟩ := h
  cases rx
  obtain ⟨its, r, ht, hz⟩ := I.tuple hx
  have hlen : its.toArray.size = xs.length := by rw [List.size_toArray]; exact r.length.symm
  refine ⟨"tuple", _, PyProof.Rows.slot_tuple_getitem.lookup, ht.typeIs, ?_⟩
  exact getItem_tuple_whole ht hs pl pu (by rw [hlen]; exact hw) ⟨.ref a, H, I, rfl, q⟩
theorem sl_any {X : Cx} : SlR X (rSl X.K) := SlR.or sl_list (SlR.or sl_tup sl_whole)
noncomputable abbrev FO := Lo → Store → Option (Option Int × Store)
def rdO (K : PySem.W.Frag) (f : FO) : TO := fun σ H Q => ∃ ρ μ m o μ', LRel K m H ρ σ ∧ SRel K m H μ ∧ f ρ μ = some (o, μ') ∧ ∀ H' m', Ext m H m' H' → SRel K m' H' μ' → Q o H'
noncomputable def oNone : FO := fun _ μ => some (none, μ)
noncomputable def oSome (f : FE) : FO := fun ρ μ => (f ρ μ).bind fun a => match a.1 with | .v (.int i) => some (some i, a.2) | _ => none
noncomputable def slD (x : R) (lo hi : Option Int) (μ : Store) : Option (R × Store) := match x with
  | .v (.tup xs) => some (.v (.tup (cutD xs lo hi)), μ)
  | x => (lstD x μ).bind fun xs => some (.p μ.length, μ ++ [.lst (cutD xs lo hi)])
noncomputable def fSl (fa : FE) (fl fh : FO) : FE := fun ρ μ => (fa ρ μ).bind fun a => (fl ρ a.2).bind fun l => (fh ρ l.2).bind fun h => slD a.1 l.1 h.1 h.2
theorem RelDs.drop {K : PySem.W.Frag} {H : Hp} : ∀ {xs : List D} {vs : List V} (n : Nat), RelDs K H xs vs → RelDs K H (xs.drop n) (vs.drop n)
  | _, _, 0, h => h
  | [], _, n + 1, h => by simp only [RelDs] at h; subst h; simp only [List.drop_nil, RelDs]
  | x :: xs, _, n + 1, h => by
    simp only [RelDs] at h
    obtain ⟨v, r, rfl, _, h2⟩ := h
    exact RelDs.drop n h2
theorem RelDs.take {K : PySem.W.Frag} {H : Hp} : ∀ {xs : List D} {vs : List V} (n : Nat), RelDs K H xs vs → RelDs K H (xs.take n) (vs.take n)
  | _, _, 0, h => by simp only [List.take_zero, RelDs]
  | [], _, n + 1, h => by simp only [RelDs] at h; subst h; simp only [List.take_nil, RelDs]
  | x :: xs, _, n + 1, h => by
    simp only [RelDs] at h
    obtain ⟨v, r, rfl, h1, h2⟩ := h
    simp only [List.take_succ_cons, RelDs]
    exact ⟨v, _, rfl, h1, RelDs.take n h2⟩
theorem RelDs.cut {K : PySem.W.Frag} {H : Hp} {xs : List D} {vs : List V} {lo hi : Option Int} (h : RelDs K H xs vs) : RelDs K H (cutD xs lo hi) (cutV vs lo hi) := by
  unfold cutD cutV
  rw [h.length]
  exact (h.drop _).take _
section
variable {K : PySem.W.Frag} {σ : L2.St} {H : Hp} {Q : VK}
theorem rd_oNone {Q : Option Int → Hp → Prop} (h : rdO K oNone σ H Q) : tNoPart σ H Q := by
  obtain ⟨ρ, μ, m, o, μ', hl, hs, e, k⟩ := h
  cases e
  exact k H m .refl hs
theorem rd_oSome {f} {Q : Option Int → Hp → Prop} (h : rdO K (oSome f) σ H Q) : tPart (rdE K f) σ H Q := by
  obtain ⟨ρ, μ, m, o, μ', hl, hs, e, k⟩ := h
  obtain ⟨⟨x, μ1⟩, e1, e⟩ := Option.bind_eq_some_iff.mp e
  split at e
  · rename_i i q
    cases e
    simp only at q
    subst q
    exact ⟨ρ, μ, m, _, μ1, hl, hs, e1, fun v H1 m1 x1 s1 r1 => ⟨i, by simpa only [RelR, RelD] using r1, k H1 m1 x1 s1⟩⟩
  · cases e
theorem sl_ok {m : List Addr} {μ μ' : Store} {x d : R} {v : V} {lo hi : Option Int} (s : SRel K m H μ) (r : RelR K m H x v) (e : slD x lo hi μ = some (d, μ')) (k : ∀ w H' m', Ext m H m' H' → SRel K m' H' μ' → RelR K m' H' d w → Q w H') : rSl K v lo hi H Q := by
  have lst : ∀ xs, lstD x μ = some xs → (some (R.p μ.length, μ ++ [Cell.lst (cutD xs lo hi)]) : Option (R × Store)) = some (d, μ') → rSl K v lo hi H Q := fun xs e1 e2 => by
    cases e2
    obtain ⟨a, vs, rfl, q, rr⟩ := lst_ok s r e1
    refine .inl ⟨a, vs, rfl, q, fun p hp => ?_⟩
    obtain ⟨x1, x2, x3⟩ := new_lst s (rr.cut (lo := lo) (hi := hi)) hp
    exact k _ _ _ x1 x2 x3
  have gen : (lstD x μ).bind (fun xs => some (R.p μ.length, μ ++ [Cell.lst (cutD xs lo hi)])) = some (d, μ') → rSl K v lo hi H Q := fun e => by
    obtain ⟨xs, e1, e⟩ := Option.bind_eq_some_iff.mp e
    exact lst xs e1 e
  cases x with
  | p n => exact gen e
  | s _ n => exact gen e
  | x n => exact gen e
  | v d0 =>
    cases d0 with
    | tup xs =>
      cases e
      simp only [RelR, RelD] at r
      obtain ⟨a, vs, rfl, q, rr⟩ := r
      by_cases hw : HT.sIx vs.length 0 lo = 0 ∧ HT.sIx vs.length vs.length hi = vs.length
      · refine .inr (.inr ⟨a, vs, rfl, q, hw, k _ H m .refl s ?_⟩)
        simp only [RelR, RelD]
        refine ⟨a, vs, rfl, q, ?_⟩
        have := rr.cut (lo := lo) (hi := hi)
        unfold cutV at this
        rw [hw.1, hw.2] at this
        simpa using this
      · refine .inr (.inl ⟨a, vs, rfl, q, hw, fun p hp => ?_⟩)
        obtain ⟨x1, x2, x3⟩ := new_tup s (rr.cut (lo := lo) (hi := hi)) hp
        exact k _ _ _ x1 x2 x3
    | non => exact gen e
    | bl _ => exact gen e
    | int _ => exact gen e
    | str _ => exact gen e
    | fl _ => exact gen e
    | fd _ _ => exact gen e
theorem rd_sl {fa fl fh} (h : rdE K (fSl fa fl fh) σ H Q) : tSl (rSl K) (rdE K fa) (rdO K fl) (rdO K fh) σ H Q := by
  obtain ⟨ρ, μ, m, d, μ', hl, hs, e, k⟩ := h
  obtain ⟨⟨x, μ1⟩, e1, e⟩ := Option.bind_eq_some_iff.mp e
  obtain ⟨⟨l, μ2⟩, e2, e⟩ := Option.bind_eq_some_iff.mp e
  obtain ⟨⟨u, μ3⟩, e3, e⟩ := Option.bind_eq_some_iff.mp e
  refine ⟨ρ, μ, m, x, μ1, hl, hs, e1, fun v H1 m1 x1 s1 r1 => ?_⟩
  refine ⟨ρ, μ1, m1, l, μ2, hl.ext x1, s1, e2, fun H2 m2 x2 s2 => ?_⟩
  refine ⟨ρ, μ2, m2, u, μ3, hl.ext (x1.trans x2), s2, e3, fun H3 m3 x3 s3 => ?_⟩
  exact sl_ok s3 (r1.ext (x2.trans x3)) e fun w H4 m4 x4 s4 r4 => k w H4 m4 (((x1.trans x2).trans x3).trans x4) s4 r4
noncomputable def fSlS (fa : FE) (fl fh : FO) : FE := fun ρ μ => (fa ρ μ).bind fun a => (fl ρ a.2).bind fun l => (fh ρ l.2).bind fun h => slS a.1 l.1 h.1 h.2
theorem slS_ok {x : R} {lo hi : Option Int} {μ μ' : Store} {d : R} (e : slS x lo hi μ = some (d, μ')) : ∃ z, x = .v (.str z) ∧ z.length ≤ sizeLine ∧ d = .v (.str (Txt.slice z lo hi)) ∧ μ' = μ := by
  unfold slS at e
  split at e
  · split at e
    · rename_i hz
      cases e
      exact ⟨_, rfl, hz, rfl, rfl⟩
    · cases e
  · cases e
theorem rd_slS {fa fl fh} (h : rdE K (fSlS fa fl fh) σ H Q) : tSl rSlS (rdE K fa) (rdO K fl) (rdO K fh) σ H Q := by
  obtain ⟨ρ, μ, m, d, μ', hl, hs, e, k⟩ := h
  obtain ⟨⟨x, μ1⟩, e1, e⟩ := Option.bind_eq_some_iff.mp e
  obtain ⟨⟨l, μ2⟩, e2, e⟩ := Option.bind_eq_some_iff.mp e
  obtain ⟨⟨u, μ3⟩, e3, e⟩ := Option.bind_eq_some_iff.mp e
  refine ⟨ρ, μ, m, x, μ1, hl, hs, e1, fun v H1 m1 x1 s1 r1 => ?_⟩
  refine ⟨ρ, μ1, m1, l, μ2, hl.ext x1, s1, e2, fun H2 m2 x2 s2 => ?_⟩
  refine ⟨ρ, μ2, m2, u, μ3, hl.ext (x1.trans x2), s2, e3, fun H3 m3 x3 s3 => ?_⟩
  obtain ⟨z, rfl, hz, rfl, rfl⟩ := slS_ok e
  simp only [RelR, RelD] at r1
  exact ⟨z, r1, hz, k _ H3 m3 ((x1.trans x2).trans x3) s3 (by simp only [RelR, RelD])⟩
end
theorem PO.imp {X : Cx} {e : Option Expr} {t t' : TO} (h : PO X e t) (k : ∀ {σ H Q}, t' σ H Q → t σ H Q) : PO X e t' := fun pins s σ H Q I q => h pins s σ H Q I (k q)
noncomputable def fDnew : FE := fun _ μ => some (.p μ.length, μ ++ [.dct []])
theorem rd_dnew {K : PySem.W.Frag} {σ : L2.St} {H : Hp} {Q : VK} (h : rdE K fDnew σ H Q) : tDNewK σ H Q := by
  obtain ⟨ρ, μ, m, d, μ', hl, hs, e, k⟩ := h
  cases e
  intro p hp
  refine k _ _ (m ++ [p]) (.newH hp) (hs.newH hp ⟨[], upd_at, rfl, by simp only [List.map_nil, RelDs]⟩) ⟨p, rfl, ?_⟩
  rw [← hs.len]; simp
noncomputable def sStuck : FS := fun _ _ => none
namespace R
section
variable {X : Cx} {a b e o : Expr} {es : List Expr} {fa fb : FE} {ga : FA} {pos p p2 apos : Pos} {x : Str}
theorem q_var (i : Nat) (hN : X.N[i]? = some x := by rfl) (hv : Vis X.env.scope x := by first | exact Or.inl rfl | exact Or.inr (Or.inl rfl) | exact Or.inr (Or.inr rfl)) (hd : (x == ("__debug__" : Str)) = false := by decide)
    (hcd : (x == ("__classdict__" : Str)) = false := by decide) : PE X (.Name x pos) (rdE X.K (fVar i)) := PE.imp (pe_var hN hv hd hcd) rd_var
theorem q_int {i j} : PE X (.Constant (.int i) j pos) (rdE X.K (fK (.int i))) := PE.imp pe_int (rd_const fun _ _ => by simp only [RelR, RelD])
theorem q_bl {i j} : PE X (.Constant (.bool i) j pos) (rdE X.K (fK (.bl i))) := PE.imp pe_bl (rd_const fun _ _ => by simp only [RelR, RelD])
theorem q_str {i j} : PE X (.Constant (.str i) j pos) (rdE X.K (fK (.str i))) := PE.imp pe_str (rd_const fun _ _ => by simp only [RelR, RelD])
theorem q_non {j} : PE X (.Constant .none j pos) (rdE X.K (fK .non)) := PE.imp pe_non (rd_const fun _ _ => by simp only [RelR, RelD])
theorem q_addQ (ha : PE X a (rdE X.K fa)) (hb : PE X b (rdE X.K fb)) : PE X (.BinOp a .Add b pos) (rdE X.K (fOp addQ fa fb)) := PE.imp (pe_op ((op_add.or (op_add_str.or (op_catT.or op_cat))).or op_add0) ha hb) (rd_op g_addQ)
theorem q_sub (ha : PE X a (rdE X.K fa)) (hb : PE X b (rdE X.K fb)) : PE X (.BinOp a .Sub b pos) (rdE X.K (fOp subD fa fb)) := PE.imp (pe_op op_sub ha hb) (rd_op g_sub)
theorem q_mul (ha : PE X a (rdE X.K fa)) (hb : PE X b (rdE X.K fb)) : PE X (.BinOp a .Mult b pos) (rdE X.K (fOp mulD fa fb)) := PE.imp (pe_op op_mul ha hb) (rd_op g_mul)
theorem q_div (ha : PE X a (rdE X.K fa)) (hb : PE X b (rdE X.K fb)) : PE X (.BinOp a .FloorDiv b pos) (rdE X.K (fOp divD fa fb)) := PE.imp (pe_op op_fdiv ha hb) (rd_op g_div)
theorem q_mod (ha : PE X a (rdE X.K fa)) (hb : PE X b (rdE X.K fb)) : PE X (.BinOp a .Mod b pos) (rdE X.K (fOp modD fa fb)) := PE.imp (pe_op op_mod ha hb) (rd_op g_mod)
theorem q_pow (ha : PE X a (rdE X.K fa)) (hb : PE X b (rdE X.K fb)) : PE X (.BinOp a .Pow b pos) (rdE X.K (fOp powD fa fb)) := PE.imp (pe_op op_pow ha hb) (rd_op g_pow)
theorem q_neg (ha : PE X a (rdE X.K fa)) : PE X (.UnaryOp .USub a pos) (rdE X.K (fUn negD fa)) := PE.imp (pe_un un_neg ha) (rd_un g_neg)
theorem q_not (ha : PE X a (rdE X.K fa)) : PE X (.UnaryOp .Not a pos) (rdE X.K (fNot fa)) := PE.imp (pe_not ha) rd_not
theorem q_eq (hu : X.A.units + 64 < cLine) (ha : PE X a (rdE X.K fa)) (hb : PE X b (rdE X.K fb)) : PE X (.Compare a [.Eq] [b] pos) (rdE X.K (fOp (eqR false) fa fb)) := PE.imp (pe_cmpR (op_eqD hu) ha hb (nomark _)) (rd_op g_eq)
theorem q_and {rest : List Expr} (ha : PE X a (rdE X.K fa)) (hb : PE X (.BoolOp .And (b :: rest) pos) (rdE X.K fb)) : PE X (.BoolOp .And (a :: b :: rest) pos) (rdE X.K (fAnd fa fb)) := PE.imp (pe_and ha hb) rd_and
theorem q_one {op} (ha : PE X a (rdE X.K fa)) : PE X (.BoolOp op [a] pos) (rdE X.K fa) := pe_one ha
theorem q_nil : PA X [] (rdA X.K fNil) := PA.imp pa_nil rd_nil
theorem q_cons (ha : PE X e (rdE X.K fa)) (hr : PA X es (rdA X.K ga)) (hs : starEach (e :: es) X.env = (false, eval e X.env) :: starEach es X.env := by exact star_cons rfl) : PA X (e :: es) (rdA X.K (fCons fa ga)) := PA.imp (pa_cons ha hr hs) rd_cons
theorem q_tup {x1} (h : PA X es (rdA X.K ga)) : PE X (.Tuple es x1 pos) (rdE X.K (fTup ga)) := PE.imp (pe_tup h) rd_tup
theorem q_lst (h : PA X es (rdA X.K ga)) : PE X (.List es pos) (rdE X.K (fLst ga)) := PE.imp (pe_lst h) rd_lst
theorem q_dnew : PE X (.Dict [] [] pos) (rdE X.K fDnew) := PE.imp pe_dnewK rd_dnew
theorem q_fz (ha : PE X a (rdE X.K fa)) : PE X a (rdE X.K (fFz fa)) := PE.imp (pe_fz0 ha) rd_fz
theorem q_ix (ha : PE X a (rdE X.K fa)) (hb : PE X b (rdE X.K fb)) (hs : PlainIx b := by intro _ _; rfl) : PE X (.Subscript a b pos) (rdE X.K (fOp ixD fa fb)) := PE.imp (pe_ix ix_seq ha hb hs) (rd_op g_ix)
theorem q_oN : PO X none (rdO X.K oNone) := PO.imp po_none rd_oNone
theorem q_oS (ha : PE X a (rdE X.K fa)) : PO X (some a) (rdO X.K (oSome fa)) := PO.imp (po_some ha) rd_oSome
theorem q_sl {lo hi : Option Expr} {fl fh : FO} (ha : PE X a (rdE X.K fa)) (hl : PO X lo (rdO X.K fl)) (hh : PO X hi (rdO X.K fh)) : PE X (.Subscript a (.Slice lo hi none p2) pos) (rdE X.K (fSl fa fl fh)) := PE.imp (pe_slice sl_any ha hl hh) rd_sl
theorem q_call {k : Nat} {f : Addr} {fd : FuncData} {ps : List Str} {n : Nat} {mf : MF} (F : FnOk X.prog X.w X.K X.mg X.base CX0 k f fd ps (spP X.K n mf)) (hr : Room k X.A) (hg : Gl X x) (hm : X.mg x = some (.ref f)) (hk : PySem.W.keepIn X.K (.ref f) = true) (hb : Binds X.K fd ps [])
    (ha : PA X (e :: es) (rdA X.K ga)) (hdb : (x == ("__debug__" : Str)) = false := by decide) (he : starEach (e :: es) X.env = (false, eval e X.env) :: starEach es X.env := by exact star_cons rfl) (hpl : (backTo pos (starEach es X.env)).any (·.1) = false := by exact star_any rfl) :
    PE X (.Call (.Name x p) (e :: es) [] pos) (rdE X.K (fCall mf n ga)) := PE.imp (pe_call F hr hg hm hk hb .nil pass0 ha hdb he hpl) rd_call
theorem q_len (hg : Gl X "len") (hm : X.mg "len" = none) (ha : PA X (e :: es) (rdA X.K ga)) (he : starEach (e :: es) X.env = (false, eval e X.env) :: starEach es X.env := by exact star_cons rfl) (hpl : (backTo pos (starEach es X.env)).any (·.1) = false := by exact star_any rfl) :
    PE X (.Call (.Name "len" p) (e :: es) [] pos) (rdE X.K (fAr lenD ga)) := PE.imp (pe_callB call_len_seq hg hm PySem.boot_len ha (he := he) (hpl := hpl)) (rd_ar g_len)
theorem q_min (hc : X.calm = true) (hg : Gl X "min") (hm : X.mg "min" = none) (ha : PA X (e :: es) (rdA X.K ga)) (he : starEach (e :: es) X.env = (false, eval e X.env) :: starEach es X.env := by exact star_cons rfl) (hpl : (backTo pos (starEach es X.env)).any (·.1) = false := by exact star_any rfl) :
    PE X (.Call (.Name "min" p) (e :: es) [] pos) (rdE X.K (fAr minD ga)) := PE.imp (pe_callB (call_min2 hc) hg hm (by decide +kernel) ha (he := he) (hpl := hpl)) (rd_ar g_min)
theorem q_strc (hg : Gl X "str") (hm : X.mg "str" = none) (ha : PA X (e :: es) (rdA X.K ga)) (he : starEach (e :: es) X.env = (false, eval e X.env) :: starEach es X.env := by exact star_cons rfl) (hpl : (backTo pos (starEach es X.env)).any (·.1) = false := by exact star_any rfl) :
    PE X (.Call (.Name "str" p) (e :: es) [] pos) (rdE X.K (fAr strD ga)) := PE.imp (pe_callTy call_str_int hg hm (by decide +kernel) ha (he := he) (hpl := hpl)) (rd_ar g_str)
theorem q_const {d : D} (h : ConstR X.K X.mg x d) (hg : Gl X x := by rfl) (hd : (x == ("__debug__" : Str)) = false := by decide) : PE X (.Name x pos) (rdE X.K (fK d)) := by
  obtain ⟨u, v, hm, r, rd⟩ := h
  exact PE.imp (pe_glob hg hm r hd) (rd_const fun _ H => rd H)
theorem q_tuple (hg : Gl X "tuple") (hm : X.mg "tuple" = none) (ha : PA X (e :: es) (rdA X.K ga)) (he : starEach (e :: es) X.env = (false, eval e X.env) :: starEach es X.env := by exact star_cons rfl) (hpl : (backTo pos (starEach es X.env)).any (·.1) = false := by exact star_any rfl) :
    PE X (.Call (.Name "tuple" p) (e :: es) [] pos) (rdE X.K (fAr tupD ga)) := PE.imp (pe_callTy call_tuple_of hg hm (by decide +kernel) ha (he := he) (hpl := hpl)) (rd_ar g_tup)
theorem q_all (hc : X.calm = true) (hg : Gl X "all") (hm : X.mg "all" = none) (ha : PA X (e :: es) (rdA X.K ga)) (he : starEach (e :: es) X.env = (false, eval e X.env) :: starEach es X.env := by exact star_cons rfl) (hpl : (backTo pos (starEach es X.env)).any (·.1) = false := by exact star_any rfl) :
    PE X (.Call (.Name "all" p) (e :: es) [] pos) (rdE X.K (fAr (allD false) ga)) := PE.imp (pe_callB (call_allB hc) hg hm PyProof.Rows.boot_all ha (he := he) (hpl := hpl)) (rd_ar g_all)
theorem q_isi {T : String} {y : Str} (hT : Kinds X.K T) (hg : Gl X "isinstance") (hm : X.mg "isinstance" = none) (hgT : Gl X y) (hmT : X.mg y = none) (hvT : bootBuiltins y = some (.type T)) (ha : PE X e (rdE X.K fa)) (hn : y ≠ "__name__" := by decide) (hdb : (y == ("__debug__" : Str)) = false := by decide)
    (he : starEach (e :: [.Name y p2]) X.env = (false, eval e X.env) :: starEach [.Name y p2] X.env := by exact star_cons rfl) (hpl : (backTo pos (starEach [.Name y p2] X.env)).any (·.1) = false := by rfl) :
    PE X (.Call (.Name "isinstance" p) [e, .Name y p2] [] pos) (rdE X.K (fUn (isiD T) fa)) :=
  PE.imp (pe_callB (call_isi hT) hg hm (by decide +kernel) (pa_cons ha (pa_cons (pe_bltn (v := .ty T) hgT hmT hvT rfl hn hdb) pa_nil rfl) he) (he := he) (hpl := hpl)) rd_isi
theorem t_tru (ha : PE X a (rdE X.K fa)) (he : ∀ whole, isTrue a X.env whole = (do let v ← whole; standAt a.pos; holding [v] (truthy v)) := by intro _; rfl) : PT X a (rdT X.K (fTru fa)) := PT.imp (pt_truth ha he) rd_tru
theorem t_cmp {op : CmpOp} {r : R2} {g : R → R → Store → Option (R × Store)} (ho : OpR X (compareOp op) r) (hg : GOp X.K g r) (ha : PE X a (rdE X.K fa)) (hb : PE X b (rdE X.K fb)) (hm : behindInMarks op b = false) : PT X (.Compare a [op] [b] pos) (rdT X.K (fB (fOp g fa fb))) :=
  PT.imp (pt_cmpR ho ha hb hm) fun h => by
    obtain ⟨ρ, μ, m, d, μ', hl, hs, e, k⟩ := rd_Test h
    exact rd_op hg ⟨ρ, μ, m, d, μ', hl, hs, e, k⟩
theorem t_lt (ha : PE X a (rdE X.K fa)) (hb : PE X b (rdE X.K fb)) : PT X (.Compare a [.Lt] [b] pos) (rdT X.K (fB (fOp ltD fa fb))) := t_cmp op_lt g_lt ha hb (nomark _)
theorem t_le (ha : PE X a (rdE X.K fa)) (hb : PE X b (rdE X.K fb)) : PT X (.Compare a [.LtE] [b] pos) (rdT X.K (fB (fOp leD fa fb))) := t_cmp op_le g_le ha hb (nomark _)
theorem t_gt (ha : PE X a (rdE X.K fa)) (hb : PE X b (rdE X.K fb)) : PT X (.Compare a [.Gt] [b] pos) (rdT X.K (fB (fOp gtD fa fb))) := t_cmp op_gt g_gt ha hb (nomark _)
theorem t_ge (ha : PE X a (rdE X.K fa)) (hb : PE X b (rdE X.K fb)) : PT X (.Compare a [.GtE] [b] pos) (rdT X.K (fB (fOp geD fa fb))) := t_cmp op_ge g_ge ha hb (nomark _)
theorem t_eq (hu : X.A.units + 64 < cLine) (ha : PE X a (rdE X.K fa)) (hb : PE X b (rdE X.K fb)) : PT X (.Compare a [.Eq] [b] pos) (rdT X.K (fB (fOp (eqR false) fa fb))) := t_cmp (op_eqD hu) g_eq ha hb (nomark _)
theorem t_ne (hu : X.A.units + 64 < cLine) (ha : PE X a (rdE X.K fa)) (hb : PE X b (rdE X.K fb)) : PT X (.Compare a [.NotEq] [b] pos) (rdT X.K (fB (fOp (eqR true) fa fb))) := t_cmp (op_neD hu) g_eq ha hb (nomark _)
theorem t_is {op : CmpOp} {neg : Bool} {c : D} {cv : V} (hc : (c = .non ∧ cv = .non) ∨ ∃ b, c = .bl b ∧ cv = .bl b) (ho : OpR X (compareOp op) (rIsK neg cv)) (ha : PE X a (rdE X.K fa)) (hb : PE X b (tC cv)) (hm : behindInMarks op b = false) : PT X (.Compare a [op] [b] pos) (rdT X.K (fB (fUn (isK neg c) fa))) :=
  PT.imp (pt_cmpR ho ha hb hm) fun h => by
    obtain ⟨ρ, μ, m, d, μ', hl, hs, e, k⟩ := rd_Test h
    exact rd_is hc ⟨ρ, μ, m, d, μ', hl, hs, e, k⟩
theorem t_isN {j} (ha : PE X a (rdE X.K fa)) : PT X (.Compare a [.Is] [.Constant .none j p] pos) (rdT X.K (fB (fUn (isK false .non) fa))) := t_is (.inl ⟨rfl, rfl⟩) op_isNon ha pe_non (nomark _)
theorem t_notN {j} (ha : PE X a (rdE X.K fa)) : PT X (.Compare a [.IsNot] [.Constant .none j p] pos) (rdT X.K (fB (fUn (isK true .non) fa))) := t_is (.inl ⟨rfl, rfl⟩) op_isNotNon ha pe_non (nomark _)
variable {ta tb : FT} {rest : List Expr}
theorem t_not (ha : PT X a (rdT X.K ta)) : PT X (.UnaryOp .Not a pos) (rdT X.K (tNotF ta)) := PT.imp (pt_not ha) rd_tnot
theorem w_and (ha : PT X a (rdT X.K ta)) (hb : PW X (.BoolOp .And (b :: rest) pos) (rdT X.K tb)) : PW X (.BoolOp .And (a :: b :: rest) pos) (rdT X.K (tAndF ta tb)) := PW.imp (pw_and ha hb) rd_tand
theorem w_or (ha : PT X a (rdT X.K ta)) (hb : PW X (.BoolOp .Or (b :: rest) pos) (rdT X.K tb)) : PW X (.BoolOp .Or (a :: b :: rest) pos) (rdT X.K (tOrF ta tb)) := PW.imp (pw_or ha hb) rd_tor
theorem w_and1 (ha : PT X a (rdT X.K ta)) : PW X (.BoolOp .And [a] pos) (rdT X.K ta) := pw_and1 ha
theorem w_or1 (ha : PT X a (rdT X.K ta)) : PW X (.BoolOp .Or [a] pos) (rdT X.K ta) := pw_or1 ha
theorem t_w (h : PW X a (rdT X.K ta)) : PT X a (rdT X.K ta) := h.pt
theorem q_if {c : Expr} (hc : PT X c (rdT X.K ta)) (ha : PE X a (rdE X.K fa)) (hb : PE X b (rdE X.K fb)) : PE X (.IfExp c a b pos) (rdE X.K (fIf ta fa fb)) := PE.imp (pe_ifExp hc ha hb) rd_if
variable {st : Stmt} {sts aa bb : List Stmt} {sa sb : FS} {c tg iter : Expr}
theorem s_nil : PSs X [] (rdS X.K sNext) := PSs.imp pss_nil rd_next
theorem s_cons (h1 : PS X st (rdS X.K sa)) (h2 : PSs X sts (rdS X.K sb)) : PSs X (st :: sts) (rdS X.K (sSeq sa sb)) := PSs.imp (pss_cons h1 h2) rd_seq
theorem s_one (h1 : PS X st (rdS X.K sa)) : PSs X [st] (rdS X.K sa) := pss_one h1
theorem s_stuck : PS X st (rdS X.K sStuck) := fun pins s σ H D I h => by obtain ⟨ρ, μ, m, out, hl, hs, e, k⟩ := h; cases e
theorem s_expr (he : PE X e (rdE X.K fa)) (hs : swapsWith e none pos.line X.env = pure false := by rfl) : PS X (.Expr e pos) (rdS X.K (sDrop fa)) := PS.imp (ps_expr he hs) rd_drop
theorem s_ret (he : PE X e (rdE X.K fa)) : PS X (.Return (some e) pos) (rdS X.K (sRet fa)) := PS.imp (ps_ret he) rd_ret
theorem s_if (hc : PT X c (rdT X.K ta)) (ha : PSs X aa (rdS X.K sa)) (hb : PSs X bb (rdS X.K sb)) : PS X (.If c aa bb pos) (rdS X.K (sIf ta sa sb)) := PS.imp (ps_if hc ha hb) rd_ifS
theorem s_set (i : Nat) {pos' : Pos} (hN : X.N.Nodup) (he : PE X e (rdE X.K fa)) (hi : X.N[i]? = some x := by rfl) (hx : Loc X.env.scope x := by first | exact Or.inl rfl | exact Or.inr rfl) (hs : swapsWith e (some (.Name x pos')) pos.line X.env = pure false := by rfl) (hf : X.fn x = true ∨ X.env.scope.names.lookup x = some .local := by first | exact .inl rfl | exact .inr rfl) :
    PS X (.Assign [.Name x pos'] e pos) (rdS X.K (sSet i fa)) := PS.imp (ps_set hN hi hx he hs hf) rd_set
variable {g : FG} {gs : FGs} {fi : FI}
theorem g_nm (i : Nat) (hN : X.N.Nodup) (hi : X.N[i]? = some x := by rfl) (hx : Loc X.env.scope x := by first | exact Or.inl rfl | exact Or.inr rfl) (hf : X.fn x = true ∨ X.env.scope.names.lookup x = some .local := by first | exact .inl rfl | exact .inr rfl) : PG X (.Name x pos) (rdG X.K (gNm i)) := PG.imp (pg_name hN hi hx hf) rd_gNm
theorem i_seq (ha : PE X a (rdE X.K fa)) : PI X tg a (rdI X.K (fiSeq fa)) := PI.imp (pi_seq0 (pe_fz0 ha)) rd_iSeq
theorem i_r1 (hg : Gl X "range") (hm : X.mg "range" = none) (ha : PE X a (rdE X.K fa)) (hs : starEach [a] X.env = [(false, eval a X.env)] := by exact star_cons rfl) : PI X tg (.Call (.Name "range" p) [a] [] pos) (rdI X.K (fiR1 fa)) := PI.imp (pi_range1 hg hm (q_cons ha q_nil hs) hs) rd_iR1
theorem s_for (hc : X.calm = true) (hi : PI X tg iter (rdI X.K fi)) (hg : PG X tg (rdG X.K g)) (hb : PSs X aa (rdS X.K sa)) (hp : PassesOwn (model X.prog X.w) X.A X.env X.xe) (hs : ∀ x, foldedSetIterable iter X.env x = pure x := by intro _; rfl) : PS X (.For tg iter aa [] pos) (rdS X.K (sFor fi g sa)) := PS.imp (ps_for hp hc hi hg hb hs) rd_for
theorem PIfs.imp {ifs : List Expr} {t t' : TT} (h : PIfs X ifs t) (k : ∀ {σ H Q}, t' σ H Q → t σ H Q) : PIfs X ifs t' := fun pins s σ H Q I q => h pins s σ H Q I (k q)
theorem f_nil : PIfs X [] (rdT X.K cYes) := PIfs.imp pifs_nil rd_yes
theorem f_one (h : PT X c (rdT X.K ta)) : PIfs X [c] (rdT X.K ta) := pifs_one h
theorem q_comp {ifs : List Expr} {scope : Scope} (ix : List Nat) (own caps : List Str) (hc : X.calm = true) (n : CompNames X.env.scope scope own caps) (hi : PI X tg iter (rdI X.K fi))
    (hb : ∀ cl C s₂ H₂ fp, PG (blockCx X scope cl C s₂ H₂ fp (own ++ caps)) tg (rdG X.K g) ∧ PIfs (blockCx X scope cl C s₂ H₂ fp (own ++ caps)) ifs (rdT X.K ta) ∧ PE (blockCx X scope cl C s₂ H₂ fp (own ++ caps)) e (rdE X.K fa))
    (hix : ix.map (fun i => X.N[i]?) = caps.map some := by rfl)
    (hs : ∀ x, foldedSetIterable iter X.env x = pure x := by intro _; rfl) : PE X (.ListComp e [⟨tg, iter, ifs, 0⟩] scope pos) (rdE X.K (fComp ix own.length fi g ta fa)) := by
  refine PE.imp (pe_comp0 (ix := ix) hc n (by simpa using congrArg List.length hix) (fun j i y h1 h2 => ?_) hi hb hs) (rd_comp rfl)
  have := congrArg (fun l => l[j]?) hix
  simp only [List.getElem?_map, h1, h2, Option.map_some] at this
  exact Option.some.inj this
theorem s_comp (i : Nat) {py spos : Pos} {ifs : List Expr} {scope : Scope} (ix : List Nat) (own caps : List Str) (hc : X.calm = true) (n : CompNames X.env.scope scope own caps) (hN : X.N.Nodup) (hi : PI X tg iter (rdI X.K fi))
    (hb : ∀ cl C s₂ H₂ fp, PG (blockCx X scope cl C s₂ H₂ fp (own ++ caps)) tg (rdG X.K g) ∧ PIfs (blockCx X scope cl C s₂ H₂ fp (own ++ caps)) ifs (rdT X.K ta) ∧ PE (blockCx X scope cl C s₂ H₂ fp (own ++ caps)) e (rdE X.K fa))
    (hsw : swapsWith (.ListComp e [⟨tg, iter, ifs, 0⟩] scope pos) (some (.Name x py)) spos.line X.env = pure true := by rfl)
    (hy : X.N[i]? = some x := by rfl) (hyl : Loc X.env.scope x := by first | exact Or.inl rfl | exact Or.inr rfl)
    (hix : ix.map (fun i => X.N[i]?) = caps.map some := by rfl)
    (hs : ∀ x, foldedSetIterable iter X.env x = pure x := by intro _; rfl) (hf : X.fn x = true ∨ X.env.scope.names.lookup x = some .local := by first | exact .inl rfl | exact .inr rfl) :
    PS X (.Assign [.Name x py] (.ListComp e [⟨tg, iter, ifs, 0⟩] scope pos) spos) (rdS X.K (sSet i (fComp ix own.length fi g ta fa))) := by
  refine PS.imp (ps_comp0 (i := i) (ix := ix) hc n hN hy hyl (by simpa using congrArg List.length hix) (fun j i y h1 h2 => ?_) hi hb hsw hs hf) fun h => ?_
  · have := congrArg (fun l => l[j]?) hix
    simp only [List.getElem?_map, h1, h2, Option.map_some] at this
    exact Option.some.inj this
  · have h' := rd_set h
    obtain ⟨ρ, μ, m, d, μ', hl, hs, e, k⟩ := h'
    exact rd_comp rfl ⟨ρ, μ, m, d, μ', hl, hs, e, k⟩
end
end R
noncomputable def isLst (x : R) (μ : Store) : Bool := match x with | .v (.fl _) => true | .p n => (match μ[n]? with | some (.lst _) => true | some (.fz _) => true | _ => false) | _ => false
noncomputable def fMt (g : R → List R → Store → Option (R × Store)) (fa : FE) (ga : FA) : FE := fun ρ μ => (fa ρ μ).bind fun a => if isLst a.1 a.2 = true then (ga ρ a.2).bind fun b => g a.1 b.1 b.2 else none
theorem isLst_ok {K : PySem.W.Frag} {m : List Addr} {H : Hp} {μ : Store} {x : R} {v : V} (s : SRel K m H μ) (r : RelR K m H x v) (e : isLst x μ = true) : tyV K "list" v H := by
  have : ∃ xs, lstD x μ = some xs := by
    cases x with
    | v d => cases d <;> simp_all [isLst, lstD]
    | s _ _ => simp [isLst] at e
    | x _ => simp [isLst] at e
    | p n =>
      simp only [isLst] at e
      simp only [lstD]
      split at e
      · rename_i xs q; exact ⟨xs, by first | rfl | rw [q]⟩
      · rename_i xs q; exact ⟨xs, by first | rfl | rw [q]⟩
      · cases e
  obtain ⟨xs, e⟩ := this
  obtain ⟨a, vs, rfl, q, _⟩ := lst_ok s r e
  exact .inl ⟨rfl, vs, q⟩
theorem rd_mt {K : PySem.W.Frag} {σ : L2.St} {H : Hp} {Q : VK} {g r fa ga} (hg : GMt K g r) (h : rdE K (fMt g fa ga) σ H Q) : tBM K "list" r (rdE K fa) (rdA K ga) σ H Q := by
  obtain ⟨ρ, μ, m, d, μ', hl, hs, e, k⟩ := h
  obtain ⟨⟨x, μ1⟩, e1, e⟩ := Option.bind_eq_some_iff.mp e
  split at e
  · rename_i hx
    obtain ⟨⟨ys, μ2⟩, e2, e⟩ := Option.bind_eq_some_iff.mp e
    refine ⟨ρ, μ, m, x, μ1, hl, hs, e1, fun v H1 m1 x1 s1 r1 => ⟨isLst_ok s1 r1 hx, ?_⟩⟩
    refine ⟨ρ, μ1, m1, ys, μ2, hl.ext x1, s1, e2, fun vs H2 m2 x2 s2 r2 => ?_⟩
    exact hg m2 H2 μ2 x ys d μ' v vs Q s2 (r1.ext x2) r2 e fun w H3 m3 x3 s3 r3 => k w H3 m3 ((x1.trans x2).trans x3) s3 r3
  · cases e
structure DefAt (K : PySem.W.Frag) (mg : Str → Option Value) (x : Str) (st : Stmt) (ps : List Str) : Prop where
  ex : ∃ f fd, Fun K x x st f fd ∧ Binds K fd ps [] ∧ mg x = some (.ref f)
def Kept (P : Program) (w : World) (K : PySem.W.Frag) (mg : Str → Option Value) (base : Heap) (k : Nat) (x : Str) (ps : List Str) (mf : MF) : Prop :=
  ∃ f fd, FnOk P w K mg base CX0 k f fd ps (spP K ps.length mf) ∧ PySem.W.keepIn K (.ref f) = true ∧ Binds K fd ps [] ∧ mg x = some (.ref f)
namespace R
theorem okP {P : Program} {w : World} {K : PySem.W.Frag} {mg : Str → Option Value} {base : Heap} {x : Str} {st : Stmt} {N ps : List Str} {k : Nat} {b : FS} (d : DefAt K mg x st ps) (S : FnScope N ps (defScope st))
    (hbody : ∀ (f : Addr) (cdv : Value) (A : Around) (outer : List Env) (s : Shared) (H : Hp) (E : XK), Room k (A.deeper (envOfC x (defScope st) s.heap.objs.size f cdv)) → PSs (cxOf CX0 P w K mg base N x (defScope st) f cdv A outer s H E).nox (defBody st) (rdS K b)) :
    Kept P w K mg base (k + 1) x ps (runP N.length b) := by
  obtain ⟨f, fd, F, B, M⟩ := d.ex
  exact ⟨f, fd, Fun.okP F S (hbody f), F.kp, B, M⟩
theorem q_callK {X : Cx} {k : Nat} {x : Str} {ps : List Str} {mf : MF} {e : Expr} {es : List Expr} {ga : FA} {p pos : Pos} {n : Nat} (F : Kept X.prog X.w X.K X.mg X.base k x ps mf) (hr : Room k X.A) (ha : PA X (e :: es) (rdA X.K ga)) (hg : Gl X x := by rfl) (hn : ps.length = n := by rfl)
    (hdb : (x == ("__debug__" : Str)) = false := by decide) (he : starEach (e :: es) X.env = (false, eval e X.env) :: starEach es X.env := by exact star_cons rfl) (hpl : (backTo pos (starEach es X.env)).any (·.1) = false := by exact star_any rfl) :
    PE X (.Call (.Name x p) (e :: es) [] pos) (rdE X.K (fCall mf n ga)) := by
  subst hn
  obtain ⟨f, fd, F, kp, B, M⟩ := F
  exact q_call F hr hg M kp B ha hdb he hpl
theorem px_none {X : Cx} {E : XK} {sts : List Stmt} : PX X E sts xNo := fun pins s σ H I ⟨ρ, μ, m, c, μ', _, _, e, _⟩ => by cases e
theorem px_head {X : Cx} {E : XK} {st : Stmt} {sts : List Stmt} {x : XB} (h : PX1 X E st x) : PX X E (st :: sts) x := fun pins s σ H I d => wpAny_execs_cons (wpAny_mono (h pins s σ H I d) (fun _ _ z => z.elim) fun _ _ z => z)
theorem px_or {X : Cx} {E : XK} {sts : List Stmt} {x y : XB} (h : PX X E sts x) (h' : PX X E sts y) : PX X E sts (xOr x y) := fun pins s σ H I ⟨ρ, μ, m, c, μ', hl, hs, e, k⟩ => by
  unfold xOr at e
  split at e
  · rename_i r q
    cases e
    exact h pins s σ H I ⟨ρ, μ, m, c, μ', hl, hs, q, k⟩
  · exact h' pins s σ H I ⟨ρ, μ, m, c, μ', hl, hs, e, k⟩
theorem px_then {X : Cx} {E : XK} {st : Stmt} {sts : List Stmt} {x : XB} {a : FS} (h : PS X st (rdS X.K a)) (h' : PX X E sts x) : PX X E (st :: sts) (xThen a x) := fun pins s σ H I ⟨ρ, μ, m, c, μ', hl, hs, e, k⟩ => by
  obtain ⟨o, e1, e⟩ := Option.bind_eq_some_iff.mp e
  have hd : rdS X.K a { nx := fun σ' H' => xData X.K E x σ' H', rt := fun _ _ => False } σ H := by
    refine ⟨ρ, μ, m, o, hl, hs, e1, ?_⟩
    cases o with
    | nx ρ1 μ1 => exact fun σ1 H1 m1 x1 s1 l1 => ⟨ρ1, μ1, m1, c, μ', l1, s1, e, fun C H' m' q y z => k C H' m' q (x1.trans y) z⟩
    | bk ρ1 μ1 => cases e
    | ct ρ1 μ1 => cases e
    | rt d μ1 => cases e
  refine wpAny_execs_cons (thn (h pins s σ H _ I hd) fun f s1 q => ?_)
  cases f with
  | next => obtain ⟨σ', H', I', q⟩ := q; exact h' pins s1 σ' H' I' q
  | ret v => obtain ⟨_, _, _, _, _, q⟩ := q; exact q.elim
  | brk => obtain ⟨_, _, _, q⟩ := q; exact q.elim
  | cont => obtain ⟨_, _, _, q⟩ := q; exact q.elim
theorem px_if {X : Cx} {E : XK} {aa bb : List Stmt} {x y : XB} {t : FT} {c : Expr} {pos : Pos} (hc : PT X c (rdT X.K t)) (ha : PX X E aa x) (hb : PX X E bb y) : PX1 X E (.If c aa bb pos) (xIf t x y) := fun pins s σ H I ⟨ρ, μ, m, d, μ', hl, hs, e, k⟩ => by
  obtain ⟨⟨b, μ1⟩, e1, e⟩ := Option.bind_eq_some_iff.mp e
  refine wpAny_If (thn (hc pins s σ H (fun b' H' => b' = b ∧ ∃ m', Ext m H m' H' ∧ SRel X.K m' H' μ1) I ⟨ρ, μ, m, b, μ1, hl, hs, e1, fun H' m' x1 s1 => ⟨rfl, m', x1, s1⟩⟩) fun b' s1 ⟨H1, I1, hbb, m1, x1, s1'⟩ => ?_)
  subst hbb
  cases b' with
  | true => exact ha pins s1 σ H1 I1 ⟨ρ, μ1, m1, d, μ', hl.ext x1, s1', e, fun C H' m' q y z => k C H' m' q (x1.trans y) z⟩
  | false => exact hb pins s1 σ H1 I1 ⟨ρ, μ1, m1, d, μ', hl.ext x1, s1', e, fun C H' m' q y z => k C H' m' q (x1.trans y) z⟩
theorem px_of {X : Cx} {E : XK} {st : Stmt} {x : XB} (h : PXc X st x) (p : Passes (CX1 X.prog X.w X.base) X E) : PX1 X E st x := fun pins s σ H I d =>
  wpAny_mono (h pins s σ H E I d) (fun _ _ z => z) fun e s' ⟨H1, s1, I1, z⟩ => p pins σ H1 s1 e s' I1 z
theorem pxe_call {X : Cx} {k : Nat} {x : Str} {ps : List Str} {xf : List D → Option Str} {e : Expr} {es : List Expr} {ga : FA} {p pos : Pos} {n : Nat} (F : KeptX X.prog X.w X.K X.mg X.base k x ps xf) (hr : Room k X.A) (ha : ∀ xe, PA (X.wish xe) (e :: es) (rdA X.K ga)) (hg : Gl X x := by rfl) (hn : ps.length = n := by rfl)
    (hdb : (x == ("__debug__" : Str)) = false := by decide) (he : starEach (e :: es) X.env = (false, eval e X.env) :: starEach es X.env := by exact star_cons rfl) (hpl : (backTo pos (starEach es X.env)).any (·.1) = false := by exact star_any rfl) :
    PXe X (.Call (.Name x p) (e :: es) [] pos) (xCall xf n ga) := by
  subst hn
  obtain ⟨f, fd, F, kp, B, M⟩ := F
  intro pins s σ H E I ⟨ρ, μ, m, c, μ', hl, hs, ee, k⟩
  obtain ⟨⟨xs, μ1⟩, e1, ee⟩ := Option.bind_eq_some_iff.mp ee
  obtain ⟨ds, e2, ee⟩ := Option.bind_eq_some_iff.mp ee
  split at ee
  · rename_i hn
    obtain ⟨c', e3, ee⟩ := Option.bind_eq_some_iff.mp ee
    cases ee
    refine wpAny_Call_Name_kw (ld_glob I hg M ?_ hdb)
    have hd : rdA X.K ga σ H (fun vs H1 => ∃ m1, Ext m H m1 H1 ∧ SRel X.K m1 H1 μ1 ∧ RelDs X.K H1 ds vs) := ⟨ρ, μ, m, xs, μ1, hl, hs, e1, fun vs H1 m1 x1 s1 r1 => ⟨m1, x1, s1, vals_rel e2 r1⟩⟩
    refine PySem.W.callWith_K (h₀ := X.base) I.ok.mod.kin kp (thn (ha (Cau X pins σ E) pos pins s σ H _ (I.wish _) hd) fun us s1 ⟨vs, H1, I1, r, m1, x1, s1', r1⟩ => ⟨I1.kIn, ?_⟩) he hpl
    have I2 : Inv X pins σ H1 s1 := I1.unwish
    have hsp : spE X.K ps.length xf vs H1 (fun _ _ => False) E := ⟨ds, c, hn, r1, e3, fun C H' q z => k C H' m1 q (x1.trans z.ext) (s1'.same z)⟩
    have hlen : us.length = ps.length := by rw [← r.length]; exact F.len _ _ _ _ hsp
    refine wpAny_call (codeAny_mono (F.run X.A X.stack s1 H1 ⟨us, []⟩ us vs (fun _ _ => False) E hr I2.env0 (by simpa using B s1 us I2.kIn (by simpa using hlen)) r hsp) fun r s' hq => ?_)
    cases r with
    | error e => exact ⟨H1, s1, I2, hq⟩
    | ok fl =>
      cases fl with
      | ret u => obtain ⟨_, _, _, _, _, _, _, q⟩ := hq; exact q.elim
      | next => exact False.elim hq
      | brk => exact False.elim hq
      | cont => exact False.elim hq
  · cases ee
theorem pxc_expr {X : Cx} {e : Expr} {pos : Pos} {x : XB} (he : PXe X e x) (hs : swapsWith e none pos.line X.env = pure false := by rfl) : PXc X (.Expr e pos) x := fun pins s σ H E I d =>
  wpAny_Expr_any (wpAny_mono (he pins s σ H E I d) (fun _ _ z => z.elim) fun _ _ z => z) I.quiet hs
theorem pxc_ret {X : Cx} {e : Expr} {pos : Pos} {x : XB} (he : PXe X e x) : PXc X (.Return (some e) pos) x := fun pins s σ H E I d =>
  wpAny_Return_some (wpAny_mono (he pins s σ H E I d) (fun _ _ z => z.elim) fun _ _ z => z)
theorem pxc_set {X : Cx} {e : Expr} {pos : Pos} {x : XB} {y : Str} {pos' : Pos} (he : PXe X e x) (hs : swapsWith e (some (.Name y pos')) pos.line X.env = pure false := by rfl) : PXc X (.Assign [.Name y pos'] e pos) x := fun pins s σ H E I d =>
  wpAny_Assign_Name (wpAny_mono (he pins s σ H E I d) (fun _ _ z => z.elim) fun _ _ z => z) hs
theorem okX {P : Program} {w : World} {K : PySem.W.Frag} {mg : Str → Option Value} {base : Heap} {x : Str} {st : Stmt} {N ps : List Str} {k : Nat} {b : XB} {f : Addr} {fd : FuncData} (F : Fun K x x st f fd) (B : Binds K fd ps []) (M : mg x = some (.ref f)) (S : FnScope N ps (defScope st))
    (hbody : ∀ (cdv : Value) (A : Around) (outer : List Env) (s : Shared) (H : Hp) (E : XK), Room k (A.deeper (envOfC x (defScope st) s.heap.objs.size f cdv)) → PX (cxOf (CX1 P w base) P w K mg base N x (defScope st) f cdv A outer s H E) E (defBody st) b) :
    KeptX P w K mg base (k + 1) x ps (runX N.length b) := by
  refine ⟨f, fd, ?_, F.kp, B, M⟩
  obtain ⟨oc, od, kV, doc, pm, an, cdv, ct, osl, rfl, lk, hcd⟩ := F.ex
  refine fn_of lk hcd S (fun vs H Q E ⟨ds, c, hn, r, _⟩ => by rw [← r.length]; exact hn) fun A outer s H vs Q E hr ⟨ds, c, hn, r, e, k⟩ => ?_
  obtain ⟨⟨c', μ'⟩, e1, e⟩ := Option.bind_eq_some_iff.mp e
  cases e
  refine ⟨fun _ σ H => xData K E b σ H, fun pins s' σ H' D I d => wpAny_mono (hbody cdv A outer s H E hr pins s' σ H' I d) (fun _ _ z => z.elim) fun _ _ z => z, ?_⟩
  exact ⟨_, [], [], _, μ', start_rel r, .nil, e1, fun C H' m' q x _ => k C H' q x.sam⟩
theorem q_isx {X : Cx} {tbl : Str → Option Bool} {v : V} {u : Value} {e c : Expr} {fa : FE} {p pos : Pos} (hf : X.mg "isinstance" = none) (hc : PE X c (tC v)) (hv : RelV v u) (hu : ∀ u', RelV v u' → u' = u) (hO : ∀ c C b, tbl c = some b → clsAt X.K c C → ClsX X.K C ∧ PySem.W.kitOne X.K (.ref C) u = some b) (ha : PE X e (rdE X.K fa))
    (hg : Gl X "isinstance" := by rfl) (hs1 : starEach [e, c] X.env = (false, eval e X.env) :: starEach [c] X.env := by exact star_cons rfl) (hs2 : starEach [c] X.env = (false, eval c X.env) :: starEach [] X.env := by exact star_cons rfl) (hpl : (backTo pos (starEach [c] X.env)).any (·.1) = false := by exact star_any rfl) :
    PE X (.Call (.Name "isinstance" p) [e, c] [] pos) (rdE X.K (fUn (isiX tbl) fa)) :=
  PE.imp (pe_callB (call_isx hv hu hO) hg hf (by decide +kernel) (pa_cons ha (pa_cons hc pa_nil hs2) hs1) (by decide) (by decide) hs1 hpl) rd_isx
theorem q_isxt {X : Cx} {tbl : Str → Option Bool} {vs : List V} {us' : List Value} {e : Expr} {cs : List Expr} {x1 : Nat} {fa : FE} {p p2 pos : Pos} (hf : X.mg "isinstance" = none) (hc : PA X cs (tCs vs)) (hz : vs.length ≤ sizeLine) (hu : ∀ us, Vals vs us → us = us') (hO : ∀ c C b, tbl c = some b → clsAt X.K c C → ClsX X.K C ∧ PySem.W.kitAny X.K (.ref C) us' = some b) (ha : PE X e (rdE X.K fa))
    (hg : Gl X "isinstance" := by rfl) (hs1 : starEach [e, .Tuple cs x1 p2] X.env = (false, eval e X.env) :: starEach [.Tuple cs x1 p2] X.env := by exact star_cons rfl) (hs2 : starEach [.Tuple cs x1 p2] X.env = (false, eval (.Tuple cs x1 p2) X.env) :: starEach [] X.env := by exact star_cons rfl) (hpl : (backTo pos (starEach [.Tuple cs x1 p2] X.env)).any (·.1) = false := by exact star_any rfl) :
    PE X (.Call (.Name "isinstance" p) [e, .Tuple cs x1 p2] [] pos) (rdE X.K (fUn (isiX tbl) fa)) :=
  PE.imp (pe_callB (call_isxt hu hO) hg hf (by decide +kernel) (pa_cons ha (pa_cons (pe_tup hc) pa_nil hs2) hs1) (by decide) (by decide) hs1 hpl) (rd_isxt hz)
theorem q_glb {X : Cx} {x : Str} {v : V} {u : Value} {pos : Pos} (hm : X.mg x = some u) (r : RelV v u) (hg : Gl X x := by rfl) (hd : (x == ("__debug__" : Str)) = false := by decide) : PE X (.Name x pos) (tC v) := pe_glob hg hm r hd
theorem q_blt {X : Cx} {x : Str} {v : V} {u : Value} {pos : Pos} (hm : X.mg x = none) (hv : bootBuiltins x = some u) (r : RelV v u) (hg : Gl X x := by rfl) (hn : x ≠ "__name__" := by decide) (hd : (x == ("__debug__" : Str)) = false := by decide) : PE X (.Name x pos) (tC v) := pe_bltn hg hm hv r hn hd
theorem q_cs0 {X : Cx} : PA X [] (tCs []) := pa_nil
theorem q_cs1 {X : Cx} {e : Expr} {es : List Expr} {v : V} {vs : List V} (h : PE X e (tC v)) (h' : PA X es (tCs vs)) (hs : starEach (e :: es) X.env = (false, eval e X.env) :: starEach es X.env := by exact star_cons rfl) : PA X (e :: es) (tCs (v :: vs)) := pa_cons h h' hs
theorem s_try {X : Cx} {st : Stmt} {cx n : Str} {CH : Addr} {np hpos pos : Pos} {b₀ : Stmt} {suite : List Stmt} {xb : XB} {nb hb : FS} {i : Nat} {cs : List Str} (hN : X.N.Nodup) (hm : X.mg cx = some (.ref CH)) (OH : OwnX X.K CH) (hO : ∀ c C, cs.contains c = true → clsAt X.K c C → OwnX X.K C ∧ mroHas X.K C CH = true)
    (hn : PS X.nox st (rdS X.K nb)) (hx : PXc X st xb) (hs : ∀ ea, PSs (inh X ea) (b₀ :: suite) (rdS X.K hb)) (hst : X.stack = X.env :: X.outer := by rfl) (hfr : X.env.frame = some X.env.locals := by rfl) (hex : X.ex = [] := by rfl) (hg : Gl X cx := by rfl)
    (hi : X.N[i]? = some n := by rfl) (hl : X.env.scope.names.lookup n = some .local := by rfl) (hd : (cx == ("__debug__" : Str)) = false := by decide) :
    PS X (.Try [st] [.ExceptHandler (some (.Name cx np)) (some n) (b₀ :: suite) hpos] [] [] pos) (rdS X.K (sTry cs xb nb i hb)) := s_try0 hst hfr hex hn hx hg hm OH hO hN hi hl hs hd
theorem px_raiseK {X : Cx} {E : XK} {c : Str} {C : Addr} {a : Str} {j : Nat} {np p1 cpos pos : Pos} (hm : X.mg c = some (.ref C)) (hk : clsAt X.K c C) (O : OwnX X.K C)
    (hX : ∀ {pins σ H s h' e args}, Inv X pins σ H s → Heap.MadeExcOf s.heap h' e (.ref C) args → E (.ref C) none H → X.xe (.ref e) { s with heap := h' }) (hc : X.calm = true := by rfl) (hg : Gl X c := by rfl) (hd : (c == ("__debug__" : Str)) = false := by decide)
    (he : starEach [.Constant (.str a) j p1] X.env = (false, eval (.Constant (.str a) j p1) X.env) :: starEach [] X.env := by exact star_cons rfl) : PX1 X E (.Raise (some (.Call (.Name c np) [.Constant (.str a) j p1] [] cpos)) none pos) (xRaise c fun _ => true) :=
  px_raise0 (ta := tC (.str a)) hc hm hk O hg pe_str (fun _ _ _ => ⟨rfl, rfl⟩) hX hd he
theorem px_raiseF {X : Cx} {E : XK} {c : Str} {C : Addr} {a x : Str} {i j : Nat} {np p1 p2 p3 p4 cpos pos : Pos} (hm : X.mg c = some (.ref C)) (hk : clsAt X.K c C) (O : OwnX X.K C)
    (hX : ∀ {pins σ H s h' e args}, Inv X pins σ H s → Heap.MadeExcOf s.heap h' e (.ref C) args → E (.ref C) none H → X.xe (.ref e) { s with heap := h' }) (hx : PE X (.Name x p2) (tVar i)) (hc : X.calm = true := by rfl) (hg : Gl X c := by rfl) (hd : (c == ("__debug__" : Str)) = false := by decide)
    (he : starEach [.JoinedStr [.Constant (.str a) j p1, .FormattedValue (.Name x p2) 114 none p3] p4] X.env = (false, eval (.JoinedStr [.Constant (.str a) j p1, .FormattedValue (.Name x p2) 114 none p3] p4) X.env) :: starEach [] X.env := by exact star_cons rfl) :
    PX1 X E (.Raise (some (.Call (.Name c np) [.JoinedStr [.Constant (.str a) j p1, .FormattedValue (.Name x p2) 114 none p3] p4] [] cpos)) none pos) (xRaise c (okFs a i)) :=
  px_raise0 (ta := tFs a i) hc hm hk O hg (pe_fs hx) okFs_ok hX hd he
theorem j_nil {X : Cx} : PJs X [] (fun _ => true) := .nil
theorem j_cons {X : Cx} {e : Expr} {es : List Expr} {p q : Lo → Bool} (h1 : PJ X e p) (h2 : PJs X es q) : PJs X (e :: es) (fun ρ => p ρ && q ρ) := .cons h1 h2
theorem j_str {X : Cx} {a : Str} {j : Nat} {p1 : Pos} (h : a.length ≤ 1048576 := by decide) : PJ X (.Constant (.str a) j p1) (fun _ => true) := pj_str h
theorem j_int {X : Cx} {x : Str} {i : Nat} {p2 p3 : Pos} (hx : PE X (.Name x p2) (tVar i)) : PJ X (.FormattedValue (.Name x p2) (-1) none p3) (okIn i) := pj_int hx
theorem px_raiseJ {X : Cx} {E : XK} {c : Str} {C : Addr} {v₁ v₂ : Expr} {rest : List Expr} {ok : Lo → Bool} {np p4 cpos pos : Pos} (hm : X.mg c = some (.ref C)) (hk : clsAt X.K c C) (O : OwnX X.K C)
    (hX : ∀ {pins σ H s h' e args}, Inv X pins σ H s → Heap.MadeExcOf s.heap h' e (.ref C) args → E (.ref C) none H → X.xe (.ref e) { s with heap := h' }) (h : PJs X (v₁ :: v₂ :: rest) ok) (hn : (v₁ :: v₂ :: rest).length ≤ 14 := by decide) (hc : X.calm = true := by rfl) (hg : Gl X c := by rfl) (hd : (c == ("__debug__" : Str)) = false := by decide)
    (he : starEach [.JoinedStr (v₁ :: v₂ :: rest) p4] X.env = (false, eval (.JoinedStr (v₁ :: v₂ :: rest) p4) X.env) :: starEach [] X.env := by exact star_cons rfl) :
    PX1 X E (.Raise (some (.Call (.Name c np) [.JoinedStr (v₁ :: v₂ :: rest) p4] [] cpos)) none pos) (xRaise c ok) :=
  px_raise0 (ta := tJ X.K ok) hc hm hk O hg (pe_joined h hn) tJ_ok hX hd he
theorem qx_if {X : Cx} {c a b : Expr} {pos : Pos} {t : FT} {x y : XB} (hc : ∀ xe, PT (X.wish xe) c (rdT X.K t)) (ha : PXe X a x) (hb : PXe X b y) : PXe X (.IfExp c a b pos) (xIf t x y) := pxe_if hc ha hb
theorem qx_no {X : Cx} {e : Expr} : PXe X e xNo := pxe_no
theorem xf_comp {X : Cx} {elt tg iter : Expr} {ifs : List Expr} {scope : Scope} {pos : Pos} {fi : FI} {g : FG} {ta : FT} {fa : FE} {xb : XB} {L : Addr} {outer : List Env} (ix : List Nat) (own caps : List Str) (hst : X.stack = X.env :: outer) (hL : X.env.frame = some L) (hc : X.calm = true) (n : CompNames X.env.scope scope own caps) (hi : ∀ xe, PI (X.wish xe) tg iter (rdI X.K fi))
    (hb : ∀ cl C s₂ H₂ fp, PG (blockCx X scope cl C s₂ H₂ fp (own ++ caps)) tg (rdG X.K g) ∧ PIfs (blockCx X scope cl C s₂ H₂ fp (own ++ caps)) ifs (rdT X.K ta) ∧ PE (blockCx X scope cl C s₂ H₂ fp (own ++ caps)) elt (rdE X.K fa) ∧ PXe (blockCx X scope cl C s₂ H₂ fp (own ++ caps)) elt xb)
    (hix : ix.map (fun i => X.N[i]?) = caps.map some := by rfl)
    (hs : ∀ x, foldedSetIterable iter X.env x = pure x := by intro _; rfl) : PXf X (.ListComp elt [⟨tg, iter, ifs, 0⟩] scope pos) (xComp ix own.length fi g ta fa xb) := by
  refine pxf_comp0 (ix := ix) hst hL hc n (by simpa using congrArg List.length hix) (fun j i y h1 h2 => ?_) hi hb (rd_compX rfl) hs
  have := congrArg (fun l => l[j]?) hix
  simp only [List.getElem?_map, h1, h2, Option.map_some] at this
  exact Option.some.inj this
theorem xf_callTy {X : Cx} {x : Str} {T : String} {e : Expr} {p pos : Pos} {xb : XB} (hg : Gl X x) (hm : X.mg x = none) (hv : bootBuiltins x = some (.type T)) (h : PXf X e xb) (hn : x ≠ "__name__" := by decide) (hdb : (x == ("__debug__" : Str)) = false := by decide)
    (he : starEach [e] X.env = (false, eval e X.env) :: starEach [] X.env := by exact star_cons rfl) (hpl : (backTo pos (starEach [] X.env)).any (·.1) = false := by exact star_any rfl) : PXf X (.Call (.Name x p) [e] [] pos) xb := pxf_callTy h hg hm hv hn hdb he hpl
theorem xf_set {X : Cx} {E : XK} {e : Expr} {pos : Pos} {x : XB} {y : Str} {pos' : Pos} (he : PXf X e x) (p : PassesF X E) (hs : swapsWith e (some (.Name y pos')) pos.line X.env = pure false := by rfl) : PX1 X E (.Assign [.Name y pos'] e pos) x := px_setF he p hs
theorem q_pv {X : Cx} (i : Nat) {x : Str} {pos : Pos} (hN : X.N[i]? = some x := by rfl) (hv : Vis X.env.scope x := by first | exact Or.inl rfl | exact Or.inr (Or.inl rfl) | exact Or.inr (Or.inr rfl)) (hd : (x == ("__debug__" : Str)) = false := by decide)
    (hcd : (x == ("__classdict__" : Str)) = false := by decide) : PE X (.Name x pos) (tVar i) := pe_var hN hv hd hcd
theorem q_slS {X : Cx} {a : Expr} {fa : FE} {p2 pos : Pos} {lo hi : Option Expr} {fl fh : FO} (ha : PE X a (rdE X.K fa)) (hl : PO X lo (rdO X.K fl)) (hh : PO X hi (rdO X.K fh)) : PE X (.Subscript a (.Slice lo hi none p2) pos) (rdE X.K (fSlS fa fl fh)) := PE.imp (pe_slice sl_str ha hl hh) rd_slS
theorem q_ixS {X : Cx} {a b : Expr} {fa fb : FE} {pos : Pos} (ha : PE X a (rdE X.K fa)) (hb : PE X b (rdE X.K fb)) (hs : PlainIxT b := by intro _ _; rfl) : PE X (.Subscript a b pos) (rdE X.K (fOp ixS fa fb)) := PE.imp (pe_item_str ha hb hs) (rd_op g_ixS)
theorem q_lenS {X : Cx} {e : Expr} {es : List Expr} {ga : FA} {p pos : Pos} (hg : Gl X "len") (hm : X.mg "len" = none) (ha : PA X (e :: es) (rdA X.K ga)) (he : starEach (e :: es) X.env = (false, eval e X.env) :: starEach es X.env := by exact star_cons rfl) (hpl : (backTo pos (starEach es X.env)).any (·.1) = false := by exact star_any rfl) :
    PE X (.Call (.Name "len" p) (e :: es) [] pos) (rdE X.K (fAr lenS ga)) := PE.imp (pe_callB call_len_str hg hm PySem.boot_len ha (he := he) (hpl := hpl)) (rd_ar g_lenS)
theorem q_intS {X : Cx} {e : Expr} {es : List Expr} {ga : FA} {p pos : Pos} (hg : Gl X "int") (hm : X.mg "int" = none) (ha : PA X (e :: es) (rdA X.K ga)) (he : starEach (e :: es) X.env = (false, eval e X.env) :: starEach es X.env := by exact star_cons rfl) (hpl : (backTo pos (starEach es X.env)).any (·.1) = false := by exact star_any rfl) :
    PE X (.Call (.Name "int" p) (e :: es) [] pos) (rdE X.K (fAr intS ga)) := PE.imp (pe_callTy call_intS hg hm (by decide +kernel) ha (he := he) (hpl := hpl)) (rd_ar g_intS)
theorem q_inS {X : Cx} {a b : Expr} {fa fb : FE} {pos : Pos} (ha : PE X a (rdE X.K fa)) (hb : PE X b (rdE X.K fb)) (hm : behindInMarks .In b = false := by rfl) : PE X (.Compare a [.In] [b] pos) (rdE X.K (fOp (inS false) fa fb)) := PE.imp (pe_cmpR op_in_str ha hb hm) (rd_op g_inS)
theorem t_ninS {X : Cx} {a b : Expr} {fa fb : FE} {pos : Pos} (ha : PE X a (rdE X.K fa)) (hb : PE X b (rdE X.K fb)) (hm : behindInMarks .NotIn b = false := by rfl) : PT X (.Compare a [.NotIn] [b] pos) (rdT X.K (fB (fOp (inS true) fa fb))) := t_cmp op_notin_str g_ninS ha hb hm
theorem q_ch {X : Cx} {a b c : Expr} {fa fb fc : FE} {pos : Pos} (ha : PE X a (rdE X.K fa)) (hb : PE X b (rdE X.K fb)) (hc : PE X c (rdE X.K fc)) (hm : lastMarks [.LtE, .LtE] [b, c] = false := by with_unfolding_all rfl) : PE X (.Compare a [.LtE, .LtE] [b, c] pos) (rdE X.K (fCh leD leD fa fb fc)) := PE.imp (pe_chain op_le op_le ha hb hc hm) (rd_ch g_le g_le)
theorem i_str {X : Cx} {tg a : Expr} {fa : FE} (ha : PE X a (rdE X.K fa)) : PI X tg a (rdI X.K (fiStr fa)) := PI.imp (pi_str ha) rd_iStr
theorem q_sw {X : Cx} {e o : Expr} {fa fb : FE} {apos cpos : Pos} (ho : PE X o (rdE X.K fa)) (hb : PE X e (rdE X.K fb)) (hbase : attributeBase o "startswith" X.env (eval o X.env) = eval o X.env := by rfl)
    (hfew : ((backTo cpos (starEach [e] X.env)).all (fun x => !x.1) && (backToKw cpos (keywordEach [] X.env)).all (fun x => x.1.isSome)
      && decide ([e].length + ([] : List Keyword).length + (if ([] : List Keyword).isEmpty then 0 else 1) < 30)) = true := by rfl)
    (hline : (apos.endLine == cpos.line) = true := by rfl) (hs : starEach [e] X.env = (false, eval e X.env) :: starEach [] X.env := by exact star_cons rfl) (hplain : (backTo cpos (starEach [] X.env)).any (·.1) = false := by exact star_any rfl) :
    PE X (.Call (.Attribute o "startswith" apos) [e] [] cpos) (rdE X.K (fSw fa fb)) :=
  PE.imp (pe_bm PySem.F.plainAttrs_str PySem.F.slot_str_startswith PySem.F.type_str_startswith mt_sw ho (pa_cons hb pa_nil hs) hbase hfew hline hs hplain) rd_sw
theorem q_join {X : Cx} {e o : Expr} {fa fb : FE} {apos cpos : Pos} (ho : PE X o (rdE X.K fa)) (hb : PE X e (rdE X.K fb)) (hbase : attributeBase o "join" X.env (eval o X.env) = eval o X.env := by rfl)
    (hfew : ((backTo cpos (starEach [e] X.env)).all (fun x => !x.1) && (backToKw cpos (keywordEach [] X.env)).all (fun x => x.1.isSome)
      && decide ([e].length + ([] : List Keyword).length + (if ([] : List Keyword).isEmpty then 0 else 1) < 30)) = true := by rfl)
    (hline : (apos.endLine == cpos.line) = true := by rfl) (hs : starEach [e] X.env = (false, eval e X.env) :: starEach [] X.env := by exact star_cons rfl) (hplain : (backTo cpos (starEach [] X.env)).any (·.1) = false := by exact star_any rfl) :
    PE X (.Call (.Attribute o "join" apos) [e] [] cpos) (rdE X.K (fOp joinD fa fb)) :=
  PE.imp (pe_bm PySem.F.plainAttrs_str PySem.F.slot_str_join PySem.F.type_str_join mt_join ho (pa_cons hb pa_nil hs) hbase hfew hline hs hplain) (rd_bmS g_join)
theorem q_split {X : Cx} {e o : Expr} {fa fb : FE} {apos cpos : Pos} (ho : PE X o (rdE X.K fa)) (hb : PE X e (rdE X.K fb)) (hbase : attributeBase o "split" X.env (eval o X.env) = eval o X.env := by rfl)
    (hfew : ((backTo cpos (starEach [e] X.env)).all (fun x => !x.1) && (backToKw cpos (keywordEach [] X.env)).all (fun x => x.1.isSome)
      && decide ([e].length + ([] : List Keyword).length + (if ([] : List Keyword).isEmpty then 0 else 1) < 30)) = true := by rfl)
    (hline : (apos.endLine == cpos.line) = true := by rfl) (hs : starEach [e] X.env = (false, eval e X.env) :: starEach [] X.env := by exact star_cons rfl) (hplain : (backTo cpos (starEach [] X.env)).any (·.1) = false := by exact star_any rfl) :
    PE X (.Call (.Attribute o "split" apos) [e] [] cpos) (rdE X.K (fOp splD fa fb)) :=
  PE.imp (pe_bm PySem.F.plainAttrs_str PySem.F.slot_str_split PySem.F.type_str_split mt_split ho (pa_cons hb pa_nil hs) hbase hfew hline hs hplain) (rd_bmS g_spl)
theorem t_ninW {X : Cx} {a b : Expr} {fa fb : FE} {pos : Pos} (ha : PE X a (rdE X.K fa)) (hb : PE X b (rdE X.K fb)) (hm : behindInMarks .NotIn b = false := by rfl) : PT X (.Compare a [.NotIn] [b] pos) (rdT X.K (fB (fOp (inW true) fa fb))) := t_cmp op_notIn_seq g_inW ha hb hm
theorem t_inN {X : Cx} {a b : Expr} {fa fb : FE} {pos : Pos} (ha : PE X a (rdE X.K fa)) (hb : PE X b (rdE X.K fb)) (hm : behindInMarks .In b = false := by rfl) : PT X (.Compare a [.In] [b] pos) (rdT X.K (fB (fOp (inN false) fa fb))) := t_cmp op_in_seq g_inN ha hb hm
end R
theorem kinds_of {K : PySem.W.Frag} {T : String} (h1 : PySem.W.kitOne K (.type "NoneType") (.type T) = some ("NoneType" == T || ("NoneType" == "bool" && T == "int")))
    (h2 : PySem.W.kitOne K (.type "bool") (.type T) = some ("bool" == T || ("bool" == "bool" && T == "int"))) (h3 : PySem.W.kitOne K (.type "int") (.type T) = some ("int" == T || ("int" == "bool" && T == "int")))
    (h4 : PySem.W.kitOne K (.type "str") (.type T) = some ("str" == T || ("str" == "bool" && T == "int"))) (h5 : PySem.W.kitOne K (.type "tuple") (.type T) = some ("tuple" == T || ("tuple" == "bool" && T == "int")))
    (h6 : PySem.W.kitOne K (.type "list") (.type T) = some ("list" == T || ("list" == "bool" && T == "int"))) (h7 : PySem.W.kitOne K (.type "dict") (.type T) = some ("dict" == T || ("dict" == "bool" && T == "int"))) : Kinds K T := fun t ht => by
  simp only [List.mem_cons, List.not_mem_nil, or_false] at ht
  rcases ht with rfl | rfl | rfl | rfl | rfl | rfl | rfl <;> assumption
theorem kinds_int {K : PySem.W.Frag} : Kinds K "int" := kinds_of rfl rfl rfl rfl rfl rfl rfl
theorem kinds_bool {K : PySem.W.Frag} : Kinds K "bool" := kinds_of rfl rfl rfl rfl rfl rfl rfl
theorem kinds_str {K : PySem.W.Frag} : Kinds K "str" := kinds_of rfl rfl rfl rfl rfl rfl rfl
theorem kinds_tuple {K : PySem.W.Frag} : Kinds K "tuple" := kinds_of rfl rfl rfl rfl rfl rfl rfl
theorem boot_int' : bootBuiltins "int" = some (.type "int") := by decide +kernel
theorem boot_bool' : bootBuiltins "bool" = some (.type "bool") := by decide +kernel
theorem boot_str' : bootBuiltins "str" = some (.type "str") := by decide +kernel
theorem boot_tuple' : bootBuiltins "tuple" = some (.type "tuple") := by decide +kernel
theorem law_sp {K : PySem.W.Frag} {H : Hp} {a : Addr} {ns : List Int} {mf : MF} (hO : Only H) (hS : SqL K H a (ns.map V.int)) (h : mf [.fl (ns.map .int)] = some (.bl true)) : spP K 1 mf [.ref a] H (fun v _ => v = .bl true) fun _ _ _ => False := by
  refine ⟨_, _, rfl, ?_, h, fun v H' _ r => by simpa only [RelD] using r⟩
  have rInts : ∀ {ns : List Int}, RelDs K H (ns.map .int) (ns.map V.int) := fun {ns} => by
    induction ns with
    | nil => simp only [List.map_nil, RelDs]
    | cons n ns ih => simp only [List.map_cons, RelDs]; exact ⟨_, _, rfl, by simp only [RelD], ih⟩
  simp only [RelDs]
  refine ⟨_, _, rfl, ?_, rfl⟩
  simp only [RelD]
  refine ⟨a, _, rfl, ?_, rInts⟩
  rcases hS with (hS | ⟨o, hS⟩) | hS
  · rcases hO a with z | ⟨o, xs, z⟩ <;> rw [hS] at z <;> cases z
  · exact .inl ⟨o, hS⟩
  · exact .inr (.inr hS)
namespace R
section
variable {X : Cx} {e o : Expr} {es : List Expr} {fa : FE} {ga : FA} {apos cpos : Pos}
theorem q_app (ho : PE X o (rdE X.K fa)) (ha : PA X (e :: es) (rdA X.K ga)) (hbase : attributeBase o "append" X.env (eval o X.env) = eval o X.env := by rfl)
    (hfew : ((backTo cpos (starEach (e :: es) X.env)).all (fun x => !x.1) && (backToKw cpos (keywordEach [] X.env)).all (fun x => x.1.isSome)
      && decide ((e :: es).length + ([] : List Keyword).length + (if ([] : List Keyword).isEmpty then 0 else 1) < 30)) = true := by rfl)
    (hline : (apos.endLine == cpos.line) = true := by rfl) (hs : starEach (e :: es) X.env = (false, eval e X.env) :: starEach es X.env := by exact star_cons rfl) (hplain : (backTo cpos (starEach es X.env)).any (·.1) = false := by exact star_any rfl) :
    PE X (.Call (.Attribute o "append" apos) (e :: es) [] cpos) (rdE X.K (fMt appD fa ga)) :=
  PE.imp (pe_bm PySem.F.plainAttrs_list PySem.F.slot_list_append PySem.F.type_list_append mt_append ho ha hbase hfew hline hs hplain) (rd_mt g_app)
end
end R
end HW
namespace HW
open PySem PySem.Spec PyProof.Rows L2
@[irreducible] def ZE (X : Cx) (e : Expr) (t : TE) : Prop := L2.PE X e t
@[irreducible] def ZT (X : Cx) (e : Expr) (t : TT) : Prop := L2.PT X e t
@[irreducible] def ZW (X : Cx) (e : Expr) (t : TT) : Prop := L2.PW X e t
@[irreducible] def ZA (X : Cx) (e : List Expr) (t : TA) : Prop := L2.PA X e t
@[irreducible] def ZS (X : Cx) (e : Stmt) (t : TS) : Prop := L2.PS X e t
@[irreducible] def ZSs (X : Cx) (e : List Stmt) (t : TS) : Prop := L2.PSs X e t
@[irreducible] def ZG (X : Cx) (e : Expr) (t : TG) : Prop := L2.PG X e t
@[irreducible] def ZO (X : Cx) (e : Option Expr) (t : TO) : Prop := L2.PO X e t
@[irreducible] def ZIfs (X : Cx) (e : List Expr) (t : TT) : Prop := HW.PIfs X e t
@[irreducible] def ZI (X : Cx) (tg iter : Expr) (t : TI) : Prop := L2.PI X tg iter t
@[irreducible] def ZX (X : Cx) (E : XK) (e : List Stmt) (t : XB) : Prop := HW.PX X E e t
@[irreducible] def ZX1 (X : Cx) (E : XK) (e : Stmt) (t : XB) : Prop := HW.PX1 X E e t
@[irreducible] def ZXc (X : Cx) (e : Stmt) (t : XB) : Prop := HW.PXc X e t
@[irreducible] def ZXf (X : Cx) (e : Expr) (t : XB) : Prop := HW.PXf X e t
@[irreducible] def ZJ (X : Cx) (e : Expr) (t : Lo → Bool) : Prop := HW.PJ X e t
@[irreducible] def ZJs (X : Cx) (e : List Expr) (t : Lo → Bool) : Prop := HW.PJs X e t
@[irreducible] def ZXe (X : Cx) (e : Expr) (t : XB) : Prop := HW.PXe X e t
section
variable {X : Cx} {a b e o : Expr} {es : List Expr} {fa fb : FE} {ga : FA} {pos p p2 apos : Pos} {x : Str}
theorem q_var (i : Nat) (hN : X.N[i]? = some x := by rfl) (hv : Vis X.env.scope x := by first | exact Or.inl rfl | exact Or.inr (Or.inl rfl) | exact Or.inr (Or.inr rfl)) (hd : (x == ("__debug__" : Str)) = false := by decide)
    (hcd : (x == ("__classdict__" : Str)) = false := by decide) : ZE X (.Name x pos) (rdE X.K (fVar i)) := by
  with_unfolding_all exact R.q_var i hN hv hd hcd
theorem q_int {i j} : ZE X (.Constant (.int i) j pos) (rdE X.K (fK (.int i))) := by
  with_unfolding_all exact R.q_int 
theorem q_bl {i j} : ZE X (.Constant (.bool i) j pos) (rdE X.K (fK (.bl i))) := by
  with_unfolding_all exact R.q_bl 
theorem q_str {i j} : ZE X (.Constant (.str i) j pos) (rdE X.K (fK (.str i))) := by
  with_unfolding_all exact R.q_str 
theorem q_non {j} : ZE X (.Constant .none j pos) (rdE X.K (fK .non)) := by
  with_unfolding_all exact R.q_non 
theorem q_addQ (ha : ZE X a (rdE X.K fa)) (hb : ZE X b (rdE X.K fb)) : ZE X (.BinOp a .Add b pos) (rdE X.K (fOp addQ fa fb)) := by
  with_unfolding_all exact R.q_addQ ha hb
theorem q_sub (ha : ZE X a (rdE X.K fa)) (hb : ZE X b (rdE X.K fb)) : ZE X (.BinOp a .Sub b pos) (rdE X.K (fOp subD fa fb)) := by
  with_unfolding_all exact R.q_sub ha hb
theorem q_mul (ha : ZE X a (rdE X.K fa)) (hb : ZE X b (rdE X.K fb)) : ZE X (.BinOp a .Mult b pos) (rdE X.K (fOp mulD fa fb)) := by
  with_unfolding_all exact R.q_mul ha hb
theorem q_div (ha : ZE X a (rdE X.K fa)) (hb : ZE X b (rdE X.K fb)) : ZE X (.BinOp a .FloorDiv b pos) (rdE X.K (fOp divD fa fb)) := by
  with_unfolding_all exact R.q_div ha hb
theorem q_mod (ha : ZE X a (rdE X.K fa)) (hb : ZE X b (rdE X.K fb)) : ZE X (.BinOp a .Mod b pos) (rdE X.K (fOp modD fa fb)) := by
  with_unfolding_all exact R.q_mod ha hb
theorem q_pow (ha : ZE X a (rdE X.K fa)) (hb : ZE X b (rdE X.K fb)) : ZE X (.BinOp a .Pow b pos) (rdE X.K (fOp powD fa fb)) := by
  with_unfolding_all exact R.q_pow ha hb
theorem q_neg (ha : ZE X a (rdE X.K fa)) : ZE X (.UnaryOp .USub a pos) (rdE X.K (fUn negD fa)) := by
  with_unfolding_all exact R.q_neg ha
theorem q_not (ha : ZE X a (rdE X.K fa)) : ZE X (.UnaryOp .Not a pos) (rdE X.K (fNot fa)) := by
  with_unfolding_all exact R.q_not ha
theorem q_eq (hu : X.A.units + 64 < cLine) (ha : ZE X a (rdE X.K fa)) (hb : ZE X b (rdE X.K fb)) : ZE X (.Compare a [.Eq] [b] pos) (rdE X.K (fOp (eqR false) fa fb)) := by
  with_unfolding_all exact R.q_eq hu ha hb
theorem q_and {rest : List Expr} (ha : ZE X a (rdE X.K fa)) (hb : ZE X (.BoolOp .And (b :: rest) pos) (rdE X.K fb)) : ZE X (.BoolOp .And (a :: b :: rest) pos) (rdE X.K (fAnd fa fb)) := by
  with_unfolding_all exact R.q_and ha hb
theorem q_one {op} (ha : ZE X a (rdE X.K fa)) : ZE X (.BoolOp op [a] pos) (rdE X.K fa) := by
  with_unfolding_all exact R.q_one ha
theorem q_nil : ZA X [] (rdA X.K fNil) := by
  with_unfolding_all exact R.q_nil 
theorem q_cons (ha : ZE X e (rdE X.K fa)) (hr : ZA X es (rdA X.K ga)) (hs : starEach (e :: es) X.env = (false, eval e X.env) :: starEach es X.env := by exact star_cons rfl) : ZA X (e :: es) (rdA X.K (fCons fa ga)) := by
  with_unfolding_all exact R.q_cons ha hr hs
theorem q_tup {x1} (h : ZA X es (rdA X.K ga)) : ZE X (.Tuple es x1 pos) (rdE X.K (fTup ga)) := by
  with_unfolding_all exact R.q_tup h
theorem q_lst (h : ZA X es (rdA X.K ga)) : ZE X (.List es pos) (rdE X.K (fLst ga)) := by
  with_unfolding_all exact R.q_lst h
theorem q_dnew : ZE X (.Dict [] [] pos) (rdE X.K fDnew) := by
  with_unfolding_all exact R.q_dnew 
theorem q_fz (ha : ZE X a (rdE X.K fa)) : ZE X a (rdE X.K (fFz fa)) := by
  with_unfolding_all exact R.q_fz ha
theorem q_ix (ha : ZE X a (rdE X.K fa)) (hb : ZE X b (rdE X.K fb)) (hs : PlainIx b := by intro _ _; rfl) : ZE X (.Subscript a b pos) (rdE X.K (fOp ixD fa fb)) := by
  with_unfolding_all exact R.q_ix ha hb hs
theorem q_oN : ZO X none (rdO X.K oNone) := by
  with_unfolding_all exact R.q_oN 
theorem q_oS (ha : ZE X a (rdE X.K fa)) : ZO X (some a) (rdO X.K (oSome fa)) := by
  with_unfolding_all exact R.q_oS ha
theorem q_sl {lo hi : Option Expr} {fl fh : FO} (ha : ZE X a (rdE X.K fa)) (hl : ZO X lo (rdO X.K fl)) (hh : ZO X hi (rdO X.K fh)) : ZE X (.Subscript a (.Slice lo hi none p2) pos) (rdE X.K (fSl fa fl fh)) := by
  with_unfolding_all exact R.q_sl ha hl hh
theorem q_len (hg : Gl X "len") (hm : X.mg "len" = none) (ha : ZA X (e :: es) (rdA X.K ga)) (he : starEach (e :: es) X.env = (false, eval e X.env) :: starEach es X.env := by exact star_cons rfl) (hpl : (backTo pos (starEach es X.env)).any (·.1) = false := by exact star_any rfl) :
    ZE X (.Call (.Name "len" p) (e :: es) [] pos) (rdE X.K (fAr lenD ga)) := by
  with_unfolding_all exact R.q_len hg hm ha he hpl
theorem q_min (hc : X.calm = true) (hg : Gl X "min") (hm : X.mg "min" = none) (ha : ZA X (e :: es) (rdA X.K ga)) (he : starEach (e :: es) X.env = (false, eval e X.env) :: starEach es X.env := by exact star_cons rfl) (hpl : (backTo pos (starEach es X.env)).any (·.1) = false := by exact star_any rfl) :
    ZE X (.Call (.Name "min" p) (e :: es) [] pos) (rdE X.K (fAr minD ga)) := by
  with_unfolding_all exact R.q_min hc hg hm ha he hpl
theorem q_strc (hg : Gl X "str") (hm : X.mg "str" = none) (ha : ZA X (e :: es) (rdA X.K ga)) (he : starEach (e :: es) X.env = (false, eval e X.env) :: starEach es X.env := by exact star_cons rfl) (hpl : (backTo pos (starEach es X.env)).any (·.1) = false := by exact star_any rfl) :
    ZE X (.Call (.Name "str" p) (e :: es) [] pos) (rdE X.K (fAr strD ga)) := by
  with_unfolding_all exact R.q_strc hg hm ha he hpl
theorem q_const {d : D} (h : ConstR X.K X.mg x d) (hg : Gl X x := by rfl) (hd : (x == ("__debug__" : Str)) = false := by decide) : ZE X (.Name x pos) (rdE X.K (fK d)) := by
  with_unfolding_all exact R.q_const h hg hd
theorem q_tuple (hg : Gl X "tuple") (hm : X.mg "tuple" = none) (ha : ZA X (e :: es) (rdA X.K ga)) (he : starEach (e :: es) X.env = (false, eval e X.env) :: starEach es X.env := by exact star_cons rfl) (hpl : (backTo pos (starEach es X.env)).any (·.1) = false := by exact star_any rfl) :
    ZE X (.Call (.Name "tuple" p) (e :: es) [] pos) (rdE X.K (fAr tupD ga)) := by
  with_unfolding_all exact R.q_tuple hg hm ha he hpl
theorem q_all (hc : X.calm = true) (hg : Gl X "all") (hm : X.mg "all" = none) (ha : ZA X (e :: es) (rdA X.K ga)) (he : starEach (e :: es) X.env = (false, eval e X.env) :: starEach es X.env := by exact star_cons rfl) (hpl : (backTo pos (starEach es X.env)).any (·.1) = false := by exact star_any rfl) :
    ZE X (.Call (.Name "all" p) (e :: es) [] pos) (rdE X.K (fAr (allD false) ga)) := by
  with_unfolding_all exact R.q_all hc hg hm ha he hpl
theorem q_isi {T : String} {y : Str} (hT : Kinds X.K T) (hg : Gl X "isinstance") (hm : X.mg "isinstance" = none) (hgT : Gl X y) (hmT : X.mg y = none) (hvT : bootBuiltins y = some (.type T)) (ha : ZE X e (rdE X.K fa)) (hn : y ≠ "__name__" := by decide) (hdb : (y == ("__debug__" : Str)) = false := by decide)
    (he : starEach (e :: [.Name y p2]) X.env = (false, eval e X.env) :: starEach [.Name y p2] X.env := by exact star_cons rfl) (hpl : (backTo pos (starEach [.Name y p2] X.env)).any (·.1) = false := by rfl) :
    ZE X (.Call (.Name "isinstance" p) [e, .Name y p2] [] pos) (rdE X.K (fUn (isiD T) fa)) := by
  with_unfolding_all exact R.q_isi hT hg hm hgT hmT hvT ha hn hdb he hpl
theorem t_tru (ha : ZE X a (rdE X.K fa)) (he : ∀ whole, isTrue a X.env whole = (do let v ← whole; standAt a.pos; holding [v] (truthy v)) := by intro _; rfl) : ZT X a (rdT X.K (fTru fa)) := by
  with_unfolding_all exact R.t_tru ha he
theorem t_lt (ha : ZE X a (rdE X.K fa)) (hb : ZE X b (rdE X.K fb)) : ZT X (.Compare a [.Lt] [b] pos) (rdT X.K (fB (fOp ltD fa fb))) := by
  with_unfolding_all exact R.t_lt ha hb
theorem t_le (ha : ZE X a (rdE X.K fa)) (hb : ZE X b (rdE X.K fb)) : ZT X (.Compare a [.LtE] [b] pos) (rdT X.K (fB (fOp leD fa fb))) := by
  with_unfolding_all exact R.t_le ha hb
theorem t_gt (ha : ZE X a (rdE X.K fa)) (hb : ZE X b (rdE X.K fb)) : ZT X (.Compare a [.Gt] [b] pos) (rdT X.K (fB (fOp gtD fa fb))) := by
  with_unfolding_all exact R.t_gt ha hb
theorem t_ge (ha : ZE X a (rdE X.K fa)) (hb : ZE X b (rdE X.K fb)) : ZT X (.Compare a [.GtE] [b] pos) (rdT X.K (fB (fOp geD fa fb))) := by
  with_unfolding_all exact R.t_ge ha hb
theorem t_eq (hu : X.A.units + 64 < cLine) (ha : ZE X a (rdE X.K fa)) (hb : ZE X b (rdE X.K fb)) : ZT X (.Compare a [.Eq] [b] pos) (rdT X.K (fB (fOp (eqR false) fa fb))) := by
  with_unfolding_all exact R.t_eq hu ha hb
theorem t_ne (hu : X.A.units + 64 < cLine) (ha : ZE X a (rdE X.K fa)) (hb : ZE X b (rdE X.K fb)) : ZT X (.Compare a [.NotEq] [b] pos) (rdT X.K (fB (fOp (eqR true) fa fb))) := by
  with_unfolding_all exact R.t_ne hu ha hb
theorem t_isN {j} (ha : ZE X a (rdE X.K fa)) : ZT X (.Compare a [.Is] [.Constant .none j p] pos) (rdT X.K (fB (fUn (isK false .non) fa))) := by
  with_unfolding_all exact R.t_isN ha
theorem t_notN {j} (ha : ZE X a (rdE X.K fa)) : ZT X (.Compare a [.IsNot] [.Constant .none j p] pos) (rdT X.K (fB (fUn (isK true .non) fa))) := by
  with_unfolding_all exact R.t_notN ha
variable {ta tb : FT} {rest : List Expr}
theorem t_not (ha : ZT X a (rdT X.K ta)) : ZT X (.UnaryOp .Not a pos) (rdT X.K (tNotF ta)) := by
  with_unfolding_all exact R.t_not ha
theorem w_and (ha : ZT X a (rdT X.K ta)) (hb : ZW X (.BoolOp .And (b :: rest) pos) (rdT X.K tb)) : ZW X (.BoolOp .And (a :: b :: rest) pos) (rdT X.K (tAndF ta tb)) := by
  with_unfolding_all exact R.w_and ha hb
theorem w_or (ha : ZT X a (rdT X.K ta)) (hb : ZW X (.BoolOp .Or (b :: rest) pos) (rdT X.K tb)) : ZW X (.BoolOp .Or (a :: b :: rest) pos) (rdT X.K (tOrF ta tb)) := by
  with_unfolding_all exact R.w_or ha hb
theorem w_and1 (ha : ZT X a (rdT X.K ta)) : ZW X (.BoolOp .And [a] pos) (rdT X.K ta) := by
  with_unfolding_all exact R.w_and1 ha
theorem w_or1 (ha : ZT X a (rdT X.K ta)) : ZW X (.BoolOp .Or [a] pos) (rdT X.K ta) := by
  with_unfolding_all exact R.w_or1 ha
theorem t_w (h : ZW X a (rdT X.K ta)) : ZT X a (rdT X.K ta) := by
  with_unfolding_all exact R.t_w h
theorem q_if {c : Expr} (hc : ZT X c (rdT X.K ta)) (ha : ZE X a (rdE X.K fa)) (hb : ZE X b (rdE X.K fb)) : ZE X (.IfExp c a b pos) (rdE X.K (fIf ta fa fb)) := by
  with_unfolding_all exact R.q_if hc ha hb
variable {st : Stmt} {sts aa bb : List Stmt} {sa sb : FS} {c tg iter : Expr}
theorem s_nil : ZSs X [] (rdS X.K sNext) := by
  with_unfolding_all exact R.s_nil 
theorem s_cons (h1 : ZS X st (rdS X.K sa)) (h2 : ZSs X sts (rdS X.K sb)) : ZSs X (st :: sts) (rdS X.K (sSeq sa sb)) := by
  with_unfolding_all exact R.s_cons h1 h2
theorem s_one (h1 : ZS X st (rdS X.K sa)) : ZSs X [st] (rdS X.K sa) := by
  with_unfolding_all exact R.s_one h1
theorem s_stuck : ZS X st (rdS X.K sStuck) := by
  with_unfolding_all exact R.s_stuck 
theorem s_expr (he : ZE X e (rdE X.K fa)) (hs : swapsWith e none pos.line X.env = pure false := by rfl) : ZS X (.Expr e pos) (rdS X.K (sDrop fa)) := by
  with_unfolding_all exact R.s_expr he hs
theorem s_ret (he : ZE X e (rdE X.K fa)) : ZS X (.Return (some e) pos) (rdS X.K (sRet fa)) := by
  with_unfolding_all exact R.s_ret he
theorem s_if (hc : ZT X c (rdT X.K ta)) (ha : ZSs X aa (rdS X.K sa)) (hb : ZSs X bb (rdS X.K sb)) : ZS X (.If c aa bb pos) (rdS X.K (sIf ta sa sb)) := by
  with_unfolding_all exact R.s_if hc ha hb
theorem s_set (i : Nat) {pos' : Pos} (hN : X.N.Nodup) (he : ZE X e (rdE X.K fa)) (hi : X.N[i]? = some x := by rfl) (hx : Loc X.env.scope x := by first | exact Or.inl rfl | exact Or.inr rfl) (hs : swapsWith e (some (.Name x pos')) pos.line X.env = pure false := by rfl) (hf : X.fn x = true ∨ X.env.scope.names.lookup x = some .local := by first | exact .inl rfl | exact .inr rfl) :
    ZS X (.Assign [.Name x pos'] e pos) (rdS X.K (sSet i fa)) := by
  with_unfolding_all exact R.s_set i hN he hi hx hs hf
variable {g : FG} {gs : FGs} {fi : FI}
theorem g_nm (i : Nat) (hN : X.N.Nodup) (hi : X.N[i]? = some x := by rfl) (hx : Loc X.env.scope x := by first | exact Or.inl rfl | exact Or.inr rfl) (hf : X.fn x = true ∨ X.env.scope.names.lookup x = some .local := by first | exact .inl rfl | exact .inr rfl) : ZG X (.Name x pos) (rdG X.K (gNm i)) := by
  with_unfolding_all exact R.g_nm i hN hi hx hf
theorem i_seq (ha : ZE X a (rdE X.K fa)) : ZI X tg a (rdI X.K (fiSeq fa)) := by
  with_unfolding_all exact R.i_seq ha
theorem i_r1 (hg : Gl X "range") (hm : X.mg "range" = none) (ha : ZE X a (rdE X.K fa)) (hs : starEach [a] X.env = [(false, eval a X.env)] := by exact star_cons rfl) : ZI X tg (.Call (.Name "range" p) [a] [] pos) (rdI X.K (fiR1 fa)) := by
  with_unfolding_all exact R.i_r1 hg hm ha hs
theorem s_for (hc : X.calm = true) (hi : ZI X tg iter (rdI X.K fi)) (hg : ZG X tg (rdG X.K g)) (hb : ZSs X aa (rdS X.K sa)) (hp : PassesOwn (model X.prog X.w) X.A X.env X.xe) (hs : ∀ x, foldedSetIterable iter X.env x = pure x := by intro _; rfl) : ZS X (.For tg iter aa [] pos) (rdS X.K (sFor fi g sa)) := by
  with_unfolding_all exact R.s_for hc hi hg hb hp hs
theorem f_nil : ZIfs X [] (rdT X.K cYes) := by
  with_unfolding_all exact R.f_nil 
theorem f_one (h : ZT X c (rdT X.K ta)) : ZIfs X [c] (rdT X.K ta) := by
  with_unfolding_all exact R.f_one h
theorem q_comp {ifs : List Expr} {scope : Scope} (ix : List Nat) (own caps : List Str) (hc : X.calm = true) (n : CompNames X.env.scope scope own caps) (hi : ZI X tg iter (rdI X.K fi))
    (hb : ∀ cl C s₂ H₂ fp, ZG (blockCx X scope cl C s₂ H₂ fp (own ++ caps)) tg (rdG X.K g) ∧ ZIfs (blockCx X scope cl C s₂ H₂ fp (own ++ caps)) ifs (rdT X.K ta) ∧ ZE (blockCx X scope cl C s₂ H₂ fp (own ++ caps)) e (rdE X.K fa))
    (hix : ix.map (fun i => X.N[i]?) = caps.map some := by rfl)
    (hs : ∀ x, foldedSetIterable iter X.env x = pure x := by intro _; rfl) : ZE X (.ListComp e [⟨tg, iter, ifs, 0⟩] scope pos) (rdE X.K (fComp ix own.length fi g ta fa)) := by
  with_unfolding_all exact R.q_comp ix own caps hc n hi hb hix hs
theorem s_comp (i : Nat) {py spos : Pos} {ifs : List Expr} {scope : Scope} (ix : List Nat) (own caps : List Str) (hc : X.calm = true) (n : CompNames X.env.scope scope own caps) (hN : X.N.Nodup) (hi : ZI X tg iter (rdI X.K fi))
    (hb : ∀ cl C s₂ H₂ fp, ZG (blockCx X scope cl C s₂ H₂ fp (own ++ caps)) tg (rdG X.K g) ∧ ZIfs (blockCx X scope cl C s₂ H₂ fp (own ++ caps)) ifs (rdT X.K ta) ∧ ZE (blockCx X scope cl C s₂ H₂ fp (own ++ caps)) e (rdE X.K fa))
    (hsw : swapsWith (.ListComp e [⟨tg, iter, ifs, 0⟩] scope pos) (some (.Name x py)) spos.line X.env = pure true := by rfl)
    (hy : X.N[i]? = some x := by rfl) (hyl : Loc X.env.scope x := by first | exact Or.inl rfl | exact Or.inr rfl)
    (hix : ix.map (fun i => X.N[i]?) = caps.map some := by rfl)
    (hs : ∀ x, foldedSetIterable iter X.env x = pure x := by intro _; rfl) (hf : X.fn x = true ∨ X.env.scope.names.lookup x = some .local := by first | exact .inl rfl | exact .inr rfl) :
    ZS X (.Assign [.Name x py] (.ListComp e [⟨tg, iter, ifs, 0⟩] scope pos) spos) (rdS X.K (sSet i (fComp ix own.length fi g ta fa))) := by
  with_unfolding_all exact R.s_comp i ix own caps hc n hN hi hb hsw hy hyl hix hs hf
end
theorem okP {P : Program} {w : World} {K : PySem.W.Frag} {mg : Str → Option Value} {base : Heap} {x : Str} {st : Stmt} {N ps : List Str} {k : Nat} {b : FS} (d : DefAt K mg x st ps) (S : FnScope N ps (defScope st))
    (hbody : ∀ (f : Addr) (cdv : Value) (A : Around) (outer : List Env) (s : Shared) (H : Hp) (E : XK), Room k (A.deeper (envOfC x (defScope st) s.heap.objs.size f cdv)) → ZSs (cxOf CX0 P w K mg base N x (defScope st) f cdv A outer s H E).nox (defBody st) (rdS K b)) :
    Kept P w K mg base (k + 1) x ps (runP N.length b) := by
  with_unfolding_all exact R.okP d S hbody
theorem q_callK {X : Cx} {k : Nat} {x : Str} {ps : List Str} {mf : MF} {e : Expr} {es : List Expr} {ga : FA} {p pos : Pos} {n : Nat} (F : Kept X.prog X.w X.K X.mg X.base k x ps mf) (hr : Room k X.A) (ha : ZA X (e :: es) (rdA X.K ga)) (hg : Gl X x := by rfl) (hn : ps.length = n := by rfl)
    (hdb : (x == ("__debug__" : Str)) = false := by decide) (he : starEach (e :: es) X.env = (false, eval e X.env) :: starEach es X.env := by exact star_cons rfl) (hpl : (backTo pos (starEach es X.env)).any (·.1) = false := by exact star_any rfl) :
    ZE X (.Call (.Name x p) (e :: es) [] pos) (rdE X.K (fCall mf n ga)) := by
  with_unfolding_all exact R.q_callK F hr ha hg hn hdb he hpl
theorem px_none {X : Cx} {E : XK} {sts : List Stmt} : ZX X E sts xNo := by
  with_unfolding_all exact R.px_none 
theorem px_head {X : Cx} {E : XK} {st : Stmt} {sts : List Stmt} {x : XB} (h : ZX1 X E st x) : ZX X E (st :: sts) x := by
  with_unfolding_all exact R.px_head h
theorem px_or {X : Cx} {E : XK} {sts : List Stmt} {x y : XB} (h : ZX X E sts x) (h' : ZX X E sts y) : ZX X E sts (xOr x y) := by
  with_unfolding_all exact R.px_or h h'
theorem px_then {X : Cx} {E : XK} {st : Stmt} {sts : List Stmt} {x : XB} {a : FS} (h : ZS X st (rdS X.K a)) (h' : ZX X E sts x) : ZX X E (st :: sts) (xThen a x) := by
  with_unfolding_all exact R.px_then h h'
theorem px_if {X : Cx} {E : XK} {aa bb : List Stmt} {x y : XB} {t : FT} {c : Expr} {pos : Pos} (hc : ZT X c (rdT X.K t)) (ha : ZX X E aa x) (hb : ZX X E bb y) : ZX1 X E (.If c aa bb pos) (xIf t x y) := by
  with_unfolding_all exact R.px_if hc ha hb
theorem px_of {X : Cx} {E : XK} {st : Stmt} {x : XB} (h : ZXc X st x) (p : Passes (CX1 X.prog X.w X.base) X E) : ZX1 X E st x := by
  with_unfolding_all exact R.px_of h p
theorem pxe_call {X : Cx} {k : Nat} {x : Str} {ps : List Str} {xf : List D → Option Str} {e : Expr} {es : List Expr} {ga : FA} {p pos : Pos} {n : Nat} (F : KeptX X.prog X.w X.K X.mg X.base k x ps xf) (hr : Room k X.A) (ha : ∀ xe, ZA (X.wish xe) (e :: es) (rdA X.K ga)) (hg : Gl X x := by rfl) (hn : ps.length = n := by rfl)
    (hdb : (x == ("__debug__" : Str)) = false := by decide) (he : starEach (e :: es) X.env = (false, eval e X.env) :: starEach es X.env := by exact star_cons rfl) (hpl : (backTo pos (starEach es X.env)).any (·.1) = false := by exact star_any rfl) :
    ZXe X (.Call (.Name x p) (e :: es) [] pos) (xCall xf n ga) := by
  with_unfolding_all exact R.pxe_call F hr ha hg hn hdb he hpl
theorem pxc_expr {X : Cx} {e : Expr} {pos : Pos} {x : XB} (he : ZXe X e x) (hs : swapsWith e none pos.line X.env = pure false := by rfl) : ZXc X (.Expr e pos) x := by
  with_unfolding_all exact R.pxc_expr he hs
theorem pxc_ret {X : Cx} {e : Expr} {pos : Pos} {x : XB} (he : ZXe X e x) : ZXc X (.Return (some e) pos) x := by
  with_unfolding_all exact R.pxc_ret he
theorem pxc_set {X : Cx} {e : Expr} {pos : Pos} {x : XB} {y : Str} {pos' : Pos} (he : ZXe X e x) (hs : swapsWith e (some (.Name y pos')) pos.line X.env = pure false := by rfl) : ZXc X (.Assign [.Name y pos'] e pos) x := by
  with_unfolding_all exact R.pxc_set he hs
theorem okX {P : Program} {w : World} {K : PySem.W.Frag} {mg : Str → Option Value} {base : Heap} {x : Str} {st : Stmt} {N ps : List Str} {k : Nat} {b : XB} {f : Addr} {fd : FuncData} (F : Fun K x x st f fd) (B : Binds K fd ps []) (M : mg x = some (.ref f)) (S : FnScope N ps (defScope st))
    (hbody : ∀ (cdv : Value) (A : Around) (outer : List Env) (s : Shared) (H : Hp) (E : XK), Room k (A.deeper (envOfC x (defScope st) s.heap.objs.size f cdv)) → ZX (cxOf (CX1 P w base) P w K mg base N x (defScope st) f cdv A outer s H E) E (defBody st) b) :
    KeptX P w K mg base (k + 1) x ps (runX N.length b) := by
  with_unfolding_all exact R.okX F B M S hbody
theorem q_isx {X : Cx} {tbl : Str → Option Bool} {v : V} {u : Value} {e c : Expr} {fa : FE} {p pos : Pos} (hf : X.mg "isinstance" = none) (hc : ZE X c (tC v)) (hv : RelV v u) (hu : ∀ u', RelV v u' → u' = u) (hO : ∀ c C b, tbl c = some b → clsAt X.K c C → ClsX X.K C ∧ PySem.W.kitOne X.K (.ref C) u = some b) (ha : ZE X e (rdE X.K fa))
    (hg : Gl X "isinstance" := by rfl) (hs1 : starEach [e, c] X.env = (false, eval e X.env) :: starEach [c] X.env := by exact star_cons rfl) (hs2 : starEach [c] X.env = (false, eval c X.env) :: starEach [] X.env := by exact star_cons rfl) (hpl : (backTo pos (starEach [c] X.env)).any (·.1) = false := by exact star_any rfl) :
    ZE X (.Call (.Name "isinstance" p) [e, c] [] pos) (rdE X.K (fUn (isiX tbl) fa)) := by
  with_unfolding_all exact R.q_isx hf hc hv hu hO ha hg hs1 hs2 hpl
theorem q_isxt {X : Cx} {tbl : Str → Option Bool} {vs : List V} {us' : List Value} {e : Expr} {cs : List Expr} {x1 : Nat} {fa : FE} {p p2 pos : Pos} (hf : X.mg "isinstance" = none) (hc : ZA X cs (tCs vs)) (hz : vs.length ≤ sizeLine) (hu : ∀ us, Vals vs us → us = us') (hO : ∀ c C b, tbl c = some b → clsAt X.K c C → ClsX X.K C ∧ PySem.W.kitAny X.K (.ref C) us' = some b) (ha : ZE X e (rdE X.K fa))
    (hg : Gl X "isinstance" := by rfl) (hs1 : starEach [e, .Tuple cs x1 p2] X.env = (false, eval e X.env) :: starEach [.Tuple cs x1 p2] X.env := by exact star_cons rfl) (hs2 : starEach [.Tuple cs x1 p2] X.env = (false, eval (.Tuple cs x1 p2) X.env) :: starEach [] X.env := by exact star_cons rfl) (hpl : (backTo pos (starEach [.Tuple cs x1 p2] X.env)).any (·.1) = false := by exact star_any rfl) :
    ZE X (.Call (.Name "isinstance" p) [e, .Tuple cs x1 p2] [] pos) (rdE X.K (fUn (isiX tbl) fa)) := by
  with_unfolding_all exact R.q_isxt hf hc hz hu hO ha hg hs1 hs2 hpl
theorem q_glb {X : Cx} {x : Str} {v : V} {u : Value} {pos : Pos} (hm : X.mg x = some u) (r : RelV v u) (hg : Gl X x := by rfl) (hd : (x == ("__debug__" : Str)) = false := by decide) : ZE X (.Name x pos) (tC v) := by
  with_unfolding_all exact R.q_glb hm r hg hd
theorem q_blt {X : Cx} {x : Str} {v : V} {u : Value} {pos : Pos} (hm : X.mg x = none) (hv : bootBuiltins x = some u) (r : RelV v u) (hg : Gl X x := by rfl) (hn : x ≠ "__name__" := by decide) (hd : (x == ("__debug__" : Str)) = false := by decide) : ZE X (.Name x pos) (tC v) := by
  with_unfolding_all exact R.q_blt hm hv r hg hn hd
theorem q_cs0 {X : Cx} : ZA X [] (tCs []) := by
  with_unfolding_all exact R.q_cs0 
theorem q_cs1 {X : Cx} {e : Expr} {es : List Expr} {v : V} {vs : List V} (h : ZE X e (tC v)) (h' : ZA X es (tCs vs)) (hs : starEach (e :: es) X.env = (false, eval e X.env) :: starEach es X.env := by exact star_cons rfl) : ZA X (e :: es) (tCs (v :: vs)) := by
  with_unfolding_all exact R.q_cs1 h h' hs
theorem s_try {X : Cx} {st : Stmt} {cx n : Str} {CH : Addr} {np hpos pos : Pos} {b₀ : Stmt} {suite : List Stmt} {xb : XB} {nb hb : FS} {i : Nat} {cs : List Str} (hN : X.N.Nodup) (hm : X.mg cx = some (.ref CH)) (OH : OwnX X.K CH) (hO : ∀ c C, cs.contains c = true → clsAt X.K c C → OwnX X.K C ∧ mroHas X.K C CH = true)
    (hn : ZS X.nox st (rdS X.K nb)) (hx : ZXc X st xb) (hs : ∀ ea, ZSs (inh X ea) (b₀ :: suite) (rdS X.K hb)) (hst : X.stack = X.env :: X.outer := by rfl) (hfr : X.env.frame = some X.env.locals := by rfl) (hex : X.ex = [] := by rfl) (hg : Gl X cx := by rfl)
    (hi : X.N[i]? = some n := by rfl) (hl : X.env.scope.names.lookup n = some .local := by rfl) (hd : (cx == ("__debug__" : Str)) = false := by decide) :
    ZS X (.Try [st] [.ExceptHandler (some (.Name cx np)) (some n) (b₀ :: suite) hpos] [] [] pos) (rdS X.K (sTry cs xb nb i hb)) := by
  with_unfolding_all exact R.s_try hN hm OH hO hn hx hs hst hfr hex hg hi hl hd
theorem px_raiseK {X : Cx} {E : XK} {c : Str} {C : Addr} {a : Str} {j : Nat} {np p1 cpos pos : Pos} (hm : X.mg c = some (.ref C)) (hk : clsAt X.K c C) (O : OwnX X.K C)
    (hX : ∀ {pins σ H s h' e args}, Inv X pins σ H s → Heap.MadeExcOf s.heap h' e (.ref C) args → E (.ref C) none H → X.xe (.ref e) { s with heap := h' }) (hc : X.calm = true := by rfl) (hg : Gl X c := by rfl) (hd : (c == ("__debug__" : Str)) = false := by decide)
    (he : starEach [.Constant (.str a) j p1] X.env = (false, eval (.Constant (.str a) j p1) X.env) :: starEach [] X.env := by exact star_cons rfl) : ZX1 X E (.Raise (some (.Call (.Name c np) [.Constant (.str a) j p1] [] cpos)) none pos) (xRaise c fun _ => true) := by
  with_unfolding_all exact R.px_raiseK hm hk O hX hc hg hd he
theorem px_raiseF {X : Cx} {E : XK} {c : Str} {C : Addr} {a x : Str} {i j : Nat} {np p1 p2 p3 p4 cpos pos : Pos} (hm : X.mg c = some (.ref C)) (hk : clsAt X.K c C) (O : OwnX X.K C)
    (hX : ∀ {pins σ H s h' e args}, Inv X pins σ H s → Heap.MadeExcOf s.heap h' e (.ref C) args → E (.ref C) none H → X.xe (.ref e) { s with heap := h' }) (hx : ZE X (.Name x p2) (tVar i)) (hc : X.calm = true := by rfl) (hg : Gl X c := by rfl) (hd : (c == ("__debug__" : Str)) = false := by decide)
    (he : starEach [.JoinedStr [.Constant (.str a) j p1, .FormattedValue (.Name x p2) 114 none p3] p4] X.env = (false, eval (.JoinedStr [.Constant (.str a) j p1, .FormattedValue (.Name x p2) 114 none p3] p4) X.env) :: starEach [] X.env := by exact star_cons rfl) :
    ZX1 X E (.Raise (some (.Call (.Name c np) [.JoinedStr [.Constant (.str a) j p1, .FormattedValue (.Name x p2) 114 none p3] p4] [] cpos)) none pos) (xRaise c (okFs a i)) := by
  with_unfolding_all exact R.px_raiseF hm hk O hX hx hc hg hd he
theorem j_nil {X : Cx} : ZJs X [] (fun _ => true) := by
  with_unfolding_all exact R.j_nil 
theorem j_cons {X : Cx} {e : Expr} {es : List Expr} {p q : Lo → Bool} (h1 : ZJ X e p) (h2 : ZJs X es q) : ZJs X (e :: es) (fun ρ => p ρ && q ρ) := by
  with_unfolding_all exact R.j_cons h1 h2
theorem j_str {X : Cx} {a : Str} {j : Nat} {p1 : Pos} (h : a.length ≤ 1048576 := by decide) : ZJ X (.Constant (.str a) j p1) (fun _ => true) := by
  with_unfolding_all exact R.j_str h
theorem j_int {X : Cx} {x : Str} {i : Nat} {p2 p3 : Pos} (hx : ZE X (.Name x p2) (tVar i)) : ZJ X (.FormattedValue (.Name x p2) (-1) none p3) (okIn i) := by
  with_unfolding_all exact R.j_int hx
theorem px_raiseJ {X : Cx} {E : XK} {c : Str} {C : Addr} {v₁ v₂ : Expr} {rest : List Expr} {ok : Lo → Bool} {np p4 cpos pos : Pos} (hm : X.mg c = some (.ref C)) (hk : clsAt X.K c C) (O : OwnX X.K C)
    (hX : ∀ {pins σ H s h' e args}, Inv X pins σ H s → Heap.MadeExcOf s.heap h' e (.ref C) args → E (.ref C) none H → X.xe (.ref e) { s with heap := h' }) (h : ZJs X (v₁ :: v₂ :: rest) ok) (hn : (v₁ :: v₂ :: rest).length ≤ 14 := by decide) (hc : X.calm = true := by rfl) (hg : Gl X c := by rfl) (hd : (c == ("__debug__" : Str)) = false := by decide)
    (he : starEach [.JoinedStr (v₁ :: v₂ :: rest) p4] X.env = (false, eval (.JoinedStr (v₁ :: v₂ :: rest) p4) X.env) :: starEach [] X.env := by exact star_cons rfl) :
    ZX1 X E (.Raise (some (.Call (.Name c np) [.JoinedStr (v₁ :: v₂ :: rest) p4] [] cpos)) none pos) (xRaise c ok) := by
  with_unfolding_all exact R.px_raiseJ hm hk O hX h hn hc hg hd he
theorem qx_if {X : Cx} {c a b : Expr} {pos : Pos} {t : FT} {x y : XB} (hc : ∀ xe, ZT (X.wish xe) c (rdT X.K t)) (ha : ZXe X a x) (hb : ZXe X b y) : ZXe X (.IfExp c a b pos) (xIf t x y) := by
  with_unfolding_all exact R.qx_if hc ha hb
theorem qx_no {X : Cx} {e : Expr} : ZXe X e xNo := by
  with_unfolding_all exact R.qx_no 
theorem xf_comp {X : Cx} {elt tg iter : Expr} {ifs : List Expr} {scope : Scope} {pos : Pos} {fi : FI} {g : FG} {ta : FT} {fa : FE} {xb : XB} {L : Addr} {outer : List Env} (ix : List Nat) (own caps : List Str) (hst : X.stack = X.env :: outer) (hL : X.env.frame = some L) (hc : X.calm = true) (n : CompNames X.env.scope scope own caps) (hi : ∀ xe, ZI (X.wish xe) tg iter (rdI X.K fi))
    (hb : ∀ cl C s₂ H₂ fp, ZG (blockCx X scope cl C s₂ H₂ fp (own ++ caps)) tg (rdG X.K g) ∧ ZIfs (blockCx X scope cl C s₂ H₂ fp (own ++ caps)) ifs (rdT X.K ta) ∧ ZE (blockCx X scope cl C s₂ H₂ fp (own ++ caps)) elt (rdE X.K fa) ∧ ZXe (blockCx X scope cl C s₂ H₂ fp (own ++ caps)) elt xb)
    (hix : ix.map (fun i => X.N[i]?) = caps.map some := by rfl)
    (hs : ∀ x, foldedSetIterable iter X.env x = pure x := by intro _; rfl) : ZXf X (.ListComp elt [⟨tg, iter, ifs, 0⟩] scope pos) (xComp ix own.length fi g ta fa xb) := by
  with_unfolding_all exact R.xf_comp ix own caps hst hL hc n hi hb hix hs
theorem xf_callTy {X : Cx} {x : Str} {T : String} {e : Expr} {p pos : Pos} {xb : XB} (hg : Gl X x) (hm : X.mg x = none) (hv : bootBuiltins x = some (.type T)) (h : ZXf X e xb) (hn : x ≠ "__name__" := by decide) (hdb : (x == ("__debug__" : Str)) = false := by decide)
    (he : starEach [e] X.env = (false, eval e X.env) :: starEach [] X.env := by exact star_cons rfl) (hpl : (backTo pos (starEach [] X.env)).any (·.1) = false := by exact star_any rfl) : ZXf X (.Call (.Name x p) [e] [] pos) xb := by
  with_unfolding_all exact R.xf_callTy hg hm hv h hn hdb he hpl
theorem xf_set {X : Cx} {E : XK} {e : Expr} {pos : Pos} {x : XB} {y : Str} {pos' : Pos} (he : ZXf X e x) (p : PassesF X E) (hs : swapsWith e (some (.Name y pos')) pos.line X.env = pure false := by rfl) : ZX1 X E (.Assign [.Name y pos'] e pos) x := by
  with_unfolding_all exact R.xf_set he p hs
theorem q_pv {X : Cx} (i : Nat) {x : Str} {pos : Pos} (hN : X.N[i]? = some x := by rfl) (hv : Vis X.env.scope x := by first | exact Or.inl rfl | exact Or.inr (Or.inl rfl) | exact Or.inr (Or.inr rfl)) (hd : (x == ("__debug__" : Str)) = false := by decide)
    (hcd : (x == ("__classdict__" : Str)) = false := by decide) : ZE X (.Name x pos) (tVar i) := by
  with_unfolding_all exact R.q_pv i hN hv hd hcd
theorem q_slS {X : Cx} {a : Expr} {fa : FE} {p2 pos : Pos} {lo hi : Option Expr} {fl fh : FO} (ha : ZE X a (rdE X.K fa)) (hl : ZO X lo (rdO X.K fl)) (hh : ZO X hi (rdO X.K fh)) : ZE X (.Subscript a (.Slice lo hi none p2) pos) (rdE X.K (fSlS fa fl fh)) := by
  with_unfolding_all exact R.q_slS ha hl hh
theorem q_ixS {X : Cx} {a b : Expr} {fa fb : FE} {pos : Pos} (ha : ZE X a (rdE X.K fa)) (hb : ZE X b (rdE X.K fb)) (hs : PlainIxT b := by intro _ _; rfl) : ZE X (.Subscript a b pos) (rdE X.K (fOp ixS fa fb)) := by
  with_unfolding_all exact R.q_ixS ha hb hs
theorem q_lenS {X : Cx} {e : Expr} {es : List Expr} {ga : FA} {p pos : Pos} (hg : Gl X "len") (hm : X.mg "len" = none) (ha : ZA X (e :: es) (rdA X.K ga)) (he : starEach (e :: es) X.env = (false, eval e X.env) :: starEach es X.env := by exact star_cons rfl) (hpl : (backTo pos (starEach es X.env)).any (·.1) = false := by exact star_any rfl) :
    ZE X (.Call (.Name "len" p) (e :: es) [] pos) (rdE X.K (fAr lenS ga)) := by
  with_unfolding_all exact R.q_lenS hg hm ha he hpl
theorem q_intS {X : Cx} {e : Expr} {es : List Expr} {ga : FA} {p pos : Pos} (hg : Gl X "int") (hm : X.mg "int" = none) (ha : ZA X (e :: es) (rdA X.K ga)) (he : starEach (e :: es) X.env = (false, eval e X.env) :: starEach es X.env := by exact star_cons rfl) (hpl : (backTo pos (starEach es X.env)).any (·.1) = false := by exact star_any rfl) :
    ZE X (.Call (.Name "int" p) (e :: es) [] pos) (rdE X.K (fAr intS ga)) := by
  with_unfolding_all exact R.q_intS hg hm ha he hpl
theorem q_inS {X : Cx} {a b : Expr} {fa fb : FE} {pos : Pos} (ha : ZE X a (rdE X.K fa)) (hb : ZE X b (rdE X.K fb)) (hm : behindInMarks .In b = false := by rfl) : ZE X (.Compare a [.In] [b] pos) (rdE X.K (fOp (inS false) fa fb)) := by
  with_unfolding_all exact R.q_inS ha hb hm
theorem t_ninS {X : Cx} {a b : Expr} {fa fb : FE} {pos : Pos} (ha : ZE X a (rdE X.K fa)) (hb : ZE X b (rdE X.K fb)) (hm : behindInMarks .NotIn b = false := by rfl) : ZT X (.Compare a [.NotIn] [b] pos) (rdT X.K (fB (fOp (inS true) fa fb))) := by
  with_unfolding_all exact R.t_ninS ha hb hm
theorem q_ch {X : Cx} {a b c : Expr} {fa fb fc : FE} {pos : Pos} (ha : ZE X a (rdE X.K fa)) (hb : ZE X b (rdE X.K fb)) (hc : ZE X c (rdE X.K fc)) (hm : lastMarks [.LtE, .LtE] [b, c] = false := by with_unfolding_all rfl) : ZE X (.Compare a [.LtE, .LtE] [b, c] pos) (rdE X.K (fCh leD leD fa fb fc)) := by
  with_unfolding_all exact R.q_ch ha hb hc hm
theorem i_str {X : Cx} {tg a : Expr} {fa : FE} (ha : ZE X a (rdE X.K fa)) : ZI X tg a (rdI X.K (fiStr fa)) := by
  with_unfolding_all exact R.i_str ha
theorem q_sw {X : Cx} {e o : Expr} {fa fb : FE} {apos cpos : Pos} (ho : ZE X o (rdE X.K fa)) (hb : ZE X e (rdE X.K fb)) (hbase : attributeBase o "startswith" X.env (eval o X.env) = eval o X.env := by rfl)
    (hfew : ((backTo cpos (starEach [e] X.env)).all (fun x => !x.1) && (backToKw cpos (keywordEach [] X.env)).all (fun x => x.1.isSome)
      && decide ([e].length + ([] : List Keyword).length + (if ([] : List Keyword).isEmpty then 0 else 1) < 30)) = true := by rfl)
    (hline : (apos.endLine == cpos.line) = true := by rfl) (hs : starEach [e] X.env = (false, eval e X.env) :: starEach [] X.env := by exact star_cons rfl) (hplain : (backTo cpos (starEach [] X.env)).any (·.1) = false := by exact star_any rfl) :
    ZE X (.Call (.Attribute o "startswith" apos) [e] [] cpos) (rdE X.K (fSw fa fb)) := by
  with_unfolding_all exact R.q_sw ho hb hbase hfew hline hs hplain
theorem q_join {X : Cx} {e o : Expr} {fa fb : FE} {apos cpos : Pos} (ho : ZE X o (rdE X.K fa)) (hb : ZE X e (rdE X.K fb)) (hbase : attributeBase o "join" X.env (eval o X.env) = eval o X.env := by rfl)
    (hfew : ((backTo cpos (starEach [e] X.env)).all (fun x => !x.1) && (backToKw cpos (keywordEach [] X.env)).all (fun x => x.1.isSome)
      && decide ([e].length + ([] : List Keyword).length + (if ([] : List Keyword).isEmpty then 0 else 1) < 30)) = true := by rfl)
    (hline : (apos.endLine == cpos.line) = true := by rfl) (hs : starEach [e] X.env = (false, eval e X.env) :: starEach [] X.env := by exact star_cons rfl) (hplain : (backTo cpos (starEach [] X.env)).any (·.1) = false := by exact star_any rfl) :
    ZE X (.Call (.Attribute o "join" apos) [e] [] cpos) (rdE X.K (fOp joinD fa fb)) := by
  with_unfolding_all exact R.q_join ho hb hbase hfew hline hs hplain
theorem q_split {X : Cx} {e o : Expr} {fa fb : FE} {apos cpos : Pos} (ho : ZE X o (rdE X.K fa)) (hb : ZE X e (rdE X.K fb)) (hbase : attributeBase o "split" X.env (eval o X.env) = eval o X.env := by rfl)
    (hfew : ((backTo cpos (starEach [e] X.env)).all (fun x => !x.1) && (backToKw cpos (keywordEach [] X.env)).all (fun x => x.1.isSome)
      && decide ([e].length + ([] : List Keyword).length + (if ([] : List Keyword).isEmpty then 0 else 1) < 30)) = true := by rfl)
    (hline : (apos.endLine == cpos.line) = true := by rfl) (hs : starEach [e] X.env = (false, eval e X.env) :: starEach [] X.env := by exact star_cons rfl) (hplain : (backTo cpos (starEach [] X.env)).any (·.1) = false := by exact star_any rfl) :
    ZE X (.Call (.Attribute o "split" apos) [e] [] cpos) (rdE X.K (fOp splD fa fb)) := by
  with_unfolding_all exact R.q_split ho hb hbase hfew hline hs hplain
theorem t_ninW {X : Cx} {a b : Expr} {fa fb : FE} {pos : Pos} (ha : ZE X a (rdE X.K fa)) (hb : ZE X b (rdE X.K fb)) (hm : behindInMarks .NotIn b = false := by rfl) : ZT X (.Compare a [.NotIn] [b] pos) (rdT X.K (fB (fOp (inW true) fa fb))) := by
  with_unfolding_all exact R.t_ninW ha hb hm
theorem t_inN {X : Cx} {a b : Expr} {fa fb : FE} {pos : Pos} (ha : ZE X a (rdE X.K fa)) (hb : ZE X b (rdE X.K fb)) (hm : behindInMarks .In b = false := by rfl) : ZT X (.Compare a [.In] [b] pos) (rdT X.K (fB (fOp (inN false) fa fb))) := by
  with_unfolding_all exact R.t_inN ha hb hm
section
variable {X : Cx} {e o : Expr} {es : List Expr} {fa : FE} {ga : FA} {apos cpos : Pos}
theorem q_app (ho : ZE X o (rdE X.K fa)) (ha : ZA X (e :: es) (rdA X.K ga)) (hbase : attributeBase o "append" X.env (eval o X.env) = eval o X.env := by rfl)
    (hfew : ((backTo cpos (starEach (e :: es) X.env)).all (fun x => !x.1) && (backToKw cpos (keywordEach [] X.env)).all (fun x => x.1.isSome)
      && decide ((e :: es).length + ([] : List Keyword).length + (if ([] : List Keyword).isEmpty then 0 else 1) < 30)) = true := by rfl)
    (hline : (apos.endLine == cpos.line) = true := by rfl) (hs : starEach (e :: es) X.env = (false, eval e X.env) :: starEach es X.env := by exact star_cons rfl) (hplain : (backTo cpos (starEach es X.env)).any (·.1) = false := by exact star_any rfl) :
    ZE X (.Call (.Attribute o "append" apos) (e :: es) [] cpos) (rdE X.K (fMt appD fa ga)) := by
  with_unfolding_all exact R.q_app ho ha hbase hfew hline hs hplain
end
theorem funOkP {P : Program} {w : World} {K : PySem.W.Frag} {mg : Str → Option Value} {base : Heap} {x qual : Str} {st : Stmt} {f : Addr} {fd : FuncData} {N ps : List Str} {k : Nat} {b : FS} (F : Fun K x qual st f fd) (S : FnScope N ps (defScope st))
    (hbody : ∀ (cdv : Value) (A : Around) (outer : List Env) (s : Shared) (H : Hp) (E : XK), Room k (A.deeper (envOfC qual (defScope st) s.heap.objs.size f cdv)) → ZSs (cxOf CX0 P w K mg base N qual (defScope st) f cdv A outer s H E).nox (defBody st) (rdS K b)) :
    FnOk P w K mg base CX0 (k + 1) f fd ps (spP K ps.length (runP N.length b)) := by
  with_unfolding_all exact Fun.okP F S hbody
end HW
namespace HW
open PySem L2
section
variable {ρ : Lo} {μ μ1 : Store} {x y : R} {d : D}
@[simp] theorem ev_v0 {ρ : Lo} : fVar 0 (some x :: ρ) μ = some (x, μ) := rfl
@[simp] theorem ev_vs {i : Nat} {o : Option R} {ρ : Lo} : fVar (i + 1) (o :: ρ) μ = fVar i ρ μ := by simp [fVar]
@[simp] theorem ev_k : fK d ρ μ = some (.v d, μ) := rfl
noncomputable def thOp (o : Option (R × Store)) (g : R → R → Store → Option (R × Store)) (fb : FE) (ρ : Lo) : Option (R × Store) := o.bind fun a => (fb ρ a.2).bind fun b => g a.1 b.1 b.2
noncomputable def thOp2 (x : R) (o : Option (R × Store)) (g : R → R → Store → Option (R × Store)) : Option (R × Store) := o.bind fun b => g x b.1 b.2
@[simp] theorem ev_op {g fa fb} : fOp g fa fb ρ μ = thOp (fa ρ μ) g fb ρ := rfl
@[simp] theorem ev_op1 {g fb} : thOp (some (x, μ)) g fb ρ = thOp2 x (fb ρ μ) g := rfl
@[simp] theorem ev_op2 {g} : thOp2 x (some (y, μ)) g = g x y μ := rfl
noncomputable def thUn (o : Option (R × Store)) (g : R → Store → Option (R × Store)) : Option (R × Store) := o.bind fun a => g a.1 a.2
@[simp] theorem ev_un {g fa} : fUn g fa ρ μ = thUn (fa ρ μ) g := rfl
@[simp] theorem ev_un1 {g} : thUn (some (x, μ)) g = g x μ := rfl
@[simp] theorem ev_nil : fNil ρ μ = some ([], μ) := rfl
noncomputable def thCons (o : Option (R × Store)) (fr : FA) (ρ : Lo) : Option (List R × Store) := o.bind fun a => (fr ρ a.2).bind fun r => some (a.1 :: r.1, r.2)
noncomputable def thCons2 (x : R) (o : Option (List R × Store)) : Option (List R × Store) := o.bind fun r => some (x :: r.1, r.2)
@[simp] theorem ev_cons {fa fr} : fCons fa fr ρ μ = thCons (fa ρ μ) fr ρ := rfl
@[simp] theorem ev_cons1 {fr} : thCons (some (x, μ)) fr ρ = thCons2 x (fr ρ μ) := rfl
@[simp] theorem ev_cons2 {xs} : thCons2 x (some (xs, μ)) = some (x :: xs, μ) := rfl
noncomputable def thAr (o : Option (List R × Store)) (g : List R → Store → Option (R × Store)) : Option (R × Store) := o.bind fun a => g a.1 a.2
@[simp] theorem ev_ar {g fa} : fAr g fa ρ μ = thAr (fa ρ μ) g := rfl
@[simp] theorem ev_ar1 {g xs} : thAr (some (xs, μ)) g = g xs μ := rfl
noncomputable def thB (o : Option (R × Store)) : Option (Bool × Store) := o.bind fun a => match a.1 with | .v (.bl b) => some (b, a.2) | _ => none
@[simp] theorem ev_B {fa} : fB fa ρ μ = thB (fa ρ μ) := rfl
@[simp] theorem ev_B1 {b} : thB (some (.v (.bl b), μ)) = some (b, μ) := rfl
noncomputable def thTru (o : Option (R × Store)) : Option (Bool × Store) := o.bind fun a => (truD a.1 a.2).bind fun b => some (b, a.2)
@[simp] theorem ev_tru {fa} : fTru fa ρ μ = thTru (fa ρ μ) := rfl
@[simp] theorem ev_tru1 {b} : thTru (some (.v (.bl b), μ)) = some (b, μ) := rfl
noncomputable def thAnd (o : Option (Bool × Store)) (u : FT) (ρ : Lo) : Option (Bool × Store) := o.bind fun c => if c.1 = true then u ρ c.2 else some (false, c.2)
noncomputable def thOr (o : Option (Bool × Store)) (u : FT) (ρ : Lo) : Option (Bool × Store) := o.bind fun c => if c.1 = true then some (true, c.2) else u ρ c.2
noncomputable def thNot (o : Option (Bool × Store)) : Option (Bool × Store) := o.bind fun c => some (!c.1, c.2)
@[simp] theorem ev_tand {t u} : tAndF t u ρ μ = thAnd (t ρ μ) u ρ := rfl
@[simp] theorem ev_tand1 {b u} : thAnd (some (b, μ)) u ρ = if b = true then u ρ μ else some (false, μ) := rfl
@[simp] theorem ev_tor {t u} : tOrF t u ρ μ = thOr (t ρ μ) u ρ := rfl
@[simp] theorem ev_tor1 {b u} : thOr (some (b, μ)) u ρ = if b = true then some (true, μ) else u ρ μ := rfl
@[simp] theorem ev_tnot {t} : tNotF t ρ μ = thNot (t ρ μ) := rfl
@[simp] theorem ev_tnot1 {b} : thNot (some (b, μ)) = some (!b, μ) := rfl
noncomputable def thAndV (o : Option (R × Store)) (fb : FE) (ρ : Lo) : Option (R × Store) := o.bind fun a => match a.1 with | .v (.bl c) => if c = true then fb ρ a.2 else some (.v (.bl false), a.2) | _ => none
noncomputable def thNotV (o : Option (R × Store)) : Option (R × Store) := o.bind fun a => match a.1 with | .v (.bl c) => some (.v (.bl (!c)), a.2) | _ => none
@[simp] theorem ev_and {fa fb} : fAnd fa fb ρ μ = thAndV (fa ρ μ) fb ρ := rfl
@[simp] theorem ev_and1 {c fb} : thAndV (some (.v (.bl c), μ)) fb ρ = if c = true then fb ρ μ else some (.v (.bl false), μ) := rfl
@[simp] theorem ev_not {fa} : fNot fa ρ μ = thNotV (fa ρ μ) := rfl
@[simp] theorem ev_not1 {c} : thNotV (some (.v (.bl c), μ)) = some (.v (.bl (!c)), μ) := rfl
noncomputable def thIf (o : Option (Bool × Store)) (fa fb : FE) (ρ : Lo) : Option (R × Store) := o.bind fun c => if c.1 = true then fa ρ c.2 else fb ρ c.2
@[simp] theorem ev_if {t fa fb} : fIf t fa fb ρ μ = thIf (t ρ μ) fa fb ρ := rfl
@[simp] theorem ev_if1 {c fa fb} : thIf (some (c, μ)) fa fb ρ = if c = true then fa ρ μ else fb ρ μ := rfl
noncomputable def thTup (o : Option (List R × Store)) : Option (R × Store) := o.bind fun a => (vals a.1).bind fun ds => if ds.length ≤ sizeLine then some (.v (.tup ds), a.2) else none
noncomputable def thLst (o : Option (List R × Store)) : Option (R × Store) := o.bind fun a => (vals a.1).bind fun ds => if ds.length ≤ sizeLine then some (.p a.2.length, a.2 ++ [.lst ds]) else none
@[simp] theorem ev_tup {fa} : fTup fa ρ μ = thTup (fa ρ μ) := rfl
@[simp] theorem ev_lst {fa} : fLst fa ρ μ = thLst (fa ρ μ) := rfl
@[simp] theorem ev_dnew : fDnew ρ μ = some (.p μ.length, μ ++ [.dct []]) := rfl
noncomputable def thFz (o : Option (R × Store)) : Option (R × Store) := o.bind fun a => (fzD a.1 a.2).bind fun b => some (.v b.1, b.2)
@[simp] theorem ev_fz {fa} : fFz fa ρ μ = thFz (fa ρ μ) := rfl
@[simp] theorem ev_fz1 : thFz (some (.v d, μ)) = some (.v d, μ) := rfl
noncomputable def thCall (o : Option (List R × Store)) (f : MF) (n : Nat) : Option (R × Store) := o.bind fun a => (vals a.1).bind fun ds => if ds.length = n then (f ds).bind fun d => some (.v d, a.2) else none
@[simp] theorem ev_call {f n fa} : fCall f n fa ρ μ = thCall (fa ρ μ) f n := rfl
@[simp] theorem ev_next : sNext ρ μ = some (.nx ρ μ) := rfl
noncomputable def thS (o : Option Out) (b : FS) : Option Out := o.bind fun o => match o with | .nx ρ' μ' => b ρ' μ' | o => some o
@[simp] theorem ev_seq {a b} : sSeq a b ρ μ = thS (a ρ μ) b := rfl
@[simp] theorem ev_seq1 {b} : thS (some (.nx ρ μ)) b = b ρ μ := rfl
@[simp] theorem ev_seq2 {b} : thS (some (.rt x μ)) b = some (.rt x μ) := rfl
@[simp] theorem ev_seq3 {b} : thS (some (.bk ρ μ)) b = some (.bk ρ μ) := rfl
@[simp] theorem ev_seq4 {b} : thS (some (.ct ρ μ)) b = some (.ct ρ μ) := rfl
noncomputable def thDrop (o : Option (R × Store)) (ρ : Lo) : Option Out := o.bind fun a => some (.nx ρ a.2)
@[simp] theorem ev_drop {f} : sDrop f ρ μ = thDrop (f ρ μ) ρ := rfl
@[simp] theorem ev_drop1 : thDrop (some (x, μ)) ρ = some (.nx ρ μ) := rfl
noncomputable def thRet (o : Option (R × Store)) : Option Out := o.bind fun a => some (.rt a.1 a.2)
@[simp] theorem ev_ret {f} : sRet f ρ μ = thRet (f ρ μ) := rfl
@[simp] theorem ev_ret1 : thRet (some (x, μ)) = some (.rt x μ) := rfl
noncomputable def thIfS (o : Option (Bool × Store)) (a b : FS) (ρ : Lo) : Option Out := o.bind fun c => if c.1 = true then a ρ c.2 else b ρ c.2
@[simp] theorem ev_ifS {t a b} : sIf t a b ρ μ = thIfS (t ρ μ) a b ρ := rfl
@[simp] theorem ev_ifT {a b} : thIfS (some (true, μ)) a b ρ = a ρ μ := rfl
@[simp] theorem ev_ifF {a b} : thIfS (some (false, μ)) a b ρ = b ρ μ := rfl
noncomputable def thSet (o : Option (R × Store)) (i : Nat) (ρ : Lo) : Option Out := o.bind fun a => some (.nx (ρ.set i (some a.1)) a.2)
@[simp] theorem ev_set {i f} : sSet i f ρ μ = thSet (f ρ μ) i ρ := rfl
@[simp] theorem ev_set1 {i} : thSet (some (x, μ)) i ρ = some (.nx (ρ.set i (some x)) μ) := rfl
noncomputable def thFor (o : Option (List D × Store)) (g : FG) (b : FS) (ρ : Lo) : Option Out := o.bind fun a => loop g b a.1 ρ a.2
@[simp] theorem ev_for {i g b} : sFor i g b ρ μ = thFor (i ρ μ) g b ρ := Eq.trans rfl rfl
@[simp] theorem ev_for1 {xs g b} : thFor (some (xs, μ)) g b ρ = loop g b xs ρ μ := Eq.trans rfl rfl
noncomputable def thSeq (o : Option (R × Store)) : Option (List D × Store) := o.bind fun a => match a.1 with | .v (.fl xs) => some (xs, a.2) | .v (.tup xs) => some (xs, a.2) | _ => none
@[simp] theorem ev_iseq {f} : fiSeq f ρ μ = thSeq (thFz (f ρ μ)) := rfl
@[simp] theorem ev_iseq1 {xs} : thSeq (some (.v (.fl xs), μ)) = some (xs, μ) := rfl
@[simp] theorem ev_iseq2 {xs} : thSeq (some (.v (.tup xs), μ)) = some (xs, μ) := rfl
noncomputable def thR1 (o : Option (R × Store)) : Option (List D × Store) := o.bind fun a => match a.1 with | .v (.int j) => if -(2 ^ 62) ≤ j ∧ j < 2 ^ 62 then some ((List.range j.toNat).map fun i => .int (i : Nat), a.2) else none | _ => none
@[simp] theorem ev_r1 {f} : fiR1 f ρ μ = thR1 (f ρ μ) := Eq.trans rfl rfl
theorem ev_r11 {j : Int} (h : -(2 ^ 62) ≤ j ∧ j < 2 ^ 62) : thR1 (some (.v (.int j), μ)) = some ((List.range j.toNat).map fun i => .int (i : Nat), μ) := by
  show (if -(2 ^ 62) ≤ j ∧ j < 2 ^ 62 then _ else _) = _
  rw [if_pos h]
noncomputable def thComp (o : Option (List D × Store)) (ix : List Nat) (k : Nat) (g : FG) (c : FT) (f : FE) (ρ : Lo) : Option (R × Store) := o.bind fun a => if a.1.length ≤ sizeLine then
  (compL g c f a.1 (blockLo k ix ρ) a.2).bind fun r => some (.p r.2.length, r.2 ++ [.lst r.1]) else none
@[simp] theorem ev_comp {ix k i g c f} : fComp ix k i g c f ρ μ = thComp (i ρ μ) ix k g c f ρ := Eq.trans rfl rfl
noncomputable def thSl (o : Option (R × Store)) (fl fh : FO) (ρ : Lo) : Option (R × Store) := o.bind fun a => (fl ρ a.2).bind fun l => (fh ρ l.2).bind fun h => slD a.1 l.1 h.1 h.2
noncomputable def thSl1 (x : R) (o : Option (Option Int × Store)) (fh : FO) (ρ : Lo) : Option (R × Store) := o.bind fun l => (fh ρ l.2).bind fun h => slD x l.1 h.1 h.2
noncomputable def thSl2 (x : R) (l : Option Int) (o : Option (Option Int × Store)) : Option (R × Store) := o.bind fun h => slD x l h.1 h.2
@[simp] theorem ev_sl {fa fl fh} : fSl fa fl fh ρ μ = thSl (fa ρ μ) fl fh ρ := rfl
@[simp] theorem ev_sl1 {fl fh} : thSl (some (x, μ)) fl fh ρ = thSl1 x (fl ρ μ) fh ρ := rfl
@[simp] theorem ev_sl2 {l fh} : thSl1 x (some (l, μ)) fh ρ = thSl2 x l (fh ρ μ) := rfl
@[simp] theorem ev_sl3 {l h} : thSl2 x l (some (h, μ)) = slD x l h μ := rfl
@[simp] theorem ev_slT {xs l h} : slD (.v (.tup xs)) l h μ = some (.v (.tup (cutD xs l h)), μ) := rfl
noncomputable def thO (o : Option (R × Store)) : Option (Option Int × Store) := o.bind fun a => match a.1 with | .v (.int i) => some (some i, a.2) | _ => none
@[simp] theorem ev_oN : oNone ρ μ = some (none, μ) := rfl
@[simp] theorem ev_oS {f} : oSome f ρ μ = thO (f ρ μ) := rfl
@[simp] theorem ev_oS1 {i} : thO (some (.v (.int i), μ)) = some (some i, μ) := rfl
noncomputable def thMt (o : Option (R × Store)) (g : R → List R → Store → Option (R × Store)) (ga : FA) (ρ : Lo) : Option (R × Store) := o.bind fun a => if isLst a.1 a.2 = true then (ga ρ a.2).bind fun b => g a.1 b.1 b.2 else none
noncomputable def thMt2 (x : R) (o : Option (List R × Store)) (g : R → List R → Store → Option (R × Store)) : Option (R × Store) := o.bind fun b => g x b.1 b.2
@[simp] theorem ev_mt {g fa ga} : fMt g fa ga ρ μ = thMt (fa ρ μ) g ga ρ := rfl
@[simp] theorem ev_mt2 {g xs} : thMt2 x (some (xs, μ)) g = g x xs μ := rfl
variable {i j : Int} {b c : Bool} {xs ys : List D}
@[simp] theorem ev_sub : subD (.v (.int i)) (.v (.int j)) μ = some (.v (.int (i - j)), μ) := rfl
@[simp] theorem ev_lt : ltD (.v (.int i)) (.v (.int j)) μ = some (.v (.bl (decide (i < j))), μ) := rfl
@[simp] theorem ev_le : leD (.v (.int i)) (.v (.int j)) μ = some (.v (.bl (decide (i ≤ j))), μ) := rfl
@[simp] theorem ev_gt : gtD (.v (.int i)) (.v (.int j)) μ = some (.v (.bl (decide (j < i))), μ) := rfl
@[simp] theorem ev_ge : geD (.v (.int i)) (.v (.int j)) μ = some (.v (.bl (decide (j ≤ i))), μ) := rfl
theorem ev_mod (h : 0 < j) : modD (.v (.int i)) (.v (.int j)) μ = some (.v (.int (i % j)), μ) := by simp [modD, iOp, h]
theorem ev_div (h : 0 < j) (h2 : j < 1073741824) : divD (.v (.int i)) (.v (.int j)) μ = some (.v (.int (i / j)), μ) := by simp [divD, iOp, h, h2]
theorem ev_mulR (h : -(2 ^ 64) < j ∧ j < 2 ^ 64) : mulD (.v (.int i)) (.v (.int j)) μ = some (.v (.int (i * j)), μ) := by
  show (if (decide (-(2 ^ 64) < i ∧ i < 2 ^ 64) || decide (-(2 ^ 64) < j ∧ j < 2 ^ 64)) = true then _ else _) = _
  rw [if_pos (by rw [Bool.or_eq_true]; exact .inr (decide_eq_true h))]
theorem ev_mulL (h : -(2 ^ 64) < i ∧ i < 2 ^ 64) : mulD (.v (.int i)) (.v (.int j)) μ = some (.v (.int (i * j)), μ) := by
  show (if (decide (-(2 ^ 64) < i ∧ i < 2 ^ 64) || decide (-(2 ^ 64) < j ∧ j < 2 ^ 64)) = true then _ else _) = _
  rw [if_pos (by rw [Bool.or_eq_true]; exact .inl (decide_eq_true h))]
theorem ev_pow (h : 0 ≤ j ∧ j ≤ 1000000 ∧ i.natAbs < 2 ^ 64) : powD (.v (.int i)) (.v (.int j)) μ = some (.v (.int (i ^ j.toNat)), μ) := by simp [powD, iOp, h]
@[simp] theorem ev_neg : negD (.v (.int i)) μ = some (.v (.int (-i)), μ) := rfl
theorem ev_eq {d e : D} (h1 : okD 60 d = true) (h2 : okD 60 e = true) : eqR false (.v d) (.v e) μ = some (.v (.bl (eqD d e)), μ) := by simp [eqR, viewD, h1, h2]
theorem bools_map (bs : List Bool) : boolsD (bs.map D.bl) = some bs := by induction bs <;> simp_all [boolsD]
@[simp] theorem ev_gnm {k : Nat} : gNm k x ρ μ = some (ρ.set k (some x), μ) := rfl
theorem at_int {α : Type} {xs : List α} {i : Int} {a : α} (h0 : 0 ≤ i) (h : xs[i.toNat]? = some a) : atI xs i = some a := by
  unfold atI ixN
  have hl := (List.getElem?_eq_some_iff.mp h).1
  rw [if_pos h0, if_pos (by omega)]
  simpa using h
noncomputable def finO (o : Option Out) : Option D := o.bind fin
@[simp] theorem ev_fin : finO (some (.rt (.v d) μ)) = some d := rfl
end
noncomputable def thG (o : Option (Lo × Store)) (b : FS) : Option Out := o.bind fun a => b a.1 a.2
@[simp] theorem ev_G {ρ : Lo} {μ : Store} {b : FS} : thG (some (ρ, μ)) b = b ρ μ := rfl
theorem loop_nx {g : FG} {b : FS} (I : Nat → Lo → Store → Prop) {xs : List D} {ρ : Lo} {μ : Store} (h0 : I 0 ρ μ)
    (hs : ∀ (i : Nat) x ρ μ, xs[i]? = some x → I i ρ μ → ∃ ρ' μ', thG (g (.v x) ρ μ) b = some (.nx ρ' μ') ∧ I (i + 1) ρ' μ') :
    ∃ ρ' μ', loop g b xs ρ μ = some (.nx ρ' μ') ∧ I xs.length ρ' μ' := by
  have key : ∀ (n : Nat) (ys : List D) (i : Nat) ρ μ, ys.length = n → xs.drop i = ys → i ≤ xs.length → I i ρ μ → ∃ ρ' μ', loop g b ys ρ μ = some (.nx ρ' μ') ∧ I xs.length ρ' μ' := by
    intro n
    induction n with
    | zero =>
      intro ys i ρ μ hn hd hi h
      have : ys = [] := List.eq_nil_of_length_eq_zero hn
      subst this
      have : i = xs.length := by
        have := congrArg List.length hd
        simp at this; omega
      subst this
      exact ⟨ρ, μ, rfl, h⟩
    | succ n ih =>
      intro ys i ρ μ hn hd hi h
      cases ys with
      | nil => simp at hn
      | cons y ys =>
        have hlt : i < xs.length := by
          have := congrArg List.length hd
          simp at this; omega
        have hc := List.drop_eq_getElem_cons hlt
        rw [hd] at hc
        injection hc with h1 h2
        obtain ⟨ρ', μ', e0, h'⟩ := hs i y ρ μ (by rw [h1]; exact List.getElem?_eq_getElem hlt) h
        obtain ⟨⟨ρ1, μ1⟩, e1, e2⟩ := Option.bind_eq_some_iff.mp e0
        obtain ⟨ρ2, μ2, e3, h3⟩ := ih ys (i + 1) ρ' μ' (by simpa using hn) h2.symm hlt h'
        exact ⟨ρ2, μ2, by simp only [loop, e1, e2, Option.bind_some]; exact e3, h3⟩
  exact key xs.length xs 0 ρ μ rfl (by simp) (Nat.zero_le _) h0
end HW
namespace HW
open PySem L2
section
variable {ρ : Lo} {μ μ1 : Store} {x y : R} {d : D}
end
end HW
namespace HW
open PySem L2
section
variable {ρ : Lo} {μ μ1 : Store} {x y : R} {d e : D} {n m : Nat} {xs ys : List D} {i j : Int} {b c : Bool}
noncomputable def cMt (o : Option Cell) (n : Nat) (g : R → List R → Store → Option (R × Store)) (ga : FA) (ρ : Lo) (μ : Store) : Option (R × Store) := match o with | some (.lst _) => thMt2 (.p n) (ga ρ μ) g | some (.fz _) => thMt2 (.p n) (ga ρ μ) g | _ => none
theorem ev_mtP {g ga} : thMt (some (.p n, μ)) g ga ρ = cMt μ[n]? n g ga ρ μ := by
  cases h : μ[n]? with
  | none => simp [thMt, isLst, cMt, h]
  | some c => cases c <;> simp [thMt, isLst, cMt, thMt2, h]
theorem ev_mtC {g ga} : cMt (some (.lst xs)) n g ga ρ μ = thMt2 (.p n) (ga ρ μ) g := rfl
noncomputable def cApp (o : Option Cell) (n : Nat) (d : D) (μ : Store) : Option (R × Store) := match o with | some (.lst xs) => if xs.length < sizeLine then some (.v .non, μ.set n (.lst (xs ++ [d]))) else none | _ => none
theorem ev_appP : appD (.p n) [.v d] μ = cApp μ[n]? n d μ := rfl
theorem ev_appC : cApp (some (.lst xs)) n d μ = if xs.length < sizeLine then some (.v .non, μ.set n (.lst (xs ++ [d]))) else none := rfl
noncomputable def cIt (o : Option Cell) : Option (List D) := match o with | some (.lst xs) => some xs | some (.fz xs) => some xs | _ => none
theorem ev_itT : itemsD (.v (.tup xs)) μ = some xs := rfl
theorem ev_itF : itemsD (.v (.fl xs)) μ = some xs := rfl
theorem ev_itP : itemsD (.p n) μ = cIt μ[n]? := rfl
theorem ev_itC : cIt (some (.lst xs)) = some xs := rfl
noncomputable def thIx (o : Option (List D)) (i : Int) (μ : Store) : Option (R × Store) := o.bind fun xs => (atI xs i).bind fun d => some (.v d, μ)
noncomputable def thIx2 (o : Option D) (μ : Store) : Option (R × Store) := o.bind fun d => some (.v d, μ)
theorem ev_ix : ixD x (.v (.int i)) μ = thIx (itemsD x μ) i μ := rfl
theorem ev_ix1 : thIx (some xs) i μ = thIx2 (atI xs i) μ := rfl
theorem ev_ix2 : thIx2 (some d) μ = some (.v d, μ) := rfl
theorem ev_at0 {a : D} {l : List D} : atI (a :: l) 0 = some a := at_int (by decide) rfl
theorem ev_at1 {a b : D} {l : List D} : atI (a :: b :: l) 1 = some b := at_int (by decide) rfl
theorem ev_at2 {a b c : D} {l : List D} : atI (a :: b :: c :: l) 2 = some c := at_int (by decide) rfl
theorem ev_at3 {a b c d : D} {l : List D} : atI (a :: b :: c :: d :: l) 3 = some d := at_int (by decide) rfl
noncomputable def thLen (o : Option (List D)) (μ : Store) : Option (R × Store) := o.bind fun xs => some (.v (.int xs.length), μ)
theorem ev_len : lenD [x] μ = thLen (itemsD x μ) μ := rfl
theorem ev_len1 : thLen (some xs) μ = some (.v (.int xs.length), μ) := rfl
noncomputable def thTp (o : Option (List D)) (μ : Store) : Option (R × Store) := o.bind fun xs => some (.v (.tup xs), μ)
theorem ev_tp : tupD [x] μ = thTp (itemsD x μ) μ := rfl
theorem ev_tp1 : thTp (some xs) μ = some (.v (.tup xs), μ) := rfl
noncomputable def cVw (o : Option Cell) : Option D := match o with | some (.lst xs) => some (.fl xs) | some (.fz xs) => some (.fl xs) | _ => none
theorem ev_vwV : viewD (.v d) μ = some d := rfl
theorem ev_vwP : viewD (.p n) μ = cVw μ[n]? := rfl
theorem ev_vwC : cVw (some (.lst xs)) = some (.fl xs) := rfl
noncomputable def thEq (o p : Option D) (neg : Bool) (μ : Store) : Option (R × Store) := o.bind fun a => p.bind fun b => if (okD 60 a && okD 60 b) = true then some (.v (.bl (if neg then !eqD a b else eqD a b)), μ) else none
theorem ev_eqR : eqR b x y μ = thEq (viewD x μ) (viewD y μ) b μ := rfl
theorem ev_eqF : thEq (some d) (some e) false μ = if (okD 60 d && okD 60 e) = true then some (.v (.bl (eqD d e)), μ) else none := rfl
theorem ev_eqT : thEq (some d) (some e) true μ = if (okD 60 d && okD 60 e) = true then some (.v (.bl (!eqD d e)), μ) else none := rfl
theorem ok_int : okD n (.int i) = true := by cases n <;> rfl
theorem eq_int : eqD (.int i) (.int j) = (i == j) := rfl
noncomputable def cFin (o : Option Cell) : Option D := match o with | some (.lst xs) => some (.fl xs) | some (.fz xs) => some (.fl xs) | some (.dct kvs) => some (.fd (kvs.map (·.1)) (kvs.map (·.2))) | some (.fzd kvs) => some (.fd (kvs.map (·.1)) (kvs.map (·.2))) | none => none
theorem ev_finPP : finO (some (.rt (.p n) μ)) = cFin μ[n]? := by
  cases h : μ[n]? with
  | none => simp [finO, fin, fzD, cFin, h]
  | some c => cases c <;> simp [finO, fin, fzD, cFin, h]
theorem ev_finC : cFin (some (.lst xs)) = some (.fl xs) := rfl
theorem ev_finN : finO (some (.nx ρ μ)) = some .non := rfl
noncomputable def cFz (o : Option Cell) (n : Nat) (μ : Store) : Option (R × Store) := match o with | some (.lst xs) => some (.v (.fl xs), μ.set n (.fz xs)) | some (.fz xs) => some (.v (.fl xs), μ) | some (.dct kvs) => some (.v (.fd (kvs.map (·.1)) (kvs.map (·.2))), μ.set n (.fzd kvs)) | some (.fzd kvs) => some (.v (.fd (kvs.map (·.1)) (kvs.map (·.2))), μ) | none => none
theorem ev_fzP : thFz (some (.p n, μ)) = cFz μ[n]? n μ := by
  cases h : μ[n]? with
  | none => simp [thFz, fzD, cFz, h]
  | some c => cases c <;> simp [thFz, fzD, cFz, h]
theorem ev_fzC : cFz (some (.lst xs)) n μ = some (.v (.fl xs), μ.set n (.fz xs)) := rfl
noncomputable def thVs (o : Option (List D)) (f : MF) (n : Nat) (μ : Store) : Option (R × Store) := o.bind fun ds => if ds.length = n then (f ds).bind fun d => some (.v d, μ) else none
noncomputable def thVr (o : Option D) (μ : Store) : Option (R × Store) := o.bind fun d => some (.v d, μ)
theorem ev_c1 {rs f n} : thCall (some (rs, μ)) f n = thVs (vals rs) f n μ := rfl
theorem ev_c2 {f : MF} {ds : List D} : thVs (some ds) f n μ = if ds.length = n then thVr (f ds) μ else none := rfl
theorem ev_c3 : thVr (some d) μ = some (.v d, μ) := rfl
noncomputable def thVc (d : D) (o : Option (List D)) : Option (List D) := o.bind fun ds => some (d :: ds)
theorem ev_vs0 : vals [] = some [] := rfl
theorem ev_vs1 {rs} : vals (.v d :: rs) = thVc d (vals rs) := by unfold thVc; cases h : vals rs <;> simp [vals, h]
theorem ev_vs2 {ds} : thVc d (some ds) = some (d :: ds) := rfl
noncomputable def thTv (o : Option (List D)) (μ : Store) : Option (R × Store) := o.bind fun ds => if ds.length ≤ sizeLine then some (.v (.tup ds), μ) else none
theorem ev_tv {rs} : thTup (some (rs, μ)) = thTv (vals rs) μ := rfl
theorem ev_tv1 {ds} : thTv (some ds) μ = if ds.length ≤ sizeLine then some (.v (.tup ds), μ) else none := rfl
noncomputable def thLv (o : Option (List D)) (μ : Store) : Option (R × Store) := o.bind fun ds => if ds.length ≤ sizeLine then some (.p μ.length, μ ++ [.lst ds]) else none
theorem ev_lv {rs} : thLst (some (rs, μ)) = thLv (vals rs) μ := rfl
theorem ev_lv1 {ds} : thLv (some ds) μ = if ds.length ≤ sizeLine then some (.p μ.length, μ ++ [.lst ds]) else none := rfl
theorem ev_slF {l h} : slD (.v (.fl xs)) l h μ = some (.p μ.length, μ ++ [.lst (cutD xs l h)]) := rfl
theorem ev_addQI : addQ (.v (.int i)) (.v (.int j)) μ = some (.v (.int (i + j)), μ) := rfl
noncomputable def cAdd (o p : Option Cell) (μ : Store) : Option (R × Store) := match o, p with | some (.lst xs), some (.lst ys) => if xs.length + ys.length ≤ sizeLine then some (.p μ.length, μ ++ [.lst (xs ++ ys)]) else none | _, _ => none
theorem ev_addQP : addQ (.p n) (.p m) μ = cAdd μ[n]? μ[m]? μ := rfl
theorem ev_addC : cAdd (some (.lst xs)) (some (.lst ys)) μ = if xs.length + ys.length ≤ sizeLine then some (.p μ.length, μ ++ [.lst (xs ++ ys)]) else none := rfl
theorem ev_str : strD [.v (.int i)] μ = if i.natAbs.log2 < 1920 then some (.v (.str (toString i)), μ) else none := rfl
noncomputable def thCo (o : Option (List D × Store)) : Option (R × Store) := o.bind fun r => some (.p r.2.length, r.2 ++ [.lst r.1])
theorem ev_compE {ix k g c f} : thComp (some (xs, μ)) ix k g c f ρ = if xs.length ≤ sizeLine then thCo (compL g c f xs (blockLo k ix ρ) μ) else none := Eq.trans rfl rfl
theorem ev_coE {r : List D} : thCo (some (r, μ)) = some (.p μ.length, μ ++ [.lst r]) := rfl
theorem ev_blk0 : blockLo 1 [] ρ = [none] := rfl
theorem ev_blk1 {i : Nat} : blockLo 1 [i] ρ = [none, (ρ[i]?).join] := rfl
theorem ev_blk2 {i j : Nat} : blockLo 1 [i, j] ρ = [none, (ρ[i]?).join, (ρ[j]?).join] := rfl
theorem ev_jn {x : Option R} : (some x).join = x := rfl
noncomputable def thAll (o : Option (List D)) (any : Bool) (μ : Store) : Option (R × Store) := o.bind fun xs => (boolsD xs).bind fun bs => some (.v (.bl (if any then bs.any id else bs.all id)), μ)
noncomputable def thAll2 (o : Option (List Bool)) (any : Bool) (μ : Store) : Option (R × Store) := o.bind fun bs => some (.v (.bl (if any then bs.any id else bs.all id)), μ)
theorem ev_all : allD b [x] μ = thAll (lstD x μ) b μ := rfl
theorem ev_all1 : thAll (some xs) b μ = thAll2 (boolsD xs) b μ := rfl
theorem ev_all2 {bs : List Bool} : thAll2 (some bs) false μ = some (.v (.bl (bs.all id)), μ) := rfl
theorem ev_lstP : lstD (.p n) μ = cIt μ[n]? := rfl
theorem sz2 : 2 ≤ sizeLine := by decide
theorem sz0 : 0 ≤ sizeLine := by decide
theorem small' {n : Nat} (h : n < 4000) : n < sizeLine := Nat.lt_of_lt_of_le h (by decide)
theorem small'' {n : Nat} (h : n < 4000) : n ≤ sizeLine := Nat.le_of_lt (small' h)
end
theorem ls_set0 {α : Type} {x y : α} {l : List α} : (x :: l).set 0 y = y :: l := rfl
theorem ls_sets {α : Type} {x y : α} {l : List α} {n : Nat} : (x :: l).set (n + 1) y = x :: l.set n y := rfl
theorem ls_get0 {α : Type} {x : α} {l : List α} : (x :: l)[0]? = some x := rfl
theorem ls_gets {α : Type} {x : α} {l : List α} {n : Nat} : (x :: l)[n + 1]? = l[n]? := rfl
theorem ls_len {α : Type} {x : α} {l : List α} : (x :: l).length = l.length + 1 := rfl
theorem ls_len0 {α : Type} : ([] : List α).length = 0 := rfl
theorem ls_app {α : Type} {x : α} {l r : List α} : (x :: l) ++ r = x :: (l ++ r) := rfl
theorem ls_app0 {α : Type} {r : List α} : [] ++ r = r := rfl
theorem ls_map0 {α β : Type} {f : α → β} : ([] : List α).map f = [] := rfl
theorem ls_n1 {n : Nat} : 0 + n = n := Nat.zero_add n
theorem ls_not1 : (!true) = false := rfl
theorem ls_not0 : (!false) = true := rfl
theorem ls_if0 {α : Type} {a b : α} : (if false = true then a else b) = b := rfl
section
variable {g : FG} {b : FS} {ρ : Lo} {μ : Store}
noncomputable def thLp (o : Option Out) (g : FG) (b : FS) (xs : List D) : Option Out := o.bind fun o => match o with
    | .nx ρ' μ' => loop g b xs ρ' μ'
    | .ct ρ' μ' => loop g b xs ρ' μ'
    | .bk ρ' μ' => some (.nx ρ' μ')
    | .rt d μ' => some (.rt d μ')
theorem loop_cons {x : D} {xs : List D} : loop g b (x :: xs) ρ μ = thLp (thG (g (.v x) ρ μ) b) g b xs := by
  show (g (.v x) ρ μ).bind _ = _
  cases e : g (.v x) ρ μ <;> rfl
theorem loop_nil : loop g b [] ρ μ = some (.nx ρ μ) := rfl
theorem lp_nx {xs} : thLp (some (.nx ρ μ)) g b xs = loop g b xs ρ μ := rfl
theorem loop_inv {α σ : Type} (e : α → D) (S : σ → Lo × Store) (P : σ → List α → Prop) : ∀ (as : List α) (s : σ), P s as →
    (∀ s a r, P s (a :: r) → ∃ s', thG (g (.v (e a)) (S s).1 (S s).2) b = some (.nx (S s').1 (S s').2) ∧ P s' r) →
    ∃ s', loop g b (as.map e) (S s).1 (S s).2 = some (.nx (S s').1 (S s').2) ∧ P s' []
  | [], s, h, _ => ⟨s, rfl, h⟩
  | a :: as, s, h, k => by
    obtain ⟨s1, h1, h2⟩ := k s a as h
    obtain ⟨s2, h3, h4⟩ := loop_inv e S P as s1 h2 k
    exact ⟨s2, by rw [List.map_cons, loop_cons, h1, lp_nx, h3], h4⟩
theorem loop_range (n : Nat) (I : Nat → Lo → Store → Prop) (h0 : I 0 ρ μ)
    (hs : ∀ i < n, ∀ ρ μ, I i ρ μ → ∃ ρ' μ', thG (g (.v (.int (i : Int))) ρ μ) b = some (.nx ρ' μ') ∧ I (i + 1) ρ' μ') :
    ∃ ρ' μ', loop g b ((List.range n).map fun i => .int ((i : Nat) : Int)) ρ μ = some (.nx ρ' μ') ∧ I n ρ' μ' := by
  obtain ⟨ρ', μ', e, h⟩ := loop_nx (g := g) (b := b) I (xs := (List.range n).map fun i => D.int ((i : Nat) : Int)) h0 fun i x ρ μ hx hI => by
    rw [List.getElem?_map] at hx
    obtain ⟨k, hk, rfl⟩ := Option.map_eq_some_iff.mp hx
    obtain ⟨hl, hk⟩ := List.getElem?_eq_some_iff.mp hk
    rw [List.getElem_range] at hk
    subst hk
    exact hs i (by simpa using hl) ρ μ hI
  exact ⟨ρ', μ', e, by simpa using h⟩
end
theorem comp_typed {α : Type} {f : FE} {μ : Store} {rest : Lo} (e out : α → D) : ∀ (xs : List α) (x0 : Option R), (∀ a ∈ xs, f (some (.v (e a)) :: rest) μ = some (.v (out a), μ)) → compL (gNm 0) cYes f (xs.map e) (x0 :: rest) μ = some (xs.map out, μ)
  | [], _, _ => rfl
  | a :: xs, x0, h => by
    have h1 := h a List.mem_cons_self
    have ih := comp_typed e out xs (some (.v (e a))) fun b hb => h b (List.mem_cons_of_mem _ hb)
    simp only [List.map_cons, compL, gNm, List.set_cons_zero, Option.bind_some, cYes, if_true, h1, ih]
end HW
local macro_rules
  | `(tactic| push_cast [$xs,*] $[$loc]?) => do
    let ids : Array (Lean.TSyntax `term) := ("sz2 sz0 ls_set0 ls_sets ls_get0 ls_gets ls_len ls_len0 ls_app ls_app0 ls_map0 ls_n1 ls_not1 ls_not0 ls_if0 loop_nil lp_nx ev_v0 ev_vs ev_k ev_op ev_op1 ev_op2 ev_un ev_un1 ev_nil ev_ar ev_ar1 ev_B ev_B1 ev_tru ev_tru1 ev_tand ev_tand1 ev_tor ev_tor1 ev_tnot ev_tnot1 ev_and ev_and1 ev_not ev_not1 ev_if ev_if1 ev_tup ev_lst ev_dnew ev_fz ev_fz1 ev_call ev_next ev_seq ev_seq1 ev_seq2 ev_seq3 ev_seq4 ev_drop ev_drop1 ev_ret ev_ret1 ev_ifS ev_ifT ev_ifF ev_for ev_for1 ev_iseq ev_iseq1 ev_iseq2 ev_r1 ev_mt ev_mt2 ev_sub ev_lt ev_le ev_gt ev_ge ev_neg ev_gnm ev_fin ev_G ev_mtP ev_mtC ev_appP ev_appC ev_itT ev_itF ev_itP ev_itC ev_ix ev_ix1 ev_ix2 ev_at0 ev_at1 ev_at2 ev_at3 ev_len ev_len1 ev_tp ev_tp1 ev_vwV ev_vwP ev_vwC ev_eqR ev_eqF ev_eqT ok_int eq_int ev_finPP ev_finC ev_fzP ev_fzC ev_c1 ev_c2 ev_c3 ev_vs0 ev_vs1 ev_vs2 ev_tv ev_tv1 ev_lv ev_lv1 ev_addQI ev_addQP ev_addC ev_lstP ev_cons ev_cons1 ev_cons2 ev_set ev_set1 ev_comp ev_sl ev_sl1 ev_sl2 ev_sl3 ev_slT ev_oN ev_oS ev_oS1 ev_finN ev_slF ev_str ev_compE ev_coE ev_blk0 ev_blk1 ev_blk2 ev_jn ev_all ev_all1 ev_all2".splitOn " ").toArray.map fun n => ⟨(Lean.mkIdent (String.toName ("HW." ++ n))).raw⟩
    `(tactic| simp -implicitDefEqProofs only [$xs,*, $[$ids:term],*, Nat.reduceAdd, if_true, Bool.and_self] $[$loc]?)
namespace LW
open PySem PySem.Spec PyProof.Rows L2 HW
noncomputable def top (i : Nat) : Stmt := PySem.Challenge.pw_heldwhen_k46_torn_rows.main.body.getD i (.Pass ⟨0, 0, 0, 0⟩)
noncomputable abbrev st_stretch_of : Stmt := top 12
theorem sc_stretch_of : FnScope ["low", "high"] ["low", "high"] (defScope st_stretch_of) := ⟨rfl, rfl, rfl, by decide +kernel, rfl, by decide +kernel, by decide +kernel⟩
noncomputable abbrev st_check_text : Stmt := top 18
theorem sc_check_text : FnScope ["thing"] ["thing"] (defScope st_check_text) := ⟨rfl, rfl, rfl, by decide +kernel, rfl, by decide +kernel, by decide +kernel⟩
noncomputable abbrev st_is_made_of : Stmt := top 19
theorem sc_is_made_of : FnScope ["text", "signs", "most"] ["text", "signs", "most"] (defScope st_is_made_of) := ⟨rfl, rfl, rfl, by decide +kernel, rfl, by decide +kernel, by decide +kernel⟩
noncomputable abbrev st_read_number : Stmt := top 20
theorem sc_read_number : FnScope ["text", "figures"] ["text"] (defScope st_read_number) := ⟨rfl, rfl, rfl, by decide +kernel, rfl, by decide +kernel, by decide +kernel⟩
noncomputable abbrev st_read_number_from : Stmt := top 21
theorem sc_read_number_from : FnScope ["text", "least", "number"] ["text", "least"] (defScope st_read_number_from) := ⟨rfl, rfl, rfl, by decide +kernel, rfl, by decide +kernel, by decide +kernel⟩
noncomputable abbrev st_read_end : Stmt := top 22
theorem sc_read_end : FnScope ["text"] ["text"] (defScope st_read_end) := ⟨rfl, rfl, rfl, by decide +kernel, rfl, by decide +kernel, by decide +kernel⟩
noncomputable abbrev st_read_letters : Stmt := top 23
theorem sc_read_letters : FnScope ["text"] ["text"] (defScope st_read_letters) := ⟨rfl, rfl, rfl, by decide +kernel, rfl, by decide +kernel, by decide +kernel⟩
noncomputable abbrev st_words_of : Stmt := top 24
theorem sc_words_of : FnScope ["text"] ["text"] (defScope st_words_of) := ⟨rfl, rfl, rfl, by decide +kernel, rfl, by decide +kernel, by decide +kernel⟩
noncomputable abbrev st_read_telling : Stmt := top 25
theorem sc_read_telling : FnScope ["text", "words", "turn", "name", "low", "high", "numbers"] ["text"] (defScope st_read_telling) := ⟨rfl, rfl, rfl, by decide +kernel, rfl, by decide +kernel, by decide +kernel⟩
noncomputable abbrev st_law_draw : Stmt := top 27
theorem sc_law_draw : FnScope ["script", "k", "many", "cell", "number"] ["script", "k", "many"] (defScope st_law_draw) := ⟨rfl, rfl, rfl, by decide +kernel, rfl, by decide +kernel, by decide +kernel⟩
noncomputable abbrev st_law_far : Stmt := top 28
theorem sc_law_far : FnScope ["script", "k", "number"] ["script", "k"] (defScope st_law_far) := ⟨rfl, rfl, rfl, by decide +kernel, rfl, by decide +kernel, by decide +kernel⟩
noncomputable abbrev st_law_name : Stmt := top 29
theorem sc_law_name : FnScope ["script", "k", "name", "j"] ["script", "k"] (defScope st_law_name) := ⟨rfl, rfl, rfl, by decide +kernel, rfl, by decide +kernel, by decide +kernel⟩
noncomputable abbrev st_law_number : Stmt := top 30
theorem sc_law_number : FnScope ["script", "k", "way"] ["script", "k"] (defScope st_law_number) := ⟨rfl, rfl, rfl, by decide +kernel, rfl, by decide +kernel, by decide +kernel⟩
noncomputable abbrev st_law_whole : Stmt := top 31
theorem sc_law_whole : FnScope ["some"] ["some"] (defScope st_law_whole) := ⟨rfl, rfl, rfl, by decide +kernel, rfl, by decide +kernel, by decide +kernel⟩
noncomputable abbrev st_law_tuple : Stmt := top 32
theorem sc_law_tuple : FnScope ["told", "due", "number"] ["told", "due"] (defScope st_law_tuple) := ⟨rfl, rfl, rfl, by decide +kernel, rfl, by decide +kernel, by decide +kernel⟩
noncomputable abbrev st_law_telling : Stmt := top 33
theorem sc_law_telling : FnScope ["script", "k", "low", "high", "way", "row", "kind"] ["script", "k"] (defScope st_law_telling) := ⟨rfl, rfl, rfl, by decide +kernel, rfl, by decide +kernel, by decide +kernel⟩
noncomputable abbrev st_law_end : Stmt := top 34
theorem sc_law_end : FnScope ["end"] ["end"] (defScope st_law_end) := ⟨rfl, rfl, rfl, by decide +kernel, rfl, by decide +kernel, by decide +kernel⟩
noncomputable abbrev st_law_written : Stmt := top 35
theorem sc_law_written : FnScope ["turn", "telling", "words", "number"] ["turn", "telling"] (defScope st_law_written) := ⟨rfl, rfl, rfl, by decide +kernel, rfl, by decide +kernel, by decide +kernel⟩
noncomputable abbrev st_law_alike : Stmt := top 36
theorem sc_law_alike : FnScope ["told", "turn", "telling", "some", "end"] ["told", "turn", "telling"] (defScope st_law_alike) := ⟨rfl, rfl, rfl, by decide +kernel, rfl, by decide +kernel, by decide +kernel⟩
noncomputable abbrev st_law_read : Stmt := top 37
theorem sc_law_read : FnScope ["word", "figures"] ["word"] (defScope st_law_read) := ⟨rfl, rfl, rfl, by decide +kernel, rfl, by decide +kernel, by decide +kernel⟩
noncomputable abbrev st_law_due : Stmt := top 38
theorem sc_law_due : FnScope ["text", "words", "name", "numbers", "ends"] ["text"] (defScope st_law_due) := ⟨rfl, rfl, rfl, by decide +kernel, rfl, by decide +kernel, by decide +kernel⟩
noncomputable abbrev st_law_changed : Stmt := top 39
theorem sc_law_changed : FnScope ["script", "k", "text", "words", "way", "at", "some", "word"] ["script", "k", "text"] (defScope st_law_changed) := ⟨rfl, rfl, rfl, by decide +kernel, rfl, by decide +kernel, by decide +kernel⟩
noncomputable abbrev st_law_good : Stmt := top 40
theorem sc_law_good : FnScope ["text", "due", "kinds", "told", "e"] ["text", "due"] (defScope st_law_good) := ⟨rfl, rfl, rfl, by decide +kernel, rfl, by decide +kernel, by decide +kernel⟩
noncomputable abbrev st_law : Stmt := top 41
theorem sc_law : FnScope ["script", "telling", "turn", "text", "size", "k", "other"] ["script"] (defScope st_law) := ⟨rfl, rfl, rfl, by decide +kernel, rfl, by decide +kernel, by decide +kernel⟩
noncomputable abbrev b_stretch_of : FS := (sSeq (sIf (tAndF (fB (fUn (isK false .non) (fVar 0))) (fB (fUn (isK false .non) (fVar 1))))
    (sRet (fK (.tup [(.bl true), (.tup [])])))
    sNext)
    (sSeq (sIf (fB (fUn (isK false .non) (fVar 0)))
    (sRet (fTup (fCons (fK (.bl true)) (fCons (fTup (fCons (fVar 1) fNil)) fNil))))
    sNext)
    (sSeq (sIf (fB (fUn (isK false .non) (fVar 1)))
    (sRet (fTup (fCons (fK (.bl false)) (fCons (fTup (fCons (fVar 0) fNil)) fNil))))
    sNext)
    (sSeq (sIf (fB (fOp leD (fVar 1) (fVar 0)))
    (sRet (fK (.tup [(.bl false), (.tup [])])))
    sNext)
    (sRet (fTup (fCons (fK (.bl false)) (fCons (fTup (fCons (fVar 0) (fCons (fVar 1) fNil))) fNil))))))))
noncomputable def m_stretch_of : MF := runP 2 (b_stretch_of)
noncomputable abbrev b_check_text : FS := (sIf (tNotF (fTru (fUn (isiD "str") (fVar 0))))
    sStuck
    sNext)
noncomputable def m_check_text : MF := runP 1 (b_check_text)
noncomputable abbrev y_check_text : XB := (xIf (tNotF (fTru (fUn (isiD "str") (fVar 0)))) (xRaise "NoText" fun _ => true) xNo)
noncomputable def x_check_text : List D → Option Str := runX 1 (y_check_text)
noncomputable abbrev b_is_made_of : FS := (sRet (fAnd (fCh leD leD (fK (.int 1)) (fAr lenS (fCons (fVar 0) fNil)) (fVar 2)) (fAr (allD false) (fCons (fComp [1] 1 (fiStr (fVar 0)) (gNm 0) cYes (fOp (inS false) (fVar 0) (fVar 1))) fNil))))
noncomputable def m_is_made_of : MF := runP 3 (b_is_made_of)
noncomputable abbrev b_law_draw : FS := (sSeq (sIf (fB (fOp (eqR false) (fAr lenD (fCons (fVar 0) fNil)) (fK (.int 0))))
    (sRet (fK (.int 0)))
    sNext)
    (sSeq (sSet 3 (fOp modD (fOp ixD (fVar 0) (fOp modD (fVar 1) (fAr lenD (fCons (fVar 0) fNil)))) (fK (.int 1000000007))))
    (sSeq (sSet 4 (fOp modD (fOp mulD (fOp addQ (fVar 3) (fK (.int 5))) (fOp addQ (fK (.int 40692)) (fOp mulD (fK (.int 977)) (fVar 1)))) (fK (.int 2147483629))))
    (sSeq (sSet 4 (fOp modD (fOp mulD (fOp addQ (fVar 4) (fVar 1)) (fOp addQ (fVar 4) (fK (.int 3)))) (fK (.int 2147483647))))
    (sRet (fOp modD (fOp divD (fVar 4) (fK (.int 13))) (fVar 2)))))))
noncomputable def m_law_draw : MF := runP 5 (b_law_draw)
noncomputable abbrev b_law_whole : FS := (sRet (fAnd (fUn (isiD "int") (fVar 0)) (fNot (fUn (isiD "bool") (fVar 0)))))
noncomputable def m_law_whole : MF := runP 1 (b_law_whole)
noncomputable abbrev b_law_end : FS := (sSeq (sIf (fB (fUn (isK false .non) (fVar 0)))
    (sRet (fK (.str "-")))
    sNext)
    (sRet (fAr strD (fCons (fVar 0) fNil))))
noncomputable def m_law_end : MF := runP 1 (b_law_end)
noncomputable abbrev b_law_read : FS := (sSeq (sSet 1 (fVar 0))
    (sSeq (sIf (fB (fOp (eqR false) (fSlS (fVar 0) oNone (oSome (fK (.int 1)))) (fK (.str "-"))))
    (sSet 1 (fSlS (fVar 0) (oSome (fK (.int 1))) oNone))
    sNext)
    (sSeq (sIf (tOrF (fB (fOp ltD (fAr lenS (fCons (fVar 1) fNil)) (fK (.int 1)))) (tOrF (fB (fOp gtD (fAr lenS (fCons (fVar 1) fNil)) (fK (.int 60)))) (fB (fOp (eqR true) (fComp [] 1 (fiStr (fVar 1)) (gNm 0) (fB (fOp (inS true) (fVar 0) (fK (.str "0123456789")))) (fVar 0)) (fLst fNil)))))
    (sRet (fK .non))
    sNext)
    (sSeq (sIf (tAndF (fB (fOp (eqR false) (fOp ixS (fVar 1) (fK (.int 0))) (fK (.str "0")))) (fB (fOp (eqR true) (fVar 0) (fK (.str "0")))))
    (sRet (fK .non))
    sNext)
    (sRet (fAr intS (fCons (fVar 0) fNil)))))))
noncomputable def m_law_read : MF := runP 2 (b_law_read)
noncomputable abbrev b_read_number : FS := (sSeq (sDrop (fCall m_check_text 1 (fCons (fFz (fVar 0)) fNil)))
    (sSeq (sSet 1 (fIf (fTru (fSw (fVar 0) (fK (.str "-")))) (fSlS (fVar 0) (oSome (fK (.int 1))) oNone) (fVar 0)))
    (sSeq (sIf (tNotF (fTru (fCall m_is_made_of 3 (fCons (fFz (fVar 1)) (fCons (fFz (fK (.str "0123456789"))) (fCons (fFz (fK (.int (60)))) fNil))))))
    sStuck
    sNext)
    (sSeq (sIf (tAndF (fB (fOp (eqR false) (fOp ixS (fVar 1) (fK (.int 0))) (fK (.str "0")))) (fB (fOp (eqR true) (fVar 0) (fK (.str "0")))))
    sStuck
    sNext)
    (sRet (fAr intS (fCons (fVar 0) fNil)))))))
noncomputable def m_read_number : MF := runP 2 (b_read_number)
noncomputable abbrev y_read_number : XB := (xOr (xCall x_check_text 1 (fCons (fFz (fVar 0)) fNil))
    (xThen (sDrop (fCall m_check_text 1 (fCons (fFz (fVar 0)) fNil)))
    (xThen (sSet 1 (fIf (fTru (fSw (fVar 0) (fK (.str "-")))) (fSlS (fVar 0) (oSome (fK (.int 1))) oNone) (fVar 0)))
    (xOr (xIf (tNotF (fTru (fCall m_is_made_of 3 (fCons (fFz (fVar 1)) (fCons (fFz (fK (.str "0123456789"))) (fCons (fFz (fK (.int (60)))) fNil)))))) (xRaise "NoText" (okFs "no number: " 0)) xNo)
    (xThen (sIf (tNotF (fTru (fCall m_is_made_of 3 (fCons (fFz (fVar 1)) (fCons (fFz (fK (.str "0123456789"))) (fCons (fFz (fK (.int (60)))) fNil))))))
    sStuck
    sNext)
    (xIf (tAndF (fB (fOp (eqR false) (fOp ixS (fVar 1) (fK (.int 0))) (fK (.str "0")))) (fB (fOp (eqR true) (fVar 0) (fK (.str "0"))))) (xRaise "NoText" (okFs "a number with a 0 ahead, or below 0 without being so: " 0)) xNo))))))
noncomputable def x_read_number : List D → Option Str := runX 2 (y_read_number)
noncomputable abbrev b_read_letters : FS := (sSeq (sIf (tNotF (fTru (fCall m_is_made_of 3 (fCons (fFz (fVar 0)) (fCons (fFz (fK (.str "abcdefghijklmnopqrstuvwxyz"))) (fCons (fFz (fK (.int (8)))) fNil))))))
    sStuck
    sNext)
    (sRet (fVar 0)))
noncomputable def m_read_letters : MF := runP 1 (b_read_letters)
noncomputable abbrev y_read_letters : XB := (xIf (tNotF (fTru (fCall m_is_made_of 3 (fCons (fFz (fVar 0)) (fCons (fFz (fK (.str "abcdefghijklmnopqrstuvwxyz"))) (fCons (fFz (fK (.int (8)))) fNil)))))) (xRaise "NoText" (okFs "no word of one to eight small letters: " 0)) xNo)
noncomputable def x_read_letters : List D → Option Str := runX 1 (y_read_letters)
noncomputable abbrev b_words_of : FS := (sSeq (sDrop (fCall m_check_text 1 (fCons (fFz (fVar 0)) fNil)))
    (sRet (fOp splD (fVar 0) (fK (.str " ")))))
noncomputable def m_words_of : MF := runP 1 (b_words_of)
noncomputable abbrev y_words_of : XB := (xCall x_check_text 1 (fCons (fFz (fVar 0)) fNil))
noncomputable def x_words_of : List D → Option Str := runX 1 (y_words_of)
noncomputable abbrev b_law_far : FS := (sSeq (sIf (fB (fOp (eqR false) (fAr lenD (fCons (fVar 0) fNil)) (fK (.int 0))))
    (sRet (fK (.int 0)))
    sNext)
    (sSeq (sSet 2 (fOp addQ (fCall m_law_draw 3 (fCons (fFz (fVar 0)) (fCons (fFz (fVar 1)) (fCons (fK (.int 100000000)) fNil)))) (fK (.int 1))))
    (sRet (fOp modD (fOp addQ (fOp mulD (fOp modD (fOp ixD (fVar 0) (fOp modD (fVar 1) (fAr lenD (fCons (fVar 0) fNil)))) (fOp powD (fK (.int 10)) (fK (.int 50)))) (fVar 2)) (fOp powD (fVar 2) (fK (.int 5)))) (fOp powD (fK (.int 10)) (fK (.int 50)))))))
noncomputable def m_law_far : MF := runP 3 (b_law_far)
noncomputable abbrev l_law_name_0 : FS := (sSet 2 (fOp addQ (fVar 2) (fOp ixS (fK (.str "abcdefghijklmnopqrstuvwxyz")) (fCall m_law_draw 3 (fCons (fFz (fVar 0)) (fCons (fFz (fOp addQ (fOp addQ (fVar 1) (fK (.int 1))) (fVar 3))) (fCons (fK (.int 26)) fNil)))))))
noncomputable abbrev b_law_name : FS := (sSeq (sSet 2 (fK (.str "")))
    (sSeq (sFor (fiR1 (fOp addQ (fK (.int 1)) (fCall m_law_draw 3 (fCons (fFz (fVar 0)) (fCons (fFz (fVar 1)) (fCons (fK (.int 8)) fNil)))))) (gNm 3)
    l_law_name_0)
    (sRet (fVar 2))))
noncomputable def m_law_name : MF := runP 4 (b_law_name)
noncomputable abbrev l_law_tuple_0 : FS := (sIf (tNotF (fTru (fCall m_law_whole 1 (fCons (fFz (fVar 2)) fNil))))
    (sRet (fK (.bl false)))
    sNext)
noncomputable abbrev b_law_tuple : FS := (sSeq (sIf (tOrF (tNotF (fTru (fUn (isiD "tuple") (fVar 0)))) (fB (fOp (eqR true) (fAr lenD (fCons (fVar 0) fNil)) (fAr lenD (fCons (fVar 1) fNil)))))
    (sRet (fK (.bl false)))
    sNext)
    (sSeq (sFor (fiSeq (fVar 0)) (gNm 2)
    l_law_tuple_0)
    (sRet (fOp (eqR false) (fVar 0) (fVar 1)))))
noncomputable def m_law_tuple : MF := runP 3 (b_law_tuple)
noncomputable abbrev l_law_written_0 : FS := (sDrop (fMt appD (fVar 2) (fCons (fAr strD (fCons (fVar 3) fNil)) fNil)))
noncomputable abbrev b_law_written : FS := (sSeq (sSet 2 (fLst (fCons (fOp ixD (fVar 1) (fK (.int 0))) (fCons (fAr strD (fCons (fVar 0) fNil)) (fCons (fOp ixD (fVar 1) (fK (.int 1))) (fCons (fCall m_law_end 1 (fCons (fFz (fOp ixD (fVar 1) (fK (.int 3)))) fNil)) (fCons (fCall m_law_end 1 (fCons (fFz (fOp ixD (fVar 1) (fK (.int 4)))) fNil)) fNil)))))))
    (sSeq (sFor (fiSeq (fOp ixD (fVar 1) (fK (.int 2)))) (gNm 3)
    l_law_written_0)
    (sRet (fOp joinD (fK (.str " ")) (fOp addQ (fVar 2) (fLst (fCons (fK (.str ".")) fNil)))))))
noncomputable def m_law_written : MF := runP 4 (b_law_written)
noncomputable abbrev b_law_due : FS := (sSeq (sSet 1 (fOp splD (fVar 0) (fK (.str " "))))
    (sSeq (sIf (tOrF (fB (fOp ltD (fAr lenD (fCons (fVar 1) fNil)) (fK (.int 6)))) (tOrF (fB (fOp (inW true) (fOp ixD (fVar 1) (fK (.int 0))) (fTup (fCons (fK (.str "tell")) (fCons (fK (.str "strike")) fNil))))) (fB (fOp (eqR true) (fOp ixD (fVar 1) (fUn negD (fK (.int 1)))) (fK (.str "."))))))
    (sRet (fK .non))
    sNext)
    (sSeq (sSet 2 (fOp ixD (fVar 1) (fK (.int 2))))
    (sSeq (sIf (tOrF (fB (fOp ltD (fAr lenS (fCons (fVar 2) fNil)) (fK (.int 1)))) (fB (fOp gtD (fAr lenS (fCons (fVar 2) fNil)) (fK (.int 8)))))
    (sRet (fK .non))
    sNext)
    (sSeq (sIf (fB (fOp (eqR true) (fComp [] 1 (fiStr (fVar 2)) (gNm 0) (fB (fOp (inS true) (fVar 0) (fK (.str "abcdefghijklmnopqrstuvwxyz")))) (fVar 0)) (fLst fNil)))
    (sRet (fK .non))
    sNext)
    (sSeq (sSet 3 (fComp [] 1 (fiSeq (fOp addQ (fSl (fVar 1) (oSome (fK (.int 1))) (oSome (fK (.int 2)))) (fSl (fVar 1) (oSome (fK (.int 5))) (oSome (fUn negD (fK (.int 1))))))) (gNm 0) cYes (fCall m_law_read 1 (fCons (fFz (fVar 0)) fNil))))
    (sSeq (sSet 4 (fComp [] 1 (fiSeq (fSl (fVar 1) (oSome (fK (.int 3))) (oSome (fK (.int 5))))) (gNm 0) (fB (fOp (eqR true) (fVar 0) (fK (.str "-")))) (fCall m_law_read 1 (fCons (fFz (fVar 0)) fNil))))
    (sSeq (sIf (tOrF (fB (fOp (inN false) (fK .non) (fVar 3))) (tOrF (fB (fOp (inN false) (fK .non) (fVar 4))) (fB (fOp ltD (fOp ixD (fVar 3) (fK (.int 0))) (fK (.int 1))))))
    (sRet (fK .non))
    sNext)
    (sSeq (sIf (tAndF (fB (fOp (eqR false) (fAr lenD (fCons (fVar 4) fNil)) (fK (.int 2)))) (fB (fOp geD (fOp ixD (fVar 4) (fK (.int 0))) (fOp ixD (fVar 4) (fK (.int 1))))))
    (sRet (fK .non))
    sNext)
    (sSeq (sSet 4 (fComp [] 1 (fiSeq (fSl (fVar 1) (oSome (fK (.int 3))) (oSome (fK (.int 5))))) (gNm 0) cYes (fIf (fB (fOp (eqR false) (fVar 0) (fK (.str "-")))) (fK .non) (fCall m_law_read 1 (fCons (fFz (fVar 0)) fNil)))))
    (sRet (fTup (fCons (fOp ixD (fVar 3) (fK (.int 0))) (fCons (fTup (fCons (fOp ixD (fVar 1) (fK (.int 0))) (fCons (fVar 2) (fCons (fAr tupD (fCons (fSl (fVar 3) (oSome (fK (.int 1))) oNone) fNil)) (fCons (fOp ixD (fVar 4) (fK (.int 0))) (fCons (fOp ixD (fVar 4) (fK (.int 1))) fNil)))))) fNil))))))))))))))
noncomputable def m_law_due : MF := runP 5 (b_law_due)
noncomputable abbrev b_law_changed : FS := (sSeq (sSet 3 (fOp splD (fVar 2) (fK (.str " "))))
    (sSeq (sSet 4 (fCall m_law_draw 3 (fCons (fFz (fVar 0)) (fCons (fFz (fVar 1)) (fCons (fK (.int 6)) fNil)))))
    (sSeq (sSet 5 (fCall m_law_draw 3 (fCons (fFz (fVar 0)) (fCons (fFz (fOp addQ (fVar 1) (fK (.int 63)))) (fCons (fFz (fAr lenD (fCons (fVar 3) fNil))) fNil)))))
    (sSeq (sSet 6 (fLst (fCons (fK (.str "")) (fCons (fK (.str "-")) (fCons (fK (.str ".")) (fCons (fK (.str "0")) (fCons (fK (.str "-0")) (fCons (fK (.str "7")) (fCons (fK (.str "-12")) (fCons (fK (.str "tell")) (fCons (fK (.str "strike")) (fCons (fK (.str "ab")) (fCons (fK (.str "Ab")) (fCons (fK (.str "abcdefghi")) (fCons (fK (.str "1_0")) (fCons (fK (.str "+3")) (fCons (fK (.str "01")) (fCons (fK (.str "--")) fNil))))))))))))))))))
    (sSeq (sSet 7 (fOp ixD (fVar 6) (fCall m_law_draw 3 (fCons (fFz (fVar 0)) (fCons (fFz (fOp addQ (fVar 1) (fK (.int 126)))) (fCons (fK (.int 16)) fNil))))))
    (sSeq (sIf (fB (fOp ltD (fVar 4) (fK (.int 2))))
    (sRet (fOp joinD (fK (.str " ")) (fOp addQ (fOp addQ (fSl (fVar 3) oNone (oSome (fVar 5))) (fLst (fCons (fVar 7) fNil))) (fSl (fVar 3) (oSome (fOp addQ (fVar 5) (fK (.int 1)))) oNone))))
    sNext)
    (sSeq (sIf (fB (fOp (eqR false) (fVar 4) (fK (.int 2))))
    (sRet (fOp joinD (fK (.str " ")) (fOp addQ (fOp addQ (fSl (fVar 3) oNone (oSome (fVar 5))) (fLst (fCons (fVar 7) fNil))) (fSl (fVar 3) (oSome (fVar 5)) oNone))))
    sNext)
    (sSeq (sIf (fB (fOp (eqR false) (fVar 4) (fK (.int 3))))
    (sRet (fOp joinD (fK (.str " ")) (fOp addQ (fSl (fVar 3) oNone (oSome (fVar 5))) (fSl (fVar 3) (oSome (fOp addQ (fVar 5) (fK (.int 1)))) oNone))))
    sNext)
    (sSeq (sSet 5 (fCall m_law_draw 3 (fCons (fFz (fVar 0)) (fCons (fFz (fOp addQ (fVar 1) (fK (.int 189)))) (fCons (fFz (fOp addQ (fAr lenS (fCons (fVar 2) fNil)) (fK (.int 1)))) fNil)))))
    (sRet (fOp addQ (fOp addQ (fSlS (fVar 2) oNone (oSome (fVar 5))) (fOp ixS (fK (.str "_+ .-0a\n\t7")) (fCall m_law_draw 3 (fCons (fFz (fVar 0)) (fCons (fFz (fOp addQ (fVar 1) (fK (.int 252)))) (fCons (fK (.int 10)) fNil)))))) (fSlS (fVar 2) (oSome (fVar 5)) oNone))))))))))))
noncomputable def m_law_changed : MF := runP 8 (b_law_changed)
noncomputable abbrev b_read_number_from : FS := (sSeq (sSet 2 (fCall m_read_number 1 (fCons (fFz (fVar 0)) fNil)))
    (sSeq (sIf (fB (fOp ltD (fVar 2) (fVar 1)))
    sStuck
    sNext)
    (sRet (fVar 2))))
noncomputable def m_read_number_from : MF := runP 3 (b_read_number_from)
noncomputable abbrev y_read_number_from : XB := (xOr (xCall x_read_number 1 (fCons (fFz (fVar 0)) fNil))
    (xThen (sSet 2 (fCall m_read_number 1 (fCons (fFz (fVar 0)) fNil)))
    (xIf (fB (fOp ltD (fVar 2) (fVar 1))) (xRaise "NoText" (fun ρ => (okIn 2) ρ && (fun ρ => (fun _ => true) ρ && (fun ρ => (okIn 1) ρ && (fun ρ => (fun _ => true) ρ && (fun _ => true) ρ) ρ) ρ) ρ)) xNo)))
noncomputable def x_read_number_from : List D → Option Str := runX 3 (y_read_number_from)
noncomputable abbrev b_read_end : FS := (sRet (fIf (fB (fOp (eqR false) (fVar 0) (fK (.str "-")))) (fK .non) (fCall m_read_number 1 (fCons (fFz (fVar 0)) fNil))))
noncomputable def m_read_end : MF := runP 1 (b_read_end)
noncomputable abbrev y_read_end : XB := (xIf (fB (fOp (eqR false) (fVar 0) (fK (.str "-")))) xNo (xCall x_read_number 1 (fCons (fFz (fVar 0)) fNil)))
noncomputable def x_read_end : List D → Option Str := runX 1 (y_read_end)
noncomputable abbrev b_law_number : FS := (sSeq (sSet 2 (fCall m_law_draw 3 (fCons (fFz (fVar 0)) (fCons (fFz (fVar 1)) (fCons (fK (.int 5)) fNil)))))
    (sSeq (sIf (fB (fOp ltD (fVar 2) (fK (.int 2))))
    (sRet (fOp subD (fCall m_law_draw 3 (fCons (fFz (fVar 0)) (fCons (fFz (fOp addQ (fVar 1) (fK (.int 1)))) (fCons (fK (.int 25)) fNil)))) (fK (.int 12))))
    sNext)
    (sSeq (sIf (fB (fOp (eqR false) (fVar 2) (fK (.int 2))))
    (sRet (fOp subD (fOp subD (fOp powD (fK (.int 10)) (fK (.int 60))) (fK (.int 1))) (fCall m_law_draw 3 (fCons (fFz (fVar 0)) (fCons (fFz (fOp addQ (fVar 1) (fK (.int 1)))) (fCons (fK (.int 3)) fNil))))))
    sNext)
    (sSeq (sIf (fB (fOp (eqR false) (fVar 2) (fK (.int 3))))
    (sRet (fOp addQ (fOp subD (fK (.int 1)) (fOp powD (fK (.int 10)) (fK (.int 60)))) (fCall m_law_draw 3 (fCons (fFz (fVar 0)) (fCons (fFz (fOp addQ (fVar 1) (fK (.int 1)))) (fCons (fK (.int 3)) fNil))))))
    sNext)
    (sRet (fOp subD (fCall m_law_far 2 (fCons (fFz (fVar 0)) (fCons (fFz (fOp addQ (fVar 1) (fK (.int 1)))) fNil))) (fOp mulD (fK (.int 5)) (fOp powD (fK (.int 10)) (fK (.int 49))))))))))
noncomputable def m_law_number : MF := runP 3 (b_law_number)
noncomputable abbrev l_law_alike_0 : FS := (sIf (tAndF (fB (fUn (isK true .non) (fVar 4))) (tNotF (fTru (fCall m_law_whole 1 (fCons (fFz (fVar 4)) fNil)))))
    (sRet (fK (.bl false)))
    sNext)
noncomputable abbrev b_law_alike : FS := (sSeq (sIf (tOrF (tNotF (fTru (fUn (isiD "tuple") (fVar 0)))) (tOrF (fB (fOp (eqR true) (fAr lenD (fCons (fVar 0) fNil)) (fK (.int 2)))) (tOrF (tNotF (fTru (fCall m_law_whole 1 (fCons (fFz (fOp ixD (fVar 0) (fK (.int 0)))) fNil)))) (fB (fOp (eqR true) (fOp ixD (fVar 0) (fK (.int 0))) (fVar 1))))))
    (sRet (fK (.bl false)))
    sNext)
    (sSeq (sSet 3 (fOp ixD (fVar 0) (fK (.int 1))))
    (sSeq (sIf (tOrF (tNotF (fTru (fUn (isiD "tuple") (fVar 3)))) (tOrF (fB (fOp (eqR true) (fAr lenD (fCons (fVar 3) fNil)) (fK (.int 5)))) (fB (fOp (eqR true) (fSl (fVar 3) oNone (oSome (fK (.int 2)))) (fSl (fVar 2) oNone (oSome (fK (.int 2))))))))
    (sRet (fK (.bl false)))
    sNext)
    (sSeq (sIf (tNotF (fTru (fCall m_law_tuple 2 (fCons (fFz (fOp ixD (fVar 3) (fK (.int 2)))) (fCons (fFz (fOp ixD (fVar 2) (fK (.int 2)))) fNil)))))
    (sRet (fK (.bl false)))
    sNext)
    (sSeq (sFor (fiSeq (fSl (fVar 3) (oSome (fK (.int 3))) oNone)) (gNm 4)
    l_law_alike_0)
    (sRet (fOp (eqR false) (fSl (fVar 3) (oSome (fK (.int 3))) oNone) (fSl (fVar 2) (oSome (fK (.int 3))) oNone))))))))
noncomputable def m_law_alike : MF := runP 5 (b_law_alike)
noncomputable abbrev b_read_telling : FS := (sSeq (sSet 1 (fCall m_words_of 1 (fCons (fFz (fVar 0)) fNil)))
    (sSeq (sIf (tOrF (fB (fOp ltD (fAr lenD (fCons (fVar 1) fNil)) (fK (.int 6)))) (tOrF (fB (fOp (inW true) (fOp ixD (fVar 1) (fK (.int 0))) (fTup (fCons (fK (.str "tell")) (fCons (fK (.str "strike")) fNil))))) (fB (fOp (eqR true) (fOp ixD (fVar 1) (fUn negD (fK (.int 1)))) (fK (.str "."))))))
    sStuck
    sNext)
    (sSeq (sSet 2 (fCall m_read_number_from 2 (fCons (fFz (fOp ixD (fVar 1) (fK (.int 1)))) (fCons (fK (.int 1)) fNil))))
    (sSeq (sSet 3 (fCall m_read_letters 1 (fCons (fFz (fOp ixD (fVar 1) (fK (.int 2)))) fNil)))
    (sSeq (sSet 4 (fCall m_read_end 1 (fCons (fFz (fOp ixD (fVar 1) (fK (.int 3)))) fNil)))
    (sSeq (sSet 5 (fCall m_read_end 1 (fCons (fFz (fOp ixD (fVar 1) (fK (.int 4)))) fNil)))
    (sSeq (sIf (fB (fOp (eqR false) (fCall m_stretch_of 2 (fCons (fFz (fVar 4)) (fCons (fFz (fVar 5)) fNil))) (fK (.tup [(.bl false), (.tup [])]))))
    sStuck
    sNext)
    (sSeq (sSet 6 (fAr tupD (fCons (fComp [] 1 (fiSeq (fSl (fVar 1) (oSome (fK (.int 5))) (oSome (fUn negD (fK (.int 1)))))) (gNm 0) cYes (fCall m_read_number 1 (fCons (fFz (fVar 0)) fNil))) fNil)))
    (sRet (fTup (fCons (fVar 2) (fCons (fTup (fCons (fOp ixD (fVar 1) (fK (.int 0))) (fCons (fVar 3) (fCons (fVar 6) (fCons (fVar 4) (fCons (fVar 5) fNil)))))) fNil))))))))))))
noncomputable def m_read_telling : MF := runP 7 (b_read_telling)
noncomputable abbrev y_read_telling : XB := (xOr (xCall x_words_of 1 (fCons (fFz (fVar 0)) fNil))
    (xThen (sSet 1 (fCall m_words_of 1 (fCons (fFz (fVar 0)) fNil)))
    (xOr (xIf (tOrF (fB (fOp ltD (fAr lenD (fCons (fVar 1) fNil)) (fK (.int 6)))) (tOrF (fB (fOp (inW true) (fOp ixD (fVar 1) (fK (.int 0))) (fTup (fCons (fK (.str "tell")) (fCons (fK (.str "strike")) fNil))))) (fB (fOp (eqR true) (fOp ixD (fVar 1) (fUn negD (fK (.int 1)))) (fK (.str ".")))))) (xRaise "NoText" (okFs "no telling: " 0)) xNo)
    (xThen (sIf (tOrF (fB (fOp ltD (fAr lenD (fCons (fVar 1) fNil)) (fK (.int 6)))) (tOrF (fB (fOp (inW true) (fOp ixD (fVar 1) (fK (.int 0))) (fTup (fCons (fK (.str "tell")) (fCons (fK (.str "strike")) fNil))))) (fB (fOp (eqR true) (fOp ixD (fVar 1) (fUn negD (fK (.int 1)))) (fK (.str "."))))))
    sStuck
    sNext)
    (xOr (xCall x_read_number_from 2 (fCons (fFz (fOp ixD (fVar 1) (fK (.int 1)))) (fCons (fK (.int 1)) fNil)))
    (xThen (sSet 2 (fCall m_read_number_from 2 (fCons (fFz (fOp ixD (fVar 1) (fK (.int 1)))) (fCons (fK (.int 1)) fNil))))
    (xOr (xCall x_read_letters 1 (fCons (fFz (fOp ixD (fVar 1) (fK (.int 2)))) fNil))
    (xThen (sSet 3 (fCall m_read_letters 1 (fCons (fFz (fOp ixD (fVar 1) (fK (.int 2)))) fNil)))
    (xOr (xCall x_read_end 1 (fCons (fFz (fOp ixD (fVar 1) (fK (.int 3)))) fNil))
    (xThen (sSet 4 (fCall m_read_end 1 (fCons (fFz (fOp ixD (fVar 1) (fK (.int 3)))) fNil)))
    (xOr (xCall x_read_end 1 (fCons (fFz (fOp ixD (fVar 1) (fK (.int 4)))) fNil))
    (xThen (sSet 5 (fCall m_read_end 1 (fCons (fFz (fOp ixD (fVar 1) (fK (.int 4)))) fNil)))
    (xOr (xIf (fB (fOp (eqR false) (fCall m_stretch_of 2 (fCons (fFz (fVar 4)) (fCons (fFz (fVar 5)) fNil))) (fK (.tup [(.bl false), (.tup [])])))) (xRaise "NoText" (fun ρ => (fun _ => true) ρ && (fun ρ => (okIn 4) ρ && (fun ρ => (fun _ => true) ρ && (fun ρ => (okIn 5) ρ && (fun _ => true) ρ) ρ) ρ) ρ)) xNo)
    (xThen (sIf (fB (fOp (eqR false) (fCall m_stretch_of 2 (fCons (fFz (fVar 4)) (fCons (fFz (fVar 5)) fNil))) (fK (.tup [(.bl false), (.tup [])]))))
    sStuck
    sNext)
    (xComp [] 1 (fiSeq (fSl (fVar 1) (oSome (fK (.int 5))) (oSome (fUn negD (fK (.int 1)))))) (gNm 0) cYes (fCall m_read_number 1 (fCons (fFz (fVar 0)) fNil)) (xCall x_read_number 1 (fCons (fFz (fVar 0)) fNil)))))))))))))))))
noncomputable def x_read_telling : List D → Option Str := runX 7 (y_read_telling)
noncomputable abbrev b_law_telling : FS := (sSeq (sSet 2 (fOp subD (fCall m_law_draw 3 (fCons (fFz (fVar 0)) (fCons (fFz (fVar 1)) (fCons (fK (.int 30)) fNil)))) (fK (.int 15))))
    (sSeq (sSet 3 (fOp addQ (fOp addQ (fVar 2) (fK (.int 1))) (fCall m_law_draw 3 (fCons (fFz (fVar 0)) (fCons (fFz (fOp addQ (fVar 1) (fK (.int 1)))) (fCons (fK (.int 9)) fNil))))))
    (sSeq (sSet 4 (fCall m_law_draw 3 (fCons (fFz (fVar 0)) (fCons (fFz (fOp addQ (fVar 1) (fK (.int 2)))) (fCons (fK (.int 8)) fNil)))))
    (sSeq (sIf (fB (fOp (eqR false) (fOp modD (fVar 4) (fK (.int 2))) (fK (.int 1))))
    (sSeq (sSet 2 (fOp subD (fVar 2) (fCall m_law_far 2 (fCons (fFz (fVar 0)) (fCons (fFz (fOp addQ (fVar 1) (fK (.int 3)))) fNil)))))
    (sSet 3 (fOp addQ (fVar 3) (fCall m_law_far 2 (fCons (fFz (fVar 0)) (fCons (fFz (fOp addQ (fVar 1) (fK (.int 4)))) fNil))))))
    sNext)
    (sSeq (sIf (tOrF (fB (fOp (eqR false) (fVar 4) (fK (.int 0)))) (fB (fOp (eqR false) (fVar 4) (fK (.int 2)))))
    (sSet 2 (fK .non))
    sNext)
    (sSeq (sIf (tOrF (fB (fOp (eqR false) (fVar 4) (fK (.int 0)))) (fB (fOp (eqR false) (fVar 4) (fK (.int 4)))))
    (sSet 3 (fK .non))
    sNext)
    (sSeq (sSet 5 (fAr tupD (fCons (fComp [0, 1] 1 (fiR1 (fCall m_law_draw 3 (fCons (fFz (fVar 0)) (fCons (fFz (fOp addQ (fVar 1) (fK (.int 5)))) (fCons (fK (.int 9)) fNil))))) (gNm 0) cYes (fCall m_law_number 2 (fCons (fFz (fVar 1)) (fCons (fFz (fOp addQ (fOp addQ (fVar 2) (fK (.int 20))) (fOp mulD (fK (.int 3)) (fVar 0)))) fNil)))) fNil)))
    (sSeq (sSet 6 (fOp ixD (fLst (fCons (fK (.str "tell")) (fCons (fK (.str "strike")) fNil))) (fCall m_law_draw 3 (fCons (fFz (fVar 0)) (fCons (fFz (fOp addQ (fVar 1) (fK (.int 6)))) (fCons (fK (.int 2)) fNil))))))
    (sRet (fTup (fCons (fVar 6) (fCons (fCall m_law_name 2 (fCons (fFz (fVar 0)) (fCons (fFz (fOp addQ (fVar 1) (fK (.int 7)))) fNil))) (fCons (fVar 5) (fCons (fVar 2) (fCons (fVar 3) fNil)))))))))))))))
noncomputable def m_law_telling : MF := runP 7 (b_law_telling)
noncomputable abbrev b_law_good : FS := (sSeq (sSet 2 (fLst fNil))
    (sSeq (sSet 3 (fK .non))
    (sSeq (sTry ["NoText"] (xCall x_read_telling 1 (fCons (fFz (fVar 0)) fNil)) (sSet 3 (fCall m_read_telling 1 (fCons (fFz (fVar 0)) fNil))) 4 (sSeq (sSet 2 (fLst (fCons (fUn (isiX (tbL [("NoText", true)])) (fVar 4)) (fCons (fUn (isiX (tbL [("NoText", true)])) (fVar 4)) fNil))))
    (sSet 2 (fOp addQ (fVar 2) (fLst (fCons (fUn (isiX (tbL [("NoText", false)])) (fVar 4)) fNil))))))
    (sSeq (sIf (fB (fUn (isK false .non) (fVar 1)))
    (sRet (fOp (eqR false) (fVar 2) (fLst (fCons (fK (.bl true)) (fCons (fK (.bl true)) (fCons (fK (.bl false)) fNil))))))
    sNext)
    (sRet (fAnd (fOp (eqR false) (fVar 2) (fLst fNil)) (fCall m_law_alike 3 (fCons (fFz (fVar 3)) (fCons (fFz (fOp ixD (fVar 1) (fK (.int 0)))) (fCons (fFz (fOp ixD (fVar 1) (fK (.int 1)))) fNil))))))))))
noncomputable def m_law_good : MF := runP 5 (b_law_good)
noncomputable abbrev l_law_0 : FS := (sIf (tOrF (tNotF (fTru (fCall m_law_good 2 (fCons (fFz (fSlS (fVar 3) oNone (oSome (fVar 4)))) (fCons (fK .non) fNil))))) (tNotF (fTru (fCall m_law_good 2 (fCons (fFz (fSlS (fVar 3) oNone (oSome (fOp subD (fOp subD (fAr lenS (fCons (fVar 3) fNil)) (fK (.int 1))) (fVar 4))))) (fCons (fK .non) fNil))))))
    (sRet (fK (.bl false)))
    sNext)
noncomputable abbrev l_law_1 : FS := (sSeq (sSet 6 (fCall m_law_changed 3 (fCons (fFz (fVar 0)) (fCons (fFz (fVar 5)) (fCons (fFz (fVar 3)) fNil)))))
    (sIf (tNotF (fTru (fCall m_law_good 2 (fCons (fFz (fVar 6)) (fCons (fFz (fCall m_law_due 1 (fCons (fFz (fVar 6)) fNil))) fNil)))))
    (sRet (fK (.bl false)))
    sNext))
noncomputable abbrev b_law : FS := (sSeq (sIf (tNotF (fTru (fCall m_law_good 2 (fCons (fFz (fOp ixD (fLst (fCons (fK .non) (fCons (fK (.int 7)) (fCons (fFz (fLst (fCons (fK (.str "tell")) fNil))) (fCons (fTup (fCons (fK (.str "tell")) fNil)) (fCons (fK (.bl true)) (fCons (fFz fDnew) fNil))))))) (fCall m_law_draw 3 (fCons (fFz (fVar 0)) (fCons (fK (.int 400)) (fCons (fK (.int 6)) fNil)))))) (fCons (fK .non) fNil)))))
    (sRet (fK (.bl false)))
    sNext)
    (sSeq (sSet 1 (fCall m_law_telling 2 (fCons (fFz (fVar 0)) (fCons (fK (.int 0)) fNil))))
    (sSeq (sSet 2 (fOp addQ (fK (.int 1)) (fCall m_law_draw 3 (fCons (fFz (fVar 0)) (fCons (fK (.int 401)) (fCons (fK (.int 200)) fNil))))))
    (sSeq (sSet 3 (fCall m_law_written 2 (fCons (fFz (fVar 2)) (fCons (fFz (fVar 1)) fNil))))
    (sSeq (sFor (fiR1 (fAr minD (fCons (fAr lenS (fCons (fVar 3) fNil)) (fCons (fK (.int 150)) fNil)))) (gNm 4)
    l_law_0)
    (sSeq (sFor (fiR1 (fAr minD (fCons (fAr lenD (fCons (fVar 0) fNil)) (fCons (fK (.int 12)) fNil)))) (gNm 5)
    l_law_1)
    (sRet (fCall m_law_good 2 (fCons (fFz (fVar 3)) (fCons (fFz (fTup (fCons (fVar 2) (fCons (fVar 1) fNil)))) fNil))))))))))
noncomputable def m_law : MF := runP 7 (b_law)
noncomputable def zs : List Str := ["isinstance", "str", "all", "len", "int", "tuple", "range", "bool", "ValueError", "min"]
def ZsL (mg : Str → Option Value) (l : List Str) : Prop := ∀ (i : Nat) (x : Str), l[i]? = some x → mg x = none
theorem zs_nil {mg : Str → Option Value} : ZsL mg [] := fun i x e => by simp at e
theorem zs_cons {mg : Str → Option Value} {x : Str} {l : List Str} (h : mg x = none) (t : ZsL mg l) : ZsL mg (x :: l) := fun i y e => by
  cases i with
  | zero => cases e; exact h
  | succ i => exact t i y e
def Zs (mg : Str → Option Value) : Prop := ZsL mg zs
structure XF (K : PySem.W.Frag) (mg : Str → Option Value) (q_NoText q_HeldError q_NoColumn q_NoStretch q_NoTable q_NoTurn q_NoWidth q_NoWord : Addr) : Prop where
  e_NoText : ExC K mg "NoText" q_NoText
  e_HeldError : ExC K mg "HeldError" q_HeldError
  e_NoColumn : ExC K mg "NoColumn" q_NoColumn
  e_NoStretch : ExC K mg "NoStretch" q_NoStretch
  e_NoTable : ExC K mg "NoTable" q_NoTable
  e_NoTurn : ExC K mg "NoTurn" q_NoTurn
  e_NoWidth : ExC K mg "NoWidth" q_NoWidth
  e_NoWord : ExC K mg "NoWord" q_NoWord
  m_NoText : mroHas K q_NoText q_HeldError = true
  k_NoText_NoText : PySem.W.kitOne K (.ref q_NoText) (.ref q_NoText) = some true
  k_NoText_ValueError : PySem.W.kitOne K (.ref q_NoText) (.type "ValueError") = some true
  k_NoText_t2 : PySem.W.kitAny K (.ref q_NoText) [.ref q_NoColumn, .ref q_NoStretch, .ref q_NoTable, .ref q_NoTurn, .ref q_NoWidth, .ref q_NoWord] = some false
section
variable {P : Program} {w : World} {K : PySem.W.Frag} {mg : Str → Option Value} {base : Heap}
variable {q_NoText q_HeldError q_NoColumn q_NoStretch q_NoTable q_NoTurn q_NoWidth q_NoWord : Addr} (xf : XF K mg q_NoText q_HeldError q_NoColumn q_NoStretch q_NoTable q_NoTurn q_NoWidth q_NoWord)
include xf
set_option maxHeartbeats 4000000
theorem k_stretch_of (z : Zs mg) (d : DefAt K mg "stretch_of" st_stretch_of ["low", "high"])  (c_NO_NUMBERS : ConstR K mg "NO_NUMBERS" (.tup [(.bl false), (.tup [])])) (c_ALL_NUMBERS : ConstR K mg "ALL_NUMBERS" (.tup [(.bl true), (.tup [])])) : Kept P w K mg base 1 "stretch_of" ["low", "high"] m_stretch_of :=
  okP (k := 0) d sc_stretch_of fun f cdv A outer s H E hr =>
    (s_cons (s_if (t_w (w_and (t_isN (q_var 0)) (w_and1 (t_isN (q_var 1)))))
    (s_one (s_ret (q_const c_ALL_NUMBERS)))
    s_nil)
    (s_cons (s_if (t_isN (q_var 0))
    (s_one (s_ret (q_tup (q_cons q_bl (q_cons (q_tup (q_cons (q_var 1) q_nil)) q_nil)))))
    s_nil)
    (s_cons (s_if (t_isN (q_var 1))
    (s_one (s_ret (q_tup (q_cons q_bl (q_cons (q_tup (q_cons (q_var 0) q_nil)) q_nil)))))
    s_nil)
    (s_cons (s_if (t_le (q_var 1) (q_var 0))
    (s_one (s_ret (q_const c_NO_NUMBERS)))
    s_nil)
    (s_one (s_ret (q_tup (q_cons q_bl (q_cons (q_tup (q_cons (q_var 0) (q_cons (q_var 1) q_nil))) q_nil)))))))))
theorem kx_check_text (z : Zs mg) (d : DefAt K mg "check_text" st_check_text ["thing"])  : KeptX P w K mg base 1 "check_text" ["thing"] x_check_text := by
  obtain ⟨f, fd, F, B, M⟩ := d.ex
  exact okX (k := 0) F B M sc_check_text fun cdv A outer s H E hr =>
    (px_head (px_if (t_not (t_tru (q_isi kinds_str rfl (z 0 _ rfl) rfl (z 1 _ rfl) boot_str' (q_var 0)))) (px_head (px_raiseK xf.e_NoText.mg xf.e_NoText.at_ xf.e_NoText.own (fun I hm hE => xe_made I hm hE))) px_none))
theorem k_check_text (z : Zs mg) (d : DefAt K mg "check_text" st_check_text ["thing"])  : Kept P w K mg base 1 "check_text" ["thing"] m_check_text :=
  okP (k := 0) d sc_check_text fun f cdv A outer s H E hr =>
    (s_one (s_if (t_not (t_tru (q_isi kinds_str rfl (z 0 _ rfl) rfl (z 1 _ rfl) boot_str' (q_var 0))))
    (s_one s_stuck)
    s_nil))
theorem k_is_made_of (z : Zs mg) (d : DefAt K mg "is_made_of" st_is_made_of ["text", "signs", "most"])  : Kept P w K mg base 1 "is_made_of" ["text", "signs", "most"] m_is_made_of :=
  okP (k := 0) d sc_is_made_of fun f cdv A outer s H E hr =>
    (s_one (s_ret (q_and (q_ch q_int (q_lenS rfl (z 3 _ rfl) (q_cons (q_var 0) q_nil)) (q_var 2)) (q_one (q_all rfl rfl (z 2 _ rfl) (q_cons (q_comp [1] ["sign"] ["signs"] rfl (show CompNames (defScope st_is_made_of) _ ["sign"] ["signs"] from ⟨rfl, by decide +kernel, by decide +kernel, by decide +kernel, by decide +kernel, by decide +kernel⟩) (i_str (q_var 0)) (fun cl C s₂ H₂ fp => ⟨(g_nm 0 (show (["sign", "signs"] : List Str).Nodup by decide +kernel)), f_nil, (q_inS (q_var 0) (q_var 1))⟩)) q_nil))))))
theorem kx_read_number (z : Zs mg) (d : DefAt K mg "read_number" st_read_number ["text"]) (h_check_text : Kept P w K mg base 1 "check_text" ["thing"] m_check_text) (h_is_made_of : Kept P w K mg base 1 "is_made_of" ["text", "signs", "most"] m_is_made_of) (hx_check_text : KeptX P w K mg base 1 "check_text" ["thing"] x_check_text) (c_FIGURES : ConstR K mg "FIGURES" (.str "0123456789")) (c_MOST_FIGURES : ConstR K mg "MOST_FIGURES" (.int (60))) : KeptX P w K mg base 2 "read_number" ["text"] x_read_number := by
  obtain ⟨f, fd, F, B, M⟩ := d.ex
  exact okX (k := 1) F B M sc_read_number fun cdv A outer s H E hr =>
    (px_or (px_head (px_of (pxc_expr (pxe_call hx_check_text (hr.mono (by decide)) (fun xe => (q_cons (q_fz (q_var 0)) q_nil)))) pass1))
    (px_then (s_expr (q_callK h_check_text (hr.mono (by decide)) (q_cons (q_fz (q_var 0)) q_nil)))
    (px_then (s_set 1 sc_read_number.nd (q_if (t_tru (q_sw (q_var 0) q_str)) (q_slS (q_var 0) (q_oS q_int) q_oN) (q_var 0)))
    (px_or (px_head (px_if (t_not (t_tru (q_callK h_is_made_of (hr.mono (by decide)) (q_cons (q_fz (q_var 1)) (q_cons (q_fz (q_const c_FIGURES)) (q_cons (q_fz (q_const c_MOST_FIGURES)) q_nil)))))) (px_head (px_raiseF (i := 0) xf.e_NoText.mg xf.e_NoText.at_ xf.e_NoText.own (fun I hm hE => xe_made I hm hE) (q_pv 0))) px_none))
    (px_then (s_if (t_not (t_tru (q_callK h_is_made_of (hr.mono (by decide)) (q_cons (q_fz (q_var 1)) (q_cons (q_fz (q_const c_FIGURES)) (q_cons (q_fz (q_const c_MOST_FIGURES)) q_nil))))))
    (s_one s_stuck)
    s_nil)
    (px_head (px_if (t_w (w_and (t_eq hr.units (q_ixS (q_var 1) q_int) q_str) (w_and1 (t_ne hr.units (q_var 0) q_str)))) (px_head (px_raiseF (i := 0) xf.e_NoText.mg xf.e_NoText.at_ xf.e_NoText.own (fun I hm hE => xe_made I hm hE) (q_pv 0))) px_none)))))))
theorem k_read_number (z : Zs mg) (d : DefAt K mg "read_number" st_read_number ["text"]) (h_check_text : Kept P w K mg base 1 "check_text" ["thing"] m_check_text) (h_is_made_of : Kept P w K mg base 1 "is_made_of" ["text", "signs", "most"] m_is_made_of) (hx_check_text : KeptX P w K mg base 1 "check_text" ["thing"] x_check_text) (c_FIGURES : ConstR K mg "FIGURES" (.str "0123456789")) (c_MOST_FIGURES : ConstR K mg "MOST_FIGURES" (.int (60))) : Kept P w K mg base 2 "read_number" ["text"] m_read_number :=
  okP (k := 1) d sc_read_number fun f cdv A outer s H E hr =>
    (s_cons (s_expr (q_callK h_check_text (hr.mono (by decide)) (q_cons (q_fz (q_var 0)) q_nil)))
    (s_cons (s_set 1 sc_read_number.nd (q_if (t_tru (q_sw (q_var 0) q_str)) (q_slS (q_var 0) (q_oS q_int) q_oN) (q_var 0)))
    (s_cons (s_if (t_not (t_tru (q_callK h_is_made_of (hr.mono (by decide)) (q_cons (q_fz (q_var 1)) (q_cons (q_fz (q_const c_FIGURES)) (q_cons (q_fz (q_const c_MOST_FIGURES)) q_nil))))))
    (s_one s_stuck)
    s_nil)
    (s_cons (s_if (t_w (w_and (t_eq hr.units (q_ixS (q_var 1) q_int) q_str) (w_and1 (t_ne hr.units (q_var 0) q_str))))
    (s_one s_stuck)
    s_nil)
    (s_one (s_ret (q_intS rfl (z 4 _ rfl) (q_cons (q_var 0) q_nil))))))))
theorem kx_read_number_from (z : Zs mg) (d : DefAt K mg "read_number_from" st_read_number_from ["text", "least"]) (h_read_number : Kept P w K mg base 2 "read_number" ["text"] m_read_number) (hx_read_number : KeptX P w K mg base 2 "read_number" ["text"] x_read_number) : KeptX P w K mg base 3 "read_number_from" ["text", "least"] x_read_number_from := by
  obtain ⟨f, fd, F, B, M⟩ := d.ex
  exact okX (k := 2) F B M sc_read_number_from fun cdv A outer s H E hr =>
    (px_or (px_head (px_of (pxc_set (pxe_call hx_read_number (hr.mono (by decide)) (fun xe => (q_cons (q_fz (q_var 0)) q_nil)))) pass1))
    (px_then (s_set 2 sc_read_number_from.nd (q_callK h_read_number (hr.mono (by decide)) (q_cons (q_fz (q_var 0)) q_nil)))
    (px_head (px_if (t_lt (q_var 2) (q_var 1)) (px_head (px_raiseJ xf.e_NoText.mg xf.e_NoText.at_ xf.e_NoText.own (fun I hm hE => xe_made I hm hE) (j_cons (j_int (q_pv 2)) (j_cons j_str (j_cons (j_int (q_pv 1)) (j_cons j_str j_nil)))))) px_none))))
theorem k_read_number_from (z : Zs mg) (d : DefAt K mg "read_number_from" st_read_number_from ["text", "least"]) (h_read_number : Kept P w K mg base 2 "read_number" ["text"] m_read_number) (hx_read_number : KeptX P w K mg base 2 "read_number" ["text"] x_read_number) : Kept P w K mg base 3 "read_number_from" ["text", "least"] m_read_number_from :=
  okP (k := 2) d sc_read_number_from fun f cdv A outer s H E hr =>
    (s_cons (s_set 2 sc_read_number_from.nd (q_callK h_read_number (hr.mono (by decide)) (q_cons (q_fz (q_var 0)) q_nil)))
    (s_cons (s_if (t_lt (q_var 2) (q_var 1))
    (s_one s_stuck)
    s_nil)
    (s_one (s_ret (q_var 2)))))
theorem kx_read_end (z : Zs mg) (d : DefAt K mg "read_end" st_read_end ["text"]) (h_read_number : Kept P w K mg base 2 "read_number" ["text"] m_read_number) (hx_read_number : KeptX P w K mg base 2 "read_number" ["text"] x_read_number) : KeptX P w K mg base 3 "read_end" ["text"] x_read_end := by
  obtain ⟨f, fd, F, B, M⟩ := d.ex
  exact okX (k := 2) F B M sc_read_end fun cdv A outer s H E hr =>
    (px_head (px_of (pxc_ret (qx_if (fun xe => (t_eq hr.units (q_var 0) q_str)) qx_no (pxe_call hx_read_number (hr.mono (by decide)) (fun xe => (q_cons (q_fz (q_var 0)) q_nil))))) pass1))
theorem k_read_end (z : Zs mg) (d : DefAt K mg "read_end" st_read_end ["text"]) (h_read_number : Kept P w K mg base 2 "read_number" ["text"] m_read_number) (hx_read_number : KeptX P w K mg base 2 "read_number" ["text"] x_read_number) : Kept P w K mg base 3 "read_end" ["text"] m_read_end :=
  okP (k := 2) d sc_read_end fun f cdv A outer s H E hr =>
    (s_one (s_ret (q_if (t_eq hr.units (q_var 0) q_str) q_non (q_callK h_read_number (hr.mono (by decide)) (q_cons (q_fz (q_var 0)) q_nil)))))
theorem kx_read_letters (z : Zs mg) (d : DefAt K mg "read_letters" st_read_letters ["text"]) (h_is_made_of : Kept P w K mg base 1 "is_made_of" ["text", "signs", "most"] m_is_made_of) (c_SMALL_LETTERS : ConstR K mg "SMALL_LETTERS" (.str "abcdefghijklmnopqrstuvwxyz")) (c_MOST_LETTERS : ConstR K mg "MOST_LETTERS" (.int (8))) : KeptX P w K mg base 2 "read_letters" ["text"] x_read_letters := by
  obtain ⟨f, fd, F, B, M⟩ := d.ex
  exact okX (k := 1) F B M sc_read_letters fun cdv A outer s H E hr =>
    (px_head (px_if (t_not (t_tru (q_callK h_is_made_of (hr.mono (by decide)) (q_cons (q_fz (q_var 0)) (q_cons (q_fz (q_const c_SMALL_LETTERS)) (q_cons (q_fz (q_const c_MOST_LETTERS)) q_nil)))))) (px_head (px_raiseF (i := 0) xf.e_NoText.mg xf.e_NoText.at_ xf.e_NoText.own (fun I hm hE => xe_made I hm hE) (q_pv 0))) px_none))
theorem k_read_letters (z : Zs mg) (d : DefAt K mg "read_letters" st_read_letters ["text"]) (h_is_made_of : Kept P w K mg base 1 "is_made_of" ["text", "signs", "most"] m_is_made_of) (c_SMALL_LETTERS : ConstR K mg "SMALL_LETTERS" (.str "abcdefghijklmnopqrstuvwxyz")) (c_MOST_LETTERS : ConstR K mg "MOST_LETTERS" (.int (8))) : Kept P w K mg base 2 "read_letters" ["text"] m_read_letters :=
  okP (k := 1) d sc_read_letters fun f cdv A outer s H E hr =>
    (s_cons (s_if (t_not (t_tru (q_callK h_is_made_of (hr.mono (by decide)) (q_cons (q_fz (q_var 0)) (q_cons (q_fz (q_const c_SMALL_LETTERS)) (q_cons (q_fz (q_const c_MOST_LETTERS)) q_nil))))))
    (s_one s_stuck)
    s_nil)
    (s_one (s_ret (q_var 0))))
theorem kx_words_of (z : Zs mg) (d : DefAt K mg "words_of" st_words_of ["text"]) (h_check_text : Kept P w K mg base 1 "check_text" ["thing"] m_check_text) (hx_check_text : KeptX P w K mg base 1 "check_text" ["thing"] x_check_text) : KeptX P w K mg base 2 "words_of" ["text"] x_words_of := by
  obtain ⟨f, fd, F, B, M⟩ := d.ex
  exact okX (k := 1) F B M sc_words_of fun cdv A outer s H E hr =>
    (px_head (px_of (pxc_expr (pxe_call hx_check_text (hr.mono (by decide)) (fun xe => (q_cons (q_fz (q_var 0)) q_nil)))) pass1))
theorem k_words_of (z : Zs mg) (d : DefAt K mg "words_of" st_words_of ["text"]) (h_check_text : Kept P w K mg base 1 "check_text" ["thing"] m_check_text) (hx_check_text : KeptX P w K mg base 1 "check_text" ["thing"] x_check_text) : Kept P w K mg base 2 "words_of" ["text"] m_words_of :=
  okP (k := 1) d sc_words_of fun f cdv A outer s H E hr =>
    (s_cons (s_expr (q_callK h_check_text (hr.mono (by decide)) (q_cons (q_fz (q_var 0)) q_nil)))
    (s_one (s_ret (q_split (q_var 0) q_str))))
theorem kx_read_telling (z : Zs mg) (d : DefAt K mg "read_telling" st_read_telling ["text"]) (h_words_of : Kept P w K mg base 2 "words_of" ["text"] m_words_of) (h_read_number_from : Kept P w K mg base 3 "read_number_from" ["text", "least"] m_read_number_from) (h_read_letters : Kept P w K mg base 2 "read_letters" ["text"] m_read_letters) (h_read_end : Kept P w K mg base 3 "read_end" ["text"] m_read_end) (h_stretch_of : Kept P w K mg base 1 "stretch_of" ["low", "high"] m_stretch_of) (h_read_number : Kept P w K mg base 2 "read_number" ["text"] m_read_number) (hx_words_of : KeptX P w K mg base 2 "words_of" ["text"] x_words_of) (hx_read_number_from : KeptX P w K mg base 3 "read_number_from" ["text", "least"] x_read_number_from) (hx_read_letters : KeptX P w K mg base 2 "read_letters" ["text"] x_read_letters) (hx_read_end : KeptX P w K mg base 3 "read_end" ["text"] x_read_end) (hx_read_number : KeptX P w K mg base 2 "read_number" ["text"] x_read_number) (c_NO_NUMBERS : ConstR K mg "NO_NUMBERS" (.tup [(.bl false), (.tup [])])) : KeptX P w K mg base 4 "read_telling" ["text"] x_read_telling := by
  obtain ⟨f, fd, F, B, M⟩ := d.ex
  exact okX (k := 3) F B M sc_read_telling fun cdv A outer s H E hr =>
    (px_or (px_head (px_of (pxc_set (pxe_call hx_words_of (hr.mono (by decide)) (fun xe => (q_cons (q_fz (q_var 0)) q_nil)))) pass1))
    (px_then (s_set 1 sc_read_telling.nd (q_callK h_words_of (hr.mono (by decide)) (q_cons (q_fz (q_var 0)) q_nil)))
    (px_or (px_head (px_if (t_w (w_or (t_lt (q_len rfl (z 3 _ rfl) (q_cons (q_var 1) q_nil)) q_int) (w_or (t_ninW (q_ix (q_var 1) q_int) (q_tup (q_cons q_str (q_cons q_str q_nil)))) (w_or1 (t_ne hr.units (q_ix (q_var 1) (q_neg q_int)) q_str))))) (px_head (px_raiseF (i := 0) xf.e_NoText.mg xf.e_NoText.at_ xf.e_NoText.own (fun I hm hE => xe_made I hm hE) (q_pv 0))) px_none))
    (px_then (s_if (t_w (w_or (t_lt (q_len rfl (z 3 _ rfl) (q_cons (q_var 1) q_nil)) q_int) (w_or (t_ninW (q_ix (q_var 1) q_int) (q_tup (q_cons q_str (q_cons q_str q_nil)))) (w_or1 (t_ne hr.units (q_ix (q_var 1) (q_neg q_int)) q_str)))))
    (s_one s_stuck)
    s_nil)
    (px_or (px_head (px_of (pxc_set (pxe_call hx_read_number_from (hr.mono (by decide)) (fun xe => (q_cons (q_fz (q_ix (q_var 1) q_int)) (q_cons q_int q_nil))))) pass1))
    (px_then (s_set 2 sc_read_telling.nd (q_callK h_read_number_from (hr.mono (by decide)) (q_cons (q_fz (q_ix (q_var 1) q_int)) (q_cons q_int q_nil))))
    (px_or (px_head (px_of (pxc_set (pxe_call hx_read_letters (hr.mono (by decide)) (fun xe => (q_cons (q_fz (q_ix (q_var 1) q_int)) q_nil)))) pass1))
    (px_then (s_set 3 sc_read_telling.nd (q_callK h_read_letters (hr.mono (by decide)) (q_cons (q_fz (q_ix (q_var 1) q_int)) q_nil)))
    (px_or (px_head (px_of (pxc_set (pxe_call hx_read_end (hr.mono (by decide)) (fun xe => (q_cons (q_fz (q_ix (q_var 1) q_int)) q_nil)))) pass1))
    (px_then (s_set 4 sc_read_telling.nd (q_callK h_read_end (hr.mono (by decide)) (q_cons (q_fz (q_ix (q_var 1) q_int)) q_nil)))
    (px_or (px_head (px_of (pxc_set (pxe_call hx_read_end (hr.mono (by decide)) (fun xe => (q_cons (q_fz (q_ix (q_var 1) q_int)) q_nil)))) pass1))
    (px_then (s_set 5 sc_read_telling.nd (q_callK h_read_end (hr.mono (by decide)) (q_cons (q_fz (q_ix (q_var 1) q_int)) q_nil)))
    (px_or (px_head (px_if (t_eq hr.units (q_callK h_stretch_of (hr.mono (by decide)) (q_cons (q_fz (q_var 4)) (q_cons (q_fz (q_var 5)) q_nil))) (q_const c_NO_NUMBERS)) (px_head (px_raiseJ xf.e_NoText.mg xf.e_NoText.at_ xf.e_NoText.own (fun I hm hE => xe_made I hm hE) (j_cons j_str (j_cons (j_int (q_pv 4)) (j_cons j_str (j_cons (j_int (q_pv 5)) j_nil)))))) px_none))
    (px_then (s_if (t_eq hr.units (q_callK h_stretch_of (hr.mono (by decide)) (q_cons (q_fz (q_var 4)) (q_cons (q_fz (q_var 5)) q_nil))) (q_const c_NO_NUMBERS))
    (s_one s_stuck)
    s_nil)
    (px_head (xf_set (xf_callTy rfl (z 5 _ rfl) boot_tuple' (xf_comp [] ["word"] [] rfl rfl rfl (show CompNames (defScope st_read_telling) _ ["word"] [] from ⟨rfl, by decide +kernel, by decide +kernel, by decide +kernel, by decide +kernel, by decide +kernel⟩) (fun xe => (i_seq (q_sl (q_var 1) (q_oS q_int) (q_oS (q_neg q_int))))) (fun cl C s₂ H₂ fp => ⟨(g_nm 0 (show (["word"] : List Str).Nodup by decide +kernel)), f_nil, (q_callK h_read_number (hr.mono (by decide)) (q_cons (q_fz (q_var 0)) q_nil)), (pxe_call hx_read_number (hr.mono (by decide)) (fun xe => (q_cons (q_fz (q_var 0)) q_nil)))⟩))) passF))))))))))))))))
theorem k_read_telling (z : Zs mg) (d : DefAt K mg "read_telling" st_read_telling ["text"]) (h_words_of : Kept P w K mg base 2 "words_of" ["text"] m_words_of) (h_read_number_from : Kept P w K mg base 3 "read_number_from" ["text", "least"] m_read_number_from) (h_read_letters : Kept P w K mg base 2 "read_letters" ["text"] m_read_letters) (h_read_end : Kept P w K mg base 3 "read_end" ["text"] m_read_end) (h_stretch_of : Kept P w K mg base 1 "stretch_of" ["low", "high"] m_stretch_of) (h_read_number : Kept P w K mg base 2 "read_number" ["text"] m_read_number) (hx_words_of : KeptX P w K mg base 2 "words_of" ["text"] x_words_of) (hx_read_number_from : KeptX P w K mg base 3 "read_number_from" ["text", "least"] x_read_number_from) (hx_read_letters : KeptX P w K mg base 2 "read_letters" ["text"] x_read_letters) (hx_read_end : KeptX P w K mg base 3 "read_end" ["text"] x_read_end) (hx_read_number : KeptX P w K mg base 2 "read_number" ["text"] x_read_number) (c_NO_NUMBERS : ConstR K mg "NO_NUMBERS" (.tup [(.bl false), (.tup [])])) : Kept P w K mg base 4 "read_telling" ["text"] m_read_telling :=
  okP (k := 3) d sc_read_telling fun f cdv A outer s H E hr =>
    (s_cons (s_set 1 sc_read_telling.nd (q_callK h_words_of (hr.mono (by decide)) (q_cons (q_fz (q_var 0)) q_nil)))
    (s_cons (s_if (t_w (w_or (t_lt (q_len rfl (z 3 _ rfl) (q_cons (q_var 1) q_nil)) q_int) (w_or (t_ninW (q_ix (q_var 1) q_int) (q_tup (q_cons q_str (q_cons q_str q_nil)))) (w_or1 (t_ne hr.units (q_ix (q_var 1) (q_neg q_int)) q_str)))))
    (s_one s_stuck)
    s_nil)
    (s_cons (s_set 2 sc_read_telling.nd (q_callK h_read_number_from (hr.mono (by decide)) (q_cons (q_fz (q_ix (q_var 1) q_int)) (q_cons q_int q_nil))))
    (s_cons (s_set 3 sc_read_telling.nd (q_callK h_read_letters (hr.mono (by decide)) (q_cons (q_fz (q_ix (q_var 1) q_int)) q_nil)))
    (s_cons (s_set 4 sc_read_telling.nd (q_callK h_read_end (hr.mono (by decide)) (q_cons (q_fz (q_ix (q_var 1) q_int)) q_nil)))
    (s_cons (s_set 5 sc_read_telling.nd (q_callK h_read_end (hr.mono (by decide)) (q_cons (q_fz (q_ix (q_var 1) q_int)) q_nil)))
    (s_cons (s_if (t_eq hr.units (q_callK h_stretch_of (hr.mono (by decide)) (q_cons (q_fz (q_var 4)) (q_cons (q_fz (q_var 5)) q_nil))) (q_const c_NO_NUMBERS))
    (s_one s_stuck)
    s_nil)
    (s_cons (s_set 6 sc_read_telling.nd (q_tuple rfl (z 5 _ rfl) (q_cons (q_comp [] ["word"] [] rfl (show CompNames (defScope st_read_telling) _ ["word"] [] from ⟨rfl, by decide +kernel, by decide +kernel, by decide +kernel, by decide +kernel, by decide +kernel⟩) (i_seq (q_sl (q_var 1) (q_oS q_int) (q_oS (q_neg q_int)))) (fun cl C s₂ H₂ fp => ⟨(g_nm 0 (show (["word"] : List Str).Nodup by decide +kernel)), f_nil, (q_callK h_read_number (hr.mono (by decide)) (q_cons (q_fz (q_var 0)) q_nil))⟩)) q_nil)))
    (s_one (s_ret (q_tup (q_cons (q_var 2) (q_cons (q_tup (q_cons (q_ix (q_var 1) q_int) (q_cons (q_var 3) (q_cons (q_var 6) (q_cons (q_var 4) (q_cons (q_var 5) q_nil)))))) q_nil)))))))))))))
theorem k_law_draw (z : Zs mg) (d : DefAt K mg "_law_draw" st_law_draw ["script", "k", "many"])  : Kept P w K mg base 1 "_law_draw" ["script", "k", "many"] m_law_draw :=
  okP (k := 0) d sc_law_draw fun f cdv A outer s H E hr =>
    (s_cons (s_if (t_eq hr.units (q_len rfl (z 3 _ rfl) (q_cons (q_var 0) q_nil)) q_int)
    (s_one (s_ret q_int))
    s_nil)
    (s_cons (s_set 3 sc_law_draw.nd (q_mod (q_ix (q_var 0) (q_mod (q_var 1) (q_len rfl (z 3 _ rfl) (q_cons (q_var 0) q_nil)))) q_int))
    (s_cons (s_set 4 sc_law_draw.nd (q_mod (q_mul (q_addQ (q_var 3) q_int) (q_addQ q_int (q_mul q_int (q_var 1)))) q_int))
    (s_cons (s_set 4 sc_law_draw.nd (q_mod (q_mul (q_addQ (q_var 4) (q_var 1)) (q_addQ (q_var 4) q_int)) q_int))
    (s_one (s_ret (q_mod (q_div (q_var 4) q_int) (q_var 2))))))))
theorem k_law_far (z : Zs mg) (d : DefAt K mg "_law_far" st_law_far ["script", "k"]) (h_law_draw : Kept P w K mg base 1 "_law_draw" ["script", "k", "many"] m_law_draw) : Kept P w K mg base 2 "_law_far" ["script", "k"] m_law_far :=
  okP (k := 1) d sc_law_far fun f cdv A outer s H E hr =>
    (s_cons (s_if (t_eq hr.units (q_len rfl (z 3 _ rfl) (q_cons (q_var 0) q_nil)) q_int)
    (s_one (s_ret q_int))
    s_nil)
    (s_cons (s_set 2 sc_law_far.nd (q_addQ (q_callK h_law_draw (hr.mono (by decide)) (q_cons (q_fz (q_var 0)) (q_cons (q_fz (q_var 1)) (q_cons q_int q_nil)))) q_int))
    (s_one (s_ret (q_mod (q_addQ (q_mul (q_mod (q_ix (q_var 0) (q_mod (q_var 1) (q_len rfl (z 3 _ rfl) (q_cons (q_var 0) q_nil)))) (q_pow q_int q_int)) (q_var 2)) (q_pow (q_var 2) q_int)) (q_pow q_int q_int))))))
theorem k_law_name (z : Zs mg) (d : DefAt K mg "_law_name" st_law_name ["script", "k"]) (h_law_draw : Kept P w K mg base 1 "_law_draw" ["script", "k", "many"] m_law_draw) : Kept P w K mg base 2 "_law_name" ["script", "k"] m_law_name :=
  okP (k := 1) d sc_law_name fun f cdv A outer s H E hr =>
    (s_cons (s_set 2 sc_law_name.nd q_str)
    (s_cons (s_for rfl (i_r1 rfl (z 6 _ rfl) (q_addQ q_int (q_callK h_law_draw (hr.mono (by decide)) (q_cons (q_fz (q_var 0)) (q_cons (q_fz (q_var 1)) (q_cons q_int q_nil)))))) (g_nm 3 sc_law_name.nd)
    (s_one (s_set 2 sc_law_name.nd (q_addQ (q_var 2) (q_ixS q_str (q_callK h_law_draw (hr.mono (by decide)) (q_cons (q_fz (q_var 0)) (q_cons (q_fz (q_addQ (q_addQ (q_var 1) q_int) (q_var 3))) (q_cons q_int q_nil)))))))) PassesOwn.never)
    (s_one (s_ret (q_var 2)))))
theorem k_law_number (z : Zs mg) (d : DefAt K mg "_law_number" st_law_number ["script", "k"]) (h_law_draw : Kept P w K mg base 1 "_law_draw" ["script", "k", "many"] m_law_draw) (h_law_far : Kept P w K mg base 2 "_law_far" ["script", "k"] m_law_far) : Kept P w K mg base 3 "_law_number" ["script", "k"] m_law_number :=
  okP (k := 2) d sc_law_number fun f cdv A outer s H E hr =>
    (s_cons (s_set 2 sc_law_number.nd (q_callK h_law_draw (hr.mono (by decide)) (q_cons (q_fz (q_var 0)) (q_cons (q_fz (q_var 1)) (q_cons q_int q_nil)))))
    (s_cons (s_if (t_lt (q_var 2) q_int)
    (s_one (s_ret (q_sub (q_callK h_law_draw (hr.mono (by decide)) (q_cons (q_fz (q_var 0)) (q_cons (q_fz (q_addQ (q_var 1) q_int)) (q_cons q_int q_nil)))) q_int)))
    s_nil)
    (s_cons (s_if (t_eq hr.units (q_var 2) q_int)
    (s_one (s_ret (q_sub (q_sub (q_pow q_int q_int) q_int) (q_callK h_law_draw (hr.mono (by decide)) (q_cons (q_fz (q_var 0)) (q_cons (q_fz (q_addQ (q_var 1) q_int)) (q_cons q_int q_nil)))))))
    s_nil)
    (s_cons (s_if (t_eq hr.units (q_var 2) q_int)
    (s_one (s_ret (q_addQ (q_sub q_int (q_pow q_int q_int)) (q_callK h_law_draw (hr.mono (by decide)) (q_cons (q_fz (q_var 0)) (q_cons (q_fz (q_addQ (q_var 1) q_int)) (q_cons q_int q_nil)))))))
    s_nil)
    (s_one (s_ret (q_sub (q_callK h_law_far (hr.mono (by decide)) (q_cons (q_fz (q_var 0)) (q_cons (q_fz (q_addQ (q_var 1) q_int)) q_nil))) (q_mul q_int (q_pow q_int q_int)))))))))
theorem k_law_whole (z : Zs mg) (d : DefAt K mg "_law_whole" st_law_whole ["some"])  : Kept P w K mg base 1 "_law_whole" ["some"] m_law_whole :=
  okP (k := 0) d sc_law_whole fun f cdv A outer s H E hr =>
    (s_one (s_ret (q_and (q_isi kinds_int rfl (z 0 _ rfl) rfl (z 4 _ rfl) boot_int' (q_var 0)) (q_one (q_not (q_isi kinds_bool rfl (z 0 _ rfl) rfl (z 7 _ rfl) boot_bool' (q_var 0)))))))
theorem k_law_tuple (z : Zs mg) (d : DefAt K mg "_law_tuple" st_law_tuple ["told", "due"]) (h_law_whole : Kept P w K mg base 1 "_law_whole" ["some"] m_law_whole) : Kept P w K mg base 2 "_law_tuple" ["told", "due"] m_law_tuple :=
  okP (k := 1) d sc_law_tuple fun f cdv A outer s H E hr =>
    (s_cons (s_if (t_w (w_or (t_not (t_tru (q_isi kinds_tuple rfl (z 0 _ rfl) rfl (z 5 _ rfl) boot_tuple' (q_var 0)))) (w_or1 (t_ne hr.units (q_len rfl (z 3 _ rfl) (q_cons (q_var 0) q_nil)) (q_len rfl (z 3 _ rfl) (q_cons (q_var 1) q_nil))))))
    (s_one (s_ret q_bl))
    s_nil)
    (s_cons (s_for rfl (i_seq (q_var 0)) (g_nm 2 sc_law_tuple.nd)
    (s_one (s_if (t_not (t_tru (q_callK h_law_whole (hr.mono (by decide)) (q_cons (q_fz (q_var 2)) q_nil))))
    (s_one (s_ret q_bl))
    s_nil)) PassesOwn.never)
    (s_one (s_ret (q_eq hr.units (q_var 0) (q_var 1))))))
theorem k_law_telling (z : Zs mg) (d : DefAt K mg "_law_telling" st_law_telling ["script", "k"]) (h_law_draw : Kept P w K mg base 1 "_law_draw" ["script", "k", "many"] m_law_draw) (h_law_name : Kept P w K mg base 2 "_law_name" ["script", "k"] m_law_name) (h_law_far : Kept P w K mg base 2 "_law_far" ["script", "k"] m_law_far) (h_law_number : Kept P w K mg base 3 "_law_number" ["script", "k"] m_law_number) : Kept P w K mg base 4 "_law_telling" ["script", "k"] m_law_telling :=
  okP (k := 3) d sc_law_telling fun f cdv A outer s H E hr =>
    (s_cons (s_set 2 sc_law_telling.nd (q_sub (q_callK h_law_draw (hr.mono (by decide)) (q_cons (q_fz (q_var 0)) (q_cons (q_fz (q_var 1)) (q_cons q_int q_nil)))) q_int))
    (s_cons (s_set 3 sc_law_telling.nd (q_addQ (q_addQ (q_var 2) q_int) (q_callK h_law_draw (hr.mono (by decide)) (q_cons (q_fz (q_var 0)) (q_cons (q_fz (q_addQ (q_var 1) q_int)) (q_cons q_int q_nil))))))
    (s_cons (s_set 4 sc_law_telling.nd (q_callK h_law_draw (hr.mono (by decide)) (q_cons (q_fz (q_var 0)) (q_cons (q_fz (q_addQ (q_var 1) q_int)) (q_cons q_int q_nil)))))
    (s_cons (s_if (t_eq hr.units (q_mod (q_var 4) q_int) q_int)
    (s_cons (s_set 2 sc_law_telling.nd (q_sub (q_var 2) (q_callK h_law_far (hr.mono (by decide)) (q_cons (q_fz (q_var 0)) (q_cons (q_fz (q_addQ (q_var 1) q_int)) q_nil)))))
    (s_one (s_set 3 sc_law_telling.nd (q_addQ (q_var 3) (q_callK h_law_far (hr.mono (by decide)) (q_cons (q_fz (q_var 0)) (q_cons (q_fz (q_addQ (q_var 1) q_int)) q_nil)))))))
    s_nil)
    (s_cons (s_if (t_w (w_or (t_eq hr.units (q_var 4) q_int) (w_or1 (t_eq hr.units (q_var 4) q_int))))
    (s_one (s_set 2 sc_law_telling.nd q_non))
    s_nil)
    (s_cons (s_if (t_w (w_or (t_eq hr.units (q_var 4) q_int) (w_or1 (t_eq hr.units (q_var 4) q_int))))
    (s_one (s_set 3 sc_law_telling.nd q_non))
    s_nil)
    (s_cons (s_set 5 sc_law_telling.nd (q_tuple rfl (z 5 _ rfl) (q_cons (q_comp [0, 1] ["j"] ["script", "k"] rfl (show CompNames (defScope st_law_telling) _ ["j"] ["script", "k"] from ⟨rfl, by decide +kernel, by decide +kernel, by decide +kernel, by decide +kernel, by decide +kernel⟩) (i_r1 rfl (z 6 _ rfl) (q_callK h_law_draw (hr.mono (by decide)) (q_cons (q_fz (q_var 0)) (q_cons (q_fz (q_addQ (q_var 1) q_int)) (q_cons q_int q_nil))))) (fun cl C s₂ H₂ fp => ⟨(g_nm 0 (show (["j", "script", "k"] : List Str).Nodup by decide +kernel)), f_nil, (q_callK h_law_number (hr.mono (by decide)) (q_cons (q_fz (q_var 1)) (q_cons (q_fz (q_addQ (q_addQ (q_var 2) q_int) (q_mul q_int (q_var 0)))) q_nil)))⟩)) q_nil)))
    (s_cons (s_set 6 sc_law_telling.nd (q_ix (q_lst (q_cons q_str (q_cons q_str q_nil))) (q_callK h_law_draw (hr.mono (by decide)) (q_cons (q_fz (q_var 0)) (q_cons (q_fz (q_addQ (q_var 1) q_int)) (q_cons q_int q_nil))))))
    (s_one (s_ret (q_tup (q_cons (q_var 6) (q_cons (q_callK h_law_name (hr.mono (by decide)) (q_cons (q_fz (q_var 0)) (q_cons (q_fz (q_addQ (q_var 1) q_int)) q_nil))) (q_cons (q_var 5) (q_cons (q_var 2) (q_cons (q_var 3) q_nil))))))))))))))))
theorem k_law_end (z : Zs mg) (d : DefAt K mg "_law_end" st_law_end ["end"])  : Kept P w K mg base 1 "_law_end" ["end"] m_law_end :=
  okP (k := 0) d sc_law_end fun f cdv A outer s H E hr =>
    (s_cons (s_if (t_isN (q_var 0))
    (s_one (s_ret q_str))
    s_nil)
    (s_one (s_ret (q_strc rfl (z 1 _ rfl) (q_cons (q_var 0) q_nil)))))
theorem k_law_written (z : Zs mg) (d : DefAt K mg "_law_written" st_law_written ["turn", "telling"]) (h_law_end : Kept P w K mg base 1 "_law_end" ["end"] m_law_end) : Kept P w K mg base 2 "_law_written" ["turn", "telling"] m_law_written :=
  okP (k := 1) d sc_law_written fun f cdv A outer s H E hr =>
    (s_cons (s_set 2 sc_law_written.nd (q_lst (q_cons (q_ix (q_var 1) q_int) (q_cons (q_strc rfl (z 1 _ rfl) (q_cons (q_var 0) q_nil)) (q_cons (q_ix (q_var 1) q_int) (q_cons (q_callK h_law_end (hr.mono (by decide)) (q_cons (q_fz (q_ix (q_var 1) q_int)) q_nil)) (q_cons (q_callK h_law_end (hr.mono (by decide)) (q_cons (q_fz (q_ix (q_var 1) q_int)) q_nil)) q_nil)))))))
    (s_cons (s_for rfl (i_seq (q_ix (q_var 1) q_int)) (g_nm 3 sc_law_written.nd)
    (s_one (s_expr (q_app (q_var 2) (q_cons (q_strc rfl (z 1 _ rfl) (q_cons (q_var 3) q_nil)) q_nil)))) PassesOwn.never)
    (s_one (s_ret (q_join q_str (q_addQ (q_var 2) (q_lst (q_cons q_str q_nil))))))))
theorem k_law_alike (z : Zs mg) (d : DefAt K mg "_law_alike" st_law_alike ["told", "turn", "telling"]) (h_law_tuple : Kept P w K mg base 2 "_law_tuple" ["told", "due"] m_law_tuple) (h_law_whole : Kept P w K mg base 1 "_law_whole" ["some"] m_law_whole) : Kept P w K mg base 3 "_law_alike" ["told", "turn", "telling"] m_law_alike :=
  okP (k := 2) d sc_law_alike fun f cdv A outer s H E hr =>
    (s_cons (s_if (t_w (w_or (t_not (t_tru (q_isi kinds_tuple rfl (z 0 _ rfl) rfl (z 5 _ rfl) boot_tuple' (q_var 0)))) (w_or (t_ne hr.units (q_len rfl (z 3 _ rfl) (q_cons (q_var 0) q_nil)) q_int) (w_or (t_not (t_tru (q_callK h_law_whole (hr.mono (by decide)) (q_cons (q_fz (q_ix (q_var 0) q_int)) q_nil)))) (w_or1 (t_ne hr.units (q_ix (q_var 0) q_int) (q_var 1)))))))
    (s_one (s_ret q_bl))
    s_nil)
    (s_cons (s_set 3 sc_law_alike.nd (q_ix (q_var 0) q_int))
    (s_cons (s_if (t_w (w_or (t_not (t_tru (q_isi kinds_tuple rfl (z 0 _ rfl) rfl (z 5 _ rfl) boot_tuple' (q_var 3)))) (w_or (t_ne hr.units (q_len rfl (z 3 _ rfl) (q_cons (q_var 3) q_nil)) q_int) (w_or1 (t_ne hr.units (q_sl (q_var 3) q_oN (q_oS q_int)) (q_sl (q_var 2) q_oN (q_oS q_int)))))))
    (s_one (s_ret q_bl))
    s_nil)
    (s_cons (s_if (t_not (t_tru (q_callK h_law_tuple (hr.mono (by decide)) (q_cons (q_fz (q_ix (q_var 3) q_int)) (q_cons (q_fz (q_ix (q_var 2) q_int)) q_nil)))))
    (s_one (s_ret q_bl))
    s_nil)
    (s_cons (s_for rfl (i_seq (q_sl (q_var 3) (q_oS q_int) q_oN)) (g_nm 4 sc_law_alike.nd)
    (s_one (s_if (t_w (w_and (t_notN (q_var 4)) (w_and1 (t_not (t_tru (q_callK h_law_whole (hr.mono (by decide)) (q_cons (q_fz (q_var 4)) q_nil)))))))
    (s_one (s_ret q_bl))
    s_nil)) PassesOwn.never)
    (s_one (s_ret (q_eq hr.units (q_sl (q_var 3) (q_oS q_int) q_oN) (q_sl (q_var 2) (q_oS q_int) q_oN)))))))))
theorem k_law_read (z : Zs mg) (d : DefAt K mg "_law_read" st_law_read ["word"])  : Kept P w K mg base 1 "_law_read" ["word"] m_law_read :=
  okP (k := 0) d sc_law_read fun f cdv A outer s H E hr =>
    (s_cons (s_set 1 sc_law_read.nd (q_var 0))
    (s_cons (s_if (t_eq hr.units (q_slS (q_var 0) q_oN (q_oS q_int)) q_str)
    (s_one (s_set 1 sc_law_read.nd (q_slS (q_var 0) (q_oS q_int) q_oN)))
    s_nil)
    (s_cons (s_if (t_w (w_or (t_lt (q_lenS rfl (z 3 _ rfl) (q_cons (q_var 1) q_nil)) q_int) (w_or (t_gt (q_lenS rfl (z 3 _ rfl) (q_cons (q_var 1) q_nil)) q_int) (w_or1 (t_ne hr.units (q_comp [] ["sign"] [] rfl (show CompNames (defScope st_law_read) _ ["sign"] [] from ⟨rfl, by decide +kernel, by decide +kernel, by decide +kernel, by decide +kernel, by decide +kernel⟩) (i_str (q_var 1)) (fun cl C s₂ H₂ fp => ⟨(g_nm 0 (show (["sign"] : List Str).Nodup by decide +kernel)), (f_one (t_ninS (q_var 0) q_str)), (q_var 0)⟩)) (q_lst q_nil))))))
    (s_one (s_ret q_non))
    s_nil)
    (s_cons (s_if (t_w (w_and (t_eq hr.units (q_ixS (q_var 1) q_int) q_str) (w_and1 (t_ne hr.units (q_var 0) q_str))))
    (s_one (s_ret q_non))
    s_nil)
    (s_one (s_ret (q_intS rfl (z 4 _ rfl) (q_cons (q_var 0) q_nil))))))))
theorem k_law_due (z : Zs mg) (d : DefAt K mg "_law_due" st_law_due ["text"]) (h_law_read : Kept P w K mg base 1 "_law_read" ["word"] m_law_read) : Kept P w K mg base 2 "_law_due" ["text"] m_law_due :=
  okP (k := 1) d sc_law_due fun f cdv A outer s H E hr =>
    (s_cons (s_set 1 sc_law_due.nd (q_split (q_var 0) q_str))
    (s_cons (s_if (t_w (w_or (t_lt (q_len rfl (z 3 _ rfl) (q_cons (q_var 1) q_nil)) q_int) (w_or (t_ninW (q_ix (q_var 1) q_int) (q_tup (q_cons q_str (q_cons q_str q_nil)))) (w_or1 (t_ne hr.units (q_ix (q_var 1) (q_neg q_int)) q_str)))))
    (s_one (s_ret q_non))
    s_nil)
    (s_cons (s_set 2 sc_law_due.nd (q_ix (q_var 1) q_int))
    (s_cons (s_if (t_w (w_or (t_lt (q_lenS rfl (z 3 _ rfl) (q_cons (q_var 2) q_nil)) q_int) (w_or1 (t_gt (q_lenS rfl (z 3 _ rfl) (q_cons (q_var 2) q_nil)) q_int))))
    (s_one (s_ret q_non))
    s_nil)
    (s_cons (s_if (t_ne hr.units (q_comp [] ["sign"] [] rfl (show CompNames (defScope st_law_due) _ ["sign"] [] from ⟨rfl, by decide +kernel, by decide +kernel, by decide +kernel, by decide +kernel, by decide +kernel⟩) (i_str (q_var 2)) (fun cl C s₂ H₂ fp => ⟨(g_nm 0 (show (["sign"] : List Str).Nodup by decide +kernel)), (f_one (t_ninS (q_var 0) q_str)), (q_var 0)⟩)) (q_lst q_nil))
    (s_one (s_ret q_non))
    s_nil)
    (s_cons (s_comp 3 [] ["word"] [] rfl (show CompNames (defScope st_law_due) _ ["word"] [] from ⟨rfl, by decide +kernel, by decide +kernel, by decide +kernel, by decide +kernel, by decide +kernel⟩) sc_law_due.nd (i_seq (q_addQ (q_sl (q_var 1) (q_oS q_int) (q_oS q_int)) (q_sl (q_var 1) (q_oS q_int) (q_oS (q_neg q_int))))) (fun cl C s₂ H₂ fp => ⟨(g_nm 0 (show (["word"] : List Str).Nodup by decide +kernel)), f_nil, (q_callK h_law_read (hr.mono (by decide)) (q_cons (q_fz (q_var 0)) q_nil))⟩))
    (s_cons (s_comp 4 [] ["word"] [] rfl (show CompNames (defScope st_law_due) _ ["word"] [] from ⟨rfl, by decide +kernel, by decide +kernel, by decide +kernel, by decide +kernel, by decide +kernel⟩) sc_law_due.nd (i_seq (q_sl (q_var 1) (q_oS q_int) (q_oS q_int))) (fun cl C s₂ H₂ fp => ⟨(g_nm 0 (show (["word"] : List Str).Nodup by decide +kernel)), (f_one (t_ne hr.units (q_var 0) q_str)), (q_callK h_law_read (hr.mono (by decide)) (q_cons (q_fz (q_var 0)) q_nil))⟩))
    (s_cons (s_if (t_w (w_or (t_inN q_non (q_var 3)) (w_or (t_inN q_non (q_var 4)) (w_or1 (t_lt (q_ix (q_var 3) q_int) q_int)))))
    (s_one (s_ret q_non))
    s_nil)
    (s_cons (s_if (t_w (w_and (t_eq hr.units (q_len rfl (z 3 _ rfl) (q_cons (q_var 4) q_nil)) q_int) (w_and1 (t_ge (q_ix (q_var 4) q_int) (q_ix (q_var 4) q_int)))))
    (s_one (s_ret q_non))
    s_nil)
    (s_cons (s_comp 4 [] ["word"] [] rfl (show CompNames (defScope st_law_due) _ ["word"] [] from ⟨rfl, by decide +kernel, by decide +kernel, by decide +kernel, by decide +kernel, by decide +kernel⟩) sc_law_due.nd (i_seq (q_sl (q_var 1) (q_oS q_int) (q_oS q_int))) (fun cl C s₂ H₂ fp => ⟨(g_nm 0 (show (["word"] : List Str).Nodup by decide +kernel)), f_nil, (q_if (t_eq hr.units (q_var 0) q_str) q_non (q_callK h_law_read (hr.mono (by decide)) (q_cons (q_fz (q_var 0)) q_nil)))⟩))
    (s_one (s_ret (q_tup (q_cons (q_ix (q_var 3) q_int) (q_cons (q_tup (q_cons (q_ix (q_var 1) q_int) (q_cons (q_var 2) (q_cons (q_tuple rfl (z 5 _ rfl) (q_cons (q_sl (q_var 3) (q_oS q_int) q_oN) q_nil)) (q_cons (q_ix (q_var 4) q_int) (q_cons (q_ix (q_var 4) q_int) q_nil)))))) q_nil)))))))))))))))
theorem k_law_changed (z : Zs mg) (d : DefAt K mg "_law_changed" st_law_changed ["script", "k", "text"]) (h_law_draw : Kept P w K mg base 1 "_law_draw" ["script", "k", "many"] m_law_draw) : Kept P w K mg base 2 "_law_changed" ["script", "k", "text"] m_law_changed :=
  okP (k := 1) d sc_law_changed fun f cdv A outer s H E hr =>
    (s_cons (s_set 3 sc_law_changed.nd (q_split (q_var 2) q_str))
    (s_cons (s_set 4 sc_law_changed.nd (q_callK h_law_draw (hr.mono (by decide)) (q_cons (q_fz (q_var 0)) (q_cons (q_fz (q_var 1)) (q_cons q_int q_nil)))))
    (s_cons (s_set 5 sc_law_changed.nd (q_callK h_law_draw (hr.mono (by decide)) (q_cons (q_fz (q_var 0)) (q_cons (q_fz (q_addQ (q_var 1) q_int)) (q_cons (q_fz (q_len rfl (z 3 _ rfl) (q_cons (q_var 3) q_nil))) q_nil)))))
    (s_cons (s_set 6 sc_law_changed.nd (q_lst (q_cons q_str (q_cons q_str (q_cons q_str (q_cons q_str (q_cons q_str (q_cons q_str (q_cons q_str (q_cons q_str (q_cons q_str (q_cons q_str (q_cons q_str (q_cons q_str (q_cons q_str (q_cons q_str (q_cons q_str (q_cons q_str q_nil))))))))))))))))))
    (s_cons (s_set 7 sc_law_changed.nd (q_ix (q_var 6) (q_callK h_law_draw (hr.mono (by decide)) (q_cons (q_fz (q_var 0)) (q_cons (q_fz (q_addQ (q_var 1) q_int)) (q_cons q_int q_nil))))))
    (s_cons (s_if (t_lt (q_var 4) q_int)
    (s_one (s_ret (q_join q_str (q_addQ (q_addQ (q_sl (q_var 3) q_oN (q_oS (q_var 5))) (q_lst (q_cons (q_var 7) q_nil))) (q_sl (q_var 3) (q_oS (q_addQ (q_var 5) q_int)) q_oN)))))
    s_nil)
    (s_cons (s_if (t_eq hr.units (q_var 4) q_int)
    (s_one (s_ret (q_join q_str (q_addQ (q_addQ (q_sl (q_var 3) q_oN (q_oS (q_var 5))) (q_lst (q_cons (q_var 7) q_nil))) (q_sl (q_var 3) (q_oS (q_var 5)) q_oN)))))
    s_nil)
    (s_cons (s_if (t_eq hr.units (q_var 4) q_int)
    (s_one (s_ret (q_join q_str (q_addQ (q_sl (q_var 3) q_oN (q_oS (q_var 5))) (q_sl (q_var 3) (q_oS (q_addQ (q_var 5) q_int)) q_oN)))))
    s_nil)
    (s_cons (s_set 5 sc_law_changed.nd (q_callK h_law_draw (hr.mono (by decide)) (q_cons (q_fz (q_var 0)) (q_cons (q_fz (q_addQ (q_var 1) q_int)) (q_cons (q_fz (q_addQ (q_lenS rfl (z 3 _ rfl) (q_cons (q_var 2) q_nil)) q_int)) q_nil)))))
    (s_one (s_ret (q_addQ (q_addQ (q_slS (q_var 2) q_oN (q_oS (q_var 5))) (q_ixS q_str (q_callK h_law_draw (hr.mono (by decide)) (q_cons (q_fz (q_var 0)) (q_cons (q_fz (q_addQ (q_var 1) q_int)) (q_cons q_int q_nil)))))) (q_slS (q_var 2) (q_oS (q_var 5)) q_oN)))))))))))))
theorem k_law_good (z : Zs mg) (d : DefAt K mg "_law_good" st_law_good ["text", "due"]) (h_read_telling : Kept P w K mg base 4 "read_telling" ["text"] m_read_telling) (h_law_alike : Kept P w K mg base 3 "_law_alike" ["told", "turn", "telling"] m_law_alike) (hx_read_telling : KeptX P w K mg base 4 "read_telling" ["text"] x_read_telling) : Kept P w K mg base 5 "_law_good" ["text", "due"] m_law_good :=
  okP (k := 4) d sc_law_good fun f cdv A outer s H E hr =>
    (s_cons (s_set 2 sc_law_good.nd (q_lst q_nil))
    (s_cons (s_set 3 sc_law_good.nd q_non)
    (s_cons (s_try (i := 4) sc_law_good.nd xf.e_HeldError.mg xf.e_HeldError.own (try_cons xf.e_NoText xf.m_NoText try_nil) (s_set 3 sc_law_good.nd (q_callK h_read_telling (hr.mono (by decide)) (q_cons (q_fz (q_var 0)) q_nil))) (pxc_set (pxe_call hx_read_telling (hr.mono (by decide)) (fun xe => (q_cons (q_fz (q_var 0)) q_nil)))) (fun ea => (s_cons (s_set 2 sc_law_good.nd (q_lst (q_cons (q_isx (z 0 _ rfl) (q_glb (v := .ref q_NoText) xf.e_NoText.mg rfl) rfl (fun _ h => h) (isx_cons xf.e_NoText xf.k_NoText_NoText isx_nil) (q_var 4)) (q_cons (q_isx (z 0 _ rfl) (q_blt (v := .ty "ValueError") (z 8 _ rfl) (by decide +kernel : bootBuiltins "ValueError" = some (.type "ValueError")) rfl) rfl (fun _ h => h) (isx_cons xf.e_NoText xf.k_NoText_ValueError isx_nil) (q_var 4)) q_nil))))
    (s_one (s_set 2 sc_law_good.nd (q_addQ (q_var 2) (q_lst (q_cons (q_isxt (z 0 _ rfl) (q_cs1 (q_glb (v := .ref q_NoColumn) xf.e_NoColumn.mg rfl) (q_cs1 (q_glb (v := .ref q_NoStretch) xf.e_NoStretch.mg rfl) (q_cs1 (q_glb (v := .ref q_NoTable) xf.e_NoTable.mg rfl) (q_cs1 (q_glb (v := .ref q_NoTurn) xf.e_NoTurn.mg rfl) (q_cs1 (q_glb (v := .ref q_NoWidth) xf.e_NoWidth.mg rfl) (q_cs1 (q_glb (v := .ref q_NoWord) xf.e_NoWord.mg rfl) q_cs0)))))) (show 6 ≤ sizeLine by decide) (vals_refs [q_NoColumn, q_NoStretch, q_NoTable, q_NoTurn, q_NoWidth, q_NoWord]) (isxt_cons xf.e_NoText xf.k_NoText_t2 isxt_nil) (q_var 4)) q_nil))))))))
    (s_cons (s_if (t_isN (q_var 1))
    (s_one (s_ret (q_eq hr.units (q_var 2) (q_lst (q_cons q_bl (q_cons q_bl (q_cons q_bl q_nil)))))))
    s_nil)
    (s_one (s_ret (q_and (q_eq hr.units (q_var 2) (q_lst q_nil)) (q_one (q_callK h_law_alike (hr.mono (by decide)) (q_cons (q_fz (q_var 3)) (q_cons (q_fz (q_ix (q_var 1) q_int)) (q_cons (q_fz (q_ix (q_var 1) q_int)) q_nil))))))))))))
theorem k_law {f : Addr} {fd : FuncData} (z : Zs mg) (F : Fun K "law" "law" st_law f fd) (h_law_telling : Kept P w K mg base 4 "_law_telling" ["script", "k"] m_law_telling) (h_law_written : Kept P w K mg base 2 "_law_written" ["turn", "telling"] m_law_written) (h_law_good : Kept P w K mg base 5 "_law_good" ["text", "due"] m_law_good) (h_law_draw : Kept P w K mg base 1 "_law_draw" ["script", "k", "many"] m_law_draw) (h_law_changed : Kept P w K mg base 2 "_law_changed" ["script", "k", "text"] m_law_changed) (h_law_due : Kept P w K mg base 2 "_law_due" ["text"] m_law_due) : FnOk P w K mg base CX0 6 f fd ["script"] (spP K 1 m_law) :=
  funOkP (k := 5) F sc_law fun cdv A outer s H E hr =>
    (s_cons (s_if (t_not (t_tru (q_callK h_law_good (hr.mono (by decide)) (q_cons (q_fz (q_ix (q_lst (q_cons q_non (q_cons q_int (q_cons (q_fz (q_lst (q_cons q_str q_nil))) (q_cons (q_tup (q_cons q_str q_nil)) (q_cons q_bl (q_cons (q_fz q_dnew) q_nil))))))) (q_callK h_law_draw (hr.mono (by decide)) (q_cons (q_fz (q_var 0)) (q_cons q_int (q_cons q_int q_nil)))))) (q_cons q_non q_nil)))))
    (s_one (s_ret q_bl))
    s_nil)
    (s_cons (s_set 1 sc_law.nd (q_callK h_law_telling (hr.mono (by decide)) (q_cons (q_fz (q_var 0)) (q_cons q_int q_nil))))
    (s_cons (s_set 2 sc_law.nd (q_addQ q_int (q_callK h_law_draw (hr.mono (by decide)) (q_cons (q_fz (q_var 0)) (q_cons q_int (q_cons q_int q_nil))))))
    (s_cons (s_set 3 sc_law.nd (q_callK h_law_written (hr.mono (by decide)) (q_cons (q_fz (q_var 2)) (q_cons (q_fz (q_var 1)) q_nil))))
    (s_cons (s_for rfl (i_r1 rfl (z 6 _ rfl) (q_min rfl rfl (z 9 _ rfl) (q_cons (q_lenS rfl (z 3 _ rfl) (q_cons (q_var 3) q_nil)) (q_cons q_int q_nil)))) (g_nm 4 sc_law.nd)
    (s_one (s_if (t_w (w_or (t_not (t_tru (q_callK h_law_good (hr.mono (by decide)) (q_cons (q_fz (q_slS (q_var 3) q_oN (q_oS (q_var 4)))) (q_cons q_non q_nil))))) (w_or1 (t_not (t_tru (q_callK h_law_good (hr.mono (by decide)) (q_cons (q_fz (q_slS (q_var 3) q_oN (q_oS (q_sub (q_sub (q_lenS rfl (z 3 _ rfl) (q_cons (q_var 3) q_nil)) q_int) (q_var 4))))) (q_cons q_non q_nil))))))))
    (s_one (s_ret q_bl))
    s_nil)) PassesOwn.never)
    (s_cons (s_for rfl (i_r1 rfl (z 6 _ rfl) (q_min rfl rfl (z 9 _ rfl) (q_cons (q_len rfl (z 3 _ rfl) (q_cons (q_var 0) q_nil)) (q_cons q_int q_nil)))) (g_nm 5 sc_law.nd)
    (s_cons (s_set 6 sc_law.nd (q_callK h_law_changed (hr.mono (by decide)) (q_cons (q_fz (q_var 0)) (q_cons (q_fz (q_var 5)) (q_cons (q_fz (q_var 3)) q_nil)))))
    (s_one (s_if (t_not (t_tru (q_callK h_law_good (hr.mono (by decide)) (q_cons (q_fz (q_var 6)) (q_cons (q_fz (q_callK h_law_due (hr.mono (by decide)) (q_cons (q_fz (q_var 6)) q_nil))) q_nil)))))
    (s_one (s_ret q_bl))
    s_nil))) PassesOwn.never)
    (s_one (s_ret (q_callK h_law_good (hr.mono (by decide)) (q_cons (q_fz (q_var 3)) (q_cons (q_fz (q_tup (q_cons (q_var 2) (q_cons (q_var 1) q_nil)))) q_nil)))))))))))
end
set_option maxHeartbeats 4000000 in
theorem all_mk {l : PySem.W.OpenLaw} {w : World} {K : PySem.W.Frag} {h : Heap} {mg : Str → Option Value} {fa f0 f1 f2 f3 f4 f5 f6 f7 f8 f9 f10 f11 f12 f13 f14 f15 f16 f17 f18 f19 f20 f21 f22 f23 : Addr} (X : K.In h) (G : h.Ns mainGlobals mg) (hfa : mg "law" = some (.ref fa)) {od0 an0 od1 an1 od2 an2 od3 an3 od4 an4 od5 an5 od6 an6 od7 an7 od8 an8 od9 an9 od10 an10 od11 an11 od12 an12 od13 an13 od14 an14 od15 an15 od16 an16 od17 an17 od18 an18 od19 an19 od20 an20 od21 an21 od22 an22 od23 an23 : Option Addr} {sl0 sl1 sl2 sl3 sl4 sl5 sl6 sl7 sl8 sl9 sl10 sl11 sl12 sl13 sl14 sl15 sl16 sl17 sl18 sl19 sl20 sl21 sl22 sl23 : Array (Option Value)} {oc0 kV0 dc0 pm0 cd0 ct0 oc1 kV1 dc1 pm1 cd1 ct1 oc2 kV2 dc2 pm2 cd2 ct2 oc3 kV3 dc3 pm3 cd3 ct3 oc4 kV4 dc4 pm4 cd4 ct4 oc5 kV5 dc5 pm5 cd5 ct5 oc6 kV6 dc6 pm6 cd6 ct6 oc7 kV7 dc7 pm7 cd7 ct7 oc8 kV8 dc8 pm8 cd8 ct8 oc9 kV9 dc9 pm9 cd9 ct9 oc10 kV10 dc10 pm10 cd10 ct10 oc11 kV11 dc11 pm11 cd11 ct11 oc12 kV12 dc12 pm12 cd12 ct12 oc13 kV13 dc13 pm13 cd13 ct13 oc14 kV14 dc14 pm14 cd14 ct14 oc15 kV15 dc15 pm15 cd15 ct15 oc16 kV16 dc16 pm16 cd16 ct16 oc17 kV17 dc17 pm17 cd17 ct17 oc18 kV18 dc18 pm18 cd18 ct18 oc19 kV19 dc19 pm19 cd19 ct19 oc20 kV20 dc20 pm20 cd20 ct20 oc21 kV21 dc21 pm21 cd21 ct21 oc22 kV22 dc22 pm22 cd22 ct22 oc23 kV23 dc23 pm23 cd23 ct23 : Value}
    (a0 : PySem.W.nsIn K mainGlobals "stretch_of" = some (some (.ref f0))) (l0 : K.lookup f0 = some ⟨oc0, od0, .func (PySem.W.fnOf "stretch_of" "stretch_of" (defArgs st_stretch_of) (defBody st_stretch_of) (defScope st_stretch_of) .none kV0 dc0 pm0 an0 cd0 ct0), sl0⟩) (c0 : PySem.W.codeIn K cd0 "stretch_of" = true) (k0 : PySem.W.keepIn K (.ref f0) = true)
    (a1 : PySem.W.nsIn K mainGlobals "check_text" = some (some (.ref f1))) (l1 : K.lookup f1 = some ⟨oc1, od1, .func (PySem.W.fnOf "check_text" "check_text" (defArgs st_check_text) (defBody st_check_text) (defScope st_check_text) .none kV1 dc1 pm1 an1 cd1 ct1), sl1⟩) (c1 : PySem.W.codeIn K cd1 "check_text" = true) (k1 : PySem.W.keepIn K (.ref f1) = true)
    (a2 : PySem.W.nsIn K mainGlobals "is_made_of" = some (some (.ref f2))) (l2 : K.lookup f2 = some ⟨oc2, od2, .func (PySem.W.fnOf "is_made_of" "is_made_of" (defArgs st_is_made_of) (defBody st_is_made_of) (defScope st_is_made_of) .none kV2 dc2 pm2 an2 cd2 ct2), sl2⟩) (c2 : PySem.W.codeIn K cd2 "is_made_of" = true) (k2 : PySem.W.keepIn K (.ref f2) = true)
    (a3 : PySem.W.nsIn K mainGlobals "read_number" = some (some (.ref f3))) (l3 : K.lookup f3 = some ⟨oc3, od3, .func (PySem.W.fnOf "read_number" "read_number" (defArgs st_read_number) (defBody st_read_number) (defScope st_read_number) .none kV3 dc3 pm3 an3 cd3 ct3), sl3⟩) (c3 : PySem.W.codeIn K cd3 "read_number" = true) (k3 : PySem.W.keepIn K (.ref f3) = true)
    (a4 : PySem.W.nsIn K mainGlobals "read_number_from" = some (some (.ref f4))) (l4 : K.lookup f4 = some ⟨oc4, od4, .func (PySem.W.fnOf "read_number_from" "read_number_from" (defArgs st_read_number_from) (defBody st_read_number_from) (defScope st_read_number_from) .none kV4 dc4 pm4 an4 cd4 ct4), sl4⟩) (c4 : PySem.W.codeIn K cd4 "read_number_from" = true) (k4 : PySem.W.keepIn K (.ref f4) = true)
    (a5 : PySem.W.nsIn K mainGlobals "read_end" = some (some (.ref f5))) (l5 : K.lookup f5 = some ⟨oc5, od5, .func (PySem.W.fnOf "read_end" "read_end" (defArgs st_read_end) (defBody st_read_end) (defScope st_read_end) .none kV5 dc5 pm5 an5 cd5 ct5), sl5⟩) (c5 : PySem.W.codeIn K cd5 "read_end" = true) (k5 : PySem.W.keepIn K (.ref f5) = true)
    (a6 : PySem.W.nsIn K mainGlobals "read_letters" = some (some (.ref f6))) (l6 : K.lookup f6 = some ⟨oc6, od6, .func (PySem.W.fnOf "read_letters" "read_letters" (defArgs st_read_letters) (defBody st_read_letters) (defScope st_read_letters) .none kV6 dc6 pm6 an6 cd6 ct6), sl6⟩) (c6 : PySem.W.codeIn K cd6 "read_letters" = true) (k6 : PySem.W.keepIn K (.ref f6) = true)
    (a7 : PySem.W.nsIn K mainGlobals "words_of" = some (some (.ref f7))) (l7 : K.lookup f7 = some ⟨oc7, od7, .func (PySem.W.fnOf "words_of" "words_of" (defArgs st_words_of) (defBody st_words_of) (defScope st_words_of) .none kV7 dc7 pm7 an7 cd7 ct7), sl7⟩) (c7 : PySem.W.codeIn K cd7 "words_of" = true) (k7 : PySem.W.keepIn K (.ref f7) = true)
    (a8 : PySem.W.nsIn K mainGlobals "read_telling" = some (some (.ref f8))) (l8 : K.lookup f8 = some ⟨oc8, od8, .func (PySem.W.fnOf "read_telling" "read_telling" (defArgs st_read_telling) (defBody st_read_telling) (defScope st_read_telling) .none kV8 dc8 pm8 an8 cd8 ct8), sl8⟩) (c8 : PySem.W.codeIn K cd8 "read_telling" = true) (k8 : PySem.W.keepIn K (.ref f8) = true)
    (a9 : PySem.W.nsIn K mainGlobals "_law_draw" = some (some (.ref f9))) (l9 : K.lookup f9 = some ⟨oc9, od9, .func (PySem.W.fnOf "_law_draw" "_law_draw" (defArgs st_law_draw) (defBody st_law_draw) (defScope st_law_draw) .none kV9 dc9 pm9 an9 cd9 ct9), sl9⟩) (c9 : PySem.W.codeIn K cd9 "_law_draw" = true) (k9 : PySem.W.keepIn K (.ref f9) = true)
    (a10 : PySem.W.nsIn K mainGlobals "_law_far" = some (some (.ref f10))) (l10 : K.lookup f10 = some ⟨oc10, od10, .func (PySem.W.fnOf "_law_far" "_law_far" (defArgs st_law_far) (defBody st_law_far) (defScope st_law_far) .none kV10 dc10 pm10 an10 cd10 ct10), sl10⟩) (c10 : PySem.W.codeIn K cd10 "_law_far" = true) (k10 : PySem.W.keepIn K (.ref f10) = true)
    (a11 : PySem.W.nsIn K mainGlobals "_law_name" = some (some (.ref f11))) (l11 : K.lookup f11 = some ⟨oc11, od11, .func (PySem.W.fnOf "_law_name" "_law_name" (defArgs st_law_name) (defBody st_law_name) (defScope st_law_name) .none kV11 dc11 pm11 an11 cd11 ct11), sl11⟩) (c11 : PySem.W.codeIn K cd11 "_law_name" = true) (k11 : PySem.W.keepIn K (.ref f11) = true)
    (a12 : PySem.W.nsIn K mainGlobals "_law_number" = some (some (.ref f12))) (l12 : K.lookup f12 = some ⟨oc12, od12, .func (PySem.W.fnOf "_law_number" "_law_number" (defArgs st_law_number) (defBody st_law_number) (defScope st_law_number) .none kV12 dc12 pm12 an12 cd12 ct12), sl12⟩) (c12 : PySem.W.codeIn K cd12 "_law_number" = true) (k12 : PySem.W.keepIn K (.ref f12) = true)
    (a13 : PySem.W.nsIn K mainGlobals "_law_whole" = some (some (.ref f13))) (l13 : K.lookup f13 = some ⟨oc13, od13, .func (PySem.W.fnOf "_law_whole" "_law_whole" (defArgs st_law_whole) (defBody st_law_whole) (defScope st_law_whole) .none kV13 dc13 pm13 an13 cd13 ct13), sl13⟩) (c13 : PySem.W.codeIn K cd13 "_law_whole" = true) (k13 : PySem.W.keepIn K (.ref f13) = true)
    (a14 : PySem.W.nsIn K mainGlobals "_law_tuple" = some (some (.ref f14))) (l14 : K.lookup f14 = some ⟨oc14, od14, .func (PySem.W.fnOf "_law_tuple" "_law_tuple" (defArgs st_law_tuple) (defBody st_law_tuple) (defScope st_law_tuple) .none kV14 dc14 pm14 an14 cd14 ct14), sl14⟩) (c14 : PySem.W.codeIn K cd14 "_law_tuple" = true) (k14 : PySem.W.keepIn K (.ref f14) = true)
    (a15 : PySem.W.nsIn K mainGlobals "_law_telling" = some (some (.ref f15))) (l15 : K.lookup f15 = some ⟨oc15, od15, .func (PySem.W.fnOf "_law_telling" "_law_telling" (defArgs st_law_telling) (defBody st_law_telling) (defScope st_law_telling) .none kV15 dc15 pm15 an15 cd15 ct15), sl15⟩) (c15 : PySem.W.codeIn K cd15 "_law_telling" = true) (k15 : PySem.W.keepIn K (.ref f15) = true)
    (a16 : PySem.W.nsIn K mainGlobals "_law_end" = some (some (.ref f16))) (l16 : K.lookup f16 = some ⟨oc16, od16, .func (PySem.W.fnOf "_law_end" "_law_end" (defArgs st_law_end) (defBody st_law_end) (defScope st_law_end) .none kV16 dc16 pm16 an16 cd16 ct16), sl16⟩) (c16 : PySem.W.codeIn K cd16 "_law_end" = true) (k16 : PySem.W.keepIn K (.ref f16) = true)
    (a17 : PySem.W.nsIn K mainGlobals "_law_written" = some (some (.ref f17))) (l17 : K.lookup f17 = some ⟨oc17, od17, .func (PySem.W.fnOf "_law_written" "_law_written" (defArgs st_law_written) (defBody st_law_written) (defScope st_law_written) .none kV17 dc17 pm17 an17 cd17 ct17), sl17⟩) (c17 : PySem.W.codeIn K cd17 "_law_written" = true) (k17 : PySem.W.keepIn K (.ref f17) = true)
    (a18 : PySem.W.nsIn K mainGlobals "_law_alike" = some (some (.ref f18))) (l18 : K.lookup f18 = some ⟨oc18, od18, .func (PySem.W.fnOf "_law_alike" "_law_alike" (defArgs st_law_alike) (defBody st_law_alike) (defScope st_law_alike) .none kV18 dc18 pm18 an18 cd18 ct18), sl18⟩) (c18 : PySem.W.codeIn K cd18 "_law_alike" = true) (k18 : PySem.W.keepIn K (.ref f18) = true)
    (a19 : PySem.W.nsIn K mainGlobals "_law_read" = some (some (.ref f19))) (l19 : K.lookup f19 = some ⟨oc19, od19, .func (PySem.W.fnOf "_law_read" "_law_read" (defArgs st_law_read) (defBody st_law_read) (defScope st_law_read) .none kV19 dc19 pm19 an19 cd19 ct19), sl19⟩) (c19 : PySem.W.codeIn K cd19 "_law_read" = true) (k19 : PySem.W.keepIn K (.ref f19) = true)
    (a20 : PySem.W.nsIn K mainGlobals "_law_due" = some (some (.ref f20))) (l20 : K.lookup f20 = some ⟨oc20, od20, .func (PySem.W.fnOf "_law_due" "_law_due" (defArgs st_law_due) (defBody st_law_due) (defScope st_law_due) .none kV20 dc20 pm20 an20 cd20 ct20), sl20⟩) (c20 : PySem.W.codeIn K cd20 "_law_due" = true) (k20 : PySem.W.keepIn K (.ref f20) = true)
    (a21 : PySem.W.nsIn K mainGlobals "_law_changed" = some (some (.ref f21))) (l21 : K.lookup f21 = some ⟨oc21, od21, .func (PySem.W.fnOf "_law_changed" "_law_changed" (defArgs st_law_changed) (defBody st_law_changed) (defScope st_law_changed) .none kV21 dc21 pm21 an21 cd21 ct21), sl21⟩) (c21 : PySem.W.codeIn K cd21 "_law_changed" = true) (k21 : PySem.W.keepIn K (.ref f21) = true)
    (a22 : PySem.W.nsIn K mainGlobals "_law_good" = some (some (.ref f22))) (l22 : K.lookup f22 = some ⟨oc22, od22, .func (PySem.W.fnOf "_law_good" "_law_good" (defArgs st_law_good) (defBody st_law_good) (defScope st_law_good) .none kV22 dc22 pm22 an22 cd22 ct22), sl22⟩) (c22 : PySem.W.codeIn K cd22 "_law_good" = true) (k22 : PySem.W.keepIn K (.ref f22) = true)
    (a23 : PySem.W.nsIn K mainGlobals "law" = some (some (.ref f23))) (l23 : K.lookup f23 = some ⟨oc23, od23, .func (PySem.W.fnOf "law" "law" (defArgs st_law) (defBody st_law) (defScope st_law) .none kV23 dc23 pm23 an23 cd23 ct23), sl23⟩) (c23 : PySem.W.codeIn K cd23 "law" = true) (k23 : PySem.W.keepIn K (.ref f23) = true)
    {qNO_NUMBERS : Addr} {qnNO_NUMBERS : Nat} {qsNO_NUMBERS : Array (Option Value)} {qNO_NUMBERS_1 : Addr} {qnNO_NUMBERS_1 : Nat} {qsNO_NUMBERS_1 : Array (Option Value)} {qALL_NUMBERS : Addr} {qnALL_NUMBERS : Nat} {qsALL_NUMBERS : Array (Option Value)} {qALL_NUMBERS_1 : Addr} {qnALL_NUMBERS_1 : Nat} {qsALL_NUMBERS_1 : Array (Option Value)} {tkFIGURES : Tok} {tkMOST_FIGURES : Tok} {tkSMALL_LETTERS : Tok} {tkMOST_LETTERS : Tok} (gNO_NUMBERS : PySem.W.nsIn K mainGlobals "NO_NUMBERS" = some (some (.ref qNO_NUMBERS))) (LNO_NUMBERS : K.lookup qNO_NUMBERS = some ⟨.type "tuple", none, .seq ([(.bool false), (.ref qNO_NUMBERS_1)] : List Value).toArray qnNO_NUMBERS, qsNO_NUMBERS⟩) (LNO_NUMBERS_1 : K.lookup qNO_NUMBERS_1 = some ⟨.type "tuple", none, .seq ([] : List Value).toArray qnNO_NUMBERS_1, qsNO_NUMBERS_1⟩) (gALL_NUMBERS : PySem.W.nsIn K mainGlobals "ALL_NUMBERS" = some (some (.ref qALL_NUMBERS))) (LALL_NUMBERS : K.lookup qALL_NUMBERS = some ⟨.type "tuple", none, .seq ([(.bool true), (.ref qALL_NUMBERS_1)] : List Value).toArray qnALL_NUMBERS, qsALL_NUMBERS⟩) (LALL_NUMBERS_1 : K.lookup qALL_NUMBERS_1 = some ⟨.type "tuple", none, .seq ([] : List Value).toArray qnALL_NUMBERS_1, qsALL_NUMBERS_1⟩) (gFIGURES : PySem.W.nsIn K mainGlobals "FIGURES" = some (some (.str "0123456789" tkFIGURES))) (gMOST_FIGURES : PySem.W.nsIn K mainGlobals "MOST_FIGURES" = some (some (.int (60) tkMOST_FIGURES))) (gSMALL_LETTERS : PySem.W.nsIn K mainGlobals "SMALL_LETTERS" = some (some (.str "abcdefghijklmnopqrstuvwxyz" tkSMALL_LETTERS))) (gMOST_LETTERS : PySem.W.nsIn K mainGlobals "MOST_LETTERS" = some (some (.int (8) tkMOST_LETTERS))) {q_NoText : Addr} (gx_NoText : PySem.W.nsIn K mainGlobals "NoText" = some (some (.ref q_NoText))) (ox_NoText : OwnX K q_NoText) (cx_NoText : ClsX K q_NoText) {q_HeldError : Addr} (gx_HeldError : PySem.W.nsIn K mainGlobals "HeldError" = some (some (.ref q_HeldError))) (ox_HeldError : OwnX K q_HeldError) (cx_HeldError : ClsX K q_HeldError) {q_NoColumn : Addr} (gx_NoColumn : PySem.W.nsIn K mainGlobals "NoColumn" = some (some (.ref q_NoColumn))) (ox_NoColumn : OwnX K q_NoColumn) (cx_NoColumn : ClsX K q_NoColumn) {q_NoStretch : Addr} (gx_NoStretch : PySem.W.nsIn K mainGlobals "NoStretch" = some (some (.ref q_NoStretch))) (ox_NoStretch : OwnX K q_NoStretch) (cx_NoStretch : ClsX K q_NoStretch) {q_NoTable : Addr} (gx_NoTable : PySem.W.nsIn K mainGlobals "NoTable" = some (some (.ref q_NoTable))) (ox_NoTable : OwnX K q_NoTable) (cx_NoTable : ClsX K q_NoTable) {q_NoTurn : Addr} (gx_NoTurn : PySem.W.nsIn K mainGlobals "NoTurn" = some (some (.ref q_NoTurn))) (ox_NoTurn : OwnX K q_NoTurn) (cx_NoTurn : ClsX K q_NoTurn) {q_NoWidth : Addr} (gx_NoWidth : PySem.W.nsIn K mainGlobals "NoWidth" = some (some (.ref q_NoWidth))) (ox_NoWidth : OwnX K q_NoWidth) (cx_NoWidth : ClsX K q_NoWidth) {q_NoWord : Addr} (gx_NoWord : PySem.W.nsIn K mainGlobals "NoWord" = some (some (.ref q_NoWord))) (ox_NoWord : OwnX K q_NoWord) (cx_NoWord : ClsX K q_NoWord) (m_NoText : mroHas K q_NoText q_HeldError = true) (k_NoText_NoText : PySem.W.kitOne K (.ref q_NoText) (.ref q_NoText) = some true) (k_NoText_ValueError : PySem.W.kitOne K (.ref q_NoText) (.type "ValueError") = some true) (k_NoText_t2 : PySem.W.kitAny K (.ref q_NoText) [.ref q_NoColumn, .ref q_NoStretch, .ref q_NoTable, .ref q_NoTurn, .ref q_NoWidth, .ref q_NoWord] = some false) (z0 : PySem.W.nsIn K mainGlobals "isinstance" = some none) (z1 : PySem.W.nsIn K mainGlobals "str" = some none) (z2 : PySem.W.nsIn K mainGlobals "all" = some none) (z3 : PySem.W.nsIn K mainGlobals "len" = some none) (z4 : PySem.W.nsIn K mainGlobals "int" = some none) (z5 : PySem.W.nsIn K mainGlobals "tuple" = some none) (z6 : PySem.W.nsIn K mainGlobals "range" = some none) (z7 : PySem.W.nsIn K mainGlobals "bool" = some none) (z8 : PySem.W.nsIn K mainGlobals "ValueError" = some none) (z9 : PySem.W.nsIn K mainGlobals "min" = some none) :
    ∃ fd : FuncData, (∀ (s : Shared) (v : Value), BindsTo s fd ⟨[v], []⟩ [("script", v)]) ∧ ∀ base : Heap, K.In base → base.Ns mainGlobals mg → FnOk l.prog w K mg base CX0 6 fa fd ["script"] (spP K 1 m_law) := by
  have e := hfa.symm.trans (PySem.W.mg_of X G a23)
  cases e
  have z : Zs mg := (zs_cons (PySem.W.mg_none_of X G z0) (zs_cons (PySem.W.mg_none_of X G z1) (zs_cons (PySem.W.mg_none_of X G z2) (zs_cons (PySem.W.mg_none_of X G z3) (zs_cons (PySem.W.mg_none_of X G z4) (zs_cons (PySem.W.mg_none_of X G z5) (zs_cons (PySem.W.mg_none_of X G z6) (zs_cons (PySem.W.mg_none_of X G z7) (zs_cons (PySem.W.mg_none_of X G z8) (zs_cons (PySem.W.mg_none_of X G z9) zs_nil))))))))))
  have c_NO_NUMBERS : ConstR K mg "NO_NUMBERS" (.tup [(.bl false), (.tup [])]) := const_of (PySem.W.mg_of X G gNO_NUMBERS) (cr_tup LNO_NUMBERS (show 2 ≤ sizeLine by decide) (crs_cons cr_bl (crs_cons (cr_tup LNO_NUMBERS_1 (show 0 ≤ sizeLine by decide) crs_nil) crs_nil)))
  have c_ALL_NUMBERS : ConstR K mg "ALL_NUMBERS" (.tup [(.bl true), (.tup [])]) := const_of (PySem.W.mg_of X G gALL_NUMBERS) (cr_tup LALL_NUMBERS (show 2 ≤ sizeLine by decide) (crs_cons cr_bl (crs_cons (cr_tup LALL_NUMBERS_1 (show 0 ≤ sizeLine by decide) crs_nil) crs_nil)))
  have c_FIGURES : ConstR K mg "FIGURES" (.str "0123456789") := const_of (PySem.W.mg_of X G gFIGURES) cr_str
  have c_MOST_FIGURES : ConstR K mg "MOST_FIGURES" (.int (60)) := const_of (PySem.W.mg_of X G gMOST_FIGURES) cr_int
  have c_SMALL_LETTERS : ConstR K mg "SMALL_LETTERS" (.str "abcdefghijklmnopqrstuvwxyz") := const_of (PySem.W.mg_of X G gSMALL_LETTERS) cr_str
  have c_MOST_LETTERS : ConstR K mg "MOST_LETTERS" (.int (8)) := const_of (PySem.W.mg_of X G gMOST_LETTERS) cr_int
  have F0 := fun_mk (st := st_stretch_of) l0 c0 k0
  have d_stretch_of : DefAt K mg "stretch_of" st_stretch_of ["low", "high"] := ⟨_, _, F0, F0.binds (ps := ["low", "high"]) (fun _ _ _ _ _ _ us hl => match us, hl with | [_, _], _ => rfl), PySem.W.mg_of X G a0⟩
  have F1 := fun_mk (st := st_check_text) l1 c1 k1
  have d_check_text : DefAt K mg "check_text" st_check_text ["thing"] := ⟨_, _, F1, F1.binds (ps := ["thing"]) (fun _ _ _ _ _ _ us hl => match us, hl with | [_], _ => rfl), PySem.W.mg_of X G a1⟩
  have F2 := fun_mk (st := st_is_made_of) l2 c2 k2
  have d_is_made_of : DefAt K mg "is_made_of" st_is_made_of ["text", "signs", "most"] := ⟨_, _, F2, F2.binds (ps := ["text", "signs", "most"]) (fun _ _ _ _ _ _ us hl => match us, hl with | [_, _, _], _ => rfl), PySem.W.mg_of X G a2⟩
  have F3 := fun_mk (st := st_read_number) l3 c3 k3
  have d_read_number : DefAt K mg "read_number" st_read_number ["text"] := ⟨_, _, F3, F3.binds (ps := ["text"]) (fun _ _ _ _ _ _ us hl => match us, hl with | [_], _ => rfl), PySem.W.mg_of X G a3⟩
  have F4 := fun_mk (st := st_read_number_from) l4 c4 k4
  have d_read_number_from : DefAt K mg "read_number_from" st_read_number_from ["text", "least"] := ⟨_, _, F4, F4.binds (ps := ["text", "least"]) (fun _ _ _ _ _ _ us hl => match us, hl with | [_, _], _ => rfl), PySem.W.mg_of X G a4⟩
  have F5 := fun_mk (st := st_read_end) l5 c5 k5
  have d_read_end : DefAt K mg "read_end" st_read_end ["text"] := ⟨_, _, F5, F5.binds (ps := ["text"]) (fun _ _ _ _ _ _ us hl => match us, hl with | [_], _ => rfl), PySem.W.mg_of X G a5⟩
  have F6 := fun_mk (st := st_read_letters) l6 c6 k6
  have d_read_letters : DefAt K mg "read_letters" st_read_letters ["text"] := ⟨_, _, F6, F6.binds (ps := ["text"]) (fun _ _ _ _ _ _ us hl => match us, hl with | [_], _ => rfl), PySem.W.mg_of X G a6⟩
  have F7 := fun_mk (st := st_words_of) l7 c7 k7
  have d_words_of : DefAt K mg "words_of" st_words_of ["text"] := ⟨_, _, F7, F7.binds (ps := ["text"]) (fun _ _ _ _ _ _ us hl => match us, hl with | [_], _ => rfl), PySem.W.mg_of X G a7⟩
  have F8 := fun_mk (st := st_read_telling) l8 c8 k8
  have d_read_telling : DefAt K mg "read_telling" st_read_telling ["text"] := ⟨_, _, F8, F8.binds (ps := ["text"]) (fun _ _ _ _ _ _ us hl => match us, hl with | [_], _ => rfl), PySem.W.mg_of X G a8⟩
  have F9 := fun_mk (st := st_law_draw) l9 c9 k9
  have d_law_draw : DefAt K mg "_law_draw" st_law_draw ["script", "k", "many"] := ⟨_, _, F9, F9.binds (ps := ["script", "k", "many"]) (fun _ _ _ _ _ _ us hl => match us, hl with | [_, _, _], _ => rfl), PySem.W.mg_of X G a9⟩
  have F10 := fun_mk (st := st_law_far) l10 c10 k10
  have d_law_far : DefAt K mg "_law_far" st_law_far ["script", "k"] := ⟨_, _, F10, F10.binds (ps := ["script", "k"]) (fun _ _ _ _ _ _ us hl => match us, hl with | [_, _], _ => rfl), PySem.W.mg_of X G a10⟩
  have F11 := fun_mk (st := st_law_name) l11 c11 k11
  have d_law_name : DefAt K mg "_law_name" st_law_name ["script", "k"] := ⟨_, _, F11, F11.binds (ps := ["script", "k"]) (fun _ _ _ _ _ _ us hl => match us, hl with | [_, _], _ => rfl), PySem.W.mg_of X G a11⟩
  have F12 := fun_mk (st := st_law_number) l12 c12 k12
  have d_law_number : DefAt K mg "_law_number" st_law_number ["script", "k"] := ⟨_, _, F12, F12.binds (ps := ["script", "k"]) (fun _ _ _ _ _ _ us hl => match us, hl with | [_, _], _ => rfl), PySem.W.mg_of X G a12⟩
  have F13 := fun_mk (st := st_law_whole) l13 c13 k13
  have d_law_whole : DefAt K mg "_law_whole" st_law_whole ["some"] := ⟨_, _, F13, F13.binds (ps := ["some"]) (fun _ _ _ _ _ _ us hl => match us, hl with | [_], _ => rfl), PySem.W.mg_of X G a13⟩
  have F14 := fun_mk (st := st_law_tuple) l14 c14 k14
  have d_law_tuple : DefAt K mg "_law_tuple" st_law_tuple ["told", "due"] := ⟨_, _, F14, F14.binds (ps := ["told", "due"]) (fun _ _ _ _ _ _ us hl => match us, hl with | [_, _], _ => rfl), PySem.W.mg_of X G a14⟩
  have F15 := fun_mk (st := st_law_telling) l15 c15 k15
  have d_law_telling : DefAt K mg "_law_telling" st_law_telling ["script", "k"] := ⟨_, _, F15, F15.binds (ps := ["script", "k"]) (fun _ _ _ _ _ _ us hl => match us, hl with | [_, _], _ => rfl), PySem.W.mg_of X G a15⟩
  have F16 := fun_mk (st := st_law_end) l16 c16 k16
  have d_law_end : DefAt K mg "_law_end" st_law_end ["end"] := ⟨_, _, F16, F16.binds (ps := ["end"]) (fun _ _ _ _ _ _ us hl => match us, hl with | [_], _ => rfl), PySem.W.mg_of X G a16⟩
  have F17 := fun_mk (st := st_law_written) l17 c17 k17
  have d_law_written : DefAt K mg "_law_written" st_law_written ["turn", "telling"] := ⟨_, _, F17, F17.binds (ps := ["turn", "telling"]) (fun _ _ _ _ _ _ us hl => match us, hl with | [_, _], _ => rfl), PySem.W.mg_of X G a17⟩
  have F18 := fun_mk (st := st_law_alike) l18 c18 k18
  have d_law_alike : DefAt K mg "_law_alike" st_law_alike ["told", "turn", "telling"] := ⟨_, _, F18, F18.binds (ps := ["told", "turn", "telling"]) (fun _ _ _ _ _ _ us hl => match us, hl with | [_, _, _], _ => rfl), PySem.W.mg_of X G a18⟩
  have F19 := fun_mk (st := st_law_read) l19 c19 k19
  have d_law_read : DefAt K mg "_law_read" st_law_read ["word"] := ⟨_, _, F19, F19.binds (ps := ["word"]) (fun _ _ _ _ _ _ us hl => match us, hl with | [_], _ => rfl), PySem.W.mg_of X G a19⟩
  have F20 := fun_mk (st := st_law_due) l20 c20 k20
  have d_law_due : DefAt K mg "_law_due" st_law_due ["text"] := ⟨_, _, F20, F20.binds (ps := ["text"]) (fun _ _ _ _ _ _ us hl => match us, hl with | [_], _ => rfl), PySem.W.mg_of X G a20⟩
  have F21 := fun_mk (st := st_law_changed) l21 c21 k21
  have d_law_changed : DefAt K mg "_law_changed" st_law_changed ["script", "k", "text"] := ⟨_, _, F21, F21.binds (ps := ["script", "k", "text"]) (fun _ _ _ _ _ _ us hl => match us, hl with | [_, _, _], _ => rfl), PySem.W.mg_of X G a21⟩
  have F22 := fun_mk (st := st_law_good) l22 c22 k22
  have d_law_good : DefAt K mg "_law_good" st_law_good ["text", "due"] := ⟨_, _, F22, F22.binds (ps := ["text", "due"]) (fun _ _ _ _ _ _ us hl => match us, hl with | [_, _], _ => rfl), PySem.W.mg_of X G a22⟩
  have F23 := fun_mk (st := st_law) l23 c23 k23
  have d_law : DefAt K mg "law" st_law ["script"] := ⟨_, _, F23, F23.binds (ps := ["script"]) (fun _ _ _ _ _ _ us hl => match us, hl with | [_], _ => rfl), PySem.W.mg_of X G a23⟩
  refine ⟨PySem.W.fnOf "law" "law" (defArgs st_law) (defBody st_law) (defScope st_law) .none kV23 dc23 pm23 an23 cd23 ct23, fun s v => .of_eq rfl, fun base _ _ => ?_⟩
  have xf : XF K mg q_NoText q_HeldError q_NoColumn q_NoStretch q_NoTable q_NoTurn q_NoWidth q_NoWord := ⟨⟨gx_NoText, PySem.W.mg_of X G gx_NoText, ox_NoText, cx_NoText⟩, ⟨gx_HeldError, PySem.W.mg_of X G gx_HeldError, ox_HeldError, cx_HeldError⟩, ⟨gx_NoColumn, PySem.W.mg_of X G gx_NoColumn, ox_NoColumn, cx_NoColumn⟩, ⟨gx_NoStretch, PySem.W.mg_of X G gx_NoStretch, ox_NoStretch, cx_NoStretch⟩, ⟨gx_NoTable, PySem.W.mg_of X G gx_NoTable, ox_NoTable, cx_NoTable⟩, ⟨gx_NoTurn, PySem.W.mg_of X G gx_NoTurn, ox_NoTurn, cx_NoTurn⟩, ⟨gx_NoWidth, PySem.W.mg_of X G gx_NoWidth, ox_NoWidth, cx_NoWidth⟩, ⟨gx_NoWord, PySem.W.mg_of X G gx_NoWord, ox_NoWord, cx_NoWord⟩, m_NoText, k_NoText_NoText, k_NoText_ValueError, k_NoText_t2⟩
  have h_stretch_of := k_stretch_of (P := l.prog) (w := w) (base := base) xf z d_stretch_of c_NO_NUMBERS c_ALL_NUMBERS
  have hx_check_text := kx_check_text (P := l.prog) (w := w) (base := base) xf z d_check_text 
  have h_check_text := k_check_text (P := l.prog) (w := w) (base := base) xf z d_check_text 
  have h_is_made_of := k_is_made_of (P := l.prog) (w := w) (base := base) xf z d_is_made_of 
  have h_law_draw := k_law_draw (P := l.prog) (w := w) (base := base) xf z d_law_draw 
  have h_law_whole := k_law_whole (P := l.prog) (w := w) (base := base) xf z d_law_whole 
  have h_law_end := k_law_end (P := l.prog) (w := w) (base := base) xf z d_law_end 
  have h_law_read := k_law_read (P := l.prog) (w := w) (base := base) xf z d_law_read 
  have hx_read_number := kx_read_number (P := l.prog) (w := w) (base := base) xf z d_read_number h_check_text h_is_made_of hx_check_text c_FIGURES c_MOST_FIGURES
  have h_read_number := k_read_number (P := l.prog) (w := w) (base := base) xf z d_read_number h_check_text h_is_made_of hx_check_text c_FIGURES c_MOST_FIGURES
  have hx_read_letters := kx_read_letters (P := l.prog) (w := w) (base := base) xf z d_read_letters h_is_made_of c_SMALL_LETTERS c_MOST_LETTERS
  have h_read_letters := k_read_letters (P := l.prog) (w := w) (base := base) xf z d_read_letters h_is_made_of c_SMALL_LETTERS c_MOST_LETTERS
  have hx_words_of := kx_words_of (P := l.prog) (w := w) (base := base) xf z d_words_of h_check_text hx_check_text
  have h_words_of := k_words_of (P := l.prog) (w := w) (base := base) xf z d_words_of h_check_text hx_check_text
  have h_law_far := k_law_far (P := l.prog) (w := w) (base := base) xf z d_law_far h_law_draw
  have h_law_name := k_law_name (P := l.prog) (w := w) (base := base) xf z d_law_name h_law_draw
  have h_law_tuple := k_law_tuple (P := l.prog) (w := w) (base := base) xf z d_law_tuple h_law_whole
  have h_law_written := k_law_written (P := l.prog) (w := w) (base := base) xf z d_law_written h_law_end
  have h_law_due := k_law_due (P := l.prog) (w := w) (base := base) xf z d_law_due h_law_read
  have h_law_changed := k_law_changed (P := l.prog) (w := w) (base := base) xf z d_law_changed h_law_draw
  have hx_read_number_from := kx_read_number_from (P := l.prog) (w := w) (base := base) xf z d_read_number_from h_read_number hx_read_number
  have h_read_number_from := k_read_number_from (P := l.prog) (w := w) (base := base) xf z d_read_number_from h_read_number hx_read_number
  have hx_read_end := kx_read_end (P := l.prog) (w := w) (base := base) xf z d_read_end h_read_number hx_read_number
  have h_read_end := k_read_end (P := l.prog) (w := w) (base := base) xf z d_read_end h_read_number hx_read_number
  have h_law_number := k_law_number (P := l.prog) (w := w) (base := base) xf z d_law_number h_law_draw h_law_far
  have h_law_alike := k_law_alike (P := l.prog) (w := w) (base := base) xf z d_law_alike h_law_tuple h_law_whole
  have hx_read_telling := kx_read_telling (P := l.prog) (w := w) (base := base) xf z d_read_telling h_words_of h_read_number_from h_read_letters h_read_end h_stretch_of h_read_number hx_words_of hx_read_number_from hx_read_letters hx_read_end hx_read_number c_NO_NUMBERS
  have h_read_telling := k_read_telling (P := l.prog) (w := w) (base := base) xf z d_read_telling h_words_of h_read_number_from h_read_letters h_read_end h_stretch_of h_read_number hx_words_of hx_read_number_from hx_read_letters hx_read_end hx_read_number c_NO_NUMBERS
  have h_law_telling := k_law_telling (P := l.prog) (w := w) (base := base) xf z d_law_telling h_law_draw h_law_name h_law_far h_law_number
  have h_law_good := k_law_good (P := l.prog) (w := w) (base := base) xf z d_law_good h_read_telling h_law_alike hx_read_telling
  exact k_law (P := l.prog) (w := w) (base := base) xf z F23 h_law_telling h_law_written h_law_good h_law_draw h_law_changed h_law_due
end LW
namespace LW
open PySem HW
theorem u_stretch_of (a0 a1 : D) : m_stretch_of [a0, a1] = finO (b_stretch_of [some (.v a0), some (.v a1)] []) := rfl
theorem u_check_text (a0 : D) : m_check_text [a0] = finO (b_check_text [some (.v a0)] []) := rfl
theorem ux_check_text (a0 : D) : x_check_text [a0] = (y_check_text [some (.v a0)] []).bind fun r => some r.1 := rfl
theorem u_is_made_of (a0 a1 a2 : D) : m_is_made_of [a0, a1, a2] = finO (b_is_made_of [some (.v a0), some (.v a1), some (.v a2)] []) := rfl
theorem u_read_number (a0 : D) : m_read_number [a0] = finO (b_read_number [some (.v a0), none] []) := rfl
theorem ux_read_number (a0 : D) : x_read_number [a0] = (y_read_number [some (.v a0), none] []).bind fun r => some r.1 := rfl
theorem u_read_number_from (a0 a1 : D) : m_read_number_from [a0, a1] = finO (b_read_number_from [some (.v a0), some (.v a1), none] []) := rfl
theorem ux_read_number_from (a0 a1 : D) : x_read_number_from [a0, a1] = (y_read_number_from [some (.v a0), some (.v a1), none] []).bind fun r => some r.1 := rfl
theorem u_read_end (a0 : D) : m_read_end [a0] = finO (b_read_end [some (.v a0)] []) := rfl
theorem ux_read_end (a0 : D) : x_read_end [a0] = (y_read_end [some (.v a0)] []).bind fun r => some r.1 := rfl
theorem u_read_letters (a0 : D) : m_read_letters [a0] = finO (b_read_letters [some (.v a0)] []) := rfl
theorem ux_read_letters (a0 : D) : x_read_letters [a0] = (y_read_letters [some (.v a0)] []).bind fun r => some r.1 := rfl
theorem u_words_of (a0 : D) : m_words_of [a0] = finO (b_words_of [some (.v a0)] []) := rfl
theorem ux_words_of (a0 : D) : x_words_of [a0] = (y_words_of [some (.v a0)] []).bind fun r => some r.1 := rfl
theorem u_read_telling (a0 : D) : m_read_telling [a0] = finO (b_read_telling [some (.v a0), none, none, none, none, none, none] []) := rfl
theorem ux_read_telling (a0 : D) : x_read_telling [a0] = (y_read_telling [some (.v a0), none, none, none, none, none, none] []).bind fun r => some r.1 := rfl
theorem u_law_draw (a0 a1 a2 : D) : m_law_draw [a0, a1, a2] = finO (b_law_draw [some (.v a0), some (.v a1), some (.v a2), none, none] []) := rfl
theorem u_law_far (a0 a1 : D) : m_law_far [a0, a1] = finO (b_law_far [some (.v a0), some (.v a1), none] []) := rfl
theorem u_law_name (a0 a1 : D) : m_law_name [a0, a1] = finO (b_law_name [some (.v a0), some (.v a1), none, none] []) := rfl
theorem u_law_number (a0 a1 : D) : m_law_number [a0, a1] = finO (b_law_number [some (.v a0), some (.v a1), none] []) := rfl
theorem u_law_whole (a0 : D) : m_law_whole [a0] = finO (b_law_whole [some (.v a0)] []) := rfl
theorem u_law_tuple (a0 a1 : D) : m_law_tuple [a0, a1] = finO (b_law_tuple [some (.v a0), some (.v a1), none] []) := rfl
theorem u_law_telling (a0 a1 : D) : m_law_telling [a0, a1] = finO (b_law_telling [some (.v a0), some (.v a1), none, none, none, none, none] []) := rfl
theorem u_law_end (a0 : D) : m_law_end [a0] = finO (b_law_end [some (.v a0)] []) := rfl
theorem u_law_written (a0 a1 : D) : m_law_written [a0, a1] = finO (b_law_written [some (.v a0), some (.v a1), none, none] []) := rfl
theorem u_law_alike (a0 a1 a2 : D) : m_law_alike [a0, a1, a2] = finO (b_law_alike [some (.v a0), some (.v a1), some (.v a2), none, none] []) := rfl
theorem u_law_read (a0 : D) : m_law_read [a0] = finO (b_law_read [some (.v a0), none] []) := rfl
theorem u_law_due (a0 : D) : m_law_due [a0] = finO (b_law_due [some (.v a0), none, none, none, none] []) := rfl
theorem u_law_changed (a0 a1 a2 : D) : m_law_changed [a0, a1, a2] = finO (b_law_changed [some (.v a0), some (.v a1), some (.v a2), none, none, none, none, none] []) := rfl
theorem u_law_good (a0 a1 : D) : m_law_good [a0, a1] = finO (b_law_good [some (.v a0), some (.v a1), none, none, none] []) := rfl
theorem u_law (a0 : D) : m_law [a0] = finO (b_law [some (.v a0), none, none, none, none, none, none] []) := rfl
end LW
namespace HW
open PySem
noncomputable def thX (o : Option Out) (x : XB) : Option (Str × Store) := o.bind fun o => match o with | .nx ρ' μ' => x ρ' μ' | _ => none
theorem xe_then {a : FS} {x : XB} {ρ : Lo} {μ : Store} : xThen a x ρ μ = thX (a ρ μ) x := rfl
theorem xe_then1 {x : XB} {ρ : Lo} {μ : Store} : thX (some (.nx ρ μ)) x = x ρ μ := rfl
noncomputable def orX (o : Option (Str × Store)) (y : XB) (ρ : Lo) (μ : Store) : Option (Str × Store) := match o with | some r => some r | none => y ρ μ
theorem xe_or {x y : XB} {ρ : Lo} {μ : Store} : xOr x y ρ μ = orX (x ρ μ) y ρ μ := rfl
theorem xe_or1 {y : XB} {r} {ρ : Lo} {μ : Store} : orX (some r) y ρ μ = some r := rfl
theorem xe_or2 {y : XB} {ρ : Lo} {μ : Store} : orX none y ρ μ = y ρ μ := rfl
noncomputable def ifX (o : Option (Bool × Store)) (x y : XB) (ρ : Lo) : Option (Str × Store) := o.bind fun c => if c.1 = true then x ρ c.2 else y ρ c.2
theorem xe_if {t : FT} {x y : XB} {ρ : Lo} {μ : Store} : xIf t x y ρ μ = ifX (t ρ μ) x y ρ := rfl
theorem xe_if1 {x y : XB} {ρ : Lo} {μ : Store} : ifX (some (true, μ)) x y ρ = x ρ μ := rfl
theorem xe_if2 {x y : XB} {ρ : Lo} {μ : Store} : ifX (some (false, μ)) x y ρ = y ρ μ := rfl
theorem xe_no {ρ : Lo} {μ : Store} : xNo ρ μ = none := rfl
noncomputable def tX (o : Option Str) (μ : Store) : Option (Str × Store) := o.bind fun c => some (c, μ)
theorem xe_t1 {c : Str} {μ : Store} : tX (some c) μ = some (c, μ) := rfl
theorem xe_t2 {μ : Store} : tX none μ = none := rfl
noncomputable def thXc (o : Option (List R × Store)) (xf : List D → Option Str) (n : Nat) : Option (Str × Store) := o.bind fun a => (vals a.1).bind fun ds => if ds.length = n then tX (xf ds) a.2 else none
theorem xe_call {xf : List D → Option Str} {n : Nat} {fa : FA} {ρ : Lo} {μ : Store} : xCall xf n fa ρ μ = thXc (fa ρ μ) xf n := rfl
theorem xe_c1 {xf : List D → Option Str} {a : D} {μ : Store} : thXc (some ([.v a], μ)) xf 1 = tX (xf [a]) μ := rfl
theorem xe_c2 {xf : List D → Option Str} {a b : D} {μ : Store} : thXc (some ([.v a, .v b], μ)) xf 2 = tX (xf [a, b]) μ := rfl
noncomputable def thUnT (i : Nat) (o : Option Out) : Option Out := o.bind (unTry i)
theorem xe_un {i : Nat} {ρ : Lo} {μ : Store} : thUnT i (some (.nx ρ μ)) = some (.nx (ρ.set i none) μ) := rfl
noncomputable def thTry (o : Option (Str × Store)) (cs : List Str) (nb : FS) (i : Nat) (hb : FS) (ρ : Lo) (μ : Store) : Option Out := match o with
  | some (c, μ1) => if cs.contains c = true then thUnT i (hb (ρ.set i (some (.x c))) μ1) else none
  | none => nb ρ μ
theorem xe_try {cs : List Str} {xb : XB} {nb : FS} {i : Nat} {hb : FS} {ρ : Lo} {μ : Store} : sTry cs xb nb i hb ρ μ = thTry (xb ρ μ) cs nb i hb ρ μ := rfl
theorem xe_try0 {cs : List Str} {nb : FS} {i : Nat} {hb : FS} {ρ : Lo} {μ : Store} : thTry none cs nb i hb ρ μ = nb ρ μ := rfl
theorem xe_try1 {cs : List Str} {nb : FS} {i : Nat} {hb : FS} {ρ : Lo} {μ μ1 : Store} {c : Str} (h : cs.contains c = true) : thTry (some (c, μ1)) cs nb i hb ρ μ = thUnT i (hb (ρ.set i (some (.x c))) μ1) := by
  exact if_pos h
noncomputable def tIs (o : Option Bool) (μ : Store) : Option (R × Store) := o.bind fun b => some (.v (.bl b), μ)
theorem xe_isx {tbl : Str → Option Bool} {c : Str} {μ : Store} : isiX tbl (.x c) μ = tIs (tbl c) μ := rfl
theorem xe_is1 {b : Bool} {μ : Store} : tIs (some b) μ = some (.v (.bl b), μ) := rfl
theorem xe_raise {c : Str} {ok : Lo → Bool} {ρ : Lo} {μ : Store} (h : ok ρ = true) : xRaise c ok ρ μ = some (c, μ) := by unfold xRaise; rw [if_pos h]
theorem xe_raiseK {c : Str} {ρ : Lo} {μ : Store} : xRaise c (fun _ => true) ρ μ = some (c, μ) := rfl
theorem xe_fin {c : Str} {μ : Store} : ((some (c, μ) : Option (Str × Store)).bind fun r => some r.1) = some c := rfl
theorem xe_finN : ((none : Option (Str × Store)).bind fun r => some r.1) = none := rfl
end HW
namespace HW
open PySem L2
noncomputable abbrev Tx (l : List Nat) : Str := ⟨l.toArray⟩
theorem tx_len {l : List Nat} : (Tx l).length = l.length := by simp [Str.length]
theorem tx_ne {l r : List Nat} : (Tx l == Tx r) = (l == r) := by
  rw [Bool.eq_iff_iff, beq_iff_eq, beq_iff_eq]
  exact ⟨fun e => by injection e with e; injection e, fun e => by rw [e]⟩
theorem tx_of (x : Str) : x = Tx x.cps.toList := by cases x; simp [Tx]
theorem tx_fig : (Str.ofString "0123456789") = Tx [48, 49, 50, 51, 52, 53, 54, 55, 56, 57] := by decide +kernel
theorem tx_min : (Str.ofString "-") = Tx [45] := by decide +kernel
theorem tx_0 : (Str.ofString "0") = Tx [48] := by decide +kernel
theorem tx_nil : (Str.ofString "") = Tx [] := by decide +kernel
section
variable {ρ : Lo} {μ : Store} {a b l : List Nat} {c : Nat} {i : Int} {x y : R}
theorem sv_add : addQ (.v (.str (Tx a))) (.v (.str (Tx b))) μ = if a.length + b.length ≤ sizeLine then some (.v (.str (Tx (a ++ b))), μ) else none := by
  show (if (Tx a).length + (Tx b).length ≤ sizeLine then some (R.v (.str (Tx a ++ Tx b)), μ) else none) = _
  rw [tx_len, tx_len]
  have : Tx a ++ Tx b = Tx (a ++ b) := by show Str.append _ _ = _; simp [Str.append]
  rw [this]
theorem sv_ix (h : 0 ≤ i) (hl : l.length < 2 ^ 63) (hc : l[i.toNat]? = some c) : ixS (.v (.str (Tx l))) (.v (.int i)) μ = some (.v (.str (Tx [c])), μ) := by
  have hi := (List.getElem?_eq_some_iff.mp hc).1
  have e : (Tx l).cps[i.toNat]? = some c := by simpa using hc
  unfold ixS
  dsimp only
  rw [if_pos ⟨h, by omega, by rw [tx_len]; omega⟩, e]
  rfl
theorem sv_len (h : l.length ≤ sizeLine) : lenS [.v (.str (Tx l))] μ = some (.v (.int l.length), μ) := by
  unfold lenS; dsimp only; rw [tx_len, if_pos h]
theorem sv_in : inS false (.v (.str (Tx [c]))) (.v (.str (Tx l))) μ = some (.v (.bl (decide (c ∈ l))), μ) := by
  unfold inS
  have := PySem.StrLaws.found_one (Tx l) c
  simp only [Bool.false_eq_true, if_false]
  rw [show (Tx [c]) = ⟨#[c]⟩ from rfl, this]
theorem sv_nin : inS true (.v (.str (Tx [c]))) (.v (.str (Tx l))) μ = some (.v (.bl (!decide (c ∈ l))), μ) := by
  unfold inS
  have := PySem.StrLaws.found_one (Tx l) c
  simp only [if_true]
  rw [show (Tx [c]) = ⟨#[c]⟩ from rfl, this]
theorem sv_sw : swD (.v (.str (Tx l))) (.v (.str (Tx [c]))) μ = some (.v (.bl (l.head? == some c)), μ) := by
  unfold swD
  dsimp only
  rw [tx_len, tx_len]
  cases l with
  | nil => rfl
  | cons d r =>
    have : Builtin.Str.subAt (Tx (d :: r)) (Tx [c]) 0 = (d == c) := by
      unfold Builtin.Str.subAt
      rw [tx_len]
      by_cases h : d = c
      · subst h; simp
      · simp [h]
    rw [this]
    simp
noncomputable def thSt (o : Option (R × Store)) : Option (List D × Store) := o.bind fun a => match a.1 with | .v (.str x) => some (signs x, a.2) | _ => none
theorem sv_it {f : FE} : fiStr f ρ μ = thSt (f ρ μ) := rfl
theorem sv_it1 : thSt (some (.v (.str (Tx l)), μ)) = some (l.map (fun c => D.str (Tx [c])), μ) := rfl
noncomputable def thCh1 (o : Option (R × Store)) (g g' : R → R → Store → Option (R × Store)) (fb fc : FE) (ρ : Lo) : Option (R × Store) := o.bind fun a => (fb ρ a.2).bind fun b => (g a.1 b.1 b.2).bind fun z => match z.1 with
  | .v (.bl k) => if k = true then (fc ρ z.2).bind fun c => g' b.1 c.1 c.2 else some (.v (.bl false), z.2)
  | _ => none
noncomputable def thCh2 (x : R) (o : Option (R × Store)) (g g' : R → R → Store → Option (R × Store)) (fc : FE) (ρ : Lo) : Option (R × Store) := o.bind fun b => (g x b.1 b.2).bind fun z => match z.1 with
  | .v (.bl k) => if k = true then (fc ρ z.2).bind fun c => g' b.1 c.1 c.2 else some (.v (.bl false), z.2)
  | _ => none
noncomputable def thCh3 (y : R) (o : Option (R × Store)) (g' : R → R → Store → Option (R × Store)) (fc : FE) (ρ : Lo) : Option (R × Store) := o.bind fun z => match z.1 with
  | .v (.bl k) => if k = true then (fc ρ z.2).bind fun c => g' y c.1 c.2 else some (.v (.bl false), z.2)
  | _ => none
noncomputable def thCh4 (y : R) (o : Option (R × Store)) (g' : R → R → Store → Option (R × Store)) : Option (R × Store) := o.bind fun c => g' y c.1 c.2
theorem sv_ch {g g' fa fb fc} : fCh g g' fa fb fc ρ μ = thCh1 (fa ρ μ) g g' fb fc ρ := rfl
theorem sv_ch1 {g g' fb fc} : thCh1 (some (x, μ)) g g' fb fc ρ = thCh2 x (fb ρ μ) g g' fc ρ := rfl
theorem sv_ch2 {g g' fc} : thCh2 x (some (y, μ)) g g' fc ρ = thCh3 y (g x y μ) g' fc ρ := rfl
theorem sv_ch3 {g' fc} {b : Bool} : thCh3 y (some (.v (.bl b), μ)) g' fc ρ = if b = true then thCh4 y (fc ρ μ) g' else some (.v (.bl false), μ) := rfl
theorem sv_ch4 {g'} : thCh4 y (some (x, μ)) g' = g' y x μ := rfl
noncomputable def thSs1 (o : Option (R × Store)) (fl fh : FO) (ρ : Lo) : Option (R × Store) := o.bind fun a => (fl ρ a.2).bind fun l => (fh ρ l.2).bind fun h => slS a.1 l.1 h.1 h.2
noncomputable def thSs2 (x : R) (o : Option (Option Int × Store)) (fh : FO) (ρ : Lo) : Option (R × Store) := o.bind fun l => (fh ρ l.2).bind fun h => slS x l.1 h.1 h.2
noncomputable def thSs3 (x : R) (l : Option Int) (o : Option (Option Int × Store)) : Option (R × Store) := o.bind fun h => slS x l h.1 h.2
theorem sv_ss {fa fl fh} : fSlS fa fl fh ρ μ = thSs1 (fa ρ μ) fl fh ρ := rfl
theorem sv_ss1 {fl fh} : thSs1 (some (x, μ)) fl fh ρ = thSs2 x (fl ρ μ) fh ρ := rfl
theorem sv_ss2 {fh} {l : Option Int} : thSs2 x (some (l, μ)) fh ρ = thSs3 x l (fh ρ μ) := rfl
theorem sv_ss3 {l h : Option Int} : thSs3 x l (some (h, μ)) = slS x l h μ := rfl
theorem sl_from (l : List Nat) (n : Nat) (h : n ≤ l.length) : Txt.slice (Tx l) (some (n : Int)) none = Tx (l.drop n) := by
  have := PySem.StrLaws.sliceText_from (x := Tx l) (i := n) (by simpa using h)
  refine Eq.trans (show Txt.slice (Tx l) (some (n : Int)) none = PySem.StrLaws.sliceText (Tx l) (some (n : Int)) none from rfl) (this.trans ?_)
  simp only [Tx, Int.toNat_natCast]
  congr 2
  exact List.take_of_length_le (by simp)
theorem sl_to (l : List Nat) (n : Nat) (h : n ≤ l.length) : Txt.slice (Tx l) none (some (n : Int)) = Tx (l.take n) := by
  have := PySem.StrLaws.sliceText_to (x := Tx l) (j := n) (by simpa using h)
  refine Eq.trans (show Txt.slice (Tx l) none (some (n : Int)) = PySem.StrLaws.sliceText (Tx l) none (some (n : Int)) from rfl) (this.trans ?_)
  simp [Tx]
theorem sv_from {n : Nat} (h : n ≤ l.length) (hl : l.length ≤ sizeLine) : slS (.v (.str (Tx l))) (some (n : Int)) none μ = some (.v (.str (Tx (l.drop n))), μ) := by
  unfold slS; dsimp only; rw [tx_len, if_pos hl, sl_from l n h]
theorem sv_to {n : Nat} (h : n ≤ l.length) (hl : l.length ≤ sizeLine) : slS (.v (.str (Tx l))) none (some (n : Int)) μ = some (.v (.str (Tx (l.take n))), μ) := by
  unfold slS; dsimp only; rw [tx_len, if_pos hl, sl_to l n h]
theorem sv_int {n : Int} (hl : l.length ≤ 640) (h : PySem.intText? (Tx l) = some n) : intS [.v (.str (Tx l))] μ = some (.v (.int n), μ) := by
  unfold intS; dsimp only; rw [tx_len, if_pos hl, h]; rfl
theorem sv_ok {n : Nat} (h : ∀ c ∈ l, c < 1114112) : okD n (.str (Tx l)) = true := by
  cases n <;> (show PyData.strOk (Tx l) = true; unfold PyData.strOk; simpa using h)
theorem sv_eq : eqD (.str (Tx a)) (.str (Tx b)) = (a == b) := tx_ne
end
end HW
namespace LW
open PySem HW
theorem emod_b (i : Int) {j : Int} (h : 0 < j) : 0 ≤ i % j ∧ i % j < j := ⟨Int.emod_nonneg _ (by omega), Int.emod_lt_of_pos _ h⟩
theorem cell_at (ns : List Int) (k : Int) (h : ns ≠ []) : ∃ c, L2.atI (ns.map D.int) (k % (ns.length : Int)) = some (.int c) := by
  have hl : 0 < ns.length := List.length_pos_iff.mpr h
  obtain ⟨h1, h2⟩ := emod_b k (j := (ns.length : Int)) (by omega)
  refine ⟨ns[(k % (ns.length : Int)).toNat], at_int h1 ?_⟩
  simp
theorem draw_ex (ns : List Int) (k many : Int) (hm : 0 < many) : ∃ d, m_law_draw [.fl (ns.map .int), .int k, .int many] = some (.int d) ∧ 0 ≤ d ∧ d < many := by
  rw [u_law_draw]
  by_cases h : ns = []
  · subst h
    exact ⟨0, by push_cast [b_law_draw, Int.natCast_zero, beq_self_eq_true], by omega, hm⟩
  · have hl : 0 < ns.length := List.length_pos_iff.mpr h
    have e0 : ((ns.length : Int) == 0) = false := by simp; omega
    obtain ⟨c, hc⟩ := cell_at ns k h
    have b1 := emod_b c (j := 1000000007) (by decide)
    have b2 := emod_b ((c % 1000000007 + 5) * (40692 + 977 * k)) (j := 2147483629) (by decide)
    push_cast [b_law_draw, e0, List.length_map, ev_mod (i := k) (j := (ns.length : Int)) (by omega), hc, ev_mod (i := c) (j := 1000000007) (by decide), ev_mulL (i := 977) (j := k) (by decide), ev_mulL (i := c % 1000000007 + 5) (j := 40692 + 977 * k) (by omega), ev_mod (j := 2147483629) (by decide), ev_mulR (j := (c % 1000000007 + 5) * (40692 + 977 * k) % 2147483629 + 3) (by omega), ev_mod (j := 2147483647) (by decide), ev_div (j := 13) (by decide) (by decide), ev_mod (j := many) hm]
    exact ⟨_, rfl, emod_b _ hm⟩
end LW
namespace LW
open PySem HW L2 PyProof.Rows PySem.NumText PySem.W
noncomputable def dg (m : Nat) : List Nat := (Nat.toDigits 10 m).map Char.toNat
theorem dg_lt {m : Nat} (h : m < 10) : dg m = [48 + m] := by
  unfold dg
  rw [Nat.toDigits_of_lt_base h]
  have : ∀ d : Nat, d < 10 → [Nat.digitChar d].map Char.toNat = [48 + d] := by decide
  exact this m h
theorem dg_ge {m : Nat} (h : 10 ≤ m) : dg m = dg (m / 10) ++ [48 + m % 10] := by
  have hm : m % 10 < 10 := Nat.mod_lt m (by decide)
  have t : Nat.toDigits 10 (m / 10) ++ Nat.toDigits 10 (m % 10) = Nat.toDigits 10 (10 * (m / 10) + m % 10) := Nat.toDigits_append_toDigits (by decide) (by omega) hm
  rw [Nat.div_add_mod] at t
  rw [← dg_lt hm]
  unfold dg
  rw [← t, List.map_append]
theorem dg_dig (m : Nat) : PySem.NumText.AllDigits (dg m) := by
  intro c hc
  obtain ⟨ch, hch, e⟩ := List.mem_map.mp hc
  rw [← e]
  exact PyProof.Rows.digit_range (Nat.isDigit_of_mem_toDigits (by decide) (by decide) hch)
theorem dg_val (m : Nat) : PySem.NumText.digitsVal (dg m) = m := PySem.W.KIN.val_back m
theorem dg_pos (m : Nat) : 1 ≤ (dg m).length := by
  unfold dg; rw [List.length_map]; exact toDigits_len_ge 10 m
theorem dg_len {m k : Nat} (hk : 1 ≤ k) (h : m < 10 ^ k) : (dg m).length ≤ k := by
  unfold dg; rw [List.length_map]; exact toDigits_len_pow (by decide) hk h
theorem dg_ne (m : Nat) : dg m ≠ [] := fun e => by have := dg_pos m; rw [e] at this; simp at this
theorem dg_head : ∀ (m : Nat), 0 < m → (dg m)[0]? ≠ some 48 := by
  intro m
  induction m using Nat.strongRecOn with
  | _ m ih =>
    intro h0
    by_cases h : m < 10
    · rw [dg_lt h]; simp; omega
    · rw [dg_ge (by omega)]
      have h1 := ih (m / 10) (by omega) (by omega)
      have := dg_pos (m / 10)
      rw [List.getElem?_append_left (by omega)]
      exact h1
theorem str_pos (m : Nat) : Str.ofString (toString (m : Int)) = Tx (dg m) := by
  rw [tx_of (Str.ofString (toString (m : Int))), PySem.W.KIN.signs_num]; rfl
theorem str_neg (m : Nat) : Str.ofString (toString (-((m + 1 : Nat) : Int))) = Tx (45 :: dg (m + 1)) := by
  rw [tx_of (Str.ofString _), PyProof.Rows.signs_ofString]
  have : (toString (-((m + 1 : Nat) : Int))).toList = '-' :: Nat.toDigits 10 (m + 1) := by
    show (Int.repr (Int.negSucc m)).toList = _
    show ("-" ++ Nat.repr (m + 1)).toList = _
    rw [String.toList_append, Nat.toList_repr]; rfl
  rw [this]; rfl
noncomputable def tn (n : Int) : List Nat := if n < 0 then 45 :: dg n.natAbs else dg n.natAbs
theorem str_tn (n : Int) : Str.ofString (toString n) = Tx (tn n) := by
  unfold tn
  by_cases h : n < 0
  · rw [if_pos h]
    obtain ⟨m, rfl⟩ : ∃ m : Nat, n = -((m + 1 : Nat) : Int) := ⟨n.natAbs - 1, by omega⟩
    rw [str_neg]
    have : (-((m + 1 : Nat) : Int)).natAbs = m + 1 := by omega
    rw [this]
  · rw [if_neg h]
    obtain ⟨m, rfl⟩ : ∃ m : Nat, n = (m : Int) := ⟨n.natAbs, by omega⟩
    rw [str_pos]; rfl
theorem tn_len {n : Int} {k : Nat} (hk : 1 ≤ k) (h : n.natAbs < 10 ^ k) : (tn n).length ≤ k + 1 := by
  unfold tn
  have := dg_len hk h
  split <;> simp <;> omega
theorem tn_sig (n : Int) : ∀ c ∈ tn n, c < 1114112 := by
  intro c hc
  have : c = 45 ∨ c ∈ dg n.natAbs := by
    unfold tn at hc
    split at hc
    · simpa using hc
    · exact .inr hc
  rcases this with rfl | h
  · decide
  · have := dg_dig _ c h; omega
end LW
namespace LW
open PySem HW L2 PyProof.Rows PySem.NumText PySem.W
noncomputable abbrev fg : List Nat := [48, 49, 50, 51, 52, 53, 54, 55, 56, 57]
theorem mem_fig {c : Nat} : c ∈ fg ↔ 48 ≤ c ∧ c ≤ 57 := by
  simp only [fg, List.mem_cons, List.not_mem_nil, or_false]
  omega
def P (s : Str) (k : Nat) : Prop := s.length ≤ k ∧ ∀ c ∈ s.cps.toList, c < 1114112
section
variable {μ : Store} {s r : Str}
end
noncomputable def fig (l : List Nat) : List Nat := if (l.head? == some 45) = true then l.drop 1 else l
theorem fig_len (l : List Nat) : (fig l).length ≤ l.length := by unfold fig; split <;> simp
theorem fig_mem {l : List Nat} {c : Nat} (h : c ∈ fig l) : c ∈ l := by
  unfold fig at h
  split at h
  · exact List.mem_of_mem_drop h
  · exact h
noncomputable def isNum (l : List Nat) : Bool := decide (1 ≤ (l.length : Int)) && (decide ((l.length : Int) ≤ 60) && (l.all fun c => decide (c ∈ fg)))
theorem made_of (l : List Nat) (h1 : l.length < 4000) : m_is_made_of [.str (Tx l), .str "0123456789", .int 60] = some (.bl (isNum l)) := by
  rw [u_is_made_of]
  have hz : l.length ≤ sizeLine := small'' h1
  have hm : (l.map fun c => D.str (Tx [c])).length ≤ sizeLine := by rw [List.length_map]; exact hz
  have hc := comp_typed (f := fOp (inS false) (fVar 0) (fVar 1)) (μ := []) (rest := [some (.v (.str "0123456789"))]) (fun c => D.str (Tx [c])) (fun c => D.bl (decide (c ∈ fg))) l none
    (fun c _ => by push_cast [tx_fig, sv_it, sv_it1, sv_ch, sv_ch1, sv_ch2, sv_ch3, sv_ch4, sv_ss, sv_ss1, sv_ss2, sv_ss3, sv_add, sv_in, sv_nin, sv_sw, sv_eq])
  have hb : boolsD (l.map fun c => D.bl (decide (c ∈ fg))) = some (l.map fun c => decide (c ∈ fg)) := by
    have := bools_map (l.map fun c => decide (c ∈ fg))
    rwa [List.map_map] at this
  have ha : (l.map fun c => decide (c ∈ fg)).all id = l.all fun c => decide (c ∈ fg) := by
    rw [List.all_map]; rfl
  unfold isNum
  by_cases a1 : (1 : Int) ≤ (l.length : Int)
  · by_cases a2 : (l.length : Int) ≤ 60
    · push_cast [b_is_made_of, sv_it, sv_it1, sv_ch, sv_ch1, sv_ch2, sv_ch3, sv_ch4, sv_ss, sv_ss1, sv_ss2, sv_ss3, sv_add, sv_in, sv_nin, sv_sw, sv_eq, sv_len hz, a1, a2, decide_true, if_pos hm, hc, hb, ha, Bool.true_and]
    · push_cast [b_is_made_of, sv_it, sv_it1, sv_ch, sv_ch1, sv_ch2, sv_ch3, sv_ch4, sv_ss, sv_ss1, sv_ss2, sv_ss3, sv_add, sv_in, sv_nin, sv_sw, sv_eq, sv_len hz, a1, a2, decide_true, decide_false, Bool.false_and, Bool.and_false]
  · push_cast [b_is_made_of, sv_it, sv_it1, sv_ch, sv_ch1, sv_ch2, sv_ch3, sv_ch4, sv_ss, sv_ss1, sv_ss2, sv_ss3, sv_add, sv_in, sv_nin, sv_sw, sv_eq, sv_len hz, a1, decide_false, Bool.false_and]
theorem isNum_iff {l : List Nat} (h : isNum l = true) : 1 ≤ l.length ∧ l.length ≤ 60 ∧ AllDigits l := by
  unfold isNum at h
  simp only [Bool.and_eq_true, decide_eq_true_eq, List.all_eq_true] at h
  exact ⟨by omega, by omega, fun c hc => mem_fig.mp (h.2.2 c hc)⟩
theorem isNum_no {l : List Nat} (h : isNum l = false) : (l.length : Int) < 1 ∨ 60 < (l.length : Int) ∨ (l.filter fun c => !decide (c ∈ fg)) ≠ [] := by
  by_cases a1 : (l.length : Int) < 1
  · exact .inl a1
  by_cases a2 : 60 < (l.length : Int)
  · exact .inr (.inl a2)
  refine .inr (.inr fun e => ?_)
  have : isNum l = true := by
    unfold isNum
    simp only [Bool.and_eq_true, decide_eq_true_eq, List.all_eq_true]
    refine ⟨by omega, by omega, fun c hc => ?_⟩
    rw [List.filter_eq_nil_iff] at e
    have := e c hc
    cases hd : decide (c ∈ fg) with
    | true => exact of_decide_eq_true hd
    | false => rw [hd] at this; exact absurd rfl this
  rw [this] at h
  cases h
theorem isNum_yes {l : List Nat} (h : isNum l = true) : (l.filter fun c => !decide (c ∈ fg)) = [] := by
  rw [List.filter_eq_nil_iff]
  intro c hc
  have := (isNum_iff h).2.2 c hc
  simp [mem_fig.mpr this]
noncomputable def zz (l : List Nat) : Bool := ((fig l).take 1 == [48]) && !(l == [48])
theorem int_of {l : List Nat} (h : isNum (fig l) = true) : ∃ n, PySem.intText? (Tx l) = some n := by
  obtain ⟨h1, h2, h3⟩ := isNum_iff h
  have hne : fig l ≠ [] := fun e => by rw [e] at h1; simp at h1
  have hll : l.length ≤ 61 := by
    have : l.length ≤ (fig l).length + 1 := by unfold fig; split <;> simp <;> omega
    omega
  unfold fig at h3 hne
  split at h3
  · rename_i q
    rw [if_pos q] at hne
    cases l with
    | nil => simp at q
    | cons c r =>
      have hc : c = 45 := by simpa using q
      subst hc
      exact ⟨_, intText_neg (x := Tx (45 :: r)) (cs := r) rfl (by simpa using h3) (by simpa using hne) (by rw [tx_len]; omega)⟩
  · rename_i q
    rw [if_neg q] at hne
    exact ⟨_, intText_digits (x := Tx l) h3 hne (by rw [tx_len]; omega)⟩
theorem chk (l : List Nat) : m_check_text [.str (Tx l)] = some .non := by
  rw [u_check_text]
  have : isiD "str" (.v (.str (Tx l))) [] = some (.v (.bl true), []) := rfl
  push_cast [b_check_text, this]
theorem xchk (l : List Nat) : x_check_text [.str (Tx l)] = none := by
  rw [ux_check_text]
  have : isiD "str" (.v (.str (Tx l))) [] = some (.v (.bl true), []) := rfl
  push_cast [y_check_text, xe_then, xe_then1, xe_or, xe_or1, xe_or2, xe_if, xe_if1, xe_if2, xe_no, xe_t1, xe_t2, xe_call, xe_c1, xe_c2, xe_un, xe_try, xe_try0, xe_isx, xe_is1, xe_raiseK, xe_fin, xe_finN, this]
theorem xchk_no {d : D} (h : isiD "str" (.v d) [] = some (.v (.bl false), [])) : x_check_text [d] = some (Str.ofString "NoText") := by
  rw [ux_check_text]
  push_cast [y_check_text, xe_then, xe_then1, xe_or, xe_or1, xe_or2, xe_if, xe_if1, xe_if2, xe_no, xe_t1, xe_t2, xe_call, xe_c1, xe_c2, xe_un, xe_try, xe_try0, xe_isx, xe_is1, xe_raiseK, xe_fin, xe_finN, h]
end LW
namespace LW
open PySem HW L2 PyProof.Rows PySem.NumText PySem.W
structure Good (l : List Nat) : Prop where
  len : l.length ≤ 3999
  sig : ∀ c ∈ l, c < 1114112
theorem len_num {l : List Nat} (h : isNum (fig l) = true) : l.length ≤ 640 := by
  have h1 := (isNum_iff h).2.1
  have : l.length ≤ (fig l).length + 1 := by
    unfold fig; split
    · rw [List.length_drop]; omega
    · omega
  omega
theorem take1 (l : List Nat) : (l.take 1 == [45]) = (l.head? == some 45) := by
  cases l with
  | nil => rfl
  | cons c r => simp
theorem not_45 {l : List Nat} (h : (l.head? == some 45) = false) : fig l = l := by unfold fig; rw [h]; rfl
theorem yes_45 {l : List Nat} (h : (l.head? == some 45) = true) : fig l = l.drop 1 := by unfold fig; rw [h]; rfl
theorem len_45 {l : List Nat} (h : (l.head? == some 45) = true) : 1 ≤ l.length := by
  cases l with
  | nil => simp at h
  | cons c r => simp
theorem Good.fig {l : List Nat} (g : Good l) : Good (fig l) := ⟨Nat.le_trans (fig_len l) g.len, fun c hc => g.sig c (fig_mem hc)⟩
theorem Good.take {l : List Nat} (g : Good l) (n : Nat) : Good (l.take n) := ⟨by have := g.len; simp; omega, fun c hc => g.sig c (List.mem_of_mem_take hc)⟩
theorem Good.ok {l : List Nat} (g : Good l) (n : Nat) : okD n (.str (Tx l)) = true := sv_ok g.sig
theorem Good.sz {l : List Nat} (g : Good l) : l.length ≤ sizeLine := small'' (by have := g.len; omega)
theorem g1 {c : Nat} (h : c < 1114112) : Good [c] := ⟨by simp, by intro d hd; simp at hd; omega⟩
theorem fs_ok {l : List Nat} (g : Good l) (a : Str) (ha : a.length ≤ 1000) (x : Option R) : okFs a 0 [some (.v (.str (Tx l))), x] = true := by
  unfold okFs
  simp only [List.getElem?_cons_zero]
  refine decide_eq_true ?_
  have h := PySem.StrLaws.reprText_len (Tx l) (fun c hc => Nat.lt_trans (g.sig c (by simpa using hc)) (by decide))
  have h' : (reprText (Tx l)).length ≤ 10 * l.length + 2 := by have q := h; rw [tx_len] at q; exact q
  have := g.len
  exact Nat.le_trans (show _ ≤ 50000 by omega) (by decide)
theorem head1 {l : List Nat} (h : 1 ≤ l.length) : ∃ c r, l = c :: r := by
  cases l with
  | nil => simp at h
  | cons c r => exact ⟨c, r, rfl⟩
theorem fin3 {o : Option (Str × Store)} {c : Str} {μ : Store} (h : o = some (c, μ)) : (o.bind fun r => some r.1) = some c := by rw [h]; rfl
theorem step1 {l : List Nat} (g : Good l) (μ : Store) : fIf (fTru (fSw (fVar 0) (fK (.str "-")))) (fSlS (fVar 0) (oSome (fK (.int 1))) oNone) (fVar 0) [some (.v (.str (Tx l))), none] μ = some (.v (.str (Tx (fig l))), μ) := by
  cases h : l.head? == some 45 with
  | true =>
    have e : ∀ μ, slS (.v (.str (Tx l))) (some (1 : Int)) none μ = some (.v (.str (Tx (l.drop 1))), μ) := fun μ => sv_from (μ := μ) (l := l) (n := 1) (len_45 h) g.sz
    push_cast [sv_it, sv_it1, sv_ch, sv_ch1, sv_ch2, sv_ch3, sv_ch4, sv_ss, sv_ss1, sv_ss2, sv_ss3, sv_add, sv_in, sv_nin, sv_sw, sv_eq, tx_min, h, e, yes_45 h]
  | false => push_cast [sv_it, sv_it1, sv_ch, sv_ch1, sv_ch2, sv_ch3, sv_ch4, sv_ss, sv_ss1, sv_ss2, sv_ss3, sv_add, sv_in, sv_nin, sv_sw, sv_eq, tx_min, h, not_45 h]
theorem tst2 {l : List Nat} (g : Good l) (c : Nat) (r : List Nat) (hf : fig l = c :: r) (μ : Store) : tAndF (fB (fOp (eqR false) (fOp ixS (fVar 1) (fK (.int 0))) (fK (.str "0")))) (fB (fOp (eqR true) (fVar 0) (fK (.str "0")))) [some (.v (.str (Tx l))), some (.v (.str (Tx (fig l))))] μ = some (zz l, μ) := by
  have gf := g.fig
  have hc : c < 1114112 := gf.sig c (by rw [hf]; simp)
  have k1 := (g1 hc).ok 60
  have k0 := (g1 (c := 48) (by decide)).ok 60
  have kl := g.ok 60
  have hix := fun μ => sv_ix (μ := μ) (i := 0) (l := fig l) (c := c) (by decide) (by have := gf.len; omega) (by rw [hf]; rfl)
  have hz : zz l = (([c] == [48]) && !(l == [48])) := by unfold zz; rw [hf]; rfl
  rw [hz]
  cases h1 : [c] == [48] with
  | true => push_cast [sv_it, sv_it1, sv_ch, sv_ch1, sv_ch2, sv_ch3, sv_ch4, sv_ss, sv_ss1, sv_ss2, sv_ss3, sv_add, sv_in, sv_nin, sv_sw, sv_eq, tx_0, hix, k1, k0, kl, h1, Bool.true_and]
  | false => push_cast [sv_it, sv_it1, sv_ch, sv_ch1, sv_ch2, sv_ch3, sv_ch4, sv_ss, sv_ss1, sv_ss2, sv_ss3, sv_add, sv_in, sv_nin, sv_sw, sv_eq, tx_0, hix, k1, k0, h1, Bool.false_and]
theorem tst1 {l : List Nat} (g : Good l) (x : Option R) (μ : Store) : tNotF (fTru (fCall m_is_made_of 3 (fCons (fFz (fVar 1)) (fCons (fFz (fK (.str "0123456789"))) (fCons (fFz (fK (.int (60)))) fNil))))) [some (.v (.str (Tx l))), some (.v (.str (Tx (fig l))))] μ = some (!isNum (fig l), μ) := by
  have h := made_of (fig l) (by have := g.fig.len; omega)
  cases hn : isNum (fig l) <;> push_cast [h, hn]
theorem hA (l : List Nat) : xCall x_check_text 1 (fCons (fFz (fVar 0)) fNil) [some (.v (.str (Tx l))), none] [] = none := by push_cast [xe_then, xe_then1, xe_or, xe_or1, xe_or2, xe_if, xe_if1, xe_if2, xe_no, xe_t1, xe_t2, xe_call, xe_c1, xe_c2, xe_un, xe_try, xe_try0, xe_isx, xe_is1, xe_raiseK, xe_fin, xe_finN, xchk]
theorem hB (l : List Nat) : sDrop (fCall m_check_text 1 (fCons (fFz (fVar 0)) fNil)) [some (.v (.str (Tx l))), none] [] = some (.nx [some (.v (.str (Tx l))), none] []) := by push_cast [chk]
theorem hC {l : List Nat} (g : Good l) : sSet 1 (fIf (fTru (fSw (fVar 0) (fK (.str "-")))) (fSlS (fVar 0) (oSome (fK (.int 1))) oNone) (fVar 0)) [some (.v (.str (Tx l))), none] [] = some (.nx [some (.v (.str (Tx l))), some (.v (.str (Tx (fig l))))] []) := by
  rw [ev_set, step1 g, ev_set1]; rfl
theorem x_bad {l : List Nat} (g : Good l) (h : isNum (fig l) = false ∨ zz l = true) : x_read_number [.str (Tx l)] = some (Str.ofString "NoText") := by
  rw [ux_read_number]
  refine fin3 (μ := []) ?_
  have t1 := tst1 g none []
  cases hn : isNum (fig l) with
  | false =>
    rw [hn] at t1
    simp only [y_read_number, xe_or, hA, xe_or2, xe_then, hB, xe_then1, hC g, xe_if, t1, Bool.not_false, xe_if1, xe_raise (fs_ok g "no number: " (by decide) _), xe_or1]
  | true =>
    have hz : zz l = true := by rcases h with h | h; rw [hn] at h; cases h; exact h
    obtain ⟨c, r, hf⟩ := head1 (isNum_iff hn).1
    have t2 := tst2 g c r hf []
    rw [hn] at t1
    rw [hz] at t2
    simp only [y_read_number, xe_or, hA, xe_or2, xe_then, hB, xe_then1, hC g, xe_if, t1, Bool.not_true, xe_if2, xe_no, ev_ifS, ev_ifF, ev_next, t2, xe_if1, xe_raise (fs_ok g "a number with a 0 ahead, or below 0 without being so: " (by decide) _)]
theorem x_good {l : List Nat} (g : Good l) (h1 : isNum (fig l) = true) (h2 : zz l = false) : x_read_number [.str (Tx l)] = none := by
  rw [ux_read_number]
  have t1 := tst1 g none []
  obtain ⟨c, r, hf⟩ := head1 (isNum_iff h1).1
  have t2 := tst2 g c r hf []
  rw [h1] at t1
  rw [h2] at t2
  simp only [y_read_number, xe_or, hA, xe_or2, xe_then, hB, xe_then1, hC g, xe_if, t1, Bool.not_true, xe_if2, xe_no, ev_ifS, ev_ifF, ev_next, t2, xe_finN]
theorem m_good {l : List Nat} (g : Good l) (h1 : isNum (fig l) = true) (h2 : zz l = false) {n : Int} (hi : PySem.intText? (Tx l) = some n) : m_read_number [.str (Tx l)] = some (.int n) := by
  rw [u_read_number]
  have t1 := tst1 g none []
  obtain ⟨c, r, hf⟩ := head1 (isNum_iff h1).1
  have t2 := tst2 g c r hf []
  rw [h1] at t1
  rw [h2] at t2
  have hr : sRet (fAr intS (fCons (fVar 0) fNil)) [some (.v (.str (Tx l))), some (.v (.str (Tx (fig l))))] [] = some (.rt (.v (.int n)) []) := by
    push_cast [sv_int (len_num h1) hi]
  simp only [b_read_number, ev_seq, ev_seq1, hB, hC g, t1, Bool.not_true, ev_ifS, ev_ifF, ev_next, t2, hr, ev_fin]
theorem flt (l : List Nat) (x0 : Option R) (μ : Store) : compL (gNm 0) (fB (fOp (inS true) (fVar 0) (fK (.str "0123456789")))) (fVar 0) (l.map fun c => D.str (Tx [c])) [x0] μ = some ((l.filter fun c => !decide (c ∈ fg)).map (fun c => D.str (Tx [c])), μ) := by
  induction l generalizing x0 with
  | nil => rfl
  | cons c r ih =>
    have h1 : fB (fOp (inS true) (fVar 0) (fK (.str "0123456789"))) [some (.v (.str (Tx [c])))] μ = some (!decide (c ∈ fg), μ) := by push_cast [tx_fig, sv_it, sv_it1, sv_ch, sv_ch1, sv_ch2, sv_ch3, sv_ch4, sv_ss, sv_ss1, sv_ss2, sv_ss3, sv_add, sv_in, sv_nin, sv_sw, sv_eq]
    have h2 : fVar 0 [some (.v (.str (Tx [c])))] μ = some (.v (.str (Tx [c])), μ) := rfl
    cases hd : decide (c ∈ fg) with
    | true =>
      rw [hd] at h1
      simp only [List.map_cons, compL, gNm, List.set_cons_zero, Option.bind_some, h1, Bool.not_true, Bool.false_eq_true, if_false, ih, List.filter_cons, hd]
    | false =>
      rw [hd] at h1
      simp only [List.map_cons, compL, gNm, List.set_cons_zero, Option.bind_some, h1, h2, Bool.not_false, if_true, ih, List.filter_cons, hd]
theorem okm {l : List Nat} (h : ∀ c ∈ l, c < 1114112) : okDs 59 (l.map fun c => D.str (Tx [c])) = true := by
  induction l with
  | nil => rfl
  | cons c r ih =>
    have hc : c < 1114112 := h c (by simp)
    simp only [List.map_cons, okDs, (g1 hc).ok, ih (fun d hd => h d (by simp [hd])), Bool.and_self]
theorem r1 {l : List Nat} (g : Good l) : fB (fOp (eqR false) (fSlS (fVar 0) oNone (oSome (fK (.int 1)))) (fK (.str "-"))) [some (.v (.str (Tx l))), some (.v (.str (Tx l)))] [] = some (l.head? == some 45, []) := by
  have k0 := (g1 (c := 45) (by decide)).ok 60
  cases l with
  | nil =>
    have e : ∀ μ : Store, slS (.v (.str (Tx []))) none (some (1 : Int)) μ = some (.v (.str (Tx [])), μ) := fun μ => rfl
    have kn := g.ok 60
    push_cast [sv_it, sv_it1, sv_ch, sv_ch1, sv_ch2, sv_ch3, sv_ch4, sv_ss, sv_ss1, sv_ss2, sv_ss3, sv_add, sv_in, sv_nin, sv_sw, sv_eq, e, tx_min, kn, k0]
    rfl
  | cons c r =>
    have e : ∀ μ : Store, slS (.v (.str (Tx (c :: r)))) none (some (1 : Int)) μ = some (.v (.str (Tx ((c :: r).take 1))), μ) := fun μ => sv_to (μ := μ) (l := c :: r) (n := 1) (by simp) g.sz
    have kn := (g.take 1).ok 60
    push_cast [sv_it, sv_it1, sv_ch, sv_ch1, sv_ch2, sv_ch3, sv_ch4, sv_ss, sv_ss1, sv_ss2, sv_ss3, sv_add, sv_in, sv_nin, sv_sw, sv_eq, e, tx_min, kn, k0, take1]
end LW
namespace LW
open PySem HW L2 PyProof.Rows PySem.NumText PySem.W
theorem nil_ne {d : D} {xs : List D} : eqDs (d :: xs) [] = false := rfl
theorem okfl {n : Nat} {xs : List D} (h : okDs n xs = true) : okD (n + 1) (.fl xs) = true := h
theorem ok0 : okD 60 (.fl []) = true := rfl
theorem eqfl {xs ys : List D} : eqD (.fl xs) (.fl ys) = eqDs xs ys := rfl
theorem r2 {l : List Nat} (g : Good l) (x : R) : ∃ μ, tOrF (fB (fOp ltD (fAr lenS (fCons (fVar 1) fNil)) (fK (.int 1)))) (tOrF (fB (fOp gtD (fAr lenS (fCons (fVar 1) fNil)) (fK (.int 60)))) (fB (fOp (eqR true) (fComp [] 1 (fiStr (fVar 1)) (gNm 0) (fB (fOp (inS true) (fVar 0) (fK (.str "0123456789")))) (fVar 0)) (fLst fNil)))) [some x, some (.v (.str (Tx l)))] [] = some (!isNum l, μ) := by
  have hz := g.sz
  have hm : (l.map fun c => D.str (Tx [c])).length ≤ sizeLine := by rw [List.length_map]; exact hz
  have hk : okDs 59 ((l.filter fun c => !decide (c ∈ fg)).map fun c => D.str (Tx [c])) = true := okm fun c hc => g.sig c ((List.mem_filter.mp hc).1)
  have hk' := okfl hk
  by_cases a1 : (l.length : Int) < 1
  · have : isNum l = false := by unfold isNum; simp; omega
    rw [this]
    exact ⟨[], by push_cast [sv_len hz, a1, decide_true, Bool.not_false]⟩
  by_cases a2 : 60 < (l.length : Int)
  · have : isNum l = false := by unfold isNum; simp; omega
    rw [this]
    exact ⟨[], by push_cast [sv_len hz, a1, a2, decide_true, decide_false, Bool.not_false]⟩
  have hf := fun x0 => flt l x0 []
  cases hn : isNum l with
  | true =>
    have e := isNum_yes hn
    refine ⟨[.lst [], .lst []], ?_⟩
    rw [e] at hf
    push_cast [sv_it, sv_it1, sv_ch, sv_ch1, sv_ch2, sv_ch3, sv_ch4, sv_ss, sv_ss1, sv_ss2, sv_ss3, sv_add, sv_in, sv_nin, sv_sw, sv_eq, sv_len hz, a1, a2, decide_false, if_pos hm, hf, ok0, eqfl]
    rfl
  | false =>
    obtain ⟨c, r, e⟩ := List.exists_cons_of_ne_nil ((isNum_no hn).resolve_left a1 |>.resolve_left a2)
    rw [e] at hf hk'
    refine ⟨[.lst ((c :: r).map fun c => D.str (Tx [c])), .lst []], ?_⟩
    rw [List.map_cons] at hf hk' ⊢
    push_cast [sv_it, sv_it1, sv_ch, sv_ch1, sv_ch2, sv_ch3, sv_ch4, sv_ss, sv_ss1, sv_ss2, sv_ss3, sv_add, sv_in, sv_nin, sv_sw, sv_eq, sv_len hz, a1, a2, decide_false, if_pos hm, hf, ok0, hk', eqfl, nil_ne, Bool.not_false]
end LW
namespace LW
open PySem HW L2 PyProof.Rows PySem.NumText PySem.W
theorem r0 {l : List Nat} (g : Good l) : sSeq (sSet 1 (fVar 0)) (sIf (fB (fOp (eqR false) (fSlS (fVar 0) oNone (oSome (fK (.int 1)))) (fK (.str "-")))) (sSet 1 (fSlS (fVar 0) (oSome (fK (.int 1))) oNone)) sNext) [some (.v (.str (Tx l))), none] [] = some (.nx [some (.v (.str (Tx l))), some (.v (.str (Tx (fig l))))] []) := by
  have h1 : sSet 1 (fVar 0) [some (.v (.str (Tx l))), none] [] = some (.nx [some (.v (.str (Tx l))), some (.v (.str (Tx l)))] []) := rfl
  have h := r1 g
  cases hd : l.head? == some 45 with
  | true =>
    rw [hd] at h
    have e : ∀ μ, slS (.v (.str (Tx l))) (some (1 : Int)) none μ = some (.v (.str (Tx (l.drop 1))), μ) := fun μ => sv_from (μ := μ) (l := l) (n := 1) (len_45 hd) g.sz
    have h2 : sSet 1 (fSlS (fVar 0) (oSome (fK (.int 1))) oNone) [some (.v (.str (Tx l))), some (.v (.str (Tx l)))] [] = some (.nx [some (.v (.str (Tx l))), some (.v (.str (Tx (fig l))))] []) := by
      push_cast [sv_it, sv_it1, sv_ch, sv_ch1, sv_ch2, sv_ch3, sv_ch4, sv_ss, sv_ss1, sv_ss2, sv_ss3, sv_add, sv_in, sv_nin, sv_sw, sv_eq, e, yes_45 hd]
    simp only [ev_seq, ev_seq1, h1, ev_ifS, h, ev_ifT, h2]
  | false =>
    rw [hd] at h
    simp only [ev_seq, ev_seq1, h1, ev_ifS, h, ev_ifF, ev_next, not_45 hd]
theorem seq3 {a b c : FS} {ρ ρ' : Lo} {μ μ' : Store} (h : sSeq a b ρ μ = some (.nx ρ' μ')) : sSeq a (sSeq b c) ρ μ = c ρ' μ' := by
  simp only [ev_seq] at h ⊢
  cases ha : a ρ μ with
  | none => rw [ha] at h; cases h
  | some o =>
    rw [ha] at h
    cases o with
    | nx ρ1 μ1 =>
      simp only [ev_seq1, ev_seq] at h ⊢
      rw [h, ev_seq1]
    | ct ρ1 μ1 => cases h
    | bk ρ1 μ1 => cases h
    | rt d μ1 => cases h
theorem tst2' {l : List Nat} (g : Good l) (h : isNum (fig l) = true) (μ : Store) : tAndF (fB (fOp (eqR false) (fOp ixS (fVar 1) (fK (.int 0))) (fK (.str "0")))) (fB (fOp (eqR true) (fVar 0) (fK (.str "0")))) [some (.v (.str (Tx l))), some (.v (.str (Tx (fig l))))] μ = some (zz l, μ) := by
  obtain ⟨c, r, hf⟩ := head1 (isNum_iff h).1
  exact tst2 g c r hf μ
theorem read_bad {l : List Nat} (g : Good l) (h : isNum (fig l) = false ∨ zz l = true) : m_law_read [.str (Tx l)] = some .non := by
  rw [u_law_read]
  obtain ⟨μ, t1⟩ := r2 g.fig (.v (.str (Tx l)))
  unfold b_law_read
  rw [seq3 (r0 g)]
  cases hn : isNum (fig l) with
  | false =>
    rw [hn] at t1
    have hr : ∀ ρ μ, sRet (fK .non) ρ μ = some (.rt (.v .non) μ) := fun _ _ => rfl
    simp only [ev_seq, ev_ifS, t1, Bool.not_false, ev_ifT, hr, ev_seq2, ev_seq3, ev_seq4, ev_fin]
  | true =>
    have hz : zz l = true := by rcases h with h | h; rw [hn] at h; cases h; exact h
    rw [hn] at t1
    have t2 := tst2' g hn μ
    rw [hz] at t2
    have hr : ∀ ρ μ, sRet (fK .non) ρ μ = some (.rt (.v .non) μ) := fun _ _ => rfl
    simp only [ev_seq, ev_ifS, t1, Bool.not_true, ev_ifF, ev_next, ev_seq1, t2, ev_ifT, hr, ev_seq2, ev_seq3, ev_seq4, ev_fin]
theorem read_good {l : List Nat} (g : Good l) (h1 : isNum (fig l) = true) (h2 : zz l = false) {n : Int} (hi : PySem.intText? (Tx l) = some n) : m_law_read [.str (Tx l)] = some (.int n) := by
  rw [u_law_read]
  obtain ⟨μ, t1⟩ := r2 g.fig (.v (.str (Tx l)))
  unfold b_law_read
  rw [seq3 (r0 g)]
  rw [h1] at t1
  have t2 := tst2' g h1 μ
  rw [h2] at t2
  have hr : sRet (fAr intS (fCons (fVar 0) fNil)) [some (.v (.str (Tx l))), some (.v (.str (Tx (fig l))))] μ = some (.rt (.v (.int n)) μ) := by
    push_cast [sv_int (len_num h1) hi]
  simp only [ev_seq, ev_ifS, t1, Bool.not_true, ev_ifF, ev_next, ev_seq1, t2, hr, ev_fin]
end LW
namespace LW
open PySem HW L2 PyProof.Rows PySem.NumText PySem.W
theorem cut_at {c : Nat} : ∀ {a b u v : List Nat}, c ∉ a → c ∉ b → a ++ c :: u = b ++ c :: v → a = b ∧ u = v
  | [], [], u, v, _, _, h => by injection h with _ h; exact ⟨rfl, h⟩
  | [], y :: b, u, v, _, hb, h => by injection h with h _; exact absurd (by rw [h]; simp) hb
  | x :: a, [], u, v, ha, _, h => by injection h with h _; exact absurd (by rw [h]; simp) ha
  | x :: a, y :: b, u, v, ha, hb, h => by
    injection h with h1 h2
    obtain ⟨e1, e2⟩ := cut_at (fun q => ha (by simp [q])) (fun q => hb (by simp [q])) h2
    exact ⟨by rw [h1, e1], e2⟩
theorem join_uniq (c : Nat) : ∀ {A B : List Str}, A ≠ [] → B ≠ [] → (∀ p ∈ A, c ∉ p.cps.toList) → (∀ p ∈ B, c ∉ p.cps.toList) → Str.join ⟨#[c]⟩ A = Str.join ⟨#[c]⟩ B → A = B
  | [], _, h, _, _, _, _ => absurd rfl h
  | _, [], _, h, _, _, _ => absurd rfl h
  | [a], [b], _, _, _, _, h => by
    have : a = b := h
    rw [this]
  | [a], b :: b' :: r, _, _, ha, hb, h => by
    have e : a = b ++ ⟨#[c]⟩ ++ Str.join ⟨#[c]⟩ (b' :: r) := h
    refine absurd ?_ (ha a (by simp))
    rw [e]
    show c ∈ ((b.cps ++ #[c]) ++ (Str.join ⟨#[c]⟩ (b' :: r)).cps).toList
    simp
  | a :: a' :: q, [b], _, _, ha, hb, h => by
    have e : a ++ ⟨#[c]⟩ ++ Str.join ⟨#[c]⟩ (a' :: q) = b := h
    refine absurd ?_ (hb b (by simp))
    rw [← e]
    show c ∈ ((a.cps ++ #[c]) ++ (Str.join ⟨#[c]⟩ (a' :: q)).cps).toList
    simp
  | a :: a' :: q, b :: b' :: r, _, _, ha, hb, h => by
    have e : a ++ ⟨#[c]⟩ ++ Str.join ⟨#[c]⟩ (a' :: q) = b ++ ⟨#[c]⟩ ++ Str.join ⟨#[c]⟩ (b' :: r) := h
    have e1 : a.cps.toList ++ c :: (Str.join ⟨#[c]⟩ (a' :: q)).cps.toList = b.cps.toList ++ c :: (Str.join ⟨#[c]⟩ (b' :: r)).cps.toList := by
      have := congrArg (fun s : Str => s.cps.toList) e
      simp only [Str.cps_append, Array.toList_append] at this
      simpa using this
    obtain ⟨h1, h2⟩ := cut_at (ha a (by simp)) (hb b (by simp)) e1
    have h1' : a = b := Str.ext' (Array.toList_inj.mp h1)
    have h2' : Str.join ⟨#[c]⟩ (a' :: q) = Str.join ⟨#[c]⟩ (b' :: r) := Str.ext' (Array.toList_inj.mp h2)
    rw [h1', join_uniq c (by simp) (by simp) (fun p hp => ha p (List.mem_cons_of_mem _ hp)) (fun p hp => hb p (List.mem_cons_of_mem _ hp)) h2']
theorem split_ne (x y : Str) : Txt.split x y ≠ [] := by
  unfold Txt.split
  split
  · simp
  · split
    · simp
    · unfold Builtin.Str.partsBetween
      cases Builtin.Str.occurrences x y 0 x.length (x.length + 1) <;> simp
theorem split_join (c : Nat) (ws : List Str) (h0 : ws ≠ []) (hf : ∀ p ∈ ws, c ∉ p.cps.toList) : Txt.split (Txt.join ⟨#[c]⟩ ws) ⟨#[c]⟩ = ws := by
  refine join_uniq c (split_ne _ _) h0 (PySem.StrLaws.split_free _ c) hf ?_
  rw [PySem.StrLaws.join_split]
  exact PySem.StrLaws.glued_eq_join _ _
theorem tx_sp : (Str.ofString " ") = ⟨#[32]⟩ := by decide +kernel
theorem fold_le (k : Nat) (ws : List Str) (h : ∀ w ∈ ws, w.length ≤ k) : ∀ acc, ws.foldl (fun a w => a + w.length + (⟨#[32]⟩ : Str).length) acc ≤ acc + ws.length * (k + 1) := by
  induction ws with
  | nil => intro acc; simp
  | cons w r ih =>
    intro acc
    have h1 := h w (by simp)
    have := ih (fun v hv => h v (by simp [hv])) (acc + w.length + (⟨#[32]⟩ : Str).length)
    have e : (⟨#[32]⟩ : Str).length = 1 := rfl
    simp only [List.foldl_cons, List.length_cons]
    rw [e] at this ⊢
    refine Nat.le_trans this ?_
    rw [Nat.add_mul]
    omega
theorem join_ok (ws : List Str) (h : ∀ w ∈ ws, w.length ≤ 70) (hl : ws.length ≤ 40) : JoinOk ⟨#[32]⟩ ws = true := by
  unfold JoinOk Builtin.Str.tooLong
  have := fold_le 70 ws h 0
  rw [← List.foldl_toArray'] at this
  · simp only [Bool.not_eq_true', decide_eq_false_iff_not, Nat.not_lt]
    refine Nat.le_trans this ?_
    have h4 : (4000 : Nat) ≤ sizeLine := by decide
    have : ws.length * 71 ≤ 40 * 71 := Nat.mul_le_mul_right _ hl
    omega
  · rfl
end LW
namespace LW
open PySem HW L2 PyProof.Rows PySem.NumText PySem.W
theorem far_ex (ns : List Int) (k : Int) : ∃ d, m_law_far [.fl (ns.map .int), .int k] = some (.int d) ∧ 0 ≤ d ∧ d < 10 ^ 50 := by
  rw [u_law_far]
  by_cases h : ns = []
  · subst h
    exact ⟨0, by push_cast [b_law_far, Int.natCast_zero, beq_self_eq_true], by omega, by decide⟩
  · have hl : 0 < ns.length := List.length_pos_iff.mpr h
    have e0 : ((ns.length : Int) == 0) = false := by simp; omega
    obtain ⟨c, hc⟩ := cell_at ns k h
    obtain ⟨a, ea, ba⟩ := draw_ex ns k 100000000 (by decide)
    obtain ⟨T, hT⟩ : ∃ T : Int, T = 10 ^ 50 := ⟨_, rfl⟩
    have T0 : 0 < T := by rw [hT]; decide
    have p1 : ∀ μ : Store, powD (.v (.int 10)) (.v (.int 50)) μ = some (.v (.int T), μ) := fun μ => by rw [hT]; exact ev_pow (by decide)
    rw [← hT]
    push_cast [b_law_far, e0, List.length_map, ea, ev_mod (i := k) (j := (ns.length : Int)) (by omega), hc, p1, ev_mod (i := c) T0, ev_mulR (i := c % T) (j := a + 1) (by omega), ev_pow (i := a + 1) (j := 5) (by omega), ev_mod (j := T) T0]
    exact ⟨_, rfl, emod_b _ T0⟩
noncomputable abbrev az : List Nat := [97, 98, 99, 100, 101, 102, 103, 104, 105, 106, 107, 108, 109, 110, 111, 112, 113, 114, 115, 116, 117, 118, 119, 120, 121, 122]
theorem tx_az : (Str.ofString "abcdefghijklmnopqrstuvwxyz") = Tx az := by decide +kernel
theorem az_at : ∀ m : Nat, m < 26 → ∃ c, c ∈ az ∧ az[m]? = some c := by decide
theorem az_b : ∀ c ∈ az, 97 ≤ c ∧ c ≤ 122 := by decide
theorem law_name (ns : List Int) (k : Int) : ∃ l : List Nat, m_law_name [.fl (ns.map .int), .int k] = some (.str (Tx l)) ∧ 1 ≤ l.length ∧ l.length ≤ 8 ∧ ∀ c ∈ l, c ∈ az := by
  rw [u_law_name]
  obtain ⟨d, ed, bd⟩ := draw_ex ns k 8 (by decide)
  obtain ⟨n, hn⟩ : ∃ n : Nat, 1 + d = (n : Int) := ⟨(1 + d).toNat, by omega⟩
  have h62 : -(2 ^ 62 : Int) ≤ (n : Int) ∧ (n : Int) < 2 ^ 62 := by omega
  obtain ⟨ρ', μ', e, l, x3, rfl, rfl, hl, ha⟩ := loop_range (g := gNm 3) (b := l_law_name_0) (ρ := [some (.v (.fl (ns.map .int))), some (.v (.int k)), some (.v (.str (Tx []))), none]) (μ := []) n
    (fun i ρ μ => ∃ l x3, ρ = [some (.v (.fl (ns.map .int))), some (.v (.int k)), some (.v (.str (Tx l))), x3] ∧ μ = [] ∧ l.length = i ∧ ∀ c ∈ l, c ∈ az)
    ⟨[], none, rfl, rfl, rfl, by simp⟩ (by
      rintro i hi ρ μ ⟨l, x3, rfl, rfl, hl, ha⟩
      obtain ⟨a, ea, ba⟩ := draw_ex ns (k + 1 + i) 26 (by decide)
      obtain ⟨m, rfl⟩ : ∃ m : Nat, a = (m : Int) := ⟨a.toNat, by omega⟩
      obtain ⟨c, hc, ec⟩ := az_at m (by omega)
      have hz : l.length + 1 ≤ sizeLine := small'' (by omega)
      have hix := fun μ => sv_ix (μ := μ) (i := (m : Int)) (l := az) (c := c) (by omega) (by decide) (by rw [Int.toNat_natCast]; exact ec)
      push_cast [l_law_name_0, ea, tx_az, hix, sv_it, sv_it1, sv_ch, sv_ch1, sv_ch2, sv_ch3, sv_ch4, sv_ss, sv_ss1, sv_ss2, sv_ss3, sv_add, sv_in, sv_nin, sv_sw, sv_eq, if_pos hz]
      exact ⟨_, _, rfl, l ++ [c], _, rfl, rfl, by simp; omega, by intro x hx; rcases List.mem_append.mp hx with h | h; exact ha x h; simp at h; rw [h]; exact hc⟩)
  refine ⟨l, ?_, by omega, by omega, ha⟩
  rw [← tx_nil] at e
  push_cast [b_law_name, ed, hn, ev_r11 h62, Int.toNat_natCast, e]
noncomputable def eD : Option Int → D
  | none => .non
  | some n => .int n
noncomputable def eT : Option Int → List Nat
  | none => [45]
  | some n => tn n
def Sm (n : Int) : Prop := n.natAbs < 10 ^ 60
structure Tel where
  kind : Bool
  name : List Nat
  row : List Int
  low : Option Int
  high : Option Int
structure TelOk (t : Tel) : Prop where
  n1 : 1 ≤ t.name.length
  n2 : t.name.length ≤ 8
  n3 : ∀ c ∈ t.name, c ∈ az
  r1 : t.row.length ≤ 8
  r2 : ∀ n ∈ t.row, Sm n
  lo : ∀ n, t.low = some n → Sm n
  hi : ∀ n, t.high = some n → Sm n
  lt : ∀ a b, t.low = some a → t.high = some b → a < b
noncomputable def kS (b : Bool) : Str := if b then "strike" else "tell"
noncomputable def tD (t : Tel) : D := .tup [.str (kS t.kind), .str (Tx t.name), .tup (t.row.map .int), eD t.low, eD t.high]
theorem p60 {T : Int} (hT : T = 10 ^ 60) (μ : Store) : powD (.v (.int 10)) (.v (.int 60)) μ = some (.v (.int T), μ) := by rw [hT]; exact ev_pow (by decide)
theorem sm_of {n : Int} (h : -(10 ^ 60 : Int) < n ∧ n < 10 ^ 60) : Sm n := by
  unfold Sm
  have : ((10 ^ 60 : Nat) : Int) = 10 ^ 60 := by decide
  omega
theorem law_number (ns : List Int) (k : Int) : ∃ n, m_law_number [.fl (ns.map .int), .int k] = some (.int n) ∧ Sm n := by
  rw [u_law_number]
  obtain ⟨w, ew, bw⟩ := draw_ex ns k 5 (by decide)
  obtain ⟨a, ea, ba⟩ := draw_ex ns (k + 1) 25 (by decide)
  obtain ⟨b, eb, bb⟩ := draw_ex ns (k + 1) 3 (by decide)
  obtain ⟨f, ef, bf⟩ := far_ex ns (k + 1)
  obtain ⟨T, hT⟩ : ∃ T : Int, T = 10 ^ 60 := ⟨_, rfl⟩
  obtain ⟨U, hU⟩ : ∃ U : Int, U = 10 ^ 49 := ⟨_, rfl⟩
  have q60 := p60 hT
  have q49 : ∀ μ : Store, powD (.v (.int 10)) (.v (.int 49)) μ = some (.v (.int U), μ) := fun μ => by rw [hU]; exact ev_pow (by decide)
  have hs : ∀ n : Int, -T < n ∧ n < T → Sm n := fun n h => sm_of (by rw [← hT]; exact h)
  have T1 : 1000 < T := by rw [hT]; decide
  have TU : 10 * U < T ∧ 0 < U := by rw [hT, hU]; decide
  have bf' : f < 10 * U := by have : (10 : Int) * U = 10 ^ 50 := by rw [hU]; decide
                              rw [this]; exact bf.2
  by_cases h1 : w < 2
  · push_cast [b_law_number, ew, ea, h1, decide_true]
    exact ⟨_, rfl, hs _ (by omega)⟩
  by_cases h2 : w = 2
  · subst h2
    push_cast [b_law_number, ew, eb, h1, decide_false, beq_self_eq_true, q60]
    exact ⟨_, rfl, hs _ (by omega)⟩
  by_cases h3 : w = 3
  · subst h3
    push_cast [b_law_number, ew, eb, h1, decide_false, beq_self_eq_true, q60, show ((3 : Int) == 2) = false from rfl]
    exact ⟨_, rfl, hs _ (by omega)⟩
  · have e2 : (w == 2) = false := by simp [h2]
    have e3 : (w == 3) = false := by simp [h3]
    push_cast [b_law_number, ew, ef, h1, decide_false, e2, e3, q49, ev_mulL (i := 5) (j := U) (by decide)]
    exact ⟨_, rfl, hs _ (by omega)⟩
end LW
namespace LW
open PySem HW L2 PyProof.Rows PySem.NumText PySem.W
noncomputable def num (ns : List Int) (k : Int) : Int := match m_law_number [.fl (ns.map .int), .int k] with | some (.int d) => d | _ => 0
theorem num_eq (ns : List Int) (k : Int) : m_law_number [.fl (ns.map .int), .int k] = some (.int (num ns k)) := by
  obtain ⟨d, e, _⟩ := law_number ns k
  unfold num; rw [e]
theorem num_sm (ns : List Int) (k : Int) : Sm (num ns k) := by
  obtain ⟨d, e, h⟩ := law_number ns k
  unfold num; rw [e]; exact h
theorem kind_at (n : Int) (h : 0 ≤ n ∧ n < 2) : ∃ b, L2.atI [D.str "tell", .str "strike"] n = some (.str (kS b)) := by
  have : n = 0 ∨ n = 1 := by omega
  rcases this with rfl | rfl
  · exact ⟨false, rfl⟩
  · exact ⟨true, rfl⟩
theorem law_telling (ns : List Int) (k : Int) : ∃ t : Tel, m_law_telling [.fl (ns.map .int), .int k] = some (tD t) ∧ TelOk t := by
  rw [u_law_telling]
  obtain ⟨l, el, bl⟩ := draw_ex ns k 30 (by decide)
  obtain ⟨h, eh, bh⟩ := draw_ex ns (k + 1) 9 (by decide)
  obtain ⟨w, ew, bw⟩ := draw_ex ns (k + 2) 8 (by decide)
  obtain ⟨f, ef, bf⟩ := far_ex ns (k + 3)
  obtain ⟨g, eg, bg⟩ := far_ex ns (k + 4)
  obtain ⟨r, er, br⟩ := draw_ex ns (k + 5) 9 (by decide)
  obtain ⟨kk, ek, bk⟩ := draw_ex ns (k + 6) 2 (by decide)
  obtain ⟨kb, ekb⟩ := kind_at kk bk
  obtain ⟨nm, en, n1, n2, n3⟩ := law_name ns (k + 7)
  obtain ⟨n, rfl⟩ : ∃ n : Nat, r = (n : Int) := ⟨r.toNat, by omega⟩
  have h62 : -(2 ^ 62 : Int) ≤ (n : Int) ∧ (n : Int) < 2 ^ 62 := by omega
  have hc : ∀ μ, compL (gNm 0) cYes (fCall m_law_number 2 (fCons (fFz (fVar 1)) (fCons (fFz (fOp addQ (fOp addQ (fVar 2) (fK (.int 20))) (fOp mulD (fK (.int 3)) (fVar 0)))) fNil))) ((List.range n).map fun i => D.int ((i : Nat) : Int)) [none, some (.v (.fl (ns.map .int))), some (.v (.int k))] μ = some ((List.range n).map (fun i : Nat => D.int (num ns (k + 20 + 3 * (i : Int)))), μ) := fun μ =>
    comp_typed (fun i : Nat => D.int (i : Int)) (fun i : Nat => D.int (num ns (k + 20 + 3 * (i : Int)))) (List.range n) none (fun i _ => by
      push_cast [ev_mulL (i := 3) (j := (i : Int)) (by decide), num_eq])
  have hm : ((List.range n).map fun i => D.int ((i : Nat) : Int)).length ≤ sizeLine := small'' (by simp; omega)
  have hr : (List.range n).map (fun i : Nat => D.int (num ns (k + 20 + 3 * (i : Int)))) = ((List.range n).map (fun i : Nat => num ns (k + 20 + 3 * (i : Int)))).map D.int := by rw [List.map_map]; rfl
  have s5 : 5 ≤ sizeLine := by decide
  obtain ⟨T, hT⟩ : ∃ T : Int, T = 10 ^ 60 := ⟨_, rfl⟩
  have T1 : 1000 < T := by rw [hT]; decide
  have TU : (10 : Int) ^ 50 + 1000 < T := by rw [hT]; decide
  obtain ⟨V, hV⟩ : ∃ V : Int, V = 10 ^ 50 := ⟨_, rfl⟩
  rw [← hV] at bf bg TU
  have hs : ∀ n : Int, -T < n ∧ n < T → Sm n := fun n h => sm_of (by rw [← hT]; exact h)
  have mk : ∀ lo hi : Option Int, (∀ n, lo = some n → Sm n) → (∀ n, hi = some n → Sm n) → (∀ a b, lo = some a → hi = some b → a < b) → TelOk ⟨kb, nm, (List.range n).map (fun i : Nat => num ns (k + 20 + 3 * (i : Int))), lo, hi⟩ := fun lo hi h1 h2 h3 =>
    ⟨n1, n2, n3, by simp; omega, fun x hx => by obtain ⟨i, _, rfl⟩ := List.mem_map.mp hx; exact num_sm ns _, h1, h2, h3⟩
  have md : ∀ (i : Int) (μ : Store), modD (.v (.int i)) (.v (.int 2)) μ = some (.v (.int (i % 2)), μ) := fun i μ => ev_mod (by decide)
  obtain ⟨od, hod⟩ : ∃ od, od = (w % 2 == 1) := ⟨_, rfl⟩
  obtain ⟨z0, hz0⟩ : ∃ z, z = (w == 0) := ⟨_, rfl⟩
  obtain ⟨z2, hz2⟩ : ∃ z, z = (w == 2) := ⟨_, rfl⟩
  obtain ⟨z4, hz4⟩ : ∃ z, z = (w == 4) := ⟨_, rfl⟩
  obtain ⟨lo1, hlo⟩ : ∃ x : Int, x = if od = true then l - 15 - f else l - 15 := ⟨_, rfl⟩
  obtain ⟨hi1, hhi⟩ : ∃ x : Int, x = if od = true then l - 15 + 1 + h + g else l - 15 + 1 + h := ⟨_, rfl⟩
  have hb : (-T < lo1 ∧ lo1 < T) ∧ (-T < hi1 ∧ hi1 < T) ∧ lo1 < hi1 := by
    rw [hlo, hhi]
    cases od <;> simp only [Bool.false_eq_true, if_true, if_false] <;> omega
  refine ⟨⟨kb, nm, (List.range n).map (fun i : Nat => num ns (k + 20 + 3 * (i : Int))), (if (z0 || z2) = true then none else some lo1), (if (z0 || z4) = true then none else some hi1)⟩, ?_,
    mk _ _ (fun x hx => by split at hx <;> cases hx; exact hs _ hb.1) (fun x hx => by split at hx <;> cases hx; exact hs _ hb.2.1) (fun a b ha hb' => by split at ha <;> cases ha; split at hb' <;> cases hb'; exact hb.2.2)⟩
  have seq : ∀ {a c : FS} {ρ ρ' : Lo} {μ μ' : Store}, a ρ μ = some (.nx ρ' μ') → sSeq a c ρ μ = c ρ' μ' := fun {a c ρ ρ' μ μ'} q => by rw [ev_seq, q, ev_seq1]
  refine (congrArg finO (seq (ρ' := [some (.v (.fl (ns.map .int))), some (.v (.int k)), some (.v (.int (l - 15))), none, none, none, none]) (μ' := []) (by push_cast [el]))).trans ?_
  refine (congrArg finO (seq (ρ' := [some (.v (.fl (ns.map .int))), some (.v (.int k)), some (.v (.int (l - 15))), some (.v (.int (l - 15 + 1 + h))), none, none, none]) (μ' := []) (by push_cast [eh]))).trans ?_
  refine (congrArg finO (seq (ρ' := [some (.v (.fl (ns.map .int))), some (.v (.int k)), some (.v (.int (l - 15))), some (.v (.int (l - 15 + 1 + h))), some (.v (.int w)), none, none]) (μ' := []) (by push_cast [ew]))).trans ?_
  refine (congrArg finO (seq (ρ' := [some (.v (.fl (ns.map .int))), some (.v (.int k)), some (.v (.int lo1)), some (.v (.int hi1)), some (.v (.int w)), none, none]) (μ' := []) (by
    rw [hlo, hhi]
    cases od <;> push_cast [md, ← hod, ef, eg, Bool.false_eq_true, if_false]))).trans ?_
  refine (congrArg finO (seq (ρ' := [some (.v (.fl (ns.map .int))), some (.v (.int k)), some (.v (eD (if (z0 || z2) = true then none else some lo1))), some (.v (.int hi1)), some (.v (.int w)), none, none]) (μ' := []) (by
    cases z0 <;> cases z2 <;> push_cast [← hz0, ← hz2, eD, Bool.or_true, Bool.or_false, Bool.true_or, Bool.false_eq_true, if_false]))).trans ?_
  refine (congrArg finO (seq (ρ' := [some (.v (.fl (ns.map .int))), some (.v (.int k)), some (.v (eD (if (z0 || z2) = true then none else some lo1))), some (.v (eD (if (z0 || z4) = true then none else some hi1))), some (.v (.int w)), none, none]) (μ' := []) (by
    cases z0 <;> cases z4 <;> push_cast [← hz0, ← hz4, eD, Bool.or_true, Bool.or_false, Bool.true_or, Bool.false_eq_true, if_false]))).trans ?_
  push_cast [er, ek, ekb, en, ev_r11 h62, Int.toNat_natCast, if_pos hm, hc, s5, hr, tD]
end LW
namespace LW
open PySem HW L2 PyProof.Rows PySem.NumText PySem.W
noncomputable def kT (b : Bool) : List Nat := if b then [115, 116, 114, 105, 107, 101] else [116, 101, 108, 108]
theorem kS_T (b : Bool) : kS b = Tx (kT b) := by cases b <;> decide +kernel
theorem tx_dot : (Str.ofString ".") = Tx [46] := by decide +kernel
noncomputable def WS (t : Tel) (turn : Int) : List (List Nat) := kT t.kind :: tn turn :: t.name :: eT t.low :: eT t.high :: (t.row.map tn ++ [[46]])
noncomputable abbrev sT (w : List Nat) : D := .str (Tx w)
noncomputable def W (t : Tel) (turn : Int) : Str := Txt.join ⟨#[32]⟩ ((WS t turn).map Tx)
theorem sm_log {n : Int} (h : Sm n) : n.natAbs.log2 < 1920 := by
  by_cases h0 : n.natAbs = 0
  · rw [h0]; decide
  · have : n.natAbs.log2 < 200 := by rw [Nat.log2_lt h0]; exact Nat.lt_trans h (by decide)
    omega
theorem str_ev {n : Int} (h : Sm n) (μ : Store) : strD [.v (.int n)] μ = some (.v (sT (tn n)), μ) := by
  rw [ev_str, if_pos (sm_log h), str_tn]
theorem low_end {e : Option Int} (h : ∀ n, e = some n → Sm n) : m_law_end [eD e] = some (sT (eT e)) := by
  rw [u_law_end]
  cases e with
  | none =>
    have i1 : ∀ μ, isK false .non (.v .non) μ = some (.v (.bl true), μ) := fun _ => rfl
    push_cast [b_law_end, eD, eT, i1, tx_min]
  | some n =>
    have i1 : ∀ μ, isK false .non (.v (.int n)) μ = some (.v (.bl false), μ) := fun _ => rfl
    simp only [b_law_end, eD, eT, ev_seq, ev_ifS, ev_B, ev_un, ev_v0, ev_vs, ev_un1, i1, ev_B1, ev_ifF, ev_next, ev_seq1, ev_ret, ev_ar, ev_cons, ev_nil, ev_cons1, ev_cons2, ev_ar1, str_ev (h n rfl), ev_ret1, ev_fin]
noncomputable def thJ (o : Option (List D)) (a : Str) (μ : Store) : Option (R × Store) := o.bind fun ds => (textsD ds).bind fun ts => if JoinOk a ts = true then some (.v (.str (Txt.join a ts)), μ) else none
theorem jv1 {a : Str} {n : Nat} {μ : Store} : joinD (.v (.str a)) (.p n) μ = thJ (cIt μ[n]?) a μ := rfl
theorem texts_map (ws : List (List Nat)) : textsD (ws.map sT) = some (ws.map Tx) := by
  induction ws with
  | nil => rfl
  | cons w r ih => simp only [List.map_cons, textsD, ih, Option.bind_some]
theorem tn_len61 {n : Int} (h : Sm n) : (tn n).length ≤ 61 := tn_len (by decide) h
theorem eT_len {e : Option Int} (h : ∀ n, e = some n → Sm n) : (eT e).length ≤ 61 := by
  cases e with
  | none => simp [eT]
  | some n => exact tn_len61 (h n rfl)
theorem WS_len {t : Tel} (ok : TelOk t) {turn : Int} (ht : Sm turn) : ∀ w ∈ WS t turn, w.length ≤ 70 := by
  intro w hw
  simp only [WS, List.mem_cons, List.mem_append, List.mem_map, List.not_mem_nil, or_false] at hw
  rcases hw with rfl | rfl | rfl | rfl | rfl | ⟨n, hn, rfl⟩ | rfl
  · unfold kT; split <;> simp
  · have := tn_len61 ht; omega
  · have := ok.n2; omega
  · have := eT_len ok.lo; omega
  · have := eT_len ok.hi; omega
  · have := tn_len61 (ok.r2 n hn); omega
  · simp
theorem WS_n {t : Tel} (ok : TelOk t) {turn : Int} : (WS t turn).length ≤ 40 := by
  have := ok.r1
  simp [WS]; omega
theorem jv2 {t : Tel} (ok : TelOk t) {turn : Int} (ht : Sm turn) (μ : Store) : thJ (some ((WS t turn).map sT)) (Str.ofString " ") μ = some (.v (.str (W t turn)), μ) := by
  unfold thJ
  simp only [Option.bind_some, texts_map, tx_sp]
  rw [if_pos (join_ok _ (by intro w hw; obtain ⟨v, hv, rfl⟩ := List.mem_map.mp hw; rw [tx_len]; exact WS_len ok ht v hv) (by rw [List.length_map]; exact WS_n ok))]
  rfl
theorem at4 {a b c d e : D} {l : List D} : atI (a :: b :: c :: d :: e :: l) 4 = some e := at_int (by decide) rfl
theorem law_written {t : Tel} (ok : TelOk t) {turn : Int} (ht : Sm turn) : m_law_written [.int turn, tD t] = some (.str (W t turn)) := by
  rw [u_law_written]
  have r1 := ok.r1
  obtain ⟨⟨x3, done⟩, e, hd⟩ := loop_inv (g := gNm 3) (b := l_law_written_0) (σ := Option R × List Int) D.int (fun s => ([some (.v (.int turn)), some (.v (tD t)), some (.p 0), s.1], [.lst ((kT t.kind :: tn turn :: t.name :: eT t.low :: eT t.high :: s.2.map tn).map sT)])) (fun s r => s.2 ++ r = t.row) t.row (none, []) rfl (by
      rintro ⟨x3, done⟩ n r hr
      have hn : Sm n := ok.r2 n (by rw [← hr]; simp)
      have hl : done.length ≤ 8 := by have := congrArg List.length hr; simp at this; omega
      have hz : ((kT t.kind :: tn turn :: t.name :: eT t.low :: eT t.high :: done.map tn).map sT).length < sizeLine := small' (by simp; omega)
      refine ⟨(some (.v (.int n)), done ++ [n]), ?_, by simpa using hr⟩
      simp only [ev_gnm, ev_G, ls_set0, ls_sets, l_law_written_0, ev_drop, ev_mt, ev_v0, ev_vs, ev_mtP, ls_get0, ev_mtC, ev_cons, ev_ar, ev_nil, ev_cons1, ev_cons2, ev_ar1, str_ev hn, ev_mt2, ev_appP, ev_appC, if_pos hz, ev_drop1]
      simp)
  simp only [List.append_nil] at hd
  subst hd
  have hz : ((kT t.kind :: tn turn :: t.name :: eT t.low :: eT t.high :: t.row.map tn).map sT).length + 1 ≤ sizeLine := small'' (by simp; omega)
  have s5 : 5 ≤ sizeLine := by decide
  have s1 : 1 ≤ sizeLine := by decide
  have e1 := low_end ok.lo
  have e2 := low_end ok.hi
  simp only [List.map_nil, List.map_cons] at e
  unfold tD at e ⊢
  push_cast [b_law_written, at4, e1, e2, str_ev ht, s5, s1, kS_T]
  simp only [kS_T] at e
  rw [e]
  have hj := jv2 ok ht
  have hW : (WS t turn).map sT = sT (kT t.kind) :: sT (tn turn) :: sT t.name :: sT (eT t.low) :: sT (eT t.high) :: (List.map sT (List.map tn t.row) ++ [sT [46]]) := by
    simp [WS]
  rw [hW] at hj
  simp only [List.map_cons, List.length_cons] at hz
  push_cast [s1, tx_dot, if_pos hz, jv1, hj]
end LW
namespace LW
open PySem HW L2 PyProof.Rows PySem.NumText PySem.W
noncomputable def sp : List Nat → List (List Nat)
  | [] => [[]]
  | c :: t => if c = 32 then [] :: sp t else match sp t with
    | [] => [[c]]
    | w :: ws => (c :: w) :: ws
noncomputable def jn : List (List Nat) → List Nat
  | [] => []
  | [a] => a
  | a :: b :: t => a ++ 32 :: jn (b :: t)
theorem sp_ne : ∀ l, sp l ≠ []
  | [] => by simp [sp]
  | c :: t => by
    unfold sp
    split
    · simp
    · split <;> simp
theorem jn_sp : ∀ l, jn (sp l) = l
  | [] => rfl
  | c :: t => by
    have ih := jn_sp t
    have hn := sp_ne t
    unfold sp
    cases h : sp t with
    | nil => exact absurd h hn
    | cons w ws =>
      rw [h] at ih
      split
      · rename_i hc
        subst hc
        simp [jn, ih]
      · cases ws with
        | nil => simp only [jn] at ih ⊢; rw [ih]
        | cons b u => simp only [jn] at ih ⊢; rw [List.cons_append, ih]
theorem sp_free : ∀ (l : List Nat), ∀ w ∈ sp l, 32 ∉ w
  | [], w, h => by simp [sp] at h; subst h; simp
  | c :: t, w, h => by
    have ih := sp_free t
    unfold sp at h
    cases q : sp t with
    | nil => exact absurd q (sp_ne t)
    | cons v ws =>
      rw [q] at ih h
      split at h
      · rcases List.mem_cons.mp h with rfl | h
        · simp
        · exact ih w h
      · rename_i hc
        rcases List.mem_cons.mp h with rfl | h
        · intro z
          rcases List.mem_cons.mp z with z | z
          · exact hc z.symm
          · exact ih v (by simp) z
        · exact ih w (by simp [h])
theorem sp_mem : ∀ (l : List Nat), ∀ w ∈ sp l, ∀ c ∈ w, c ∈ l
  | [], w, h => by simp [sp] at h; subst h; simp
  | a :: t, w, h => by
    have ih := sp_mem t
    unfold sp at h
    cases q : sp t with
    | nil => exact absurd q (sp_ne t)
    | cons v ws =>
      rw [q] at ih h
      intro c hc
      split at h
      · rcases List.mem_cons.mp h with rfl | h
        · simp at hc
        · exact List.mem_cons_of_mem _ (ih w h c hc)
      · rcases List.mem_cons.mp h with rfl | h
        · rcases List.mem_cons.mp hc with rfl | hc
          · simp
          · exact List.mem_cons_of_mem _ (ih v (by simp) c hc)
        · exact List.mem_cons_of_mem _ (ih w (by simp [h]) c hc)
theorem sp_len : ∀ (l : List Nat), (∀ w ∈ sp l, w.length ≤ l.length) ∧ (sp l).length ≤ l.length + 1
  | [] => by simp [sp]
  | a :: t => by
    obtain ⟨i1, i2⟩ := sp_len t
    unfold sp
    cases q : sp t with
    | nil => exact absurd q (sp_ne t)
    | cons v ws =>
      rw [q] at i1 i2
      split
      · refine ⟨fun w h => ?_, by simp at i2 ⊢; omega⟩
        rcases List.mem_cons.mp h with rfl | h
        · simp
        · have := i1 w h; simp; omega
      · refine ⟨fun w h => ?_, by simp at i2 ⊢; omega⟩
        rcases List.mem_cons.mp h with rfl | h
        · have := i1 v (by simp); simp; omega
        · have := i1 w (by simp [h]); simp; omega
theorem join_tx' : ∀ (ws : List (List Nat)), Str.join ⟨#[32]⟩ (ws.map Tx) = Tx (jn ws)
  | [] => rfl
  | [a] => by first | rfl | simp [Str.join, jn]
  | a :: b :: t => by
    have ih := join_tx' (b :: t)
    simp only [List.map_cons] at ih ⊢
    rw [Str.join, ih, show jn (a :: b :: t) = a ++ 32 :: jn (b :: t) from rfl]
    · exact Str.ext' (Array.toList_inj.mp (by
        show ((a.toArray ++ #[32]) ++ (jn (b :: t)).toArray).toList = _
        simp))
    all_goals simp
theorem join_tx (ws : List (List Nat)) : Txt.join ⟨#[32]⟩ (ws.map Tx) = Tx (jn ws) := (PySem.StrLaws.glued_eq_join _ _).trans (join_tx' ws)
theorem split_tx (l : List Nat) : Txt.split (Tx l) ⟨#[32]⟩ = (sp l).map Tx := by
  have h := split_join 32 ((sp l).map Tx) (by simpa using sp_ne l) (by
    intro p hp
    obtain ⟨w, hw, rfl⟩ := List.mem_map.mp hp
    exact sp_free l w hw)
  rw [join_tx, jn_sp] at h
  exact h
theorem sp_jn {ws : List (List Nat)} (h0 : ws ≠ []) (hf : ∀ w ∈ ws, 32 ∉ w) : sp (jn ws) = ws := by
  have h := split_join 32 (ws.map Tx) (by simpa using h0) (by
    intro p hp
    obtain ⟨w, hw, rfl⟩ := List.mem_map.mp hp
    exact hf w hw)
  rw [join_tx, split_tx] at h
  have inj : ∀ (a b : List (List Nat)), a.map Tx = b.map Tx → a = b := by
    intro a
    induction a with
    | nil => intro b h; cases b with
      | nil => rfl
      | cons _ _ => cases h
    | cons x xs ih => intro b h; cases b with
      | nil => cases h
      | cons y ys =>
        simp only [List.map_cons, List.cons.injEq] at h
        rw [ih ys h.2]
        have e : x.toArray = y.toArray := congrArg Str.cps h.1
        rw [List.toArray_inj e]
  exact inj _ _ h
noncomputable def nm (w : List Nat) : Option Int := if isNum (fig w) = true ∧ zz w = false then PySem.intText? (Tx w) else none
theorem nm_bad {w : List Nat} (h : nm w = none) : isNum (fig w) = false ∨ zz w = true := by
  unfold nm at h
  split at h
  · rename_i q
    obtain ⟨n, hn⟩ := int_of q.1
    rw [hn] at h; cases h
  · rename_i q
    cases h1 : isNum (fig w) with
    | false => exact .inl rfl
    | true =>
      cases h2 : zz w with
      | true => exact .inr rfl
      | false => exact absurd ⟨h1, h2⟩ q
theorem nm_good {w : List Nat} {n : Int} (h : nm w = some n) : isNum (fig w) = true ∧ zz w = false ∧ PySem.intText? (Tx w) = some n := by
  unfold nm at h
  split at h
  · rename_i q; exact ⟨q.1, q.2, h⟩
  · cases h
theorem nm_law {w : List Nat} (g : Good w) : m_law_read [sT w] = some (eD (nm w)) := by
  cases h : nm w with
  | none => exact read_bad g (nm_bad h)
  | some n => obtain ⟨h1, h2, h3⟩ := nm_good h; exact read_good g h1 h2 h3
noncomputable abbrev NT : Str := Str.ofString "NoText"
theorem nm_x0 {w : List Nat} (g : Good w) (h : nm w = none) : x_read_number [sT w] = some NT := x_bad g (nm_bad h)
theorem nm_x1 {w : List Nat} {n : Int} (g : Good w) (h : nm w = some n) : x_read_number [sT w] = none := by obtain ⟨h1, h2, h3⟩ := nm_good h; exact x_good g h1 h2
theorem nm_m {w : List Nat} {n : Int} (g : Good w) (h : nm w = some n) : m_read_number [sT w] = some (.int n) := by obtain ⟨h1, h2, h3⟩ := nm_good h; exact m_good g h1 h2 h3
end LW
namespace LW
open PySem HW L2 PyProof.Rows PySem.NumText PySem.W
theorem spl_ev {l : List Nat} (hl : l.length < 4000) (μ : Store) : splD (.v (sT l)) (.v (.str " ")) μ = some (.p μ.length, μ ++ [.lst ((sp l).map sT)]) := by
  unfold splD
  dsimp only
  rw [if_pos ⟨by decide +kernel, by rw [tx_len]; exact hl⟩, tx_sp, split_tx, List.map_map]
  rfl
theorem words_x (l : List Nat) : x_words_of [sT l] = none := by
  rw [ux_words_of]
  push_cast [y_words_of, xe_then, xe_then1, xe_or, xe_or1, xe_or2, xe_if, xe_if1, xe_if2, xe_no, xe_t1, xe_t2, xe_call, xe_c1, xe_c2, xe_un, xe_try, xe_try0, xe_isx, xe_is1, xe_raiseK, xe_fin, xe_finN, xchk]
theorem words_m {l : List Nat} (hl : l.length < 4000) : m_words_of [sT l] = some (.fl ((sp l).map sT)) := by
  rw [u_words_of]
  push_cast [b_words_of, chk, spl_ev hl]
noncomputable def isLt (l : List Nat) : Bool := decide (1 ≤ (l.length : Int)) && (decide ((l.length : Int) ≤ 8) && (l.all fun c => decide (c ∈ az)))
theorem made_az (l : List Nat) (h1 : l.length < 4000) : m_is_made_of [sT l, .str "abcdefghijklmnopqrstuvwxyz", .int 8] = some (.bl (isLt l)) := by
  rw [u_is_made_of]
  have hz : l.length ≤ sizeLine := small'' h1
  have hm : (l.map fun c => D.str (Tx [c])).length ≤ sizeLine := by rw [List.length_map]; exact hz
  have hc := comp_typed (f := fOp (inS false) (fVar 0) (fVar 1)) (μ := []) (rest := [some (.v (.str "abcdefghijklmnopqrstuvwxyz"))]) (fun c => D.str (Tx [c])) (fun c => D.bl (decide (c ∈ az))) l none
    (fun c _ => by push_cast [tx_az, sv_it, sv_it1, sv_ch, sv_ch1, sv_ch2, sv_ch3, sv_ch4, sv_ss, sv_ss1, sv_ss2, sv_ss3, sv_add, sv_in, sv_nin, sv_sw, sv_eq])
  have hb : boolsD (l.map fun c => D.bl (decide (c ∈ az))) = some (l.map fun c => decide (c ∈ az)) := by
    have := bools_map (l.map fun c => decide (c ∈ az))
    rwa [List.map_map] at this
  have ha : (l.map fun c => decide (c ∈ az)).all id = l.all fun c => decide (c ∈ az) := by
    rw [List.all_map]; rfl
  unfold isLt
  by_cases a1 : (1 : Int) ≤ (l.length : Int)
  · by_cases a2 : (l.length : Int) ≤ 8
    · push_cast [b_is_made_of, sv_it, sv_it1, sv_ch, sv_ch1, sv_ch2, sv_ch3, sv_ch4, sv_ss, sv_ss1, sv_ss2, sv_ss3, sv_add, sv_in, sv_nin, sv_sw, sv_eq, sv_len hz, a1, a2, decide_true, if_pos hm, hc, hb, ha, Bool.true_and]
    · push_cast [b_is_made_of, sv_it, sv_it1, sv_ch, sv_ch1, sv_ch2, sv_ch3, sv_ch4, sv_ss, sv_ss1, sv_ss2, sv_ss3, sv_add, sv_in, sv_nin, sv_sw, sv_eq, sv_len hz, a1, a2, decide_true, decide_false, Bool.false_and, Bool.and_false]
  · push_cast [b_is_made_of, sv_it, sv_it1, sv_ch, sv_ch1, sv_ch2, sv_ch3, sv_ch4, sv_ss, sv_ss1, sv_ss2, sv_ss3, sv_add, sv_in, sv_nin, sv_sw, sv_eq, sv_len hz, a1, decide_false, Bool.false_and]
theorem let_x {w : List Nat} (g : Good w) : x_read_letters [sT w] = if isLt w = true then none else some NT := by
  rw [ux_read_letters]
  have h := made_az w (by have := g.len; omega)
  have hf : okFs "no word of one to eight small letters: " 0 [some (.v (sT w))] = true := by
    unfold okFs
    simp only [List.getElem?_cons_zero]
    refine decide_eq_true ?_
    have h := PySem.StrLaws.reprText_len (Tx w) (fun c hc => Nat.lt_trans (g.sig c (by simpa using hc)) (by decide))
    have h' : (reprText (Tx w)).length ≤ 10 * w.length + 2 := by have q := h; rw [tx_len] at q; exact q
    have := g.len
    have hs : (Str.ofString "no word of one to eight small letters: ").length = 39 := by decide +kernel
    rw [hs]
    exact Nat.le_trans (show _ ≤ 50000 by omega) (by decide)
  cases hl : isLt w with
  | true =>
    rw [hl] at h
    push_cast [y_read_letters, xe_then, xe_then1, xe_or, xe_or1, xe_or2, xe_if, xe_if1, xe_if2, xe_no, xe_t1, xe_t2, xe_call, xe_c1, xe_c2, xe_un, xe_try, xe_try0, xe_isx, xe_is1, xe_raiseK, xe_fin, xe_finN, h]
  | false =>
    rw [hl] at h
    push_cast [y_read_letters, xe_then, xe_then1, xe_or, xe_or1, xe_or2, xe_if, xe_if1, xe_if2, xe_no, xe_t1, xe_t2, xe_call, xe_c1, xe_c2, xe_un, xe_try, xe_try0, xe_isx, xe_is1, xe_raiseK, xe_fin, xe_finN, h, xe_raise hf]
theorem let_m {w : List Nat} (g : Good w) (h : isLt w = true) : m_read_letters [sT w] = some (sT w) := by
  rw [u_read_letters]
  have h' := made_az w (by have := g.len; omega)
  rw [h] at h'
  push_cast [b_read_letters, h']
theorem dv_lt : ∀ (cs : List Nat) (acc k : Nat), AllDigits cs → acc < 10 ^ k → cs.foldl (fun acc c => acc * 10 + (c - 48)) acc < 10 ^ (k + cs.length)
  | [], acc, k, _, h => h
  | c :: cs, acc, k, hd, h => by
    have hc := hd.head
    have := dv_lt cs (acc * 10 + (c - 48)) (k + 1) hd.tail (by rw [Nat.pow_succ]; omega)
    rw [List.foldl_cons, List.length_cons, show k + (cs.length + 1) = k + 1 + cs.length by omega]
    exact this
theorem dv_sm {cs : List Nat} (h : AllDigits cs) (hl : cs.length ≤ 60) : digitsVal cs < 10 ^ 60 := by
  have := dv_lt cs 0 0 h (by decide)
  rw [Nat.zero_add] at this
  exact Nat.lt_of_lt_of_le this (Nat.pow_le_pow_right (by decide) hl)
theorem val_sm {l : List Nat} {n : Int} (h : isNum (fig l) = true) (hi : PySem.intText? (Tx l) = some n) : Sm n := by
  obtain ⟨h1, h2, h3⟩ := isNum_iff h
  have hne : fig l ≠ [] := fun e => by rw [e] at h1; simp at h1
  have hll : l.length ≤ 640 := len_num h
  have hv := dv_sm h3 h2
  unfold fig at h3 hne hv
  split at h3
  · rename_i q
    rw [if_pos q] at hne hv
    cases l with
    | nil => simp at q
    | cons c r =>
      have hc : c = 45 := by simpa using q
      subst hc
      rw [intText_neg (x := Tx (45 :: r)) (cs := r) rfl (by simpa using h3) (by simpa using hne) (by rw [tx_len]; omega)] at hi
      cases hi
      unfold Sm
      rw [Int.natAbs_neg, Int.natAbs_natCast]
      exact hv
  · rename_i q
    rw [if_neg q] at hne hv
    rw [intText_digits (x := Tx l) h3 hne (by rw [tx_len]; omega)] at hi
    cases hi
    unfold Sm
    rw [Int.natAbs_natCast]
    exact hv
theorem nm_Sm {w : List Nat} {n : Int} (h : nm w = some n) : Sm n := by
  obtain ⟨h1, h2, h3⟩ := nm_good h
  exact val_sm h1 h3
theorem nm_sm {w : List Nat} {n : Int} (h : nm w = some n) : n.natAbs.log2 < 1920 := sm_log (nm_Sm h)
theorem from_x0 {w : List Nat} (g : Good w) (h : nm w = none) : x_read_number_from [sT w, .int 1] = some NT := by
  rw [ux_read_number_from]
  push_cast [y_read_number_from, xe_then, xe_then1, xe_or, xe_or1, xe_or2, xe_if, xe_if1, xe_if2, xe_no, xe_t1, xe_t2, xe_call, xe_c1, xe_c2, xe_un, xe_try, xe_try0, xe_isx, xe_is1, xe_raiseK, xe_fin, xe_finN, nm_x0 g h]
theorem from_x1 {w : List Nat} {n : Int} (g : Good w) (h : nm w = some n) (h1 : n < 1) : x_read_number_from [sT w, .int 1] = some NT := by
  rw [ux_read_number_from]
  have hd : decide (n < 1) = true := decide_eq_true h1
  have hk : okIn 2 [some (.v (sT w)), some (.v (.int 1)), some (.v (.int n))] = true := by
    unfold okIn
    exact decide_eq_true (nm_sm h)
  have hk1 : okIn 1 [some (.v (sT w)), some (.v (.int 1)), some (.v (.int n))] = true := by
    unfold okIn
    exact decide_eq_true (show ((1 : Int).natAbs.log2 < 1920) by decide)
  have hr : ∀ μ, xRaise "NoText" (fun ρ => okIn 2 ρ && (true && (okIn 1 ρ && true))) [some (.v (sT w)), some (.v (.int 1)), some (.v (.int n))] μ = some (NT, μ) := fun μ => xe_raise (by simp only [hk, hk1, Bool.and_self])
  push_cast [y_read_number_from, xe_then, xe_then1, xe_or, xe_or1, xe_or2, xe_if, xe_if1, xe_if2, xe_no, xe_t1, xe_t2, xe_call, xe_c1, xe_c2, xe_un, xe_try, xe_try0, xe_isx, xe_is1, xe_raiseK, xe_fin, xe_finN, nm_x1 g h, nm_m g h, hd, hr]
theorem from_x2 {w : List Nat} {n : Int} (g : Good w) (h : nm w = some n) (h1 : 1 ≤ n) : x_read_number_from [sT w, .int 1] = none := by
  rw [ux_read_number_from]
  have hd : decide (n < 1) = false := decide_eq_false (by omega)
  push_cast [y_read_number_from, xe_then, xe_then1, xe_or, xe_or1, xe_or2, xe_if, xe_if1, xe_if2, xe_no, xe_t1, xe_t2, xe_call, xe_c1, xe_c2, xe_un, xe_try, xe_try0, xe_isx, xe_is1, xe_raiseK, xe_fin, xe_finN, nm_x1 g h, nm_m g h, hd]
theorem from_m {w : List Nat} {n : Int} (g : Good w) (h : nm w = some n) (h1 : 1 ≤ n) : m_read_number_from [sT w, .int 1] = some (.int n) := by
  rw [u_read_number_from]
  have hd : decide (n < 1) = false := decide_eq_false (by omega)
  push_cast [b_read_number_from, nm_m g h, hd]
noncomputable def en (w : List Nat) : Option (Option Int) := if (w == [45]) = true then some none else (nm w).map some
theorem eq_min {w : List Nat} (g : Good w) (μ : Store) : eqR false (.v (sT w)) (.v (.str "-")) μ = some (.v (.bl (w == [45])), μ) := by
  have k0 := (g1 (c := 45) (by decide)).ok 60
  rw [ev_eq (g.ok 60) (by rw [tx_min]; exact k0), tx_min, sv_eq]
theorem end_x0 {w : List Nat} (g : Good w) (h : en w = none) : x_read_end [sT w] = some NT := by
  rw [ux_read_end]
  unfold en at h
  cases hw : (w == [45]) with
  | true => rw [hw] at h; cases h
  | false =>
    rw [hw] at h
    have hn : nm w = none := by cases q : nm w with
      | none => rfl
      | some n => rw [q] at h; cases h
    have e := fun μ => eq_min g μ
    rw [hw] at e
    push_cast [y_read_end, ev_B, ev_op, ev_v0, ev_op1, ev_k, ev_op2, e, xe_then, xe_then1, xe_or, xe_or1, xe_or2, xe_if, xe_if1, xe_if2, xe_no, xe_t1, xe_t2, xe_call, xe_c1, xe_c2, xe_un, xe_try, xe_try0, xe_isx, xe_is1, xe_raiseK, xe_fin, xe_finN, nm_x0 g hn]
theorem end_x1 {w : List Nat} {o : Option Int} (g : Good w) (h : en w = some o) : x_read_end [sT w] = none := by
  rw [ux_read_end]
  unfold en at h
  have e := fun μ => eq_min g μ
  cases hw : (w == [45]) with
  | true =>
    rw [hw] at e
    push_cast [y_read_end, ev_B, ev_op, ev_v0, ev_op1, ev_k, ev_op2, e, xe_then, xe_then1, xe_or, xe_or1, xe_or2, xe_if, xe_if1, xe_if2, xe_no, xe_t1, xe_t2, xe_call, xe_c1, xe_c2, xe_un, xe_try, xe_try0, xe_isx, xe_is1, xe_raiseK, xe_fin, xe_finN]
  | false =>
    rw [hw] at h e
    cases q : nm w with
    | none => rw [q] at h; cases h
    | some n => push_cast [y_read_end, ev_B, ev_op, ev_v0, ev_op1, ev_k, ev_op2, e, xe_then, xe_then1, xe_or, xe_or1, xe_or2, xe_if, xe_if1, xe_if2, xe_no, xe_t1, xe_t2, xe_call, xe_c1, xe_c2, xe_un, xe_try, xe_try0, xe_isx, xe_is1, xe_raiseK, xe_fin, xe_finN, nm_x1 g q]
theorem end_m {w : List Nat} {o : Option Int} (g : Good w) (h : en w = some o) : m_read_end [sT w] = some (eD o) := by
  rw [u_read_end]
  unfold en at h
  have e := fun μ => eq_min g μ
  cases hw : (w == [45]) with
  | true =>
    rw [hw] at e h
    cases h
    push_cast [b_read_end, ev_ret, ev_if, ev_B, ev_op, ev_v0, ev_op1, ev_k, ev_op2, e, eD]
  | false =>
    rw [hw] at h e
    cases q : nm w with
    | none => rw [q] at h; cases h
    | some n =>
      rw [q] at h
      cases h
      push_cast [b_read_end, ev_ret, ev_if, ev_B, ev_op, ev_v0, ev_op1, ev_k, ev_op2, e, nm_m g q, eD]
noncomputable def bad (lo hi : Option Int) : Bool := match lo, hi with
  | some a, some b => decide (b ≤ a)
  | _, _ => false
theorem stretch_ev (lo hi : Option Int) : ∃ d, m_stretch_of [eD lo, eD hi] = some d ∧ okD 60 d = true ∧ eqD d (.tup [.bl false, .tup []]) = bad lo hi := by
  rw [u_stretch_of]
  have s2 : 2 ≤ sizeLine := by decide
  have s1 : 1 ≤ sizeLine := by decide
  have k0 : ∀ μ, isK false .non (.v .non) μ = some (.v (.bl true), μ) := fun _ => rfl
  have k1 : ∀ (i : Int) μ, isK false .non (.v (.int i)) μ = some (.v (.bl false), μ) := fun _ _ => rfl
  cases lo with
  | none => cases hi with
    | none => exact ⟨.tup [.bl true, .tup []], by push_cast [b_stretch_of, eD, k0], rfl, rfl⟩
    | some b => exact ⟨.tup [.bl true, .tup [.int b]], by push_cast [b_stretch_of, eD, k0, k1, s1, s2], rfl, rfl⟩
  | some a => cases hi with
    | none => exact ⟨.tup [.bl false, .tup [.int a]], by push_cast [b_stretch_of, eD, k0, k1, s1, s2], rfl, rfl⟩
    | some b =>
      cases hq : decide (b ≤ a) with
      | true => exact ⟨.tup [.bl false, .tup []], by push_cast [b_stretch_of, eD, k0, k1, s1, s2, hq], rfl, by unfold bad; simp only; rw [hq]; rfl⟩
      | false => exact ⟨.tup [.bl false, .tup [.int a, .int b]], by push_cast [b_stretch_of, eD, k0, k1, s1, s2, hq], rfl, by unfold bad; simp only; rw [hq]; rfl⟩
end LW
namespace LW
open PySem HW L2 PyProof.Rows PySem.NumText PySem.W
theorem at_last {xs : List D} {d : D} : atI (xs ++ [d]) (-1) = some d := by
  have e : ixN (xs ++ [d]).length (-1) = some xs.length := by
    unfold ixN
    rw [if_neg (by decide), if_pos (by simp; omega)]
    congr 1
    simp
    omega
  unfold atI
  rw [e]
  simp
theorem at_last5 {a b c d e z : D} {rs : List D} : atI (a :: b :: c :: d :: e :: (rs ++ [z])) (-1) = some z := at_last (xs := a :: b :: c :: d :: e :: rs)
theorem cut_mid {a b c d e z : D} {rs : List D} : HW.cutD (a :: b :: c :: d :: e :: (rs ++ [z])) (some 5) (some (-1)) = rs := by
  have h1 : HT.sIx (a :: b :: c :: d :: e :: (rs ++ [z])).length 0 (some 5) = 5 := by
    refine (HT.sIx_nat _ 0 5).trans ?_
    simp
  have h2 : HT.sIx (a :: b :: c :: d :: e :: (rs ++ [z])).length (a :: b :: c :: d :: e :: (rs ++ [z])).length (some (-1)) = 5 + rs.length := by
    show (if (-1 : Int) < 0 then ((-1 : Int) + ((a :: b :: c :: d :: e :: (rs ++ [z])).length : Int)).toNat else min (-1 : Int).toNat (a :: b :: c :: d :: e :: (rs ++ [z])).length) = 5 + rs.length
    rw [if_pos (by decide)]
    simp only [List.length_cons, List.length_append, List.length_nil]
    omega
  unfold HW.cutD
  rw [h1, h2]
  simp
structure Sh (l a b c d e : List Nat) (rs : List (List Nat)) (z : List Nat) : Prop where
  g : Good l
  w : sp l = a :: b :: c :: d :: e :: (rs ++ [z])
theorem Sh.good {l a b c d e : List Nat} {rs : List (List Nat)} {z : List Nat} (S : Sh l a b c d e rs z) {w : List Nat} (h : w ∈ a :: b :: c :: d :: e :: (rs ++ [z])) : Good w := by
  rw [← S.w] at h
  exact ⟨Nat.le_trans ((sp_len l).1 w h) S.g.len, fun x hx => S.g.sig x (sp_mem l w h x hx)⟩
theorem Sh.m {l a b c d e : List Nat} {rs : List (List Nat)} {z : List Nat} (S : Sh l a b c d e rs z) : m_words_of [sT l] = some (.fl (sT a :: sT b :: sT c :: sT d :: sT e :: (rs.map sT ++ [sT z]))) := by
  rw [words_m (by have := S.g.len; omega), S.w]
  simp
noncomputable def kd (a : List Nat) : Bool := ([Str.ofString "tell", Str.ofString "strike"]).any (· == Tx a)
theorem kin {a : List Nat} (μ : Store) : inW true (.v (sT a)) (.v (.tup [.str "tell", .str "strike"])) μ = some (.v (.bl (!kd a)), μ) := rfl
theorem fsok {l : List Nat} (g : Good l) (a : Str) (ha : a.length ≤ 1000) (ρ : Lo) : okFs a 0 (some (.v (sT l)) :: ρ) = true := by
  unfold okFs
  simp only [List.getElem?_cons_zero]
  refine decide_eq_true ?_
  have h := PySem.StrLaws.reprText_len (Tx l) (fun c hc => Nat.lt_trans (g.sig c (by simpa using hc)) (by decide))
  have h' : (reprText (Tx l)).length ≤ 10 * l.length + 2 := by have q := h; rw [tx_len] at q; exact q
  have := g.len
  exact Nat.le_trans (show _ ≤ 50000 by omega) (by decide)
theorem rz {l : List Nat} (g : Good l) (ρ : Lo) (μ : Store) : xRaise "NoText" (okFs "no telling: " 0) (some (.v (sT l)) :: ρ) μ = some (NT, μ) := xe_raise (fsok g _ (by decide +kernel) ρ)
theorem xt_short {l : List Nat} (g : Good l) (h : (sp l).length < 6) : x_read_telling [sT l] = some NT ∧ m_law_due [sT l] = some .non := by
  have hw := words_m (l := l) (by have := g.len; omega)
  have hd : decide ((((sp l).map sT).length : Int) < 6) = true := decide_eq_true (by rw [List.length_map]; omega)
  have hs := fun μ => spl_ev (l := l) (by have := g.len; omega) μ
  constructor
  · rw [ux_read_telling]
    push_cast [y_read_telling, xe_then, xe_then1, xe_or, xe_or1, xe_or2, xe_if, xe_if1, xe_if2, xe_no, xe_t1, xe_t2, xe_call, xe_c1, xe_c2, xe_un, xe_try, xe_try0, xe_isx, xe_is1, xe_raiseK, xe_fin, xe_finN, words_x, hw, hd, rz g]
  · rw [u_law_due]
    push_cast [b_law_due, hs, hd]
section
variable {l a b c d e : List Nat} {rs : List (List Nat)} {z : List Nat}
theorem Sh.len (S : Sh l a b c d e rs z) : decide ((((rs.map sT ++ [sT z]).length + 1 + 1 + 1 + 1 + 1 : Nat) : Int) < 6) = false := decide_eq_false (by simp; omega)
theorem Sh.spl (S : Sh l a b c d e rs z) (μ : Store) : splD (.v (sT l)) (.v (.str " ")) μ = some (.p μ.length, μ ++ [.lst (sT a :: sT b :: sT c :: sT d :: sT e :: (rs.map sT ++ [sT z]))]) := by
  rw [spl_ev (by have := S.g.len; omega), S.w]
  simp
theorem dotK : okD 60 (.str ".") = true := by rw [tx_dot]; exact (g1 (c := 46) (by decide)).ok 60
theorem dotE {w : List Nat} : eqD (sT w) (.str ".") = (w == [46]) := by rw [tx_dot, sv_eq]
theorem minK : okD 60 (.str "-") = true := by rw [tx_min]; exact (g1 (c := 45) (by decide)).ok 60
theorem minE {w : List Nat} : eqD (sT w) (.str "-") = (w == [45]) := by rw [tx_min, sv_eq]
theorem xt_head (S : Sh l a b c d e rs z) (h : kd a = false ∨ (z == [46]) = false) : x_read_telling [sT l] = some NT ∧ m_law_due [sT l] = some .non := by
  have s2 : 2 ≤ sizeLine := by decide
  have gz : Good z := S.good (by simp)
  have kz := gz.ok 60
  cases hk : kd a with
  | false =>
    have hkin := fun μ => kin (a := a) μ
    simp only [hk, Bool.not_false] at hkin
    constructor
    · rw [ux_read_telling]
      push_cast [y_read_telling, xe_then, xe_then1, xe_or, xe_or1, xe_or2, xe_if, xe_if1, xe_if2, xe_no, xe_t1, xe_t2, xe_call, xe_c1, xe_c2, xe_un, xe_try, xe_try0, xe_isx, xe_is1, xe_raiseK, xe_fin, xe_finN, words_x, S.m, S.len, s2, hkin, rz S.g]
    · rw [u_law_due]
      push_cast [b_law_due, S.spl, S.len, s2, hkin]
  | true =>
    have hkin := fun μ => kin (a := a) μ
    simp only [hk, Bool.not_true] at hkin
    have hz : (z == [46]) = false := by
      rcases h with h | h
      · rw [hk] at h; cases h
      · exact h
    constructor
    · rw [ux_read_telling]
      push_cast [y_read_telling, xe_then, xe_then1, xe_or, xe_or1, xe_or2, xe_if, xe_if1, xe_if2, xe_no, xe_t1, xe_t2, xe_call, xe_c1, xe_c2, xe_un, xe_try, xe_try0, xe_isx, xe_is1, xe_raiseK, xe_fin, xe_finN, words_x, S.m, S.len, s2, hkin, at_last5, kz, dotK, dotE, hz, rz S.g]
    · rw [u_law_due]
      push_cast [b_law_due, S.spl, S.len, s2, hkin, at_last5, kz, dotK, dotE, hz]
end
end LW
namespace HW
open PySem L2
noncomputable def thXp (o : Option (List D × Store)) (ix : List Nat) (k : Nat) (g : FG) (c : FT) (f : FE) (xb : XB) (ρ : Lo) : Option (Str × Store) := o.bind fun a => if a.1.length ≤ sizeLine then compX g c f xb a.1 (blockLo k ix ρ) a.2 else none
theorem xe_comp {ix : List Nat} {k : Nat} {i : FI} {g : FG} {c : FT} {f : FE} {xb : XB} {ρ : Lo} {μ : Store} : xComp ix k i g c f xb ρ μ = thXp (i ρ μ) ix k g c f xb ρ := rfl
theorem xe_comp1 {ix : List Nat} {k : Nat} {g : FG} {c : FT} {f : FE} {xb : XB} {ρ : Lo} {μ : Store} {xs : List D} : thXp (some (xs, μ)) ix k g c f xb ρ = if xs.length ≤ sizeLine then compX g c f xb xs (blockLo k ix ρ) μ else none := rfl
theorem xe_blk {ρ : Lo} : blockLo 1 [] ρ = [none] := rfl
end HW
namespace LW
open PySem HW L2 PyProof.Rows PySem.NumText PySem.W
theorem cx (μ : Store) : ∀ (rs : List (List Nat)) (x0 : Option R), (∀ w ∈ rs, Good w) → compX (gNm 0) cYes (fCall m_read_number 1 (fCons (fFz (fVar 0)) fNil)) (xCall x_read_number 1 (fCons (fFz (fVar 0)) fNil)) (rs.map sT) [x0] μ = if (rs.all fun w => (nm w).isSome) = true then none else some (NT, μ)
  | [], _, _ => rfl
  | w :: rs, x0, h => by
    have ih := cx μ rs (some (.v (sT w))) fun v hv => h v (by simp [hv])
    have g := h w (by simp)
    cases q : nm w with
    | none =>
      have hx : xCall x_read_number 1 (fCons (fFz (fVar 0)) fNil) [some (.v (sT w))] μ = some (NT, μ) := by push_cast [xe_then, xe_then1, xe_or, xe_or1, xe_or2, xe_if, xe_if1, xe_if2, xe_no, xe_t1, xe_t2, xe_call, xe_c1, xe_c2, xe_un, xe_try, xe_try0, xe_isx, xe_is1, xe_raiseK, xe_fin, xe_finN, nm_x0 g q]
      simp only [List.map_cons, compX, gNm, List.set_cons_zero, Option.bind_some, cYes, if_true, hx, List.all_cons, q, Option.isSome_none, Bool.false_and, Bool.false_eq_true, if_false]
    | some n =>
      have hx : xCall x_read_number 1 (fCons (fFz (fVar 0)) fNil) [some (.v (sT w))] μ = none := by push_cast [xe_then, xe_then1, xe_or, xe_or1, xe_or2, xe_if, xe_if1, xe_if2, xe_no, xe_t1, xe_t2, xe_call, xe_c1, xe_c2, xe_un, xe_try, xe_try0, xe_isx, xe_is1, xe_raiseK, xe_fin, xe_finN, nm_x1 g q]
      have hm : fCall m_read_number 1 (fCons (fFz (fVar 0)) fNil) [some (.v (sT w))] μ = some (.v (.int n), μ) := by push_cast [nm_m g q]
      simp only [List.map_cons, compX, gNm, List.set_cons_zero, Option.bind_some, cYes, if_true, hx, hm, ih, List.all_cons, q, Option.isSome_some, Bool.true_and]
theorem en_sm {w : List Nat} {n : Int} (h : en w = some (some n)) : n.natAbs.log2 < 1920 := by
  unfold en at h
  split at h
  · cases h
  · cases q : nm w with
    | none => rw [q] at h; cases h
    | some k => rw [q] at h; cases h; exact nm_sm q
theorem nnK : okD 60 (.tup [.bl false, .tup []]) = true := rfl
section
variable {l a b c d e : List Nat} {rs : List (List Nat)} {z : List Nat} {turn : Int} {lo hi : Option Int}
structure Hd (l a b c d e : List Nat) (rs : List (List Nat)) (z : List Nat) : Prop extends Sh l a b c d e rs z where
  k : kd a = true
  dot : (z == [46]) = true
theorem Hd.kin (S : Hd l a b c d e rs z) (μ : Store) : inW true (.v (sT a)) (.v (.tup [.str "tell", .str "strike"])) μ = some (.v (.bl false), μ) := by
  rw [LW.kin, S.k]; rfl
theorem Hd.kz (S : Hd l a b c d e rs z) : okD 60 (sT z) = true := (S.toSh.good (by simp)).ok 60
theorem Hd.mid (S : Hd l a b c d e rs z) : (rs.map sT).length ≤ sizeLine := by
  have h := (sp_len l).2
  have := S.g.len
  rw [S.w] at h
  simp at h
  rw [List.length_map]
  exact small'' (by omega)
theorem t5' : 5 ≤ sizeLine := by decide
theorem xB0 (S : Hd l a b c d e rs z) (hb : nm b = none) : x_read_telling [sT l] = some NT := by
  rw [ux_read_telling]
  push_cast [y_read_telling, xe_then, xe_then1, xe_or, xe_or1, xe_or2, xe_if, xe_if1, xe_if2, xe_no, xe_t1, xe_t2, xe_call, xe_c1, xe_c2, xe_un, xe_try, xe_try0, xe_isx, xe_is1, xe_raiseK, xe_fin, xe_finN, words_x, S.toSh.m, S.toSh.len, S.kin, at_last5, S.kz, dotK, dotE, S.dot, from_x0 (S.toSh.good (w := b) (by simp)) hb]
theorem xB1 (S : Hd l a b c d e rs z) (hb : nm b = some turn) (h1 : turn < 1) : x_read_telling [sT l] = some NT := by
  rw [ux_read_telling]
  push_cast [y_read_telling, xe_then, xe_then1, xe_or, xe_or1, xe_or2, xe_if, xe_if1, xe_if2, xe_no, xe_t1, xe_t2, xe_call, xe_c1, xe_c2, xe_un, xe_try, xe_try0, xe_isx, xe_is1, xe_raiseK, xe_fin, xe_finN, words_x, S.toSh.m, S.toSh.len, S.kin, at_last5, S.kz, dotK, dotE, S.dot, from_x1 (S.toSh.good (w := b) (by simp)) hb h1]
theorem xC (S : Hd l a b c d e rs z) (hb : nm b = some turn) (h1 : 1 ≤ turn) (hc : isLt c = false) : x_read_telling [sT l] = some NT := by
  rw [ux_read_telling]
  have gb := S.toSh.good (w := b) (by simp)
  have hx := let_x (S.toSh.good (w := c) (by simp))
  rw [hc] at hx
  simp only [Bool.false_eq_true, if_false] at hx
  push_cast [y_read_telling, xe_then, xe_then1, xe_or, xe_or1, xe_or2, xe_if, xe_if1, xe_if2, xe_no, xe_t1, xe_t2, xe_call, xe_c1, xe_c2, xe_un, xe_try, xe_try0, xe_isx, xe_is1, xe_raiseK, xe_fin, xe_finN, words_x, S.toSh.m, S.toSh.len, S.kin, at_last5, S.kz, dotK, dotE, S.dot, from_x2 gb hb h1, from_m gb hb h1, hx]
theorem xD (S : Hd l a b c d e rs z) (hb : nm b = some turn) (h1 : 1 ≤ turn) (hc : isLt c = true) (hd : en d = none) : x_read_telling [sT l] = some NT := by
  rw [ux_read_telling]
  have gb := S.toSh.good (w := b) (by simp)
  have gc := S.toSh.good (w := c) (by simp)
  have hx := let_x gc
  rw [hc] at hx
  simp only [if_true] at hx
  push_cast [y_read_telling, xe_then, xe_then1, xe_or, xe_or1, xe_or2, xe_if, xe_if1, xe_if2, xe_no, xe_t1, xe_t2, xe_call, xe_c1, xe_c2, xe_un, xe_try, xe_try0, xe_isx, xe_is1, xe_raiseK, xe_fin, xe_finN, words_x, S.toSh.m, S.toSh.len, S.kin, at_last5, S.kz, dotK, dotE, S.dot, from_x2 gb hb h1, from_m gb hb h1, hx, let_m gc hc, end_x0 (S.toSh.good (w := d) (by simp)) hd]
theorem xE (S : Hd l a b c d e rs z) (hb : nm b = some turn) (h1 : 1 ≤ turn) (hc : isLt c = true) (hd : en d = some lo) (he : en e = none) : x_read_telling [sT l] = some NT := by
  rw [ux_read_telling]
  have gb := S.toSh.good (w := b) (by simp)
  have gc := S.toSh.good (w := c) (by simp)
  have gd := S.toSh.good (w := d) (by simp)
  have hx := let_x gc
  rw [hc] at hx
  simp only [if_true] at hx
  push_cast [y_read_telling, xe_then, xe_then1, xe_or, xe_or1, xe_or2, xe_if, xe_if1, xe_if2, xe_no, xe_t1, xe_t2, xe_call, xe_c1, xe_c2, xe_un, xe_try, xe_try0, xe_isx, xe_is1, xe_raiseK, xe_fin, xe_finN, words_x, S.toSh.m, S.toSh.len, S.kin, at_last5, at4, S.kz, dotK, dotE, S.dot, from_x2 gb hb h1, from_m gb hb h1, hx, let_m gc hc, end_x1 gd hd, end_m gd hd, end_x0 (S.toSh.good (w := e) (by simp)) he]
theorem xF (S : Hd l a b c d e rs z) (hb : nm b = some turn) (h1 : 1 ≤ turn) (hc : isLt c = true) (hd : en d = some lo) (he : en e = some hi) (hq : bad lo hi = true) : x_read_telling [sT l] = some NT := by
  rw [ux_read_telling]
  have gb := S.toSh.good (w := b) (by simp)
  have gc := S.toSh.good (w := c) (by simp)
  have gd := S.toSh.good (w := d) (by simp)
  have ge := S.toSh.good (w := e) (by simp)
  have hx := let_x gc
  rw [hc] at hx
  simp only [if_true] at hx
  obtain ⟨sd, e1, e2, e3⟩ := stretch_ev lo hi
  rw [hq] at e3
  cases lo with
  | none => cases hq
  | some la =>
    cases hi with
    | none => cases hq
    | some ha =>
      have hr : ∀ (x0 x1 x2 x3 x6 : Option R) (μ : Store), xRaise "NoText" (fun ρ => true && (okIn 4 ρ && (true && (okIn 5 ρ && true)))) [x0, x1, x2, x3, some (.v (.int la)), some (.v (.int ha)), x6] μ = some (NT, μ) := fun x0 x1 x2 x3 x6 μ => by
        refine xe_raise ?_
        have k4 : okIn 4 [x0, x1, x2, x3, some (.v (.int la)), some (.v (.int ha)), x6] = true := decide_eq_true (en_sm hd)
        have k5 : okIn 5 [x0, x1, x2, x3, some (.v (.int la)), some (.v (.int ha)), x6] = true := decide_eq_true (en_sm he)
        simp only [k4, k5, Bool.and_self]
      simp only [eD] at e1
      have m4 := end_m gd hd
      have m5 := end_m ge he
      simp only [eD] at m4 m5
      push_cast [y_read_telling, xe_then, xe_then1, xe_or, xe_or1, xe_or2, xe_if, xe_if1, xe_if2, xe_no, xe_t1, xe_t2, xe_call, xe_c1, xe_c2, xe_un, xe_try, xe_try0, xe_isx, xe_is1, xe_raiseK, xe_fin, xe_finN, words_x, S.toSh.m, S.toSh.len, S.kin, at_last5, at4, S.kz, dotK, dotE, S.dot, from_x2 gb hb h1, from_m gb hb h1, hx, let_m gc hc, end_x1 gd hd, m4, end_x1 ge he, m5, e1, e2, e3, nnK, hr]
theorem xG (S : Hd l a b c d e rs z) (hb : nm b = some turn) (h1 : 1 ≤ turn) (hc : isLt c = true) (hd : en d = some lo) (he : en e = some hi) (hq : bad lo hi = false) :
    x_read_telling [sT l] = if (rs.all fun w => (nm w).isSome) = true then none else some NT := by
  rw [ux_read_telling]
  have gb := S.toSh.good (w := b) (by simp)
  have gc := S.toSh.good (w := c) (by simp)
  have gd := S.toSh.good (w := d) (by simp)
  have ge := S.toSh.good (w := e) (by simp)
  have hx := let_x gc
  rw [hc] at hx
  simp only [if_true] at hx
  obtain ⟨sd, e1, e2, e3⟩ := stretch_ev lo hi
  rw [hq] at e3
  have hcx := fun μ => cx μ rs none fun w hw => S.toSh.good (by simp [hw])
  cases hall : (rs.all fun w => (nm w).isSome) with
  | true =>
    rw [hall] at hcx
    simp only [if_true] at hcx
    push_cast [y_read_telling, xe_then, xe_then1, xe_or, xe_or1, xe_or2, xe_if, xe_if1, xe_if2, xe_no, xe_t1, xe_t2, xe_call, xe_c1, xe_c2, xe_un, xe_try, xe_try0, xe_isx, xe_is1, xe_raiseK, xe_fin, xe_finN, words_x, S.toSh.m, S.toSh.len, S.kin, at_last5, at4, S.kz, dotK, dotE, S.dot, from_x2 gb hb h1, from_m gb hb h1, hx, let_m gc hc, end_x1 gd hd, end_m gd hd, end_x1 ge he, end_m ge he, e1, e2, e3, nnK, xe_comp, cut_mid, xe_comp1, S.mid, xe_blk, hcx]
  | false =>
    rw [hall] at hcx
    simp only [Bool.false_eq_true, if_false] at hcx
    push_cast [y_read_telling, xe_then, xe_then1, xe_or, xe_or1, xe_or2, xe_if, xe_if1, xe_if2, xe_no, xe_t1, xe_t2, xe_call, xe_c1, xe_c2, xe_un, xe_try, xe_try0, xe_isx, xe_is1, xe_raiseK, xe_fin, xe_finN, words_x, S.toSh.m, S.toSh.len, S.kin, at_last5, at4, S.kz, dotK, dotE, S.dot, from_x2 gb hb h1, from_m gb hb h1, hx, let_m gc hc, end_x1 gd hd, end_m gd hd, end_x1 ge he, end_m ge he, e1, e2, e3, nnK, xe_comp, cut_mid, xe_comp1, S.mid, xe_blk, hcx]
end
end LW
namespace LW
open PySem HW L2 PyProof.Rows PySem.NumText PySem.W
section
variable {l a b c d e : List Nat} {rs : List (List Nat)} {z : List Nat} {turn : Int} {lo hi : Option Int}
noncomputable def rowOf (rs : List (List Nat)) : List Int := rs.map fun w => (nm w).getD 0
theorem row_at {rs : List (List Nat)} (h : (rs.all fun w => (nm w).isSome) = true) {w : List Nat} (hw : w ∈ rs) : nm w = some ((nm w).getD 0) := by
  have := List.all_eq_true.mp h w hw
  cases q : nm w with
  | none => rw [q] at this; cases this
  | some n => rfl
theorem m_ok (S : Hd l a b c d e rs z) (hb : nm b = some turn) (h1 : 1 ≤ turn) (hc : isLt c = true) (hd : en d = some lo) (he : en e = some hi) (hq : bad lo hi = false) (hall : (rs.all fun w => (nm w).isSome) = true) :
    m_read_telling [sT l] = some (.tup [.int turn, .tup [sT a, sT c, .tup ((rowOf rs).map .int), eD lo, eD hi]]) := by
  rw [u_read_telling]
  have gb := S.toSh.good (w := b) (by simp)
  have gc := S.toSh.good (w := c) (by simp)
  have gd := S.toSh.good (w := d) (by simp)
  have ge := S.toSh.good (w := e) (by simp)
  obtain ⟨sd, e1, e2, e3⟩ := stretch_ev lo hi
  rw [hq] at e3
  have hcm := fun μ => comp_typed (f := fCall m_read_number 1 (fCons (fFz (fVar 0)) fNil)) (μ := μ) (rest := []) sT (fun w => D.int ((nm w).getD 0)) rs none (fun w hw => by push_cast [nm_m (S.toSh.good (w := w) (by simp [hw])) (row_at hall hw)])
  have hr : (rs.map fun w => D.int ((nm w).getD 0)) = (rowOf rs).map .int := by unfold rowOf; rw [List.map_map]; rfl
  rw [hr] at hcm
  push_cast [b_read_telling, S.toSh.m, S.toSh.len, t5', S.kin, at_last5, at4, S.kz, dotK, dotE, S.dot, from_m gb hb h1, let_m gc hc, end_m gd hd, end_m ge he, e1, e2, e3, nnK, cut_mid, S.mid, xe_blk, hcm]
end
end LW
namespace HW
open PySem L2
noncomputable def thSp (o : Option (List D)) (lo hi : Option Int) (μ : Store) : Option (R × Store) := o.bind fun xs => some (.p μ.length, μ ++ [.lst (cutD xs lo hi)])
theorem dv_sl {n : Nat} {lo hi : Option Int} {μ : Store} : slD (.p n) lo hi μ = thSp (cIt μ[n]?) lo hi μ := by
  show (lstD (.p n) μ).bind _ = _
  have : lstD (.p n) μ = cIt μ[n]? := by
    cases h : μ[n]? with
    | none => simp [lstD, cIt, h]
    | some c => cases c <;> simp [lstD, cIt, h]
  rw [this]; rfl
theorem dv_sl1 {xs : List D} {lo hi : Option Int} {μ : Store} : thSp (some xs) lo hi μ = some (.p μ.length, μ ++ [.lst (cutD xs lo hi)]) := rfl
noncomputable def thN (o : Option (List D)) (μ : Store) : Option (R × Store) := o.bind fun ds => (entD ds).bind fun os => some (.v (.bl (os.contains none)), μ)
noncomputable def thN2 (o : Option (List (Option Int))) (μ : Store) : Option (R × Store) := o.bind fun os => some (.v (.bl (os.contains none)), μ)
theorem dv_n {n : Nat} {μ : Store} : inN false (.v .non) (.p n) μ = thN (cIt μ[n]?) μ := by
  show (itemsD (.p n) μ).bind _ = _
  rw [ev_itP]; rfl
theorem dv_n1 {xs : List D} {μ : Store} : thN (some xs) μ = thN2 (entD xs) μ := rfl
theorem dv_n2 {os : List (Option Int)} {μ : Store} : thN2 (some os) μ = some (.v (.bl (os.contains none)), μ) := rfl
end HW
namespace LW
open PySem HW L2 PyProof.Rows PySem.NumText PySem.W
theorem cut12 {a b c d e : D} {q : List D} : HW.cutD (a :: b :: c :: d :: e :: q) (some 1) (some 2) = [b] := by
  have h1 : HT.sIx (a :: b :: c :: d :: e :: q).length 0 (some 1) = 1 := (HT.sIx_nat _ 0 1).trans (by simp)
  have h2 : HT.sIx (a :: b :: c :: d :: e :: q).length (a :: b :: c :: d :: e :: q).length (some 2) = 2 := (HT.sIx_nat _ _ 2).trans (by simp)
  unfold HW.cutD
  rw [h1, h2]; rfl
theorem cut35 {a b c d e : D} {q : List D} : HW.cutD (a :: b :: c :: d :: e :: q) (some 3) (some 5) = [d, e] := by
  have h1 : HT.sIx (a :: b :: c :: d :: e :: q).length 0 (some 3) = 3 := (HT.sIx_nat _ 0 3).trans (by simp)
  have h2 : HT.sIx (a :: b :: c :: d :: e :: q).length (a :: b :: c :: d :: e :: q).length (some 5) = 5 := (HT.sIx_nat _ _ 5).trans (by simp)
  unfold HW.cutD
  rw [h1, h2]; rfl
theorem cut1 {a : D} {q : List D} : HW.cutD (a :: q) (some 1) none = q := by
  have h1 : HT.sIx (a :: q).length 0 (some 1) = 1 := (HT.sIx_nat _ 0 1).trans (by simp)
  have h2 : HT.sIx (a :: q).length (a :: q).length none = (a :: q).length := rfl
  unfold HW.cutD
  rw [h1, h2]
  simp
theorem ent_map (ws : List (List Nat)) : entD (ws.map fun w => eD (nm w)) = some (ws.map nm) := by
  induction ws with
  | nil => rfl
  | cons w r ih =>
    rw [List.map_cons, List.map_cons]
    cases q : nm w with
    | none => show (entD (List.map (fun w => eD (nm w)) r)).bind _ = _; rw [ih]; rfl
    | some n => show (entD (List.map (fun w => eD (nm w)) r)).bind _ = _; rw [ih]; rfl
theorem flt_az (l : List Nat) (x0 : Option R) (μ : Store) : compL (gNm 0) (fB (fOp (inS true) (fVar 0) (fK (.str "abcdefghijklmnopqrstuvwxyz")))) (fVar 0) (l.map fun c => D.str (Tx [c])) [x0] μ = some ((l.filter fun c => !decide (c ∈ az)).map (fun c => D.str (Tx [c])), μ) := by
  induction l generalizing x0 with
  | nil => rfl
  | cons c r ih =>
    have h1 : fB (fOp (inS true) (fVar 0) (fK (.str "abcdefghijklmnopqrstuvwxyz"))) [some (.v (.str (Tx [c])))] μ = some (!decide (c ∈ az), μ) := by push_cast [tx_az, sv_it, sv_it1, sv_ch, sv_ch1, sv_ch2, sv_ch3, sv_ch4, sv_ss, sv_ss1, sv_ss2, sv_ss3, sv_add, sv_in, sv_nin, sv_sw, sv_eq]
    have h2 : fVar 0 [some (.v (.str (Tx [c])))] μ = some (.v (.str (Tx [c])), μ) := rfl
    cases hd : decide (c ∈ az) with
    | true =>
      rw [hd] at h1
      simp only [List.map_cons, compL, gNm, List.set_cons_zero, Option.bind_some, h1, Bool.not_true, Bool.false_eq_true, if_false, ih, List.filter_cons, hd]
    | false =>
      rw [hd] at h1
      simp only [List.map_cons, compL, gNm, List.set_cons_zero, Option.bind_some, h1, h2, Bool.not_false, if_true, ih, List.filter_cons, hd]
theorem isLt_no {l : List Nat} (h : isLt l = false) : (l.length : Int) < 1 ∨ 8 < (l.length : Int) ∨ (l.filter fun c => !decide (c ∈ az)) ≠ [] := by
  by_cases a1 : (l.length : Int) < 1
  · exact .inl a1
  by_cases a2 : 8 < (l.length : Int)
  · exact .inr (.inl a2)
  refine .inr (.inr fun e => ?_)
  have : isLt l = true := by
    unfold isLt
    simp only [Bool.and_eq_true, decide_eq_true_eq, List.all_eq_true]
    refine ⟨by omega, by omega, fun c hc => ?_⟩
    rw [List.filter_eq_nil_iff] at e
    have := e c hc
    cases hd : decide (c ∈ az) with
    | true => exact of_decide_eq_true hd
    | false => rw [hd] at this; exact absurd rfl this
  rw [this] at h
  cases h
theorem isLt_yes {l : List Nat} (h : isLt l = true) : 1 ≤ l.length ∧ l.length ≤ 8 ∧ (l.filter fun c => !decide (c ∈ az)) = [] ∧ ∀ c ∈ l, c ∈ az := by
  unfold isLt at h
  simp only [Bool.and_eq_true, decide_eq_true_eq, List.all_eq_true] at h
  refine ⟨by omega, by omega, ?_, fun c hc => h.2.2 c hc⟩
  rw [List.filter_eq_nil_iff]
  intro c hc
  simp [h.2.2 c hc]
noncomputable def esOf (d e : List Nat) : List (List Nat) := [d, e].filter fun w => !(w == [45])
theorem ends_ev {d e : List Nat} (gd : Good d) (ge : Good e) (x0 : Option R) (μ : Store) : compL (gNm 0) (fB (fOp (eqR true) (fVar 0) (fK (.str "-")))) (fCall m_law_read 1 (fCons (fFz (fVar 0)) fNil)) [sT d, sT e] [x0] μ = some ((esOf d e).map (fun w => eD (nm w)), μ) := by
  have kd' := gd.ok 60
  have ke' := ge.ok 60
  have td : fB (fOp (eqR true) (fVar 0) (fK (.str "-"))) [some (.v (sT d))] μ = some (!(d == [45]), μ) := by push_cast [kd', minK, minE]
  have te : fB (fOp (eqR true) (fVar 0) (fK (.str "-"))) [some (.v (sT e))] μ = some (!(e == [45]), μ) := by push_cast [ke', minK, minE]
  have rd : fCall m_law_read 1 (fCons (fFz (fVar 0)) fNil) [some (.v (sT d))] μ = some (.v (eD (nm d)), μ) := by push_cast [nm_law gd]
  have re : fCall m_law_read 1 (fCons (fFz (fVar 0)) fNil) [some (.v (sT e))] μ = some (.v (eD (nm e)), μ) := by push_cast [nm_law ge]
  unfold esOf
  cases hd : (d == [45]) <;> cases he : (e == [45]) <;>
    simp only [hd, he, Bool.not_true, Bool.not_false] at td te <;>
    simp only [compL, gNm, List.set_cons_zero, Option.bind_some, td, te, rd, re, Bool.false_eq_true, if_false, if_true, List.filter_cons, hd, he, Bool.not_true, Bool.not_false, List.filter_nil, List.map_cons, List.map_nil]
theorem ends2_ev {d e : List Nat} {lo hi : Option Int} (gd : Good d) (ge : Good e) (hd : en d = some lo) (he : en e = some hi) (x0 : Option R) (μ : Store) :
    compL (gNm 0) cYes (fIf (fB (fOp (eqR false) (fVar 0) (fK (.str "-")))) (fK .non) (fCall m_law_read 1 (fCons (fFz (fVar 0)) fNil))) [sT d, sT e] [x0] μ = some ([eD lo, eD hi], μ) := by
  have key : ∀ {w : List Nat} {o : Option Int}, Good w → en w = some o → fIf (fB (fOp (eqR false) (fVar 0) (fK (.str "-")))) (fK .non) (fCall m_law_read 1 (fCons (fFz (fVar 0)) fNil)) [some (.v (sT w))] μ = some (.v (eD o), μ) := fun {w o} g h => by
    have k := g.ok 60
    unfold en at h
    cases hw : (w == [45]) with
    | true =>
      rw [hw] at h; cases h
      push_cast [k, minK, minE, hw, eD]
    | false =>
      rw [hw] at h
      cases q : nm w with
      | none => rw [q] at h; cases h
      | some n =>
        rw [q] at h; cases h
        push_cast [k, minK, minE, hw, nm_law g, q, eD]
  simp only [compL, gNm, List.set_cons_zero, Option.bind_some, cYes, if_true, key gd hd, key ge he]
section
variable {l a b c d e : List Nat} {rs : List (List Nat)} {z : List Nat} {turn : Int} {lo hi : Option Int}
theorem due_C (S : Hd l a b c d e rs z) (hc : isLt c = false) : m_law_due [sT l] = some .non := by
  rw [u_law_due]
  have gc := S.toSh.good (w := c) (by simp)
  have hz := gc.sz
  have hm : (c.map fun c => D.str (Tx [c])).length ≤ sizeLine := by rw [List.length_map]; exact hz
  have hf := fun x0 μ => flt_az c x0 μ
  rcases isLt_no hc with h | h | h
  · push_cast [b_law_due, S.toSh.spl, S.toSh.len, S.kin, at_last5, S.kz, dotK, dotE, S.dot, sv_len hz, h, decide_true]
  · have h' : ¬ (c.length : Int) < 1 := by omega
    push_cast [b_law_due, S.toSh.spl, S.toSh.len, S.kin, at_last5, S.kz, dotK, dotE, S.dot, sv_len hz, h, h', decide_true, decide_false]
  · by_cases h1 : (c.length : Int) < 1
    · push_cast [b_law_due, S.toSh.spl, S.toSh.len, S.kin, at_last5, S.kz, dotK, dotE, S.dot, sv_len hz, h1, decide_true]
    by_cases h2 : 8 < (c.length : Int)
    · push_cast [b_law_due, S.toSh.spl, S.toSh.len, S.kin, at_last5, S.kz, dotK, dotE, S.dot, sv_len hz, h1, h2, decide_true, decide_false]
    have hk : okDs 59 ((c.filter fun c => !decide (c ∈ az)).map fun c => D.str (Tx [c])) = true := okm fun x hx => gc.sig x ((List.mem_filter.mp hx).1)
    have hk' := okfl hk
    cases hq : (c.filter fun c => !decide (c ∈ az)) with
    | nil => exact absurd hq h
    | cons y ys =>
      rw [hq] at hf hk'
      simp only [List.map_cons] at hf hk'
      push_cast [b_law_due, S.toSh.spl, S.toSh.len, S.kin, at_last5, S.kz, dotK, dotE, S.dot, sv_len hz, h1, h2, decide_false, sv_it, sv_it1, sv_ch, sv_ch1, sv_ch2, sv_ch3, sv_ch4, sv_ss, sv_ss1, sv_ss2, sv_ss3, sv_add, sv_in, sv_nin, sv_sw, sv_eq, if_pos hm, hf, hk', ok0, eqfl, nil_ne, sz0]
end
end LW
namespace LW
open PySem HW L2 PyProof.Rows PySem.NumText PySem.W
section
variable {l a b c d e : List Nat} {rs : List (List Nat)} {z : List Nat} {turn : Int} {lo hi : Option Int}
structure Nm (l a b c d e : List Nat) (rs : List (List Nat)) (z : List Nat) : Prop extends Hd l a b c d e rs z where
  lt : isLt c = true
theorem Nm.c1 (S : Nm l a b c d e rs z) : decide ((c.length : Int) < 1) = false := decide_eq_false (by have := (isLt_yes S.lt).1; omega)
theorem Nm.c2 (S : Nm l a b c d e rs z) : decide (8 < (c.length : Int)) = false := decide_eq_false (by have := (isLt_yes S.lt).2.1; omega)
theorem Nm.cz (S : Nm l a b c d e rs z) : c.length ≤ sizeLine := (S.toSh.good (w := c) (by simp)).sz
theorem Nm.cm (S : Nm l a b c d e rs z) : (c.map fun c => D.str (Tx [c])).length ≤ sizeLine := by rw [List.length_map]; exact S.cz
theorem Nm.cf (S : Nm l a b c d e rs z) (x0 : Option R) (μ : Store) : compL (gNm 0) (fB (fOp (inS true) (fVar 0) (fK (.str "abcdefghijklmnopqrstuvwxyz")))) (fVar 0) (c.map fun c => D.str (Tx [c])) [x0] μ = some ([], μ) := by
  rw [flt_az, (isLt_yes S.lt).2.2.1]; rfl
theorem eq00 : eqD (.fl []) (.fl []) = true := rfl
theorem Nm.sz1 (S : Nm l a b c d e rs z) : 1 + (rs.map sT).length ≤ sizeLine := by
  have h := (sp_len l).2
  have := S.g.len
  rw [S.w] at h
  simp at h
  rw [List.length_map]
  exact small'' (by omega)
theorem Nm.sz2 (S : Nm l a b c d e rs z) : (rs.map sT).length + 1 ≤ sizeLine := by
  have := S.sz1
  omega
theorem Nm.nums (S : Nm l a b c d e rs z) (x0 : Option R) (μ : Store) : compL (gNm 0) cYes (fCall m_law_read 1 (fCons (fFz (fVar 0)) fNil)) (sT b :: rs.map sT) [x0] μ = some (eD (nm b) :: rs.map (fun w => eD (nm w)), μ) := by
  have := comp_typed (f := fCall m_law_read 1 (fCons (fFz (fVar 0)) fNil)) (μ := μ) (rest := []) sT (fun w => eD (nm w)) (b :: rs) x0 (fun w hw => by push_cast [nm_law (S.toSh.good (w := w) (by simp at hw ⊢; rcases hw with h | h <;> simp [h]))])
  simpa using this
theorem Nm.ent (S : Nm l a b c d e rs z) : entD (eD (nm b) :: rs.map (fun w => eD (nm w))) = some (nm b :: rs.map nm) := ent_map (b :: rs)
theorem Nm.gd (S : Nm l a b c d e rs z) : Good d := S.toSh.good (w := d) (by simp)
theorem Nm.ge (S : Nm l a b c d e rs z) : Good e := S.toSh.good (w := e) (by simp)
theorem seq_nx {a c : FS} {ρ ρ' : Lo} {μ μ' : Store} (q : a ρ μ = some (.nx ρ' μ')) : finO (sSeq a c ρ μ) = finO (c ρ' μ') := by rw [ev_seq, q, ev_seq1]
noncomputable abbrev dueU : FS := (sSeq (sIf (tOrF (fB (fOp (inN false) (fK .non) (fVar 3))) (tOrF (fB (fOp (inN false) (fK .non) (fVar 4))) (fB (fOp ltD (fOp ixD (fVar 3) (fK (.int 0))) (fK (.int 1))))))
    (sRet (fK .non))
    sNext)
    (sSeq (sIf (tAndF (fB (fOp (eqR false) (fAr lenD (fCons (fVar 4) fNil)) (fK (.int 2)))) (fB (fOp geD (fOp ixD (fVar 4) (fK (.int 0))) (fOp ixD (fVar 4) (fK (.int 1))))))
    (sRet (fK .non))
    sNext)
    (sSeq (sSet 4 (fComp [] 1 (fiSeq (fSl (fVar 1) (oSome (fK (.int 3))) (oSome (fK (.int 5))))) (gNm 0) cYes (fIf (fB (fOp (eqR false) (fVar 0) (fK (.str "-")))) (fK .non) (fCall m_law_read 1 (fCons (fFz (fVar 0)) fNil)))))
    (sRet (fTup (fCons (fOp ixD (fVar 3) (fK (.int 0))) (fCons (fTup (fCons (fOp ixD (fVar 1) (fK (.int 0))) (fCons (fVar 2) (fCons (fAr tupD (fCons (fSl (fVar 3) (oSome (fK (.int 1))) oNone) fNil)) (fCons (fOp ixD (fVar 4) (fK (.int 0))) (fCons (fOp ixD (fVar 4) (fK (.int 1))) fNil)))))) fNil)))))))
noncomputable def wsD (a b c d e : List Nat) (rs : List (List Nat)) (z : List Nat) : List D := sT a :: sT b :: sT c :: sT d :: sT e :: (rs.map sT ++ [sT z])
theorem due_pre (S : Nm l a b c d e rs z) : m_law_due [sT l] = finO (dueU [some (.v (sT l)), some (.p 0), some (.v (sT c)), some (.p 6), some (.p 8)]
    [.lst (wsD a b c d e rs z), .lst [], .lst [], .lst [sT b], .lst (rs.map sT), .fz (sT b :: rs.map sT), .lst (eD (nm b) :: rs.map (fun w => eD (nm w))), .fz [sT d, sT e], .lst ((esOf d e).map fun w => eD (nm w))]) := by
  rw [u_law_due]
  have h2 := fun x0 μ => ends_ev S.gd S.ge x0 μ
  refine (seq_nx (ρ' := [some (.v (sT l)), some (.p 0), none, none, none]) (μ' := [.lst (wsD a b c d e rs z)]) (by push_cast [S.toSh.spl, wsD])).trans ?_
  unfold wsD
  refine (seq_nx (ρ' := [some (.v (sT l)), some (.p 0), none, none, none]) (μ' := [.lst (sT a :: sT b :: sT c :: sT d :: sT e :: (rs.map sT ++ [sT z]))]) (by push_cast [S.toSh.len, S.kin, at_last5, S.kz, dotK, dotE, S.dot])).trans ?_
  refine (seq_nx (ρ' := [some (.v (sT l)), some (.p 0), some (.v (sT c)), none, none]) (μ' := [.lst (sT a :: sT b :: sT c :: sT d :: sT e :: (rs.map sT ++ [sT z]))]) (by push_cast [HW.sz2])).trans ?_
  refine (seq_nx (ρ' := [some (.v (sT l)), some (.p 0), some (.v (sT c)), none, none]) (μ' := [.lst (sT a :: sT b :: sT c :: sT d :: sT e :: (rs.map sT ++ [sT z]))]) (by push_cast [sv_len S.cz, S.c1, S.c2])).trans ?_
  refine (seq_nx (ρ' := [some (.v (sT l)), some (.p 0), some (.v (sT c)), none, none]) (μ' := [.lst (sT a :: sT b :: sT c :: sT d :: sT e :: (rs.map sT ++ [sT z])), .lst [], .lst []]) (by push_cast [sv_it, sv_it1, sv_ch, sv_ch1, sv_ch2, sv_ch3, sv_ch4, sv_ss, sv_ss1, sv_ss2, sv_ss3, sv_add, sv_in, sv_nin, sv_sw, sv_eq, if_pos S.cm, S.cf, ok0, eq00])).trans ?_
  refine (seq_nx (ρ' := [some (.v (sT l)), some (.p 0), some (.v (sT c)), some (.p 6), none]) (μ' := [.lst (sT a :: sT b :: sT c :: sT d :: sT e :: (rs.map sT ++ [sT z])), .lst [], .lst [], .lst [sT b], .lst (rs.map sT), .fz (sT b :: rs.map sT), .lst (eD (nm b) :: rs.map (fun w => eD (nm w)))]) (by push_cast [dv_sl, dv_sl1, dv_n, dv_n1, dv_n2, cut12, cut_mid, S.sz1, S.sz2, S.nums])).trans ?_
  exact seq_nx (by push_cast [dv_sl, dv_sl1, dv_n, dv_n1, dv_n2, cut35, h2])
theorem due_N (S : Nm l a b c d e rs z) (h : (nm b :: rs.map nm).contains none = true) : m_law_due [sT l] = some .non := by
  rw [due_pre S]
  push_cast [dueU, dv_sl, dv_sl1, dv_n, dv_n1, dv_n2, S.ent, h]
theorem due_E (S : Nm l a b c d e rs z) (h : (nm b :: rs.map nm).contains none = false) (he : ((esOf d e).map nm).contains none = true) : m_law_due [sT l] = some .non := by
  rw [due_pre S]
  have e2 := ent_map (esOf d e)
  push_cast [dueU, dv_sl, dv_sl1, dv_n, dv_n1, dv_n2, S.ent, h, e2, he]
theorem due_T (S : Nm l a b c d e rs z) (h : (nm b :: rs.map nm).contains none = false) (he : ((esOf d e).map nm).contains none = false) (hb : nm b = some turn) (h1 : turn < 1) : m_law_due [sT l] = some .non := by
  have e2 := ent_map (esOf d e)
  have e0 : eD (nm b) = .int turn := by rw [hb]; rfl
  have h4 := S.ent
  rw [e0, hb] at h4
  rw [hb] at h
  have hd : decide (turn < 1) = true := decide_eq_true h1
  rw [due_pre S, e0]
  push_cast [dueU, dv_sl, dv_sl1, dv_n, dv_n1, dv_n2, h4, h, e2, he, hd]
end
end LW
namespace LW
open PySem HW L2 PyProof.Rows PySem.NumText PySem.W
section
variable {l a b c d e : List Nat} {rs : List (List Nat)} {z : List Nat} {turn : Int} {lo hi : Option Int}
theorem en_yes {w : List Nat} {o : Option Int} (h : en w = some o) (hw : (w == [45]) = true) : o = none := by
  unfold en at h; rw [hw] at h; cases h; rfl
theorem en_no {w : List Nat} {o : Option Int} (h : en w = some o) (hw : (w == [45]) = false) : ∃ n, o = some n ∧ nm w = some n := by
  unfold en at h; rw [hw] at h
  cases q : nm w with
  | none => rw [q] at h; cases h
  | some n => rw [q] at h; cases h; exact ⟨n, rfl, rfl⟩
theorem es_yes {d e : List Nat} {lo hi : Option Int} (hd : en d = some lo) (he : en e = some hi) : ((esOf d e).map nm).contains none = false := by
  cases hq : ((esOf d e).map nm).contains none with
  | false => rfl
  | true =>
    exfalso
    rw [List.contains_iff_mem] at hq
    obtain ⟨w, hw, hn⟩ := List.mem_map.mp hq
    obtain ⟨hw1, hw2⟩ := List.mem_filter.mp hw
    have key : ∀ o, en w = some o → False := fun o h => by
      unfold en at h
      rw [if_neg (by simpa using hw2), hn] at h
      cases h
    simp only [List.mem_cons, List.not_mem_nil, or_false] at hw1
    rcases hw1 with rfl | rfl
    · exact key _ hd
    · exact key _ he
theorem due_SO (S : Nm l a b c d e rs z) (hall : (rs.all fun w => (nm w).isSome) = true) (hb : nm b = some turn) (h1 : 1 ≤ turn) (hd : en d = some lo) (he : en e = some hi) :
    m_law_due [sT l] = some (if bad lo hi = true then .non else .tup [.int turn, .tup [sT a, sT c, .tup ((rowOf rs).map .int), eD lo, eD hi]]) := by
  rw [due_pre S]
  have h5 := fun x0 μ => ends2_ev S.gd S.ge hd he x0 μ
  have e2 := ent_map (esOf d e)
  have h4 := S.ent
  have hr : (rs.map fun w => eD (nm w)) = (rowOf rs).map .int := by
    unfold rowOf
    rw [List.map_map]
    refine List.map_congr_left fun w hw => ?_
    rw [row_at hall hw]; rfl
  have hn : rs.map nm = (rowOf rs).map some := by
    unfold rowOf
    rw [List.map_map]
    refine List.map_congr_left fun w hw => ?_
    rw [row_at hall hw]; rfl
  have hcn : (some turn :: (rowOf rs).map some).contains none = false := by
    have : ∀ l : List Int, (l.map some).contains none = false := fun l => by induction l with
      | nil => rfl
      | cons x xs ih => simp at ih ⊢
    have q := this (turn :: rowOf rs)
    simpa using q
  rw [hr] at h4 ⊢
  rw [hn] at h4
  simp only [hb, eD] at h4
  have hee := es_yes hd he
  have hdt : decide (turn < 1) = false := decide_eq_false (by omega)
  have q2 : (((2 : Nat) : Int) == 2) = true := rfl
  have n2 : ∀ x y : Int, [some x, some y].contains none = false := fun _ _ => rfl
  have e0 : eD (nm b) = .int turn := by rw [hb]; rfl
  rw [e0]
  unfold wsD
  have fin : ∀ es : List D, (((es.length : Nat) : Int) == 2) = false → (∃ os, entD es = some os ∧ os.contains none = false) → bad lo hi = false →
      finO (dueU [some (.v (sT l)), some (.p 0), some (.v (sT c)), some (.p 6), some (.p 8)] [.lst (sT a :: sT b :: sT c :: sT d :: sT e :: (rs.map sT ++ [sT z])), .lst [], .lst [], .lst [sT b], .lst (rs.map sT), .fz (sT b :: rs.map sT), .lst (.int turn :: (rowOf rs).map .int), .fz [sT d, sT e], .lst es]) = some (if bad lo hi = true then .non else .tup [.int turn, .tup [sT a, sT c, .tup ((rowOf rs).map .int), eD lo, eD hi]]) := fun es q1 ⟨os, q3, q4⟩ q5 => by
    rw [q5]
    push_cast [dueU, dv_sl, dv_sl1, dv_n, dv_n1, dv_n2, h4, hcn, q3, q4, hdt, q1, cut35, t5', h5, cut1, Bool.false_eq_true, if_false]
  cases hd' : (d == [45]) with
  | true =>
    refine fin _ ?_ ⟨_, e2, hee⟩ (by rw [en_yes hd hd']; rfl)
    cases he' : (e == [45]) <;> simp [esOf, hd', he']
  | false =>
    cases he' : (e == [45]) with
    | true => exact fin _ (by simp [esOf, hd', he']) ⟨_, e2, hee⟩ (by rw [en_yes he he']; unfold bad; split <;> simp_all)
    | false =>
      obtain ⟨m, rfl, hm'⟩ := en_no hd hd'
      obtain ⟨n, rfl, hn'⟩ := en_no he he'
      have hes : esOf d e = [d, e] := by unfold esOf; simp [hd', he']
      rw [hes] at e2 ⊢
      simp only [List.map_cons, List.map_nil, hm', hn'] at e2 ⊢
      simp only [eD] at h5 e2 ⊢
      cases hq : decide (n ≤ m) with
      | true => push_cast [dueU, dv_sl, dv_sl1, dv_n, dv_n1, dv_n2, h4, hcn, e2, n2, hdt, q2, hq, bad]
      | false => push_cast [dueU, dv_sl, dv_sl1, dv_n, dv_n1, dv_n2, h4, hcn, e2, n2, hdt, q2, hq, cut35, t5', h5, cut1, bad, Bool.false_eq_true, if_false]
end
end LW
namespace LW
open PySem HW L2 PyProof.Rows PySem.NumText PySem.W
theorem eq_row (row : List Int) : eqDs (row.map D.int) (row.map D.int) = true := by
  induction row with
  | nil => rfl
  | cons n r ih => simp only [List.map_cons, eqDs, HW.eq_int, beq_self_eq_true, ih, Bool.and_self]
theorem ok_row (m : Nat) (row : List Int) : okDs m (row.map D.int) = true := by
  induction row with
  | nil => rfl
  | cons n r ih => simp only [List.map_cons, okDs, HW.ok_int, ih, Bool.and_self]
theorem whole (n : Int) : m_law_whole [.int n] = some (.bl true) := by
  rw [u_law_whole]
  have i2 : ∀ μ, isiD "int" (.v (.int n)) μ = some (.v (.bl true), μ) := fun _ => rfl
  have i3 : ∀ μ, isiD "bool" (.v (.int n)) μ = some (.v (.bl false), μ) := fun _ => rfl
  push_cast [b_law_whole, i2, i3]
theorem law_tuple (row : List Int) : m_law_tuple [.tup (row.map .int), .tup (row.map .int)] = some (.bl true) := by
  rw [u_law_tuple]
  have i1 : ∀ μ, isiD "tuple" (.v (.tup (row.map .int))) μ = some (.v (.bl true), μ) := fun _ => rfl
  obtain ⟨x2, e, -⟩ := loop_inv (g := gNm 2) (b := l_law_tuple_0) (σ := Option R) D.int (fun s => ([some (.v (.tup (row.map .int))), some (.v (.tup (row.map .int))), s], [])) (fun _ _ => True) row none trivial (by
    rintro s n r -
    refine ⟨some (.v (.int n)), ?_, trivial⟩
    push_cast [l_law_tuple_0, whole])
  have k1 : okD 60 (.tup (row.map .int)) = true := ok_row 59 row
  have e1 : eqD (.tup (row.map .int)) (.tup (row.map .int)) = true := eq_row row
  simp only at e
  push_cast [b_law_tuple, i1, beq_self_eq_true, e, k1, e1]
theorem alike {t : Tel} (hn3 : ∀ c ∈ t.name, c ∈ az) {turn : Int} : m_law_alike [.tup [.int turn, tD t], .int turn, tD t] = some (.bl true) := by
  rw [u_law_alike]
  have i1 : ∀ xs μ, isiD "tuple" (.v (.tup xs)) μ = some (.v (.bl true), μ) := fun _ _ => rfl
  have c1 : ∀ a b c d e : D, HW.cutD [a, b, c, d, e] none (some 2) = [a, b] := fun _ _ _ _ _ => rfl
  have c2 : ∀ a b c d e : D, HW.cutD [a, b, c, d, e] (some 3) none = [d, e] := fun _ _ _ _ _ => rfl
  have kk : okD 59 (.str (kS t.kind)) = true := by rw [kS_T]; exact sv_ok (by cases t.kind <;> decide)
  have kn : okD 59 (.str (Tx t.name)) = true := sv_ok fun c hc => by have := az_b c (hn3 c hc); omega
  have k2 : okD 60 (.tup [.str (kS t.kind), .str (Tx t.name)]) = true := by
    show (okD 59 _ && (okD 59 _ && true)) = true
    rw [kk, kn]; rfl
  have q2 : eqD (.tup [.str (kS t.kind), .str (Tx t.name)]) (.tup [.str (kS t.kind), .str (Tx t.name)]) = true := by
    show ((kS t.kind == kS t.kind) && ((Tx t.name == Tx t.name) && true)) = true
    rw [beq_self_eq_true, beq_self_eq_true]; rfl
  have ke : ∀ e : Option Int, okD 59 (eD e) = true := fun e => by cases e <;> rfl
  have qe : ∀ e : Option Int, eqD (eD e) (eD e) = true := fun e => by
    cases e with
    | none => rfl
    | some n => exact beq_self_eq_true n
  have k3 : okD 60 (.tup [eD t.low, eD t.high]) = true := by
    show (okD 59 _ && (okD 59 _ && true)) = true
    rw [ke, ke]; rfl
  have q3 : eqD (.tup [eD t.low, eD t.high]) (.tup [eD t.low, eD t.high]) = true := by
    show (eqD _ _ && (eqD _ _ && true)) = true
    rw [qe, qe]; rfl
  have turn1 : ∀ (e : Option Int) (ρ4 : Option R) (a b c d : Option R) (μ : Store), l_law_alike_0 [a, b, c, d, some (.v (eD e))] μ = some (.nx [a, b, c, d, some (.v (eD e))] μ) := fun e _ a b c d μ => by
    cases e with
    | none =>
      have i1 : ∀ μ, isK true .non (.v .non) μ = some (.v (.bl false), μ) := fun _ => rfl
      push_cast [l_law_alike_0, eD, i1]
    | some n =>
      have i1 : ∀ μ, isK true .non (.v (.int n)) μ = some (.v (.bl true), μ) := fun _ => rfl
      push_cast [l_law_alike_0, eD, i1, whole]
  unfold tD
  have m2 : (((2 : Nat) : Int) == 2) = true := rfl
  have m5 : (((5 : Nat) : Int) == 5) = true := rfl
  have lp : ∀ (a b c d : Option R) (μ : Store), ∃ y, loop (gNm 4) l_law_alike_0 [eD t.low, eD t.high] [a, b, c, d, none] μ = some (.nx [a, b, c, d, y] μ) := fun a b c d μ => ⟨some (.v (eD t.high)), by
    rw [loop_cons, ev_gnm, ev_G]
    simp only [ls_set0, ls_sets, turn1 t.low none, lp_nx]
    rw [loop_cons, ev_gnm, ev_G]
    simp only [ls_set0, ls_sets, turn1 t.high none, lp_nx, loop_nil]⟩
  push_cast [b_law_alike, i1, whole, m2, m5, beq_self_eq_true, c1, c2, k2, q2, law_tuple]
  obtain ⟨y, hy⟩ := lp (some (.v (.tup [.int turn, .tup [.str (kS t.kind), .str (Tx t.name), .tup (t.row.map .int), eD t.low, eD t.high]]))) (some (.v (.int turn))) (some (.v (.tup [.str (kS t.kind), .str (Tx t.name), .tup (t.row.map .int), eD t.low, eD t.high]))) (some (.v (.tup [.str (kS t.kind), .str (Tx t.name), .tup (t.row.map .int), eD t.low, eD t.high]))) []
  rw [hy]
  push_cast [c2, k3, q3]
theorem c1 : (["NoText"] : List Str).contains (Str.ofString "NoText") = true := by decide +kernel
theorem tb1 : tbL [("NoText", true)] (Str.ofString "NoText") = some true := by decide +kernel
theorem tb2 : tbL [("NoText", false)] (Str.ofString "NoText") = some false := by decide +kernel
theorem good_bad {d : D} (h : x_read_telling [d] = some NT) : m_law_good [d, .non] = some (.bl true) := by
  rw [u_law_good]
  have s2 : 2 ≤ sizeLine := by decide
  have s1 : 1 ≤ sizeLine := by decide
  have s3 : 3 ≤ sizeLine := by decide
  have i1 : ∀ μ, isK false .non (.v .non) μ = some (.v (.bl true), μ) := fun _ => rfl
  have k3 : okD 60 (.fl [.bl true, .bl true, .bl false]) = true := rfl
  have e3 : eqD (.fl [.bl true, .bl true, .bl false]) (.fl [.bl true, .bl true, .bl false]) = true := rfl
  push_cast [b_law_good, xe_then, xe_then1, xe_or, xe_or1, xe_or2, xe_if, xe_if1, xe_if2, xe_no, xe_t1, xe_t2, xe_call, xe_c1, xe_c2, xe_un, xe_try, xe_try0, xe_isx, xe_is1, xe_raiseK, xe_fin, xe_finN, h, xe_try1 c1, tb1, tb2, s1, s2, s3, i1, k3, e3]
theorem good_good {d : D} {t : Tel} {turn : Int} (h : x_read_telling [d] = none) (h2 : m_read_telling [d] = some (.tup [.int turn, tD t])) (hn3 : ∀ c ∈ t.name, c ∈ az) : m_law_good [d, .tup [.int turn, tD t]] = some (.bl true) := by
  rw [u_law_good]
  have i1 : ∀ μ, isK false .non (.v (.tup [.int turn, tD t])) μ = some (.v (.bl false), μ) := fun _ => rfl
  push_cast [b_law_good, xe_then, xe_then1, xe_or, xe_or1, xe_or2, xe_if, xe_if1, xe_if2, xe_no, xe_t1, xe_t2, xe_call, xe_c1, xe_c2, xe_un, xe_try, xe_try0, xe_isx, xe_is1, xe_raiseK, xe_fin, xe_finN, h, h2, i1, ok0, eq00, alike hn3]
theorem kd_kT {a : List Nat} (h : kd a = true) : ∃ k, a = kT k := by
  unfold kd at h
  simp only [List.any_cons, List.any_nil, Bool.or_false, Bool.or_eq_true, beq_iff_eq] at h
  have inj : ∀ {x y : List Nat}, Tx x = Tx y → x = y := fun {x y} e => by
    have := congrArg Str.cps e
    exact List.toArray_inj this
  rcases h with h | h
  · exact ⟨false, (inj ((kS_T false).symm.trans h)).symm⟩
  · exact ⟨true, (inj ((kS_T true).symm.trans h)).symm⟩
theorem shape : ∀ (ws : List (List Nat)), 6 ≤ ws.length → ∃ a b c d e rs z, ws = a :: b :: c :: d :: e :: (rs ++ [z])
  | a :: b :: c :: d :: e :: f :: r, _ => by
    refine ⟨a, b, c, d, e, (f :: r).dropLast, (f :: r).getLast (by simp), ?_⟩
    rw [List.dropLast_concat_getLast]
  | [], h => by simp at h
  | [_], h => by simp at h
  | [_, _], h => by simp at h
  | [_, _, _], h => by simp at h
  | [_, _, _, _], h => by simp at h
  | [_, _, _, _, _], h => by simp at h
theorem all_no {rs : List (List Nat)} (h : (rs.all fun w => (nm w).isSome) = false) : (rs.map nm).contains none = true := by
  induction rs with
  | nil => cases h
  | cons w r ih =>
    rw [List.all_cons] at h
    cases q : nm w with
    | none => simp [q]
    | some n =>
      rw [q] at h
      have := ih (by simpa using h)
      simp at this ⊢
      exact .inr this
theorem all_yes {rs : List (List Nat)} (h : (rs.all fun w => (nm w).isSome) = true) : (rs.map nm).contains none = false := by
  induction rs with
  | nil => rfl
  | cons w r ih =>
    rw [List.all_cons, Bool.and_eq_true] at h
    cases q : nm w with
    | none => rw [q] at h; cases h.1
    | some n =>
      have := ih h.2
      simp [q] at this ⊢
      exact this
theorem es_no {d e : List Nat} (h : en d = none ∨ en e = none) : ((esOf d e).map nm).contains none = true := by
  have key : ∀ w, en w = none → (w == [45]) = false ∧ nm w = none := fun w h => by
    unfold en at h
    cases hw : (w == [45]) with
    | true => rw [hw] at h; cases h
    | false =>
      rw [hw] at h
      cases q : nm w with
      | none => exact ⟨rfl, rfl⟩
      | some n => rw [q] at h; cases h
  have mem : ∀ w, w ∈ [d, e] → (w == [45]) = false → nm w = none → ((esOf d e).map nm).contains none = true := fun w hw h1 h2 => by
    rw [List.contains_iff_mem]
    refine List.mem_map.mpr ⟨w, List.mem_filter.mpr ⟨hw, by rw [h1]; rfl⟩, h2⟩
  rcases h with h | h
  · obtain ⟨h1, h2⟩ := key d h; exact mem d (by simp) h1 h2
  · obtain ⟨h1, h2⟩ := key e h; exact mem e (by simp) h1 h2
theorem text_cases {l : List Nat} (g : Good l) : (∃ t turn, x_read_telling [sT l] = none ∧ m_read_telling [sT l] = some (.tup [.int turn, tD t]) ∧ m_law_due [sT l] = some (.tup [.int turn, tD t]) ∧ ∀ c ∈ t.name, c ∈ az) ∨ (x_read_telling [sT l] = some NT ∧ m_law_due [sT l] = some .non) := by
  by_cases h6 : (sp l).length < 6
  · exact .inr (xt_short g h6)
  obtain ⟨a, b, c, d, e, rs, z, hw⟩ := shape (sp l) (by omega)
  have S : Sh l a b c d e rs z := ⟨g, hw⟩
  cases hk : kd a with
  | false => exact .inr (xt_head S (.inl hk))
  | true =>
  cases hz : (z == [46]) with
  | false => exact .inr (xt_head S (.inr hz))
  | true =>
  have H : Hd l a b c d e rs z := ⟨S, hk, hz⟩
  cases hc : isLt c with
  | false =>
    refine .inr ⟨?_, due_C H hc⟩
    cases hb : nm b with
    | none => exact xB0 H hb
    | some turn =>
      by_cases h1 : turn < 1
      · exact xB1 H hb h1
      · exact xC H hb (by omega) hc
  | true =>
  have N : Nm l a b c d e rs z := ⟨H, hc⟩
  cases hb : nm b with
  | none => exact .inr ⟨xB0 H hb, due_N N (by rw [hb]; simp)⟩
  | some turn =>
  cases hall : (rs.all fun w => (nm w).isSome) with
  | false =>
    refine .inr ⟨?_, due_N N (by rw [hb]; have := all_no hall; simp at this ⊢; exact this)⟩
    by_cases h1 : turn < 1
    · exact xB1 H hb h1
    cases hd : en d with
    | none => exact xD H hb (by omega) hc hd
    | some lo =>
    cases he : en e with
    | none => exact xE H hb (by omega) hc hd he
    | some hi =>
    cases hq : bad lo hi with
    | true => exact xF H hb (by omega) hc hd he hq
    | false =>
      rw [xG H hb (by omega) hc hd he hq, hall]; rfl
  | true =>
  have hn : (nm b :: rs.map nm).contains none = false := by
    have := all_yes hall
    rw [hb]; simp at this ⊢; exact this
  cases hd : en d with
  | none =>
    refine .inr ⟨?_, due_E N hn (es_no (.inl hd))⟩
    by_cases h1 : turn < 1
    · exact xB1 H hb h1
    · exact xD H hb (by omega) hc hd
  | some lo =>
  cases he : en e with
  | none =>
    refine .inr ⟨?_, due_E N hn (es_no (.inr he))⟩
    by_cases h1 : turn < 1
    · exact xB1 H hb h1
    · exact xE H hb (by omega) hc hd he
  | some hi =>
  by_cases h1 : turn < 1
  · exact .inr ⟨xB1 H hb h1, due_T N hn (es_yes hd he) hb h1⟩
  have hso := due_SO N hall hb (by omega) hd he
  cases hq : bad lo hi with
  | true =>
    rw [hq] at hso
    exact .inr ⟨xF H hb (by omega) hc hd he hq, hso⟩
  | false =>
    rw [hq] at hso
    obtain ⟨k, rfl⟩ := kd_kT hk
    have hx := xG H hb (by omega) hc hd he hq
    rw [hall] at hx
    have hT : tD ⟨k, c, rowOf rs, lo, hi⟩ = .tup [sT (kT k), sT c, .tup ((rowOf rs).map .int), eD lo, eD hi] := by unfold tD; rw [kS_T]
    refine .inl ⟨⟨k, c, rowOf rs, lo, hi⟩, turn, hx, ?_, ?_, (isLt_yes hc).2.2.2⟩
    · rw [hT]; exact m_ok H hb (by omega) hc hd he hq hall
    · rw [hT]; exact hso
end LW
namespace LW
open PySem HW L2 PyProof.Rows PySem.NumText PySem.W
theorem jn_cons {w : List Nat} {ws : List (List Nat)} (h : ws ≠ []) : jn (w :: ws) = w ++ 32 :: jn ws := by
  cases ws with
  | nil => exact absurd rfl h
  | cons a t => rfl
theorem jn_snoc : ∀ (A : List (List Nat)) (w : List Nat), A ≠ [] → jn (A ++ [w]) = jn A ++ 32 :: w
  | [], w, h => absurd rfl h
  | [a], w, _ => rfl
  | a :: b :: t, w, _ => by
    have ih := jn_snoc (b :: t) w (by simp)
    rw [List.cons_append, jn_cons (by simp : (b :: t ++ [w]) ≠ []), ih, show jn (a :: b :: t) = a ++ 32 :: jn (b :: t) from rfl]
    simp
theorem dots : ∀ (ws : List (List Nat)), (∀ w ∈ ws, 32 ∉ w ∧ w.head? ≠ some 46) → ∀ q r, jn (ws ++ [[46]]) = q ++ 46 :: r → (q = [] ∨ ∃ q', q = q' ++ [32]) → r = []
  | [], _, q, r, e, _ => by
    have e : [46] = q ++ 46 :: r := e
    have := congrArg List.length e
    simp at this
    cases r with
    | nil => rfl
    | cons x y => simp at this; omega
  | w :: ws, h, q, r, e, hq => by
    obtain ⟨h1, h2⟩ := h w (by simp)
    rw [List.cons_append, jn_cons (by simp)] at e
    rcases List.append_eq_append_iff.mp e with ⟨a', ha, hb⟩ | ⟨c', hc, hd⟩
    · cases a' with
      | nil => simp at hb
      | cons x a'' =>
        simp only [List.cons_append, List.cons.injEq] at hb
        obtain ⟨rfl, hb⟩ := hb
        refine dots ws (fun v hv => h v (by simp [hv])) a'' r hb ?_
        rcases hq with hq | ⟨q', hq⟩
        · rw [hq] at ha; simp at ha
        · rcases List.eq_nil_or_concat a'' with h0 | ⟨a3, y, h0⟩
          · exact .inl h0
          · refine .inr ⟨a3, ?_⟩
            rw [h0] at ha ⊢
            rw [hq] at ha
            have e2 : q' ++ [32] = (w ++ 32 :: a3) ++ [y] := by rw [ha]; simp
            have := List.append_inj_right' e2 rfl
            simp at this
            subst this
            simp
    · cases c' with
      | nil => simp at hd
      | cons x c'' =>
        simp only [List.cons_append, List.cons.injEq] at hd
        obtain ⟨rfl, hd⟩ := hd
        rcases hq with hq | ⟨q', hq⟩
        · rw [hq] at hc
          exact absurd (by rw [hc]; rfl) h2
        · exact absurd (by rw [hc, hq]; simp) h1
theorem cut_off {ws : List (List Nat)} (h : ∀ w ∈ ws, 32 ∉ w ∧ w.head? ≠ some 46) (g : Good (jn (ws ++ [[46]]))) {k : Nat} (hk : k < (jn (ws ++ [[46]])).length) : m_law_good [sT ((jn (ws ++ [[46]])).take k), .non] = some (.bl true) := by
  have gk := g.take k
  refine good_bad ?_
  by_cases h6 : (sp ((jn (ws ++ [[46]])).take k)).length < 6
  · exact (xt_short gk h6).1
  obtain ⟨a, b, c, d, e, rs, z, hw⟩ := shape _ (by omega : 6 ≤ (sp ((jn (ws ++ [[46]])).take k)).length)
  refine (xt_head ⟨gk, hw⟩ (.inr ?_)).1
  cases hz : (z == [46]) with
  | false => rfl
  | true =>
    exfalso
    have hz : z = [46] := by simpa using hz
    subst hz
    have hp := jn_sp ((jn (ws ++ [[46]])).take k)
    rw [hw, show a :: b :: c :: d :: e :: (rs ++ [[46]]) = (a :: b :: c :: d :: e :: rs) ++ [[46]] by simp, jn_snoc _ _ (by simp)] at hp
    have hT := List.take_append_drop k (jn (ws ++ [[46]]))
    rw [← hp] at hT
    have := dots ws h (jn (a :: b :: c :: d :: e :: rs) ++ [32]) ((jn (ws ++ [[46]])).drop k) (hT.symm.trans (by simp)) (.inr ⟨_, rfl⟩)
    have hl := congrArg List.length this
    rw [List.length_drop] at hl
    simp at hl
    omega
theorem nm_tn {n : Int} (h : Sm n) : nm (tn n) = some n := by
  have hl := dg_len (m := n.natAbs) (k := 60) (by decide) h
  have hp := dg_pos n.natAbs
  have ht : (tn n).length ≤ 61 := tn_len (by decide) h
  have hi : PySem.intText? (Tx (tn n)) = some n := by
    by_cases hn : n < 0
    · have e : (Tx (tn n)).cps.toList = 45 :: dg n.natAbs := by unfold tn; rw [if_pos hn]
      rw [intText_neg e (dg_dig _) (dg_ne _) (by rw [tx_len]; omega), dg_val]
      congr 1; omega
    · have e : (Tx (tn n)).cps.toList = dg n.natAbs := by unfold tn; rw [if_neg hn]
      rw [intText_digits (by rw [e]; exact dg_dig _) (by rw [e]; exact dg_ne _) (by rw [tx_len]; omega), e, dg_val]
      congr 1; omega
  obtain ⟨c, l, hcl⟩ := List.exists_cons_of_ne_nil (dg_ne n.natAbs)
  have hc : 48 ≤ c ∧ c ≤ 57 := dg_dig n.natAbs c (by rw [hcl]; simp)
  have hf : fig (tn n) = dg n.natAbs := by
    unfold fig tn
    by_cases hn : n < 0
    · rw [if_pos hn]; rfl
    · rw [if_neg hn, hcl]
      have : (some c == some 45) = false := by simp; omega
      simp only [List.head?_cons, this, Bool.false_eq_true, if_false]
  have h1 : isNum (fig (tn n)) = true := by
    rw [hf]
    unfold isNum
    simp only [Bool.and_eq_true, decide_eq_true_eq, List.all_eq_true]
    exact ⟨by omega, by omega, fun x hx => mem_fig.mpr (dg_dig _ x hx)⟩
  have h2 : zz (tn n) = false := by
    unfold zz
    rw [hf]
    by_cases h0 : n = 0
    · subst h0
      have : tn 0 = [48] := by unfold tn; rw [if_neg (by decide)]; exact dg_lt (by decide)
      rw [this]; simp
    · have h48 : c ≠ 48 := fun e => dg_head n.natAbs (by omega) (by rw [hcl, e]; rfl)
      rw [hcl]
      simp [h48]
  unfold nm
  rw [if_pos ⟨h1, h2⟩, hi]
theorem tn_no (n : Int) : (tn n == [45]) = false := by
  have hp := dg_ne n.natAbs
  obtain ⟨c, l, hcl⟩ := List.exists_cons_of_ne_nil hp
  have hc : 48 ≤ c ∧ c ≤ 57 := dg_dig n.natAbs c (by rw [hcl]; simp)
  unfold tn
  split
  · rw [hcl]; simp
  · rw [hcl]; simp; omega
theorem en_eT {o : Option Int} (h : ∀ n, o = some n → Sm n) : en (eT o) = some o := by
  cases o with
  | none => rfl
  | some n =>
    unfold en eT
    rw [if_neg (by simp [tn_no]), nm_tn (h n rfl)]
    rfl
theorem tn32 (n : Int) : 32 ∉ tn n ∧ (tn n).head? ≠ some 46 := by
  have hd : ∀ m, 32 ∉ dg m := fun m h => by have := dg_dig m 32 h; omega
  obtain ⟨c, l, hcl⟩ := List.exists_cons_of_ne_nil (dg_ne n.natAbs)
  have hc : 48 ≤ c ∧ c ≤ 57 := dg_dig n.natAbs c (by rw [hcl]; simp)
  unfold tn
  split
  · exact ⟨by simp [hd], by simp⟩
  · exact ⟨hd _, by rw [hcl]; simp; omega⟩
theorem eT32 (o : Option Int) : 32 ∉ eT o ∧ (eT o).head? ≠ some 46 := by
  cases o with
  | none => simp [eT]
  | some n => exact tn32 n
noncomputable def WI (t : Tel) (turn : Int) : List (List Nat) := kT t.kind :: tn turn :: t.name :: eT t.low :: eT t.high :: t.row.map tn
theorem WS_WI (t : Tel) (turn : Int) : WS t turn = WI t turn ++ [[46]] := by simp [WS, WI]
theorem WI_free {t : Tel} (ok : TelOk t) {turn : Int} : ∀ w ∈ WI t turn, 32 ∉ w ∧ w.head? ≠ some 46 := by
  intro w hw
  simp only [WI, List.mem_cons, List.mem_map] at hw
  rcases hw with rfl | rfl | rfl | rfl | rfl | ⟨n, hn, rfl⟩
  · cases t.kind <;> decide
  · exact tn32 _
  · refine ⟨fun h => by have := az_b 32 (ok.n3 32 h); omega, fun h => ?_⟩
    have hm : 46 ∈ t.name := List.mem_of_mem_head? h
    have := az_b 46 (ok.n3 46 hm)
    omega
  · exact eT32 _
  · exact eT32 _
  · exact tn32 _
theorem WS_free {t : Tel} (ok : TelOk t) {turn : Int} : ∀ w ∈ WS t turn, 32 ∉ w := by
  intro w hw
  rw [WS_WI] at hw
  rcases List.mem_append.mp hw with h | h
  · exact (WI_free ok w h).1
  · simp at h; subst h; simp
theorem WS_sig {t : Tel} (ok : TelOk t) {turn : Int} : ∀ w ∈ WS t turn, ∀ c ∈ w, c < 1114112 := by
  intro w hw
  have he : ∀ e : Option Int, ∀ c ∈ eT e, c < 1114112 := fun e => by
    cases e with
    | none => simp [eT]
    | some n => exact tn_sig n
  simp only [WS, List.mem_cons, List.mem_append, List.mem_map, List.not_mem_nil, or_false] at hw
  rcases hw with rfl | rfl | rfl | rfl | rfl | ⟨n, hn, rfl⟩ | rfl
  · cases t.kind <;> decide
  · exact tn_sig _
  · intro c hc; have := az_b c (ok.n3 c hc); omega
  · exact he _
  · exact he _
  · exact tn_sig _
  · decide
theorem jn_len : ∀ (ws : List (List Nat)), (∀ w ∈ ws, w.length ≤ 70) → (jn ws).length ≤ ws.length * 71
  | [], _ => by simp [jn]
  | [a], h => by have := h a (by simp); simp [jn]; omega
  | a :: b :: t, h => by
    have h1 := h a (by simp)
    have ih := jn_len (b :: t) fun w hw => h w (by simp at hw ⊢; exact .inr hw)
    rw [jn_cons (by simp)]
    simp at ih ⊢
    omega
theorem jn_mem : ∀ (ws : List (List Nat)) (c : Nat), c ∈ jn ws → c = 32 ∨ ∃ w ∈ ws, c ∈ w
  | [], c, h => by simp [jn] at h
  | [a], c, h => .inr ⟨a, by simp, h⟩
  | a :: b :: t, c, h => by
    rw [jn_cons (by simp)] at h
    rcases List.mem_append.mp h with h | h
    · exact .inr ⟨a, by simp, h⟩
    · rcases List.mem_cons.mp h with h | h
      · exact .inl h
      · rcases jn_mem (b :: t) c h with h | ⟨w, hw, hc⟩
        · exact .inl h
        · exact .inr ⟨w, by simp at hw ⊢; exact .inr hw, hc⟩
structure Ws (ws : List (List Nat)) : Prop where
  n : ws.length ≤ 30
  len : ∀ w ∈ ws, w.length ≤ 70
  sig : ∀ w ∈ ws, ∀ c ∈ w, c < 1114112
theorem Ws.good {ws : List (List Nat)} (h : Ws ws) : Good (jn ws) ∧ (jn ws).length ≤ 2130 := by
  have h1 := jn_len ws h.len
  have h2 : (jn ws).length ≤ 2130 := by have := h.n; omega
  refine ⟨⟨by omega, fun c hc => ?_⟩, h2⟩
  rcases jn_mem ws c hc with rfl | ⟨w, hw, hc⟩
  · decide
  · exact h.sig w hw c hc
theorem WS_ws {t : Tel} (ok : TelOk t) {turn : Int} (ht : Sm turn) : Ws (WS t turn) ∧ (WS t turn).length ≤ 14 ∧ 6 ≤ (WS t turn).length := by
  have := ok.r1
  have h1 : (WS t turn).length ≤ 14 := by simp [WS]; omega
  exact ⟨⟨by omega, WS_len ok ht, WS_sig ok⟩, h1, by simp [WS]⟩
theorem thJ_ev {ws : List (List Nat)} (h : Ws ws) (μ : Store) : thJ (some (ws.map sT)) (Str.ofString " ") μ = some (.v (sT (jn ws)), μ) := by
  unfold thJ
  simp only [Option.bind_some, texts_map, tx_sp]
  rw [if_pos (join_ok _ (by intro w hw; obtain ⟨v, hv, rfl⟩ := List.mem_map.mp hw; rw [tx_len]; exact h.len v hv) (by rw [List.length_map]; have := h.n; omega)), join_tx]
end LW
namespace LW
open PySem HW L2 PyProof.Rows PySem.NumText PySem.W
theorem cut_to (ws : List (List Nat)) (n : Nat) : HW.cutD (ws.map sT) none (some (n : Int)) = (ws.take n).map sT := by
  have h1 : HT.sIx (ws.map sT).length 0 none = 0 := rfl
  have h2 : HT.sIx (ws.map sT).length (ws.map sT).length (some (n : Int)) = min n ws.length := (HT.sIx_nat _ _ n).trans (by simp)
  unfold HW.cutD
  rw [h1, h2, List.drop_zero, Nat.sub_zero, ← List.map_take]
  by_cases h : n ≤ ws.length
  · rw [Nat.min_eq_left h]
  · rw [Nat.min_eq_right (by omega), List.take_length, List.take_of_length_le (by omega)]
theorem cut_from (ws : List (List Nat)) (n : Nat) : HW.cutD (ws.map sT) (some (n : Int)) none = (ws.drop n).map sT := by
  have h1 : HT.sIx (ws.map sT).length 0 (some (n : Int)) = min n ws.length := (HT.sIx_nat _ _ n).trans (by simp)
  have h2 : HT.sIx (ws.map sT).length (ws.map sT).length none = ws.length := by show (ws.map sT).length = _; simp
  unfold HW.cutD
  rw [h1, h2, ← List.map_drop, List.take_of_length_le (by simp)]
  by_cases h : n ≤ ws.length
  · rw [Nat.min_eq_left h]
  · rw [Nat.min_eq_right (by omega), List.drop_length, List.drop_of_length_le (by omega)]
noncomputable abbrev somes : List D := [.str "", .str "-", .str ".", .str "0", .str "-0", .str "7", .str "-12", .str "tell", .str "strike", .str "ab", .str "Ab", .str "abcdefghi", .str "1_0", .str "+3", .str "01", .str "--"]
theorem some_word (n : Int) (h : 0 ≤ n ∧ n < 16) : ∃ w : List Nat, L2.atI somes n = some (sT w) ∧ w.length ≤ 70 ∧ ∀ c ∈ w, c < 1114112 := by
  have key : ∃ s : Str, L2.atI somes n = some (.str s) ∧ P s 9 := by
    have : n = 0 ∨ n = 1 ∨ n = 2 ∨ n = 3 ∨ n = 4 ∨ n = 5 ∨ n = 6 ∨ n = 7 ∨ n = 8 ∨ n = 9 ∨ n = 10 ∨ n = 11 ∨ n = 12 ∨ n = 13 ∨ n = 14 ∨ n = 15 := by omega
    rcases this with rfl | rfl | rfl | rfl | rfl | rfl | rfl | rfl | rfl | rfl | rfl | rfl | rfl | rfl | rfl | rfl <;> exact ⟨_, rfl, by unfold P; decide +kernel⟩
  obtain ⟨s, e, p⟩ := key
  refine ⟨s.cps.toList, by rw [e], ?_, p.2⟩
  have h1 := p.1
  have : s.cps.toList.length = s.length := Array.length_toList
  omega
theorem tx_odd : (Str.ofString "_+ .-0a\n\t7") = Tx [95, 43, 32, 46, 45, 48, 97, 10, 9, 55] := by decide +kernel
theorem odd_sign (n : Int) (h : 0 ≤ n ∧ n < 10) : ∃ c, c < 1114112 ∧ ∀ μ, ixS (.v (.str "_+ .-0a\n\t7")) (.v (.int n)) μ = some (.v (sT [c]), μ) := by
  obtain ⟨m, rfl⟩ : ∃ m : Nat, n = (m : Int) := ⟨n.natAbs, by omega⟩
  have hm : m < 10 := by omega
  have key : ∀ m : Nat, m < 10 → ∃ c, c < 121 ∧ [95, 43, 32, 46, 45, 48, 97, 10, 9, 55][m]? = some c := by decide
  obtain ⟨c, hc, e⟩ := key m hm
  refine ⟨c, by omega, fun μ => ?_⟩
  rw [tx_odd]
  exact sv_ix (by omega) (by decide) (by rw [Int.toNat_natCast]; exact e)
theorem s16 : 16 ≤ sizeLine := by decide
theorem s1' : 1 ≤ sizeLine := by decide
theorem seq_ex {a c : FS} {ρ ρ' : Lo} {μ μ' : Store} {P : List Nat → Prop} (q : a ρ μ = some (.nx ρ' μ')) (h : ∃ l', finO (c ρ' μ') = some (sT l') ∧ P l') : ∃ l', finO (sSeq a c ρ μ) = some (sT l') ∧ P l' := by rw [seq_nx q]; exact h
theorem changed (ns : List Int) (k : Nat) {ws : List (List Nat)} (hw : Ws ws) (h0 : ws ≠ []) (hf : ∀ w ∈ ws, 32 ∉ w) (h14 : ws.length ≤ 14) : ∃ l', m_law_changed [.fl (ns.map .int), .int k, sT (jn ws)] = some (sT l') ∧ Good l' := by
  rw [u_law_changed]
  obtain ⟨gl, hl⟩ := hw.good
  have hsp := fun μ => spl_ev (l := jn ws) (by omega) μ
  rw [sp_jn h0 hf] at hsp
  have hpos : 0 < ws.length := List.length_pos_iff.mpr h0
  obtain ⟨way, ew, bw⟩ := draw_ex ns k 6 (by decide)
  obtain ⟨at0, ea, ba⟩ := draw_ex ns (k + 63) (ws.length : Int) (by omega)
  obtain ⟨n, rfl⟩ : ∃ n : Nat, at0 = (n : Int) := ⟨at0.natAbs, by omega⟩
  obtain ⟨j, ej, bj⟩ := draw_ex ns (k + 126) 16 (by decide)
  obtain ⟨w, ewd, hw1, hw2⟩ := some_word j bj
  have hn1 : (n : Int) + 1 = ((n + 1 : Nat) : Int) := by omega
  have mk : ∀ (A : List (List Nat)), A.length ≤ 30 → (∀ x ∈ A, x ∈ ws ∨ x = w) → Ws A := fun A h1 h2 => ⟨h1, fun x hx => by
    rcases h2 x hx with h | h
    · exact hw.len x h
    · rw [h]; exact hw1, fun x hx => by
    rcases h2 x hx with h | h
    · exact hw.sig x h
    · rw [h]; exact hw2⟩
  have tk : ∀ m x, x ∈ ws.take m → x ∈ ws := fun m x h => List.mem_of_mem_take h
  have dk : ∀ m x, x ∈ ws.drop m → x ∈ ws := fun m x h => List.mem_of_mem_drop h
  have W1 : Ws (ws.take n ++ [w] ++ ws.drop (n + 1)) := mk _ (by simp; omega) (fun x hx => by
    simp only [List.mem_append, List.mem_singleton] at hx
    rcases hx with (h | h) | h
    · exact .inl (tk _ x h)
    · exact .inr h
    · exact .inl (dk _ x h))
  have W2 : Ws (ws.take n ++ [w] ++ ws.drop n) := mk _ (by simp; omega) (fun x hx => by
    simp only [List.mem_append, List.mem_singleton] at hx
    rcases hx with (h | h) | h
    · exact .inl (tk _ x h)
    · exact .inr h
    · exact .inl (dk _ x h))
  have W3 : Ws (ws.take n ++ ws.drop (n + 1)) := mk _ (by simp; omega) (fun x hx => by
    simp only [List.mem_append] at hx
    rcases hx with h | h
    · exact .inl (tk _ x h)
    · exact .inl (dk _ x h))
  have j1 := fun μ => thJ_ev W1 μ
  have j2 := fun μ => thJ_ev W2 μ
  have j3 := fun μ => thJ_ev W3 μ
  simp only [List.map_append, List.map_cons, List.map_nil] at j1 j2 j3
  have z1 : (ws.take n).length + 1 ≤ sizeLine := small'' (by simp; omega)
  have z2 : ((ws.take n).map sT ++ [sT w]).length + (ws.drop (n + 1)).length ≤ sizeLine := small'' (by simp; omega)
  have z3 : ((ws.take n).map sT ++ [sT w]).length + (ws.drop n).length ≤ sizeLine := small'' (by simp; omega)
  have z4 : (ws.take n).length + (ws.drop (n + 1)).length ≤ sizeLine := small'' (by simp; omega)
  refine seq_ex (ρ' := [some (.v (.fl (ns.map .int))), some (.v (.int k)), some (.v (sT (jn ws))), some (.p 0), none, none, none, none]) (μ' := [.lst (ws.map sT)]) (by push_cast [hsp]) ?_
  refine seq_ex (ρ' := [some (.v (.fl (ns.map .int))), some (.v (.int k)), some (.v (sT (jn ws))), some (.p 0), some (.v (.int way)), none, none, none]) (μ' := [.lst (ws.map sT)]) (by push_cast [ew]) ?_
  refine seq_ex (ρ' := [some (.v (.fl (ns.map .int))), some (.v (.int k)), some (.v (sT (jn ws))), some (.p 0), some (.v (.int way)), some (.v (.int n)), none, none]) (μ' := [.lst (ws.map sT)]) (by push_cast [List.length_map, ea]) ?_
  refine seq_ex (ρ' := [some (.v (.fl (ns.map .int))), some (.v (.int k)), some (.v (sT (jn ws))), some (.p 0), some (.v (.int way)), some (.v (.int n)), some (.p 1), none]) (μ' := [.lst (ws.map sT), .lst somes]) (by push_cast [s16]) ?_
  refine seq_ex (ρ' := [some (.v (.fl (ns.map .int))), some (.v (.int k)), some (.v (sT (jn ws))), some (.p 0), some (.v (.int way)), some (.v (.int n)), some (.p 1), some (.v (sT w))]) (μ' := [.lst (ws.map sT), .lst somes]) (by push_cast [ej, ewd]) ?_
  by_cases w2 : way < 2
  · have hd : decide (way < 2) = true := decide_eq_true w2
    refine ⟨jn (ws.take n ++ [w] ++ ws.drop (n + 1)), ?_, W1.good.1⟩
    push_cast [List.length_map, s1', hd, dv_sl, dv_sl1, dv_n, dv_n1, dv_n2, cut_to, cut_from, hn1, if_pos z1, if_pos z2, jv1, j1]
  have hd : decide (way < 2) = false := decide_eq_false w2
  by_cases w3 : way = 2
  · have he : (way == 2) = true := by simp [w3]
    refine ⟨jn (ws.take n ++ [w] ++ ws.drop n), ?_, W2.good.1⟩
    push_cast [List.length_map, s1', hd, he, dv_sl, dv_sl1, dv_n, dv_n1, dv_n2, cut_to, cut_from, hn1, if_pos z1, if_pos z3, jv1, j2]
  have he : (way == 2) = false := by simp [w3]
  by_cases w4 : way = 3
  · have hf' : (way == 3) = true := by simp [w4]
    refine ⟨jn (ws.take n ++ ws.drop (n + 1)), ?_, W3.good.1⟩
    push_cast [List.length_map, s1', hd, he, hf', dv_sl, dv_sl1, dv_n, dv_n1, dv_n2, cut_to, cut_from, hn1, if_pos z4, jv1, j3]
  have hf' : (way == 3) = false := by simp [w4]
  have hz := gl.sz
  obtain ⟨at1, e1, b1⟩ := draw_ex ns (k + 189) ((jn ws).length + 1 : Int) (by omega)
  obtain ⟨m, rfl⟩ : ∃ m : Nat, at1 = (m : Int) := ⟨at1.natAbs, by omega⟩
  have hm : m ≤ (jn ws).length := by omega
  obtain ⟨q, e2, b2⟩ := draw_ex ns (k + 252) 10 (by decide)
  obtain ⟨c, hc, e3⟩ := odd_sign q b2
  have y1 : ((jn ws).take m).length + 1 ≤ sizeLine := small'' (by simp; omega)
  have y2 : ((jn ws).take m).length + 1 + ((jn ws).drop m).length ≤ sizeLine := small'' (by simp; omega)
  refine ⟨(jn ws).take m ++ [c] ++ (jn ws).drop m, ?_, ⟨by simp; omega, fun x hx => ?_⟩⟩
  · push_cast [List.length_map, s1', hd, he, hf', sv_len hz, e1, e2, sv_it, sv_it1, sv_ch, sv_ch1, sv_ch2, sv_ch3, sv_ch4, sv_ss, sv_ss1, sv_ss2, sv_ss3, sv_add, sv_in, sv_nin, sv_sw, sv_eq, sv_to hm hz, sv_from hm hz, e3, List.length_append, if_pos y1, if_pos y2]
  · simp only [List.mem_append, List.mem_singleton] at hx
    rcases hx with (h | h) | h
    · exact gl.sig x (List.mem_of_mem_take h)
    · omega
    · exact gl.sig x (List.mem_of_mem_drop h)
end LW
namespace LW
open PySem HW L2 PyProof.Rows PySem.NumText PySem.W
theorem xt_no {d : D} (h : isiD "str" (.v d) [] = some (.v (.bl false), [])) : x_read_telling [d] = some NT := by
  have hw : x_words_of [d] = some NT := by
    rw [ux_words_of]
    push_cast [y_words_of, xe_then, xe_then1, xe_or, xe_or1, xe_or2, xe_if, xe_if1, xe_if2, xe_no, xe_t1, xe_t2, xe_call, xe_c1, xe_c2, xe_un, xe_try, xe_try0, xe_isx, xe_is1, xe_raiseK, xe_fin, xe_finN, xchk_no h]
  rw [ux_read_telling]
  push_cast [y_read_telling, xe_then, xe_then1, xe_or, xe_or1, xe_or2, xe_if, xe_if1, xe_if2, xe_no, xe_t1, xe_t2, xe_call, xe_c1, xe_c2, xe_un, xe_try, xe_try0, xe_isx, xe_is1, xe_raiseK, xe_fin, xe_finN, hw]
theorem no_text (n : Int) (h : 0 ≤ n ∧ n < 6) : ∃ d : D, L2.atI [D.non, .int 7, .fl [.str "tell"], .tup [.str "tell"], .bl true, .fd [] []] n = some d ∧ m_law_good [d, .non] = some (.bl true) := by
  have : n = 0 ∨ n = 1 ∨ n = 2 ∨ n = 3 ∨ n = 4 ∨ n = 5 := by omega
  rcases this with rfl | rfl | rfl | rfl | rfl | rfl <;> exact ⟨_, rfl, good_bad (xt_no rfl)⟩
theorem whole_text {t : Tel} (ok : TelOk t) {turn : Int} (ht : Sm turn) (h1 : 1 ≤ turn) : m_law_good [sT (jn (WS t turn)), .tup [.int turn, tD t]] = some (.bl true) := by
  have g := (WS_ws ok ht).1.good.1
  have hs : sp (jn (WS t turn)) = kT t.kind :: tn turn :: t.name :: eT t.low :: eT t.high :: (t.row.map tn ++ [[46]]) := sp_jn (by simp [WS]) (WS_free ok)
  have S : Sh (jn (WS t turn)) (kT t.kind) (tn turn) t.name (eT t.low) (eT t.high) (t.row.map tn) [46] := ⟨g, hs⟩
  have H : Hd (jn (WS t turn)) (kT t.kind) (tn turn) t.name (eT t.low) (eT t.high) (t.row.map tn) [46] := ⟨S, by cases t.kind <;> decide +kernel, rfl⟩
  have hlt : isLt t.name = true := by
    unfold isLt
    simp only [Bool.and_eq_true, decide_eq_true_eq, List.all_eq_true]
    exact ⟨by have := ok.n1; omega, by have := ok.n2; omega, ok.n3⟩
  have hq : bad t.low t.high = false := by
    unfold bad
    cases hl : t.low with
    | none => rfl
    | some a =>
      cases hh : t.high with
      | none => rfl
      | some b => have := ok.lt a b hl hh; simp; omega
  have hall : ((t.row.map tn).all fun w => (nm w).isSome) = true := by
    rw [List.all_eq_true]
    intro w hw
    obtain ⟨n, hn, rfl⟩ := List.mem_map.mp hw
    rw [nm_tn (ok.r2 n hn)]; rfl
  have hrow : rowOf (t.row.map tn) = t.row := by
    unfold rowOf
    rw [List.map_map]
    have : ∀ l : List Int, (∀ n ∈ l, Sm n) → l.map ((fun w => (nm w).getD 0) ∘ tn) = l := fun l => by
      induction l with
      | nil => intro _; rfl
      | cons x xs ih =>
        intro h
        rw [List.map_cons, ih fun n hn => h n (by simp [hn])]
        simp only [Function.comp, nm_tn (h x (by simp)), Option.getD_some]
    exact this t.row ok.r2
  have hx := xG H (nm_tn ht) h1 hlt (en_eT ok.lo) (en_eT ok.hi) hq
  rw [hall] at hx
  have hm := m_ok H (nm_tn ht) h1 hlt (en_eT ok.lo) (en_eT ok.hi) hq hall
  rw [hrow] at hm
  refine good_good hx ?_ ok.n3
  rw [hm]
  unfold tD
  rw [kS_T]
theorem law_true (ns : List Int) (hl : ns.length ≤ 63) : m_law [.fl (ns.map .int)] = some (.bl true) := by
  rw [u_law]
  obtain ⟨d0, e0, b0⟩ := draw_ex ns 400 6 (by decide)
  obtain ⟨dd, ed, hgood⟩ := no_text d0 b0
  obtain ⟨t, et, ok⟩ := law_telling ns 0
  obtain ⟨v, ev, bv⟩ := draw_ex ns 401 200 (by decide)
  obtain ⟨T, hT⟩ : ∃ T : Int, T = 10 ^ 60 := ⟨_, rfl⟩
  have T1 : 1000 < T := by rw [hT]; decide
  have ht : Sm (1 + v) := sm_of (by rw [← hT]; omega)
  have h1 : 1 ≤ 1 + v := by omega
  have hwr := law_written ok ht
  have hW : W t (1 + v) = Tx (jn (WS t (1 + v))) := join_tx _
  rw [hW] at hwr
  obtain ⟨wsok, w14, w6⟩ := WS_ws ok ht
  obtain ⟨g, gl⟩ := wsok.good
  have hz := g.sz
  have hfin := whole_text ok ht h1
  obtain ⟨K, hK1, hK2⟩ : ∃ K : Nat, (∀ μ, minD [.v (.int ((jn (WS t (1 + v))).length : Int)), .v (.int 150)] μ = some (.v (.int (K : Int)), μ)) ∧ K ≤ (jn (WS t (1 + v))).length := by
    by_cases h : (150 : Int) < (jn (WS t (1 + v))).length
    · exact ⟨150, fun μ => by simp [minD, h], by omega⟩
    · exact ⟨(jn (WS t (1 + v))).length, fun μ => by simp [minD, h], by omega⟩
  obtain ⟨M, hM1, hM2⟩ : ∃ M : Nat, (∀ μ, minD [.v (.int (ns.length : Int)), .v (.int 12)] μ = some (.v (.int (M : Int)), μ)) ∧ M ≤ ns.length := by
    by_cases h : (12 : Int) < ns.length
    · exact ⟨12, fun μ => by simp [minD, h], by omega⟩
    · exact ⟨ns.length, fun μ => by simp [minD, h], by omega⟩
  have h62 : -(2 ^ 62 : Int) ≤ (K : Int) ∧ (K : Int) < 2 ^ 62 := by omega
  have h63 : -(2 ^ 62 : Int) ≤ (M : Int) ∧ (M : Int) < 2 ^ 62 := by omega
  have cut : ∀ k : Nat, k < (jn (WS t (1 + v))).length → m_law_good [sT ((jn (WS t (1 + v))).take k), .non] = some (.bl true) := fun k hk => by
    rw [WS_WI] at hk ⊢
    exact cut_off (WI_free ok) (by rw [← WS_WI]; exact g) hk
  obtain ⟨ρ', μ', e, x4, rfl, rfl⟩ := loop_range (g := gNm 4) (b := l_law_0) (ρ := [some (.v (.fl (ns.map .int))), some (.v (tD t)), some (.v (.int (1 + v))), some (.v (sT (jn (WS t (1 + v))))), none, none, none]) (μ := [.fz [.str "tell"], .fzd [], .lst [.non, .int 7, .fl [.str "tell"], .tup [.str "tell"], .bl true, .fd [] []]]) K
    (fun i ρ μ => ∃ x4, ρ = [some (.v (.fl (ns.map .int))), some (.v (tD t)), some (.v (.int (1 + v))), some (.v (sT (jn (WS t (1 + v))))), x4, none, none] ∧ μ = [.fz [.str "tell"], .fzd [], .lst [.non, .int 7, .fl [.str "tell"], .tup [.str "tell"], .bl true, .fd [] []]])
    ⟨none, rfl, rfl⟩ (by
      rintro i hi ρ μ ⟨x4, rfl, rfl⟩
      have hi' : i < (jn (WS t (1 + v))).length := by omega
      have hc1 := cut i hi'
      have hc2 := cut ((jn (WS t (1 + v))).length - 1 - i) (by omega)
      have hcast : ((jn (WS t (1 + v))).length : Int) - 1 - (i : Int) = (((jn (WS t (1 + v))).length - 1 - i : Nat) : Int) := by omega
      refine ⟨_, _, ?_, some (.v (.int i)), rfl, rfl⟩
      push_cast [l_law_0, sv_it, sv_it1, sv_ch, sv_ch1, sv_ch2, sv_ch3, sv_ch4, sv_ss, sv_ss1, sv_ss2, sv_ss3, sv_add, sv_in, sv_nin, sv_sw, sv_eq, sv_to (l := jn (WS t (1 + v))) (n := i) (by omega) hz, hc1, sv_len hz, hcast, sv_to (l := jn (WS t (1 + v))) (n := (jn (WS t (1 + v))).length - 1 - i) (by omega) hz, hc2])
  obtain ⟨ρ2, μ2, e2, x5, x6, rfl, rfl⟩ := loop_range (g := gNm 5) (b := l_law_1) (ρ := [some (.v (.fl (ns.map .int))), some (.v (tD t)), some (.v (.int (1 + v))), some (.v (sT (jn (WS t (1 + v))))), x4, none, none]) (μ := [.fz [.str "tell"], .fzd [], .lst [.non, .int 7, .fl [.str "tell"], .tup [.str "tell"], .bl true, .fd [] []]]) M
    (fun i ρ μ => ∃ x5 x6, ρ = [some (.v (.fl (ns.map .int))), some (.v (tD t)), some (.v (.int (1 + v))), some (.v (sT (jn (WS t (1 + v))))), x4, x5, x6] ∧ μ = [.fz [.str "tell"], .fzd [], .lst [.non, .int 7, .fl [.str "tell"], .tup [.str "tell"], .bl true, .fd [] []]])
    ⟨none, none, rfl, rfl⟩ (by
      rintro i hi ρ μ ⟨x5, x6, rfl, rfl⟩
      obtain ⟨l', ec, gc⟩ := changed ns i wsok (by intro h; rw [h] at w6; simp at w6) (WS_free ok) w14
      rcases text_cases gc with ⟨t', turn', q1, q2, q3, q4⟩ | ⟨q1, q3⟩
      · have hg := good_good q1 q2 q4
        refine ⟨_, _, ?_, some (.v (.int i)), some (.v (sT l')), rfl, rfl⟩
        push_cast [l_law_1, ec, q3, hg]
      · have hg := good_bad q1
        refine ⟨_, _, ?_, some (.v (.int i)), some (.v (sT l')), rfl, rfl⟩
        push_cast [l_law_1, ec, q3, hg])
  have s6 : 6 ≤ sizeLine := by decide
  have s1 : 1 ≤ sizeLine := by decide
  have hfz : ∀ (n : Nat) (μ : Store), cFz (some (.dct [])) n μ = some (.v (.fd [] []), μ.set n (.fzd [])) := fun _ _ => rfl
  push_cast [b_law, s1, s6, hfz, e0, ed, hgood, et, ev, hwr, sv_len hz, hK1, ev_r11 h62, Int.toNat_natCast, e, List.length_map, hM1, ev_r11 h63, e2, hfin]
end LW
open PySem PySem.W PyProof.Rows
set_option maxRecDepth 100000 in
set_option maxHeartbeats 0 in
theorem PySem.Challenge.cw_heldwhen_k46_torn_rows_holds : PySem.Challenge.rw_heldwhen_k46_torn_rows.Holds := by
  w_on; o_law; k_head; (case hw => w_witness2)
  k_fill
  refine L2.walk_ofK (l := PySem.Challenge.rw_heldwhen_k46_torn_rows) (n := 63) (k := 6) (x := "script") (CX := L2.CX0) (sp := fun K => HW.spP K 1 LW.m_law) rfl (by decide) rfl ⟨rfl, by decide, by decide⟩ (fun w h Y => PySem.W.kIn_of Y) ?F (fun K H a ns hl hO hS => HW.law_sp hO hS (LW.law_true ns hl)) fun _ _ _ _ z => z
  case F =>
    intro w mg fa h KX G hmg
    refine' LW.all_mk KX G hmg ?a0 ?l0 ?c0 ?k0 ?a1 ?l1 ?c1 ?k1 ?a2 ?l2 ?c2 ?k2 ?a3 ?l3 ?c3 ?k3 ?a4 ?l4 ?c4 ?k4 ?a5 ?l5 ?c5 ?k5 ?a6 ?l6 ?c6 ?k6 ?a7 ?l7 ?c7 ?k7 ?a8 ?l8 ?c8 ?k8 ?a9 ?l9 ?c9 ?k9 ?a10 ?l10 ?c10 ?k10 ?a11 ?l11 ?c11 ?k11 ?a12 ?l12 ?c12 ?k12 ?a13 ?l13 ?c13 ?k13 ?a14 ?l14 ?c14 ?k14 ?a15 ?l15 ?c15 ?k15 ?a16 ?l16 ?c16 ?k16 ?a17 ?l17 ?c17 ?k17 ?a18 ?l18 ?c18 ?k18 ?a19 ?l19 ?c19 ?k19 ?a20 ?l20 ?c20 ?k20 ?a21 ?l21 ?c21 ?k21 ?a22 ?l22 ?c22 ?k22 ?a23 ?l23 ?c23 ?k23 ?gNO_NUMBERS ?LNO_NUMBERS ?LNO_NUMBERS_1 ?gALL_NUMBERS ?LALL_NUMBERS ?LALL_NUMBERS_1 ?gFIGURES ?gMOST_FIGURES ?gSMALL_LETTERS ?gMOST_LETTERS ?gx_NoText ?ox_NoText ?cx_NoText ?gx_HeldError ?ox_HeldError ?cx_HeldError ?gx_NoColumn ?ox_NoColumn ?cx_NoColumn ?gx_NoStretch ?ox_NoStretch ?cx_NoStretch ?gx_NoTable ?ox_NoTable ?cx_NoTable ?gx_NoTurn ?ox_NoTurn ?cx_NoTurn ?gx_NoWidth ?ox_NoWidth ?cx_NoWidth ?gx_NoWord ?ox_NoWord ?cx_NoWord ?m_NoText ?k_NoText_NoText ?k_NoText_ValueError ?k_NoText_t2 ?z0 ?z1 ?z2 ?z3 ?z4 ?z5 ?z6 ?z7 ?z8 ?z9
    (case a0 => k_is)
    (case l0 => k_is)
    (case c0 => k_is)
    (case k0 => k_is)
    (case a1 => k_is)
    (case l1 => k_is)
    (case c1 => k_is)
    (case k1 => k_is)
    (case a2 => k_is)
    (case l2 => k_is)
    (case c2 => k_is)
    (case k2 => k_is)
    (case a3 => k_is)
    (case l3 => k_is)
    (case c3 => k_is)
    (case k3 => k_is)
    (case a4 => k_is)
    (case l4 => k_is)
    (case c4 => k_is)
    (case k4 => k_is)
    (case a5 => k_is)
    (case l5 => k_is)
    (case c5 => k_is)
    (case k5 => k_is)
    (case a6 => k_is)
    (case l6 => k_is)
    (case c6 => k_is)
    (case k6 => k_is)
    (case a7 => k_is)
    (case l7 => k_is)
    (case c7 => k_is)
    (case k7 => k_is)
    (case a8 => k_is)
    (case l8 => k_is)
    (case c8 => k_is)
    (case k8 => k_is)
    (case a9 => k_is)
    (case l9 => k_is)
    (case c9 => k_is)
    (case k9 => k_is)
    (case a10 => k_is)
    (case l10 => k_is)
    (case c10 => k_is)
    (case k10 => k_is)
    (case a11 => k_is)
    (case l11 => k_is)
    (case c11 => k_is)
    (case k11 => k_is)
    (case a12 => k_is)
    (case l12 => k_is)
    (case c12 => k_is)
    (case k12 => k_is)
    (case a13 => k_is)
    (case l13 => k_is)
    (case c13 => k_is)
    (case k13 => k_is)
    (case a14 => k_is)
    (case l14 => k_is)
    (case c14 => k_is)
    (case k14 => k_is)
    (case a15 => k_is)
    (case l15 => k_is)
    (case c15 => k_is)
    (case k15 => k_is)
    (case a16 => k_is)
    (case l16 => k_is)
    (case c16 => k_is)
    (case k16 => k_is)
    (case a17 => k_is)
    (case l17 => k_is)
    (case c17 => k_is)
    (case k17 => k_is)
    (case a18 => k_is)
    (case l18 => k_is)
    (case c18 => k_is)
    (case k18 => k_is)
    (case a19 => k_is)
    (case l19 => k_is)
    (case c19 => k_is)
    (case k19 => k_is)
    (case a20 => k_is)
    (case l20 => k_is)
    (case c20 => k_is)
    (case k20 => k_is)
    (case a21 => k_is)
    (case l21 => k_is)
    (case c21 => k_is)
    (case k21 => k_is)
    (case a22 => k_is)
    (case l22 => k_is)
    (case c22 => k_is)
    (case k22 => k_is)
    (case a23 => k_is)
    (case l23 => k_is)
    (case c23 => k_is)
    (case k23 => k_is)
    (case gNO_NUMBERS => k_is)
    (case LNO_NUMBERS => k_is)
    (case LNO_NUMBERS_1 => k_is)
    (case gALL_NUMBERS => k_is)
    (case LALL_NUMBERS => k_is)
    (case LALL_NUMBERS_1 => k_is)
    (case gFIGURES => k_is)
    (case gMOST_FIGURES => k_is)
    (case gSMALL_LETTERS => k_is)
    (case gMOST_LETTERS => k_is)
    (case gx_NoText => k_is)
    (case ox_NoText => exact ⟨⟨_, _, _, _, _, _, _, _, _, _, _, _, _, _, _, _, by k_is, by kernel_rfl, by kernel_rfl, by k_is⟩⟩)
    (case cx_NoText => exact ⟨by kernel_rfl, by kernel_rfl, by kernel_rfl, by kernel_rfl, by kernel_rfl, by kernel_rfl, by kernel_rfl, by kernel_rfl⟩)
    (case gx_HeldError => k_is)
    (case ox_HeldError => exact ⟨⟨_, _, _, _, _, _, _, _, _, _, _, _, _, _, _, _, by k_is, by kernel_rfl, by kernel_rfl, by k_is⟩⟩)
    (case cx_HeldError => exact ⟨by kernel_rfl, by kernel_rfl, by kernel_rfl, by kernel_rfl, by kernel_rfl, by kernel_rfl, by kernel_rfl, by kernel_rfl⟩)
    (case gx_NoColumn => k_is)
    (case ox_NoColumn => exact ⟨⟨_, _, _, _, _, _, _, _, _, _, _, _, _, _, _, _, by k_is, by kernel_rfl, by kernel_rfl, by k_is⟩⟩)
    (case cx_NoColumn => exact ⟨by kernel_rfl, by kernel_rfl, by kernel_rfl, by kernel_rfl, by kernel_rfl, by kernel_rfl, by kernel_rfl, by kernel_rfl⟩)
    (case gx_NoStretch => k_is)
    (case ox_NoStretch => exact ⟨⟨_, _, _, _, _, _, _, _, _, _, _, _, _, _, _, _, by k_is, by kernel_rfl, by kernel_rfl, by k_is⟩⟩)
    (case cx_NoStretch => exact ⟨by kernel_rfl, by kernel_rfl, by kernel_rfl, by kernel_rfl, by kernel_rfl, by kernel_rfl, by kernel_rfl, by kernel_rfl⟩)
    (case gx_NoTable => k_is)
    (case ox_NoTable => exact ⟨⟨_, _, _, _, _, _, _, _, _, _, _, _, _, _, _, _, by k_is, by kernel_rfl, by kernel_rfl, by k_is⟩⟩)
    (case cx_NoTable => exact ⟨by kernel_rfl, by kernel_rfl, by kernel_rfl, by kernel_rfl, by kernel_rfl, by kernel_rfl, by kernel_rfl, by kernel_rfl⟩)
    (case gx_NoTurn => k_is)
    (case ox_NoTurn => exact ⟨⟨_, _, _, _, _, _, _, _, _, _, _, _, _, _, _, _, by k_is, by kernel_rfl, by kernel_rfl, by k_is⟩⟩)
    (case cx_NoTurn => exact ⟨by kernel_rfl, by kernel_rfl, by kernel_rfl, by kernel_rfl, by kernel_rfl, by kernel_rfl, by kernel_rfl, by kernel_rfl⟩)
    (case gx_NoWidth => k_is)
    (case ox_NoWidth => exact ⟨⟨_, _, _, _, _, _, _, _, _, _, _, _, _, _, _, _, by k_is, by kernel_rfl, by kernel_rfl, by k_is⟩⟩)
    (case cx_NoWidth => exact ⟨by kernel_rfl, by kernel_rfl, by kernel_rfl, by kernel_rfl, by kernel_rfl, by kernel_rfl, by kernel_rfl, by kernel_rfl⟩)
    (case gx_NoWord => k_is)
    (case ox_NoWord => exact ⟨⟨_, _, _, _, _, _, _, _, _, _, _, _, _, _, _, _, by k_is, by kernel_rfl, by kernel_rfl, by k_is⟩⟩)
    (case cx_NoWord => exact ⟨by kernel_rfl, by kernel_rfl, by kernel_rfl, by kernel_rfl, by kernel_rfl, by kernel_rfl, by kernel_rfl, by kernel_rfl⟩)
    (case m_NoText => kernel_rfl)
    (case k_NoText_NoText => kernel_rfl)
    (case k_NoText_ValueError => kernel_rfl)
    (case k_NoText_t2 => kernel_rfl)
    (case z0 => k_is)
    (case z1 => k_is)
    (case z2 => k_is)
    (case z3 => k_is)
    (case z4 => k_is)
    (case z5 => k_is)
    (case z6 => k_is)
    (case z7 => k_is)
    (case z8 => k_is)
    (case z9 => k_is)